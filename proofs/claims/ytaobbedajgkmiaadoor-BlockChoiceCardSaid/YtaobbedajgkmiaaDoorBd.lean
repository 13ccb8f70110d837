/- Contract of a row's descriptor: its parameters, inputs and output. -/
import Derived.Test.YtaobbedajgkmiaaDoorBb
namespace Go.Proofs.YtaobbedajgkmiaaDoor
open Go.RowKit Go.Shelf

/-- a port: name, type -/
structure PortD where
  nm : ByteArray
  ty : ByteArray
def portL (x : PortD) : List Value := [.string x.nm, .string x.ty]
theorem portL_len (x : PortD) : (portL x).length = 2 := rfl
/-- the library's own variable holds some number -/
def MaxAt (w : World) : Prop := ∃ m, w.cell? ⟨0, 0, none⟩ = some (.int .i64 m)
theorem MaxAt.keep {w w' : World} (h : MaxAt w) (hb : Below w.heap.size w w') : MaxAt w' := by
  obtain ⟨m, hm⟩ := h
  exact ⟨m, (hb.cell (p := ⟨0, 0, none⟩) (World.block_lt_of_cell? _ _ hm)).trans hm⟩
theorem MaxAt.grown {w w' : World} {row : Option Nat} (h : MaxAt w) (hg : w.grownBy w' row) (hne : some 0 ≠ row) : MaxAt w' := by
  obtain ⟨m, hm⟩ := h
  exact ⟨m, (World.cell?_of_block (a := ⟨0, 0, none⟩) (hg.block _ (World.block_lt_of_cell? _ _ hm) hne)).trans hm⟩
theorem MaxAt.cell {w : World} (h : MaxAt w) {b : Nat} (hne : b ≠ 0) (o : Nat) (v : Value) : MaxAt (w.setCell ⟨b, o, none⟩ v) := by
  obtain ⟨m, hm⟩ := h
  exact ⟨m, (World.cell?_setCell_other _ _ _ _ (fun e => hne (congrArg Addr.block e))).trans hm⟩
theorem MaxAt.lt {w : World} (h : MaxAt w) : 0 < w.heap.size := by
  obtain ⟨m, hm⟩ := h
  exact World.block_lt_of_cell? _ _ hm
abbrev commaB : ByteArray := ⟨#[44, 32]⟩
abbrev colonB : ByteArray := ⟨#[58, 32]⟩
def strL (x : ByteArray) : List Value := [.string x]
def SplitOk (s : ByteArray) (parts : List ByteArray) : Prop := ∀ w, MaxAt w → Calls Tryd.prog 42 #[.string s, .string commaB] w fun e w' => e = .returned (.slice (some ⟨w.heap.size, 0, none⟩) parts.length parts.length) ∧ w' = w.alloc (.cells (parts.map Value.string).toArray 9)
def CutOk (s : ByteArray) (x : PortD) : Prop := ∀ w, MaxAt w → Calls Tryd.prog 43 #[.string s, .string colonB] w fun e w' => e = .returned (.tuple #[.string x.nm, .string x.ty, .bool true]) ∧ Below w.heap.size w w'
theorem rf_kept {p w2 : World} {A : Array Value} {T : TypeId} (hb : Below (p.alloc (Obj.cells A T)).heap.size (p.alloc (Obj.cells A T)) w2) : RowAt w2 p.heap.size A.toList := (row_fresh p A T).keep hb
theorem rf_kept_drew {p w2 : World} {A : Array Value} {T : TypeId} (hb : Below (p.alloc (Obj.cells A T)).drew.heap.size (p.alloc (Obj.cells A T)).drew w2) : RowAt w2 p.heap.size A.toList := (row_fresh p A T).drew.keep hb
theorem row_keep_drew {w w2 : World} {b : Nat} {L : List Value} (h : RowAt w b L) (hb : Below w.drew.heap.size w.drew w2) : RowAt w2 b L := h.drew.keep hb
theorem row_grown {w w' : World} {b : Nat} {L : List Value} {row : Option Nat} (t : RowAt w b L) (hg : w.grownBy w' row) (hne : some b ≠ row) : RowAt w' b L :=
  ⟨fun i v h => (World.cell?_of_block (a := ⟨b, i, none⟩) (hg.block b t.lt hne)).trans (t.c i v h), fun o => (World.frozen?_of_block (a := ⟨b, o, none⟩) (hg.block b t.lt hne)).trans (t.fz o), Nat.lt_of_lt_of_le t.lt hg.size⟩
theorem row_at {w : World} {b g : Nat} {L : List Value} (t : RowAt w b L) (hne : g ≠ b) (o : Nat) (v : Value) : RowAt (w.setCell ⟨g, o, none⟩ v) b L :=
  ⟨fun i u h => (World.cell?_setCell_other _ _ _ _ (fun e => hne (congrArg Addr.block e))).trans (t.c i u h), fun o' => by rw [World.frozen?_setCell]; exact t.fz o', by rw [World.size_setCell]; exact t.lt⟩
theorem row_set {w : World} {b : Nat} {L : List Value} (t : RowAt w b L) (o : Nat) (ho : o < L.length) (v : Value) : RowAt (w.setCell ⟨b, o, none⟩ v) b (L.set o v) := by
  refine ⟨fun i u hu => ?_, fun o' => by rw [World.frozen?_setCell]; exact t.fz o', by rw [World.size_setCell]; exact t.lt⟩
  by_cases h : i = o
  · subst h
    rw [List.getElem?_set_self ho] at hu
    obtain rfl := Option.some.inj hu
    exact World.cell?_setCell_same _ _ _ (t.c i _ (List.getElem?_eq_getElem ho))
  · rw [List.getElem?_set_ne (fun e => h e.symm)] at hu
    exact (World.cell?_setCell_other _ _ _ _ (fun e => h (congrArg Addr.off e).symm)).trans (t.c i u hu)
theorem grown_cell (w : World) (s o : Nat) (v : Value) : w.grownBy (w.setCell ⟨s, o, none⟩ v) (some s) :=
  ⟨rfl, rfl, rfl, by rw [World.size_setCell]; exact Nat.le_refl _, fun k _ hne => heap_setCell_other w ⟨s, o, none⟩ k v (fun e => hne (by rw [e]))⟩
theorem heap_setCells_oth (b : Nat) : ∀ (vs : List Value) (o : Nat) (w : World) (k : Nat), k ≠ b → (w.setCells b o vs).heap[k]? = w.heap[k]?
  | [], _, _, _, _ => rfl
  | v :: r, o, w, k, h => (heap_setCells_oth b r (o + 1) (w.setCell ⟨b, o, none⟩ v) k h).trans (heap_setCell_other w ⟨b, o, none⟩ k v h)
theorem grown_set (w : World) (s : Nat) (M : List Value) : w.grownBy (w.setCells s 0 M) (some s) := by
  have h := Lib.below_setCells_w (Nat.le_refl s) M 0 w
  exact ⟨h.os, h.tape, h.output, h.size, fun k _ hne => heap_setCells_oth s M 0 w k (fun e => hne (by rw [e]))⟩
theorem own_ne_new {w : World} {B T sz n : Nat} {v : Value} {L : List Value} (h : w.ownsRow B T sz v n L) : v.ownBlock ≠ some w.heap.size := fun e => Nat.lt_irrefl _ (h.lt _ e).2
theorem own_ne_old {w : World} {B T sz n : Nat} {v : Value} {L : List Value} (h : w.ownsRow B T sz v n L) (k : Nat) (hk : k < B) : v.ownBlock ≠ some k := fun e => by have := (h.lt _ e).1; omega
theorem own_at {w : World} {B T sz n : Nat} {v : Value} {L : List Value} (h : w.ownsRow B T sz v n L) (o : Obj) : (w.alloc o).ownsRow B T sz v n L := own_keep h ((Below.refl _ _).alloc (Nat.le_refl _) o)
theorem infoPort : (Tryd.prog.info? 65).map (fun i => (i.zero, i.size, i.bytes)) = some (some (.agg #[.string ⟨#[]⟩, .string ⟨#[]⟩]), 2, 32) := by kernel_rfl
abbrev G5 (W : World) (g : Nat) (rn ri ro : ByteArray) (rm rs : Int) (w' : World) : Prop := w'.cell? ⟨g, 0, none⟩ = some (.string rn) ∧ w'.cell? ⟨g, 1, none⟩ = some (.string ri) ∧ w'.cell? ⟨g, 2, none⟩ = some (.string ro) ∧ w'.cell? ⟨g, 3, none⟩ = some (.int .i64 rm) ∧ w'.cell? ⟨g, 4, none⟩ = some (.int .i64 rs) ∧ Below W.heap.size W w'
theorem g5_of {W : World} {g : Nat} {rn ri ro : ByteArray} {rm rs : Int} {w' : World} (s : G5 W g rn ri ro rm rs W) (hb : Below W.heap.size W w') : G5 W g rn ri ro rm rs w' := by
  obtain ⟨s0, s1, s2, s3, s4, _⟩ := s
  have h : g < W.heap.size := World.block_lt_of_cell? _ _ s0
  exact ⟨(hb.cell (p := ⟨g, 0, none⟩) h).trans s0, (hb.cell (p := ⟨g, 1, none⟩) h).trans s1, (hb.cell (p := ⟨g, 2, none⟩) h).trans s2, (hb.cell (p := ⟨g, 3, none⟩) h).trans s3, (hb.cell (p := ⟨g, 4, none⟩) h).trans s4, hb⟩
theorem g5_bel {W : World} {g : Nat} {rn ri ro : ByteArray} {rm rs : Int} {w' : World} (s : G5 W g rn ri ro rm rs w') : Below W.heap.size W w' := s.2.2.2.2.2
theorem g5_keep {W : World} {g : Nat} {rn ri ro : ByteArray} {rm rs : Int} {w1 w2 : World} (c : G5 W g rn ri ro rm rs W) (hb : Below w1.heap.size w1 w2) (s : G5 W g rn ri ro rm rs w1) : G5 W g rn ri ro rm rs w2 := g5_of c ((g5_bel s).trans (hb.mono (g5_bel s).size))
theorem g5_alloc {W : World} {g : Nat} {rn ri ro : ByteArray} {rm rs : Int} {w1 : World} (c : G5 W g rn ri ro rm rs W) (o : Obj) (s : G5 W g rn ri ro rm rs w1) : G5 W g rn ri ro rm rs (w1.alloc o) := g5_of c ((g5_bel s).alloc (g5_bel s).size o)
theorem g5_drew {W : World} {g : Nat} {rn ri ro : ByteArray} {rm rs : Int} {w1 : World} (c : G5 W g rn ri ro rm rs W) (s : G5 W g rn ri ro rm rs w1) : G5 W g rn ri ro rm rs w1.drew := g5_of c (g5_bel s).drew
/-- what holds between two inputs of the descriptor -/
structure DI (w : World) (B g q sb m : Nat) (rn ri ro : ByteArray) (rm rs : Int) (pl : List BndD) (il : List PortD) (parts : List ByteArray) (v1 v2 : Value) (k : Nat) (wr : World) : Prop where
  fg : RowAt wr g [.string rn, .string ri, .string ro, .int .i64 rm, .int .i64 rs]
  fq : RowAt wr q [.string ⟨#[]⟩, .slice none 0 0, .slice none 0 0, .slice none 0 0, .int .i64 0, .int .i64 0]
  ft : RowAt wr sb (parts.map Value.string)
  fm : RowAt wr m [.string rn, v1, v2, .slice none 0 0, .int .i64 rs, .int .i64 rm]
  p1 : wr.ownsRow w.heap.size 67 4 v1 pl.length (flat bndL pl)
  p2 : wr.ownsRow B 65 2 v2 k (flat portL (il.take k))
  bl : Below w.heap.size w wr
  sz : B ≤ wr.heap.size
  mx : MaxAt wr
set_option maxHeartbeats 8000000 in
set_option maxRecDepth 100000 in
theorem descriptor_any (rn ri ro : ByteArray) (rm rs : Int) (pl : List BndD) (il : List PortD) (parts : List ByteArray) (hb : BoundsOk rn pl) (hs : SplitOk ri parts) (hl : il.length = parts.length) (h10 : il.length ≤ 10) (hc : ∀ (k : Nat) (s : ByteArray) (x : PortD), parts[k]? = some s → il[k]? = some x → CutOk s x) (w : World) (hm : MaxAt w) :
    Calls Tryd.prog 28 #[.agg #[.string rn, .string ri, .string ro, .int .i64 rm, .int .i64 rs]] w fun e w' => ∃ v1 v2 ob, e = .returned (.agg #[.string rn, v1, v2, .slice (some ⟨ob, 0, none⟩) 1 1, .int .i64 rs, .int .i64 rm]) ∧ w'.ownsRow w.heap.size 67 4 v1 pl.length (flat bndL pl) ∧ w'.ownsRow w.heap.size 65 2 v2 il.length (flat portL il) ∧ w'.ownsRow w.heap.size 65 2 (.slice (some ⟨ob, 0, none⟩) 1 1) 1 [.string ⟨#[111, 117, 116]⟩, .string ro] ∧ v2.ownBlock ≠ some ob ∧ Below w.heap.size w w' := by
  have HM0 := Lib.hid hm.lt
  have KB := Lib.hid hb
  have KS := Lib.hid hs
  have KC := Lib.hid hc
  have HL := Lib.hid hl
  obtain ⟨N, hN⟩ : ∃ N, N = parts.length := ⟨_, rfl⟩
  have HN := Lib.hid hN
  have n10 : N ≤ 10 := by omega
  obtain ⟨i0, hif, hz0, hz1, hz2⟩ := info_parts infoPort
  have HIF := Lib.hid hif
  have HZ0 := Lib.hid hz0
  have HZ1 := Lib.hid hz1
  have HZ2 := Lib.hid hz2
  obtain ⟨W, g, q, hW, hg, hq, RG, RQ, B, sz⟩ := box2 w #[.string rn, .string ri, .string ro, .int .i64 rm, .int .i64 rs] 69 #[.string ⟨#[]⟩, .slice none 0 0, .slice none 0 0, .slice none 0 0, .int .i64 0, .int .i64 0] 30
  have HG := Lib.hid RG
  have HQ := Lib.hid RQ
  have HB := Lib.hid B
  have HM := Lib.hid (hm.keep B)
  have HWQ := Lib.hid (show w.heap.size ≤ q by omega)
  have HGQ := Lib.hid (show g ≠ q by omega)
  have HC := Lib.hid (show G5 W g rn ri ro rm rs W from ⟨RG.c 0 _ rfl, RG.c 1 _ rfl, RG.c 2 _ rfl, RG.c 3 _ rfl, RG.c 4 _ rfl, Below.refl _ _⟩)
  have HCD := Lib.hid (g5_drew HC.out HC.out)
  have g_0 := RG.c 0 _ rfl
  have g_1 := RG.c 1 _ rfl
  have g_2 := RG.c 2 _ rfl
  have g_3 := RG.c 3 _ rfl
  have g_4 := RG.c 4 _ rfl
  rw [hW] at g_0 g_1 g_2 g_3 g_4
  go_enter Tryd.func28, Tryd.ntmps28
  go_upto_region 1 with fail
  rw [← hW]
  try rw [← hq]
  try rw [← hg]
  rw [← hW] at g_0 g_1 g_2 g_3 g_4
  clear hW hg hq RG RQ B sz hb hs hc hl hN hm hif hz0 hz1 hz2 h10
  go_cut [3] from 9 to 18 (fun p wx => ∃ (NB : Nat) (va : Option Addr) (vc : Nat), p = .pointer (some ⟨NB, 0, none⟩) ∧ Hid (RowAt wx NB [.string rn, .slice va pl.length vc, .slice none 0 0, .slice none 0 0, .int .i64 rs, .int .i64 rm] ∧ wx.ownsRow W.heap.size 67 4 (.slice va pl.length vc) pl.length (flat bndL pl) ∧ W.heap.size ≤ NB ∧ Value.ownBlock (.slice va pl.length vc) ≠ some NB ∧ Below W.heap.size W wx))
  case first =>
    go_region_held3 (fun w' => w'.cell? ⟨g, 0, none⟩ = some (.string rn) ∧ w'.cell? ⟨g, 1, none⟩ = some (.string ri) ∧ w'.cell? ⟨g, 2, none⟩ = some (.string ro) ∧ w'.cell? ⟨g, 3, none⟩ = some (.int .i64 rm) ∧ w'.cell? ⟨g, 4, none⟩ = some (.int .i64 rs) ∧ Below W.heap.size W w')
      (first | (with_reducible exact HC.out) | (with_reducible exact HCD.out) | (with_reducible exact HS1.out) | (with_reducible exact g5_alloc HC.out _ HC.out) | (with_reducible exact g5_drew HC.out (g5_alloc HC.out _ HC.out)) | (with_reducible exact g5_alloc HC.out _ HS1.out) | (with_reducible exact g5_drew HC.out HS1.out) | (with_reducible exact g5_drew HC.out (g5_alloc HC.out _ HS1.out)) | (exact g5_of HC.out (set_below (g5_bel HS1.out) (Nat.le_refl _) [.string rn, .slice va pl.length vc, .slice none 0 0, .slice none 0 0, .int .i64 rs, .int .i64 rm])) | go_keep)
      (first | (go_at_call 41; refine (KB.out _).mono ?_; rintro e x1 ⟨v1, rfl, ho, hb2⟩; obtain ⟨va, vc, rfl, _⟩ := ins_own ho; have HS1 : Hid (G5 W g rn ri ro rm rs x1) := g5_keep HC.out hb2 (by first | assumption | exact HC.out | exact HCD.out | exact g5_alloc HC.out _ HC.out | exact g5_drew HC.out (g5_alloc HC.out _ HC.out) | exact g5_alloc HC.out _ (by assumption) | exact g5_drew HC.out (by assumption)); have HO1 := Lib.hid ho; clear ho; (first | (with_reducible have nn := rf_kept (A := #[.string ⟨#[]⟩, .slice none 0 0, .slice none 0 0, .slice none 0 0, .int .i64 0, .int .i64 0]) hb2) | (with_reducible have nn := rf_kept_drew (A := #[.string ⟨#[]⟩, .slice none 0 0, .slice none 0 0, .slice none 0 0, .int .i64 0, .int .i64 0]) hb2) | skip); (try (have n0 := nn.c 0 _ rfl; have n1 := nn.c 1 _ rfl; have n2 := nn.c 2 _ rfl; have n3 := nn.c 3 _ rfl; have n4 := nn.c 4 _ rfl; have n5 := nn.c 5 _ rfl; have nz := nn.fz))) | (fail))
    all_goals
      rename_i hHeld
      clear hHeld
      go_wp2_with fail
      go_meet
    · have q1 := own_at HO1.out (Obj.cells #[.string rn, .slice va pl.length vc, .slice none 0 0, .slice none 0 0, .int .i64 rs, .int .i64 rm] 30)
      have q2 := own_ne_new HO1.out
      have q3 := (g5_bel HS1.out).alloc (g5_bel HS1.out).size (Obj.cells #[.string rn, .slice va pl.length vc, .slice none 0 0, .slice none 0 0, .int .i64 rs, .int .i64 rm] 30)
      have q0 := row_fresh x1 #[.string rn, .slice va pl.length vc, .slice none 0 0, .slice none 0 0, .int .i64 rs, .int .i64 rm] 30
      have q4 := (g5_bel HS1.out).size
      rw [show W.drew.heap.size = W.heap.size from rfl] at q1
      exact ⟨x1.heap.size, va, vc, rfl, Lib.hid ⟨q0, q1, q4, q2, q3⟩⟩
    · have q1 := nn.setRow [.string rn, .slice va pl.length vc, .slice none 0 0, .slice none 0 0, .int .i64 rs, .int .i64 rm] rfl
      have HO2 : x1.ownsRow (W.heap.size + 1) 67 4 (.slice va pl.length vc) pl.length (flat bndL pl) := by
        have h := HO1.out
        rw [show (World.drew (World.alloc W (Obj.cells #[.string ⟨#[]⟩, .slice none 0 0, .slice none 0 0, .slice none 0 0, .int .i64 0, .int .i64 0] 30))).heap.size = W.heap.size + 1 from World.size_alloc _ _] at h
        exact h
      have q2 := own_ne_old HO2 W.heap.size (Nat.lt_succ_self _)
      have q3 := (HO2.kept (grown_set x1 W.heap.size [.string rn, .slice va pl.length vc, .slice none 0 0, .slice none 0 0, .int .i64 rs, .int .i64 rm]) (.inr q2))
      have q4 := set_below (g5_bel HS1.out) (Nat.le_refl _) [.string rn, .slice va pl.length vc, .slice none 0 0, .slice none 0 0, .int .i64 rs, .int .i64 rm]
      have q5 := own_base q3 (Nat.le_succ W.heap.size)
      have e : ((((((x1.setCell ⟨W.heap.size, 0, none⟩ (.string rn)).setCell ⟨W.heap.size, 1, none⟩ (.slice va pl.length vc)).setCell ⟨W.heap.size, 2, none⟩ (.slice none 0 0)).setCell ⟨W.heap.size, 3, none⟩ (.slice none 0 0)).setCell ⟨W.heap.size, 4, none⟩ (.int .i64 rs)).setCell ⟨W.heap.size, 5, none⟩ (.int .i64 rm)) = x1.setCells W.heap.size 0 [.string rn, .slice va pl.length vc, .slice none 0 0, .slice none 0 0, .int .i64 rs, .int .i64 rm] := rfl
      rw [e]
      exact ⟨W.heap.size, va, vc, rfl, Lib.hid ⟨q1, q5, Nat.le_refl _, q2, q4⟩⟩
  case rest =>
    obtain ⟨m, va, vc, rfl, hcc⟩ := hcut
    have hb := hcc.out.2.2.2.2
    have HG1 := Lib.hid (HG.out.keep hb)
    have HQ1 := Lib.hid (HQ.out.keep hb)
    have HM1 := Lib.hid (HM.out.keep hb)
    have HB1 := Lib.hid (HB.out.trans (hb.mono HB.out.size))
    have HR1 := Lib.hid hcc.out.1
    have HP1 := Lib.hid (own_base hcc.out.2.1 HB.out.size)
    have HNE := Lib.hid hcc.out.2.2.2.1
    have HNQ := Lib.hid (show Value.ownBlock (.slice va pl.length vc) ≠ some q from own_ne_old hcc.out.2.1 q HQ.out.lt)
    have HGM := Lib.hid (show m ≠ g by have := HG.out.lt; have := hcc.out.2.2.1; omega)
    have HQM := Lib.hid (show m ≠ q by have := HQ.out.lt; have := hcc.out.2.2.1; omega)
    have HWM := Lib.hid (show w.heap.size ≤ m by have := HB.out.size; have := hcc.out.2.2.1; omega)
    clear hb hcc HC HCD HG HQ HM HB g_0 g_1 g_2 g_3 g_4
    have ks := KS.out wc HM1.out
    rw [← HN.out] at ks
    have KS1 := Lib.hid ks
    obtain ⟨W2, sb, hW2, hsb, RS, B2, sz2⟩ := box1 wc (parts.map Value.string).toArray 9
    have HT2 := Lib.hid (show RowAt W2 sb (parts.map Value.string) by simpa using RS)
    have HG2 := Lib.hid (HG1.out.keep B2)
    have HQ2 := Lib.hid (HQ1.out.keep B2)
    have HM2 := Lib.hid (HM1.out.keep B2)
    have HB2 := Lib.hid (HB1.out.trans (B2.mono HB1.out.size))
    have HR2 := Lib.hid (HR1.out.keep B2)
    have HP2 := Lib.hid (own_keep HP1.out B2)
    have HSM := Lib.hid (show m ≠ sb by have := HR1.out.lt; omega)
    have HV1 := Lib.hid (fun k (e : Value.ownBlock (.slice va pl.length vc) = some k) => (HP2.out.lt k e).2)
    clear ks B2 sz2
    have g_0 := HG1.out.c 0 _ rfl
    have g_1 := HG1.out.c 1 _ rfl
    have g_2 := HG1.out.c 2 _ rfl
    have g_3 := HG1.out.c 3 _ rfl
    have g_4 := HG1.out.c 4 _ rfl
    go_wp2_with fail
    refine KS1.out.mono ?_
    rintro e w' ⟨rfl, rfl⟩
    rw [← hW2, ← hsb]
    clear hW2 hsb RS g_0 g_1 g_2 g_3 g_4 KS1 KS HG1 HQ1 HM1 HB1 HR1 HP1
    go_wp2_with fail
    go_loopw [23] (fun i wr => ∃ (k : Nat) (v2 : Value), i = .int .i64 k ∧ k ≤ N ∧ Hid (DI w W2.heap.size g q sb m rn ri ro rm rs pl il parts (.slice va pl.length vc) v2 k wr)) (fun i _ => N - (intOf i).toNat)
    case atStart => exact ⟨0, .slice none 0 0, rfl, by omega, Lib.hid ⟨HG2.out, HQ2.out, HT2.out, HR2.out, HP2.out, World.ownsRow_nil _ _ _ _, HB2.out, Nat.le_refl _, HM2.out⟩⟩
    case round =>
      obtain ⟨k, v2, rfl, hk, hH⟩ := hrel
      obtain ⟨a2, c2, rfl, _⟩ := ins_own hH.out.p2
      by_cases hlt : k < N
      · obtain ⟨s, hs⟩ : ∃ s, parts[k]? = some s := ⟨_, List.getElem?_eq_getElem (by rw [← HN.out]; exact hlt)⟩
        obtain ⟨x, hx⟩ : ∃ x, il[k]? = some x := ⟨_, List.getElem?_eq_getElem (by rw [HL.out, ← HN.out]; exact hlt)⟩
        have hcut := KC.out k s x hs hx
        have HTK := Lib.hid (show flat portL (il.take (k + 1)) = flat portL (il.take k) ++ portL x by rw [List.take_add_one, hx, flat_append]; simp [flat])
        obtain ⟨xn, xt⟩ := x
        have KU := Lib.hid (fun w hm => hcut w hm)
        have t0 := hH.out.ft.c k (.string s) (by rw [List.getElem?_map, hs]; rfl)
        have k1 : (0 : Int) ≤ (k : Int) := by omega
        have k2 : (k : Int) < (N : Int) := by omega
        have HD := Lib.hid hH.out
        clear hs hx hcut hH
        go_wp2_with fail
        refine (KU.out _ HD.out.mx).mono ?_
        rintro e w5 ⟨rfl, hb⟩
        have X1 := Lib.hid (HD.out.fg.keep hb)
        have X2 := Lib.hid (HD.out.fq.keep hb)
        have X3 := Lib.hid (HD.out.ft.keep hb)
        have X4 := Lib.hid (HD.out.fm.keep hb)
        have X5 := Lib.hid (own_keep HD.out.p1 hb)
        have X6 := Lib.hid (own_keep HD.out.p2 hb)
        have X7 := Lib.hid (HD.out.bl.trans (hb.mono HD.out.bl.size))
        have X8 := Lib.hid (Nat.le_trans HD.out.sz hb.size)
        have X9 := Lib.hid (HD.out.mx.keep hb)
        clear HD hb t0
        have m_0 := X4.out.c 0 _ rfl
        have m_1 := X4.out.c 1 _ rfl
        have m_2 := X4.out.c 2 _ rfl
        have m_3 := X4.out.c 3 _ rfl
        have m_4 := X4.out.c 4 _ rfl
        have m_5 := X4.out.c 5 _ rfl
        have m_z := X4.out.fz
        have hif := HIF.out
        have hz0 := HZ0.out
        have hz1 := HZ1.out
        have hz2 := HZ2.out
        go_wp2_with (at_builtin; refine wpList_append_own _ rfl _ _ 28 rfl W2.heap.size 65 i0 (.agg #[.string ⟨#[]⟩, .string ⟨#[]⟩]) 2 32 Tryd.underlying28 hif hz0 hz1 hz2 rfl (by decide) _ _ _ rfl (own_at X6.out _) ⟨w5.heap.size, 0, none⟩ 1 1 [.string xn, .string xt] rfl rfl ?c1 ?c2 ?c3 ?c4 ?c5 ?_)
        case c1 =>
          intro j u hu
          rw [add_plain, Nat.zero_add]
          exact (row_fresh w5 #[.string xn, .string xt] 65).c j u hu
        case c2 =>
          intro u hu
          simp at hu
          rcases hu with rfl | rfl <;> rfl
        case c3 => unfold maxLen; omega
        case c4 => omega
        case c5 => have := X8.out; rw [World.size_alloc]; omega
        intro v5 w6 hown hgrow _
        obtain ⟨a6, c6, rfl, _⟩ := ins_own hown
        have nal : Below w5.heap.size w5 (w5.alloc (Obj.cells #[.string xn, .string xt] 65)) := (Below.refl _ _).alloc (Nat.le_refl _) _
        have v2lt : ∀ j, Value.ownBlock (.slice a2 k c2) = some j → W2.heap.size ≤ j := fun j e => (X6.out.lt j e).1
        have hg2 : g < W2.heap.size := HG2.out.lt
        have hq2 : q < W2.heap.size := HQ2.out.lt
        have hs2 : sb < W2.heap.size := HT2.out.lt
        have hm2 : m < W2.heap.size := HR2.out.lt
        have Y1 := Lib.hid (row_grown (X1.out.keep nal) hgrow (fun e => by have := v2lt g e.symm; omega))
        have Y2 := Lib.hid (row_grown (X2.out.keep nal) hgrow (fun e => by have := v2lt q e.symm; omega))
        have Y3 := Lib.hid (row_grown (X3.out.keep nal) hgrow (fun e => by have := v2lt sb e.symm; omega))
        have Y4 := Lib.hid (row_grown (X4.out.keep nal) hgrow (fun e => by have := v2lt m e.symm; omega))
        have ne12 : Value.ownBlock (.slice va pl.length vc) = none ∨ Value.ownBlock (.slice va pl.length vc) ≠ Value.ownBlock (.slice a2 k c2) := by
          by_cases h0 : Value.ownBlock (.slice va pl.length vc) = none
          · exact .inl h0
          · refine .inr (fun e => ?_)
            obtain ⟨j, hj⟩ := Option.ne_none_iff_exists'.1 h0
            have := HV1.out j hj
            have := v2lt j (e.symm.trans hj)
            omega
        have Y5 := Lib.hid ((own_keep X5.out nal).kept hgrow ne12)
        have Y6 := Lib.hid (show w6.ownsRow W2.heap.size 65 2 (.slice a6 (k + 1) c6) (k + 1) (flat portL (il.take (k + 1))) by rw [HTK.out]; exact hown)
        have Y7 := Lib.hid ((X7.out.trans (nal.mono X7.out.size)).grown hgrow (by have := X7.out.size; rw [World.size_alloc]; omega) (fun j e => by have := v2lt j e; have := HB2.out.size; omega))
        have Y8 := Lib.hid (show W2.heap.size ≤ w6.heap.size from Nat.le_trans (by have := X8.out; rw [World.size_alloc]; omega) hgrow.size)
        have Y9 := Lib.hid ((X9.out.keep nal).grown hgrow (fun e => by have := v2lt _ e.symm; have := HM0.out; have := HB2.out.size; omega))
        clear hown hgrow nal v2lt ne12 hg2 hq2 hs2 hm2 m_0 m_1 m_2 m_3 m_4 m_5 m_z X1 X2 X3 X4 X5 X6 X7 X8 X9
        have m_0 := Y4.out.c 0 _ rfl
        have m_1 := Y4.out.c 1 _ rfl
        have m_2 := Y4.out.c 2 _ rfl
        have m_3 := Y4.out.c 3 _ rfl
        have m_4 := Y4.out.c 4 _ rfl
        have m_5 := Y4.out.c 5 _ rfl
        have m_z := Y4.out.fz
        go_wp2_with fail
        go_roundw
        case rel => exact ⟨k + 1, .slice a6 (k + 1) c6, by go_num, by omega, Lib.hid ⟨row_at Y1.out HGM.out 2 _, row_at Y2.out HQM.out 2 _, row_at Y3.out HSM.out 2 _, row_set Y4.out 2 (by simp) _, Y5.out.kept (grown_cell _ m 2 _) (.inr HNE.out), Y6.out.kept (grown_cell _ m 2 _) (.inr (own_ne_old Y6.out m HR2.out.lt)), Y7.out.setCell (p := ⟨m, 2, none⟩) HWM.out _, by rw [World.size_setCell]; exact Y8.out, Y9.out.cell (by have := HM0.out; have := HWM.out; omega) 2 _⟩⟩
        case measure => (simp [intOf]) <;> omega
      · obtain rfl : k = N := by omega
        have HLK := Lib.hid (show k = il.length by rw [HL.out, ← HN.out])
        have HD := Lib.hid hH.out
        have hall : flat portL (il.take k) = flat portL il := by rw [List.take_of_length_le (by rw [HL.out, ← HN.out]; exact Nat.le_refl _)]
        have HP2x := Lib.hid (show wr.ownsRow W2.heap.size 65 2 (.slice a2 k c2) k (flat portL il) by rw [← hall]; exact HD.out.p2)
        clear hall hH
        obtain ⟨ob, hob⟩ : ∃ v, v = wr.heap.size := ⟨_, rfl⟩
        have hml := HD.out.fm.lt
        have hmne : m ≠ wr.heap.size := Nat.ne_of_lt hml
        have ZN := Lib.hid (show Value.ownBlock (.slice a2 k c2) ≠ some ob by rw [hob]; exact own_ne_new HP2x.out)
        have ZM := Lib.hid (show m ≠ ob by omega)
        have ZQ := Lib.hid (show q ≠ ob by have := HD.out.fq.lt; omega)
        have g_0 := HD.out.fg.c 0 _ rfl
        have g_1 := HD.out.fg.c 1 _ rfl
        have g_2 := HD.out.fg.c 2 _ rfl
        have g_3 := HD.out.fg.c 3 _ rfl
        have g_4 := HD.out.fg.c 4 _ rfl
        have m_0 := HD.out.fm.c 0 _ rfl
        have m_1 := HD.out.fm.c 1 _ rfl
        have m_2 := HD.out.fm.c 2 _ rfl
        have m_3 := HD.out.fm.c 3 _ rfl
        have m_4 := HD.out.fm.c 4 _ rfl
        have m_5 := HD.out.fm.c 5 _ rfl
        have m_z := HD.out.fm.fz
        have q_0 := HD.out.fq.c 0 _ rfl
        have q_1 := HD.out.fq.c 1 _ rfl
        have q_2 := HD.out.fq.c 2 _ rfl
        have q_3 := HD.out.fq.c 3 _ rfl
        have q_4 := HD.out.fq.c 4 _ rfl
        have q_5 := HD.out.fq.c 5 _ rfl
        have q_z := HD.out.fq.fz
        go_upto_region 9 with fail
        try rw [← hob]
        clear g_0 g_1 g_2 g_3 g_4 m_0 m_1 m_2 m_3 m_4 m_5 m_z q_0 q_1 q_2 q_3 q_4 q_5 q_z hml hmne
        obtain ⟨w7, hw7⟩ : ∃ v, v = wr.setCell ⟨m, 3, none⟩ (.slice (some ⟨ob, 0, none⟩) 1 1) := ⟨_, rfl⟩
        have sz7 : w7.heap.size = wr.heap.size := by rw [hw7, World.size_setCell]
        have S2 := Lib.hid (show RowAt w7 q [.string ⟨#[]⟩, .slice none 0 0, .slice none 0 0, .slice none 0 0, .int .i64 0, .int .i64 0] by rw [hw7]; exact row_at HD.out.fq HQM.out 3 _)
        have S4 := Lib.hid (show RowAt w7 m [.string rn, .slice va pl.length vc, .slice a2 k c2, .slice (some ⟨ob, 0, none⟩) 1 1, .int .i64 rs, .int .i64 rm] by rw [hw7]; exact row_set HD.out.fm 3 (by simp) _)
        have S5 := Lib.hid (show w7.ownsRow w.heap.size 67 4 (.slice va pl.length vc) pl.length (flat bndL pl) by rw [hw7]; exact HD.out.p1.kept (grown_cell _ m 3 _) (.inr HNE.out))
        have S6 := Lib.hid (show w7.ownsRow W2.heap.size 65 2 (.slice a2 k c2) k (flat portL il) by rw [hw7]; exact HP2x.out.kept (grown_cell _ m 3 _) (.inr (own_ne_old HP2x.out m HR2.out.lt)))
        have S7 := Lib.hid (show Below w.heap.size w w7 by rw [hw7]; exact HD.out.bl.setCell (p := ⟨m, 3, none⟩) HWM.out _)
        rw [← hw7]
        obtain ⟨w8, hw8⟩ : ∃ v, v = w7.alloc (Obj.cells #[.string ⟨#[111, 117, 116]⟩, .string ro] 65) := ⟨_, rfl⟩
        have nal : Below w7.heap.size w7 w8 := by rw [hw8]; exact (Below.refl _ _).alloc (Nat.le_refl _) _
        have T2 := Lib.hid (S2.out.keep nal)
        have T4 := Lib.hid (S4.out.keep nal)
        have T5 := Lib.hid (own_keep S5.out nal)
        have T6 := Lib.hid (own_keep S6.out nal)
        have T7 := Lib.hid (S7.out.trans (nal.mono S7.out.size))
        have T8 := Lib.hid (show w8.ownsRow w.heap.size 65 2 (.slice (some ⟨ob, 0, none⟩) 1 1) 1 [.string ⟨#[111, 117, 116]⟩, .string ro] by
          rw [hob, ← sz7, hw8]
          exact World.ownsRow_lit w7 #[.string ⟨#[111, 117, 116]⟩, .string ro] 1 S7.out.size (by unfold maxLen; omega) rfl)
        rw [← hw8]
        clear hw8 hw7 hob sz7 nal S2 S4 S5 S6 S7 HD
        have m_0 := T4.out.c 0 _ rfl
        have m_1 := T4.out.c 1 _ rfl
        have m_2 := T4.out.c 2 _ rfl
        have m_3 := T4.out.c 3 _ rfl
        have m_4 := T4.out.c 4 _ rfl
        have m_5 := T4.out.c 5 _ rfl
        have q_0 := T2.out.c 0 _ rfl
        have q_1 := T2.out.c 1 _ rfl
        have q_2 := T2.out.c 2 _ rfl
        have q_3 := T2.out.c 3 _ rfl
        have q_4 := T2.out.c 4 _ rfl
        have q_5 := T2.out.c 5 _ rfl
        have q_z := T2.out.fz
        go_wp2_with fail
        have hs := T2.out.setRow [.string rn, .slice va pl.length vc, .slice a2 k c2, .slice (some ⟨ob, 0, none⟩) 1 1, .int .i64 rs, .int .i64 rm] rfl
        have hB := set_below T7.out HWQ.out [.string rn, .slice va pl.length vc, .slice a2 k c2, .slice (some ⟨ob, 0, none⟩) 1 1, .int .i64 rs, .int .i64 rm]
        have y0 : ((((((w8.setCell ⟨q, 0, none⟩ (.string rn)).setCell ⟨q, 1, none⟩ (.slice va pl.length vc)).setCell ⟨q, 2, none⟩ (.slice a2 k c2)).setCell ⟨q, 3, none⟩ (.slice (some ⟨ob, 0, none⟩) 1 1)).setCell ⟨q, 4, none⟩ (.int .i64 rs)).setCell ⟨q, 5, none⟩ (.int .i64 rm)).cell? ⟨q, 0, none⟩ = some (.string rn) := hs.c 0 _ rfl
        have y1 : ((((((w8.setCell ⟨q, 0, none⟩ (.string rn)).setCell ⟨q, 1, none⟩ (.slice va pl.length vc)).setCell ⟨q, 2, none⟩ (.slice a2 k c2)).setCell ⟨q, 3, none⟩ (.slice (some ⟨ob, 0, none⟩) 1 1)).setCell ⟨q, 4, none⟩ (.int .i64 rs)).setCell ⟨q, 5, none⟩ (.int .i64 rm)).cell? ⟨q, 1, none⟩ = some (.slice va pl.length vc) := hs.c 1 _ rfl
        have y2 : ((((((w8.setCell ⟨q, 0, none⟩ (.string rn)).setCell ⟨q, 1, none⟩ (.slice va pl.length vc)).setCell ⟨q, 2, none⟩ (.slice a2 k c2)).setCell ⟨q, 3, none⟩ (.slice (some ⟨ob, 0, none⟩) 1 1)).setCell ⟨q, 4, none⟩ (.int .i64 rs)).setCell ⟨q, 5, none⟩ (.int .i64 rm)).cell? ⟨q, 2, none⟩ = some (.slice a2 k c2) := hs.c 2 _ rfl
        have y3 : ((((((w8.setCell ⟨q, 0, none⟩ (.string rn)).setCell ⟨q, 1, none⟩ (.slice va pl.length vc)).setCell ⟨q, 2, none⟩ (.slice a2 k c2)).setCell ⟨q, 3, none⟩ (.slice (some ⟨ob, 0, none⟩) 1 1)).setCell ⟨q, 4, none⟩ (.int .i64 rs)).setCell ⟨q, 5, none⟩ (.int .i64 rm)).cell? ⟨q, 3, none⟩ = some (.slice (some ⟨ob, 0, none⟩) 1 1) := hs.c 3 _ rfl
        have y4 : ((((((w8.setCell ⟨q, 0, none⟩ (.string rn)).setCell ⟨q, 1, none⟩ (.slice va pl.length vc)).setCell ⟨q, 2, none⟩ (.slice a2 k c2)).setCell ⟨q, 3, none⟩ (.slice (some ⟨ob, 0, none⟩) 1 1)).setCell ⟨q, 4, none⟩ (.int .i64 rs)).setCell ⟨q, 5, none⟩ (.int .i64 rm)).cell? ⟨q, 4, none⟩ = some (.int .i64 rs) := hs.c 4 _ rfl
        have y5 : ((((((w8.setCell ⟨q, 0, none⟩ (.string rn)).setCell ⟨q, 1, none⟩ (.slice va pl.length vc)).setCell ⟨q, 2, none⟩ (.slice a2 k c2)).setCell ⟨q, 3, none⟩ (.slice (some ⟨ob, 0, none⟩) 1 1)).setCell ⟨q, 4, none⟩ (.int .i64 rs)).setCell ⟨q, 5, none⟩ (.int .i64 rm)).cell? ⟨q, 5, none⟩ = some (.int .i64 rm) := hs.c 5 _ rfl
        (try simp only [Exit.inBlock, Exit.then])
        refine bodyPost_ret (by simp [results, Tryd.results28, go_sem, y0, y1, y2, y3, y4, y5]; try rfl) rfl ?_
        have e : ((((((w8.setCell ⟨q, 0, none⟩ (.string rn)).setCell ⟨q, 1, none⟩ (.slice va pl.length vc)).setCell ⟨q, 2, none⟩ (.slice a2 k c2)).setCell ⟨q, 3, none⟩ (.slice (some ⟨ob, 0, none⟩) 1 1)).setCell ⟨q, 4, none⟩ (.int .i64 rs)).setCell ⟨q, 5, none⟩ (.int .i64 rm)) = w8.setCells q 0 [.string rn, .slice va pl.length vc, .slice a2 k c2, .slice (some ⟨ob, 0, none⟩) 1 1, .int .i64 rs, .int .i64 rm] := rfl
        have f1 := T5.out.kept (grown_set w8 q [.string rn, .slice va pl.length vc, .slice a2 k c2, .slice (some ⟨ob, 0, none⟩) 1 1, .int .i64 rs, .int .i64 rm]) (.inr HNQ.out)
        have f2 := own_base (T6.out.kept (grown_set w8 q [.string rn, .slice va pl.length vc, .slice a2 k c2, .slice (some ⟨ob, 0, none⟩) 1 1, .int .i64 rs, .int .i64 rm]) (.inr (own_ne_old T6.out q HQ2.out.lt))) HB2.out.size
        have f3 := T8.out.kept (grown_set w8 q [.string rn, .slice va pl.length vc, .slice a2 k c2, .slice (some ⟨ob, 0, none⟩) 1 1, .int .i64 rs, .int .i64 rm]) (.inr (fun e => ZQ.out (by simpa [Value.ownBlock] using e.symm)))
        rw [e]
        rw [← HLK.out]
        exact ⟨_, _, ob, rfl, f1, f2, f3, ZN.out, hB⟩
end Go.Proofs.YtaobbedajgkmiaaDoor
