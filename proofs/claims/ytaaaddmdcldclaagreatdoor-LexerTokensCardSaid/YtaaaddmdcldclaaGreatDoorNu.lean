/- Contract of lexer.Scan. -/
import Derived.Test.YtaaaddmdcldclaaGreatDoorNv
import Derived.OwnWalk
namespace Go.Proofs.YtaaaddmdcldclaaGreatDoor
open Go.RowKit Go.Shelf
set_option linter.unusedVariables false
set_option linter.unusedSimpArgs false

theorem row_grown {w w' : World} {b : Nat} {L : List Value} {r : Option Nat} (t : RowAt w b L) (hg : w.grownBy w' r) (hne : some b ≠ r) : RowAt w' b L :=
  ⟨fun i v h => (World.cell?_of_block (a := ⟨b, i, none⟩) (hg.block b t.lt hne)).trans (t.c i v h), fun o => (World.frozen?_of_block (a := ⟨b, o, none⟩) (hg.block b t.lt hne)).trans (t.fz o), Nat.lt_of_lt_of_le t.lt hg.size⟩
theorem grown_cell (w : World) (s o : Nat) (v : Value) : w.grownBy (w.setCell ⟨s, o, none⟩ v) (some s) :=
  ⟨rfl, rfl, rfl, by rw [World.size_setCell]; exact Nat.le_refl _, fun k _ hne => heap_setCell_other w ⟨s, o, none⟩ k v (fun e => hne (by rw [e]))⟩
theorem own_row {w : World} {B T sz n s : Nat} {v : Value} {L : List Value} (h : w.ownsRow B T sz v n L) (hs : s < B) : some s ≠ v.ownBlock := fun e => by have := (h.lt s e.symm).1; omega
theorem own_cell {w : World} {B T sz n s : Nat} {v : Value} {L : List Value} (h : w.ownsRow B T sz v n L) (hs : s < B ∨ v.ownBlock ≠ some s) (o : Nat) (x : Value) : (w.setCell ⟨s, o, none⟩ x).ownsRow B T sz v n L := h.kept (grown_cell w s o x) (.inr (fun e => by rcases hs with hs | hs; exact own_row h hs e.symm; exact hs e))
theorem own_new {w : World} {B T sz n : Nat} {v : Value} {L : List Value} (h : w.ownsRow B T sz v n L) (ob : Obj) : (w.alloc ob).ownsRow B T sz v n L := own_keep h ((Below.refl _ _).alloc (Nat.le_refl _) ob)
theorem own_ne_new {w : World} {B T sz n : Nat} {v : Value} {L : List Value} (h : w.ownsRow B T sz v n L) : v.ownBlock ≠ some w.heap.size := fun e => Nat.lt_irrefl _ (h.lt _ e).2
theorem bel_new {w : World} (ob : Obj) : Below w.heap.size w (w.alloc ob) := (Below.refl _ _).alloc (Nat.le_refl _) ob
theorem bel_cell {B : Nat} {w0 w : World} {b : Nat} (h : Below B w0 w) (hb : B ≤ b) (o : Nat) (v : Value) : Below B w0 (w.setCell ⟨b, o, none⟩ v) := h.setCell hb _
theorem infoTok : (Tryz.prog.info? 40).map (fun i => (i.zero, i.size, i.bytes)) = some (some (.agg #[.int .i64 0, .string ⟨#[]⟩, .int .i64 0, .int .i64 0]), 4, 40) := by kernel_rfl
theorem tok_one (k n a : Int) (t : ByteArray) : ∀ u ∈ ([.int .i64 k, .string t, .int .i64 n, .int .i64 a] : List Value), u.oneCell' = true := by
  intro u hu
  simp at hu
  rcases hu with rfl | rfl | rfl | rfl <;> rfl
theorem flat_snoc (L : List TkF) (k n a : Int) (t : ByteArray) : flat tkC (L ++ [⟨k, t, n, a⟩]) = flat tkC L ++ [.int .i64 k, .string t, .int .i64 n, .int .i64 a] := by rw [flat_append]; rfl
theorem scan_stop {f : Nat} {s : ByteArray} {p : Nat} {L : List TkF} {i : Nat} (h : ¬ p < s.size) : scanF f s p L i = colonS i L ⟨#[]⟩ := by
  cases f with
  | zero => rfl
  | succ f => unfold scanF; rw [if_neg h]
theorem own_cells7 {w : World} {B T n h u : Nat} {v : Value} {L : List Value} (ho : w.ownsRow B T 4 v n L) (hh : h < B) (hu : u < B) (x0 x1 x2 x3 z0 z1 z2 : Value) : (((((((w.setCell ⟨h, 0, none⟩ x0).setCell ⟨h, 1, none⟩ x1).setCell ⟨h, 2, none⟩ x2).setCell ⟨h, 3, none⟩ x3).setCell ⟨u, 0, none⟩ z0).setCell ⟨u, 1, none⟩ z1).setCell ⟨u, 2, none⟩ z2).ownsRow B T 4 v n L :=
  own_cell (own_cell (own_cell (own_cell (own_cell (own_cell (own_cell ho (.inl hh) _ _) (.inl hh) _ _) (.inl hh) _ _) (.inl hh) _ _) (.inl hu) _ _) (.inl hu) _ _) (.inl hu) _ _
theorem colon_in {w : World} {B n c : Nat} {a a2 : Option Addr} {L L2 : List TkF} (hn : L.length = n) (h : L2.length = 0 ∨ a2 = a) (ht : L2 = L.take L2.length) (ho : w.ownsRow B 40 4 (.slice a n c) n (flat tkC L)) : InS w a2 L2.length 4 (flat tkC L2) := by
  obtain ⟨a3, c3, h1, h2⟩ := ins_own ho
  injection h1 with e1 e2 e3
  subst e1
  rcases h with h | rfl
  · obtain rfl : L2 = [] := List.length_eq_zero_iff.1 h
    exact ⟨rfl, by decide, .inl rfl⟩
  · have hle : L2.length ≤ L.length := by
      have h3 := congrArg List.length ht
      rw [List.length_take] at h3
      omega
    have h4 := ins_take tkC_len (by rw [hn]; exact h2) L2.length hle
    rw [← ht] at h4
    exact h4
theorem scan_res (tm : Array Value) (h u : Nat) (w : World) (x : Int) (a : Option Addr) (n c : Nat) (b : Bool) (cm : ByteArray) (k l o : Int) (h2 : tm.getD 2 undef = .pointer (some ⟨h, 0, none⟩)) (h3 : tm.getD 3 undef = .pointer (some ⟨u, 0, none⟩))
    (y0 : w.cell? ⟨h, 0, none⟩ = some (.int .i64 x)) (y1 : w.cell? ⟨h, 1, none⟩ = some (.slice a n c)) (y2 : w.cell? ⟨h, 2, none⟩ = some (.bool b)) (y3 : w.cell? ⟨h, 3, none⟩ = some (.string cm)) (z0 : w.cell? ⟨u, 0, none⟩ = some (.int .i64 k)) (z1 : w.cell? ⟨u, 1, none⟩ = some (.int .i64 l)) (z2 : w.cell? ⟨u, 2, none⟩ = some (.int .i64 o)) :
    (results Tryz.f11 tm).run Tryz.prog w = .ok (.tuple #[.agg #[.int .i64 x, .slice a n c, .bool b, .string cm], .agg #[.int .i64 k, .int .i64 l, .int .i64 o]]) w := by
  simp at h2 h3
  simp [results, Tryz.results11, go_sem, h2, h3, y0, y1, y2, y3, z0, z1, z2]; try rfl
structure ScI (s : ByteArray) (w : World) (K g h u p f n : Nat) (L : List TkF) (i : Nat) (v : Value) (wr : World) : Prop where
  fu : s.size + 1 ≤ p + f
  eq : scanS s = scanF f s p L i
  ln : L.length = n
  n64 : n ≤ 64
  rg : RowAt wr g [.int .i64 i, v, .bool false, .string ⟨#[]⟩]
  rh : RowAt wr h [.int .i64 0, .slice none 0 0, .bool false, .string ⟨#[]⟩]
  ru : RowAt wr u [.int .i64 0, .int .i64 0, .int .i64 0]
  ow : wr.ownsRow K 40 4 v n (flat tkC L)
  be : Below w.heap.size w wr
  kk : K ≤ wr.heap.size
theorem take_any (i : Nat) (L : List TkF) (n c : Nat) (cm : ByteArray) (a : Option Addr) (B : Nat) (hn : n ≤ 64) (w : World) (ho : w.ownsRow B 40 4 (.slice a n c) n (flat tkC L)) (hN : L.length = n) : Calls Tryz.prog 32 #[.agg #[.int .i64 i, .slice a n c, .bool false, .string cm]] w fun e w' => ScnAt (colonS i L cm) a e ∧ Below w.heap.size w w' := by
  obtain ⟨a2, c2, h1, h2⟩ := ins_own ho
  injection h1 with e1 e2 e3
  subst e1 e3
  by_cases h0 : n = 0
  · subst h0
    obtain rfl : L = [] := List.length_eq_zero_iff.1 hN
    exact takeColon_nil i cm a c w
  · refine takeColon_some i L n c cm a hN (by omega) hn ?_ w h2
    rcases ho.2 with ⟨h3, _⟩ | ⟨g, cap, cur, h3, _, hg, hl, _, hs, _⟩
    · injection h3 with e1 e2 e3; omega
    · injection h3 with e1 e2 e3; omega

set_option maxHeartbeats 60000000 in
set_option maxRecDepth 100000 in
theorem scan_any (s : ByteArray) (w : World) : Calls Tryz.prog 11 #[.string s] w fun e w' => ScnOut (scanS s) e w' ∧ Below w.heap.size w w' := by
  obtain ⟨W, h, u, hW, hh, hu, R2, R3, B, sz⟩ := box2 w #[.int .i64 0, .slice none 0 0, .bool false, .string ⟨#[]⟩] 25 #[.int .i64 0, .int .i64 0, .int .i64 0] 28
  have HB0 := Lib.hid B
  have HH0 := Lib.hid R2
  have HU0 := Lib.hid R3
  have HWH := Lib.hid (show w.heap.size ≤ h by omega)
  have HWU := Lib.hid (show w.heap.size ≤ u by omega)
  have hhu : h ≠ u := by omega
  have huh : u ≠ h := by omega
  have HUL := Lib.hid (show u + 1 = W.heap.size by omega)
  have HFA := Lib.hid (fun (x : World) (p : Nat) (e : Int) (hp : p ≤ 1000000) => (by have h := fault_any p e hp x; unfold faultV at h; exact h : Calls Tryz.prog 28 #[.int .i64 p, .int .i64 e] x fun r w' => r = .returned (.agg #[.int .i64 e, .int .i64 0, .int .i64 ((p : Int) + 1)]) ∧ Below x.heap.size x w'))
  clear B R2 R3 sz
  by_cases hbig : 1000 < s.size
  · have HY := Lib.hid (show scanS s = badS 1000 7 from if_pos hbig)
    have hk : (1000 : Int) < (s.size : Int) := by omega
    have HF := Lib.hid (show Calls Tryz.prog 28 #[.int .i64 1000, .int .i64 7] W fun r w' => r = .returned (.agg #[.int .i64 7, .int .i64 0, .int .i64 1001]) ∧ Below W.heap.size W w' from HFA.out W 1000 7 (by omega))
    go_enter Tryz.func11, Tryz.ntmps11
    go_wp2_with fail
    go_step3
    go_wp2_with fail
    rw [← hW]
    try rw [← hu]
    try rw [← hh]
    clear hW hh hu
    refine (HF.out).mono ?_
    rintro e w1 ⟨rfl, hb⟩
    have HH1 := Lib.hid (HH0.out.keep hb)
    have HU1 := Lib.hid (HU0.out.keep hb)
    have HB1 := Lib.hid (HB0.out.trans (hb.mono HB0.out.size))
    clear hb HF
    have r_0 := HH1.out.c 0 _ rfl
    have r_1 := HH1.out.c 1 _ rfl
    have r_2 := HH1.out.c 2 _ rfl
    have r_3 := HH1.out.c 3 _ rfl
    have r_z := HH1.out.fz
    have q_0 := HU1.out.c 0 _ rfl
    have q_1 := HU1.out.c 1 _ rfl
    have q_2 := HU1.out.c 2 _ rfl
    have q_z := HU1.out.fz
    go_wp2_with fail
    have hs1 := (HH1.out).setRow [.int .i64 0, .slice none 0 0, .bool false, .string ⟨#[]⟩] rfl
    have hs2 := ((HU1.out).other hhu [.int .i64 0, .slice none 0 0, .bool false, .string ⟨#[]⟩]).setRow [.int .i64 7, .int .i64 0, .int .i64 1001] rfl
    have hs3 := hs1.other huh [.int .i64 7, .int .i64 0, .int .i64 1001]
    have hbl := set_below (set_below HB1.out HWH.out [.int .i64 0, .slice none 0 0, .bool false, .string ⟨#[]⟩]) HWU.out [.int .i64 7, .int .i64 0, .int .i64 1001]
    rw [sc4, sc3] at hs2 hs3 hbl
    clear hs1
    have y0 : (((((((w1.setCell ⟨h, 0, none⟩ (.int .i64 0)).setCell ⟨h, 1, none⟩ (.slice none 0 0)).setCell ⟨h, 2, none⟩ (.bool false)).setCell ⟨h, 3, none⟩ (.string ⟨#[]⟩)).setCell ⟨u, 0, none⟩ (.int .i64 7)).setCell ⟨u, 1, none⟩ (.int .i64 0)).setCell ⟨u, 2, none⟩ (.int .i64 1001)).cell? ⟨h, 0, none⟩ = some (.int .i64 0) := hs3.c 0 _ rfl
    have y1 : (((((((w1.setCell ⟨h, 0, none⟩ (.int .i64 0)).setCell ⟨h, 1, none⟩ (.slice none 0 0)).setCell ⟨h, 2, none⟩ (.bool false)).setCell ⟨h, 3, none⟩ (.string ⟨#[]⟩)).setCell ⟨u, 0, none⟩ (.int .i64 7)).setCell ⟨u, 1, none⟩ (.int .i64 0)).setCell ⟨u, 2, none⟩ (.int .i64 1001)).cell? ⟨h, 1, none⟩ = some (.slice none 0 0) := hs3.c 1 _ rfl
    have y2 : (((((((w1.setCell ⟨h, 0, none⟩ (.int .i64 0)).setCell ⟨h, 1, none⟩ (.slice none 0 0)).setCell ⟨h, 2, none⟩ (.bool false)).setCell ⟨h, 3, none⟩ (.string ⟨#[]⟩)).setCell ⟨u, 0, none⟩ (.int .i64 7)).setCell ⟨u, 1, none⟩ (.int .i64 0)).setCell ⟨u, 2, none⟩ (.int .i64 1001)).cell? ⟨h, 2, none⟩ = some (.bool false) := hs3.c 2 _ rfl
    have y3 : (((((((w1.setCell ⟨h, 0, none⟩ (.int .i64 0)).setCell ⟨h, 1, none⟩ (.slice none 0 0)).setCell ⟨h, 2, none⟩ (.bool false)).setCell ⟨h, 3, none⟩ (.string ⟨#[]⟩)).setCell ⟨u, 0, none⟩ (.int .i64 7)).setCell ⟨u, 1, none⟩ (.int .i64 0)).setCell ⟨u, 2, none⟩ (.int .i64 1001)).cell? ⟨h, 3, none⟩ = some (.string ⟨#[]⟩) := hs3.c 3 _ rfl
    have z0 : (((((((w1.setCell ⟨h, 0, none⟩ (.int .i64 0)).setCell ⟨h, 1, none⟩ (.slice none 0 0)).setCell ⟨h, 2, none⟩ (.bool false)).setCell ⟨h, 3, none⟩ (.string ⟨#[]⟩)).setCell ⟨u, 0, none⟩ (.int .i64 7)).setCell ⟨u, 1, none⟩ (.int .i64 0)).setCell ⟨u, 2, none⟩ (.int .i64 1001)).cell? ⟨u, 0, none⟩ = some (.int .i64 7) := hs2.c 0 _ rfl
    have z1 : (((((((w1.setCell ⟨h, 0, none⟩ (.int .i64 0)).setCell ⟨h, 1, none⟩ (.slice none 0 0)).setCell ⟨h, 2, none⟩ (.bool false)).setCell ⟨h, 3, none⟩ (.string ⟨#[]⟩)).setCell ⟨u, 0, none⟩ (.int .i64 7)).setCell ⟨u, 1, none⟩ (.int .i64 0)).setCell ⟨u, 2, none⟩ (.int .i64 1001)).cell? ⟨u, 1, none⟩ = some (.int .i64 0) := hs2.c 1 _ rfl
    have z2 : (((((((w1.setCell ⟨h, 0, none⟩ (.int .i64 0)).setCell ⟨h, 1, none⟩ (.slice none 0 0)).setCell ⟨h, 2, none⟩ (.bool false)).setCell ⟨h, 3, none⟩ (.string ⟨#[]⟩)).setCell ⟨u, 0, none⟩ (.int .i64 7)).setCell ⟨u, 1, none⟩ (.int .i64 0)).setCell ⟨u, 2, none⟩ (.int .i64 1001)).cell? ⟨u, 2, none⟩ = some (.int .i64 1001) := hs2.c 2 _ rfl
    (first | rw [Exit.noGoto_ret] | (simp only [Exit.inBlock, Exit.then]; rw [Exit.noGoto_ret]) | (simp only [Exit.inBlock, Exit.then]))
    refine bodyPost_ret (scan_res _ h u _ _ _ _ _ _ _ _ _ _ rfl rfl y0 y1 y2 y3 z0 z1 z2) rfl ?_
    rw [HY.out]
    exact ⟨⟨none, 0, rfl, nil_tok _ _⟩, hbl⟩
  · have HS := Lib.hid (show s.size ≤ 1000 by omega)
    have HSC := Lib.hid (show scanS s = scanF (s.size + 1) s (blankN s 0) [] 0 from if_neg hbig)
    have hk : ¬ (1000 : Int) < (s.size : Int) := by omega
    have HBL := Lib.hid (fun (x : World) (p : Nat) (hp : p ≤ s.size) => blanks_any s p hp (by omega) x)
    have HB0L := Lib.hid (show ∀ x, Calls Tryz.prog 29 #[.string s, .int .i64 0] x fun e w' => e = .returned (.int .i64 (blankN s 0)) ∧ Below x.heap.size x w' from fun x => HBL.out x 0 (Nat.zero_le _))
    obtain ⟨ia, hifa, hza0, hza1, hza2⟩ := info_parts infoTok
    have HIF := Lib.hid hifa
    have HZ0 := Lib.hid hza0
    have HZ1 := Lib.hid hza1
    have HZ2 := Lib.hid hza2
    clear hifa hza0 hza1 hza2
    clear hbig
    go_enter Tryz.func11, Tryz.ntmps11
    go_wp2_with fail
    go_step3
    rw [← hW]
    try rw [← hu]
    try rw [← hh]
    clear hW hh hu
    obtain ⟨W2, g, hW2, hg, RG, B2, sz2⟩ := box1 W #[.int .i64 0, .slice none 0 0, .bool false, .string ⟨#[]⟩] 25
    have HG1 := Lib.hid RG
    have HH1 := Lib.hid (HH0.out.keep B2)
    have HU1 := Lib.hid (HU0.out.keep B2)
    have HB1 := Lib.hid (HB0.out.trans (B2.mono HB0.out.size))
    have HWG := Lib.hid (show w.heap.size ≤ g by have := HB0.out.size; omega)
    have hgh : g ≠ h := by have := HH0.out.lt; omega
    have hgu : g ≠ u := by have := HU0.out.lt; omega
    obtain ⟨K, hK⟩ : ∃ K, K = W2.heap.size := ⟨_, rfl⟩
    have HGK := Lib.hid (show g < K by rw [hK]; exact HG1.out.lt)
    have HHK := Lib.hid (show h < K by rw [hK]; exact HH1.out.lt)
    have HUK := Lib.hid (show u < K by rw [hK]; exact HU1.out.lt)
    have HWK := Lib.hid (show w.heap.size ≤ K by rw [hK]; exact HB1.out.size)
    have HK1 := Lib.hid (show K ≤ W2.heap.size by omega)
    go_wp2_with fail
    go_step3
    go_wp2_with fail
    rw [← hW2]
    try rw [← hg]
    clear hW2 hg RG B2 sz2 HH0 HU0 HB0 hK
    refine (HB0L.out _).mono ?_
    rintro e w2 ⟨rfl, hb⟩
    have HG2 := Lib.hid (HG1.out.keep hb)
    have HH2 := Lib.hid (HH1.out.keep hb)
    have HU2 := Lib.hid (HU1.out.keep hb)
    have HB2 := Lib.hid (HB1.out.trans (hb.mono HB1.out.size))
    have HK2 := Lib.hid (Nat.le_trans HK1.out hb.size)
    clear hb HG1 HH1 HU1 HB1 HK1
    go_wp2_with fail
    go_loopw [5] (fun iv wr => ∃ (p f n : Nat) (L : List TkF) (i : Nat) (v : Value), iv = .int .i64 p ∧ p ≤ s.size ∧ Hid (ScI s w K g h u p f n L i v wr)) (fun iv _ => s.size - (intOf iv).toNat)
    case atStart => exact ⟨blankN s 0, s.size + 1, 0, [], 0, .slice none 0 0, rfl, (blank_le s 0 (Nat.zero_le _)).2, Lib.hid ⟨by omega, HSC.out, rfl, by omega, HG2.out, HH2.out, HU2.out, ⟨rfl, .inl ⟨rfl, rfl⟩⟩, HB2.out, HK2.out⟩⟩
    case round =>
      obtain ⟨p, f0, n, L, i, v, rfl, hp, hH⟩ := hrel
      obtain ⟨hfu, heq, hln, hn64, hrg, hrh, hru, how, hbe, hkk⟩ := hH.out
      obtain ⟨a, c, hv, _⟩ := ins_own how
      subst hv
      have HLN := Lib.hid hln
      have HN64 := Lib.hid hn64
      have HG3 := Lib.hid hrg
      have HH3 := Lib.hid hrh
      have HU3 := Lib.hid hru
      have HO3 := Lib.hid how
      have HB3 := Lib.hid hbe
      have HK3 := Lib.hid hkk
      clear hrg hrh hru how hbe hkk hH HG2 HH2 HU2 HB2 HK2 HB0L
      by_cases hlt : p < s.size
      · obtain ⟨f, rfl⟩ : ∃ f, f0 = f + 1 := ⟨f0 - 1, by omega⟩
        have HFU := Lib.hid hfu
        obtain ⟨x, hx⟩ : ∃ x : Int, x = (s[p].toNat : Int) := ⟨_, rfl⟩
        have hxb : byteI s p = x := (byteI_at hlt).trans hx.symm
        have hx2 : (s[p].toNat : Int) = x := hx.symm
        have HEQ := Lib.hid (show scanS s = if x = 35 then colonS i L (s.extract (p + 1) s.size) else if L.length = 0 ∧ indE p ≠ 0 then badS p (indE p) else if L.length = 64 then badS p 7 else if (readR (s.extract p s.size)).c ≠ 0 then badS p (readR (s.extract p s.size)).c else scanF f s (blankN s (p + (readR (s.extract p s.size)).l)) (L ++ [⟨(readR (s.extract p s.size)).k, (readR (s.extract p s.size)).t, (readR (s.extract p s.size)).n, p + 1⟩]) (if L.length = 0 then p / 2 else i) by rw [heq, ← hxb]; exact if_pos hlt)
        have k1 : (0 : Int) ≤ (p : Int) := by omega
        have k2 : (p : Int) < (s.size : Int) := by omega
        have k3 : (p : Int) ≤ (s.size : Int) := by omega
        have w1 : IntKind.i64.wrap ((p : Int) + 1) = (p : Int) + 1 := IntWalk.i64_in _ (by have := HS.out; omega)
        have k4 : (0 : Int) ≤ (p : Int) + 1 := by omega
        have k5 : (p : Int) + 1 ≤ (s.size : Int) := by omega
        have k6 : ((p : Int) + 1).toNat = p + 1 := by omega
        clear hfu heq hln hn64 hx hxb
        by_cases h35 : x = 35
        · subst h35
          have HEQ := Lib.hid (HEQ.out.trans (if_pos rfl))
          obtain ⟨C, hC⟩ : ∃ C, C = s.extract (p + 1) s.size := ⟨_, rfl⟩
          have hC2 : s.extract (p + 1) s.size = C := hC.symm
          rw [hC2] at HEQ
          obtain ⟨W4, hW4⟩ : ∃ x, x = wr.setCell ⟨g, 3, none⟩ (.string C) := ⟨_, rfl⟩
          have HG4 := Lib.hid (show RowAt W4 g [.int .i64 i, .slice a n c, .bool false, .string C] by rw [hW4]; exact row_set HG3.out 3 (by simp) _)
          have HH4 := Lib.hid (show RowAt W4 h [.int .i64 0, .slice none 0 0, .bool false, .string ⟨#[]⟩] by rw [hW4]; exact row_at HH3.out hgh _ _)
          have HU4 := Lib.hid (show RowAt W4 u [.int .i64 0, .int .i64 0, .int .i64 0] by rw [hW4]; exact row_at HU3.out hgu _ _)
          have HO4 := Lib.hid (show W4.ownsRow K 40 4 (.slice a n c) n (flat tkC L) by rw [hW4]; exact own_cell HO3.out (.inl HGK.out) _ _)
          have HB4 := Lib.hid (show Below w.heap.size w W4 by rw [hW4]; exact bel_cell HB3.out HWG.out _ _)
          clear hC
          have g_0 := HG3.out.c 0 _ rfl
          have g_1 := HG3.out.c 1 _ rfl
          have g_2 := HG3.out.c 2 _ rfl
          have g_3 := HG3.out.c 3 _ rfl
          have g_z := HG3.out.fz
          go_upto_region 22 with fail
          rw [← hW4]
          clear hW4 HG3 HH3 HU3 HO3 HB3 g_0 g_1 g_2 g_3 g_z
          have HTC := Lib.hid (take_any i L n c C a K HN64.out W4 HO4.out HLN.out)
          have HY := Lib.hid (show scanS s = colonS i L C by exact HEQ.out)
          have g_0 := HG4.out.c 0 _ rfl
          have g_1 := HG4.out.c 1 _ rfl
          have g_2 := HG4.out.c 2 _ rfl
          have g_3 := HG4.out.c 3 _ rfl
          have g_z := HG4.out.fz
          go_wp2_with fail
          refine (HTC.out).mono ?_
          rintro e w5 ⟨⟨a2, c2, rfl, hin2⟩, hb⟩
          have HO5 := Lib.hid (own_keep HO4.out hb)
          have HCT := Lib.hid (colon_take i L C)
          have HIN2 := Lib.hid hin2
          have HH5 := Lib.hid (HH4.out.keep hb)
          have HU5 := Lib.hid (HU4.out.keep hb)
          have HB5 := Lib.hid (HB4.out.trans (hb.mono HB4.out.size))
          obtain ⟨V, hV⟩ : ∃ V, V = colonS i L C := ⟨_, rfl⟩
          rw [← hV] at HIN2 HY HCT ⊢
          obtain ⟨vi, vL, vh, vc, vk, vo⟩ := V
          obtain ⟨vn, hvn⟩ : ∃ x, x = vL.length := ⟨_, rfl⟩
          have HVN := Lib.hid hvn
          obtain ⟨vx, hvx⟩ : ∃ x : Int, x = (vi : Int) := ⟨_, rfl⟩
          have HVX := Lib.hid hvx
          unfold faultV
          dsimp only at HIN2 HCT ⊢
          rw [← hvn, ← hvx]
          clear hb hin2 hV HH4 HU4 HB4 g_0 g_1 g_2 g_3 g_z HO4 HTC hvn hvx
          have r_0 := HH5.out.c 0 _ rfl
          have r_1 := HH5.out.c 1 _ rfl
          have r_2 := HH5.out.c 2 _ rfl
          have r_3 := HH5.out.c 3 _ rfl
          have r_z := HH5.out.fz
          have q_0 := HU5.out.c 0 _ rfl
          have q_1 := HU5.out.c 1 _ rfl
          have q_2 := HU5.out.c 2 _ rfl
          have q_z := HU5.out.fz
          go_wp2_with fail
          have hs1 := (HH5.out).setRow [.int .i64 vx, .slice a2 vn c2, .bool vh, .string vc] rfl
          have hs2 := ((HU5.out).other hhu [.int .i64 vx, .slice a2 vn c2, .bool vh, .string vc]).setRow [.int .i64 vk, .int .i64 0, .int .i64 vo] rfl
          have hs3 := hs1.other huh [.int .i64 vk, .int .i64 0, .int .i64 vo]
          have hbl := set_below (set_below HB5.out HWH.out [.int .i64 vx, .slice a2 vn c2, .bool vh, .string vc]) HWU.out [.int .i64 vk, .int .i64 0, .int .i64 vo]
          rw [sc4, sc3] at hs2 hs3 hbl
          clear hs1
          have y0 : (((((((w5.setCell ⟨h, 0, none⟩ (.int .i64 vx)).setCell ⟨h, 1, none⟩ (.slice a2 vn c2)).setCell ⟨h, 2, none⟩ (.bool vh)).setCell ⟨h, 3, none⟩ (.string vc)).setCell ⟨u, 0, none⟩ (.int .i64 vk)).setCell ⟨u, 1, none⟩ (.int .i64 0)).setCell ⟨u, 2, none⟩ (.int .i64 vo)).cell? ⟨h, 0, none⟩ = some (.int .i64 vx) := hs3.c 0 _ rfl
          have y1 : (((((((w5.setCell ⟨h, 0, none⟩ (.int .i64 vx)).setCell ⟨h, 1, none⟩ (.slice a2 vn c2)).setCell ⟨h, 2, none⟩ (.bool vh)).setCell ⟨h, 3, none⟩ (.string vc)).setCell ⟨u, 0, none⟩ (.int .i64 vk)).setCell ⟨u, 1, none⟩ (.int .i64 0)).setCell ⟨u, 2, none⟩ (.int .i64 vo)).cell? ⟨h, 1, none⟩ = some (.slice a2 vn c2) := hs3.c 1 _ rfl
          have y2 : (((((((w5.setCell ⟨h, 0, none⟩ (.int .i64 vx)).setCell ⟨h, 1, none⟩ (.slice a2 vn c2)).setCell ⟨h, 2, none⟩ (.bool vh)).setCell ⟨h, 3, none⟩ (.string vc)).setCell ⟨u, 0, none⟩ (.int .i64 vk)).setCell ⟨u, 1, none⟩ (.int .i64 0)).setCell ⟨u, 2, none⟩ (.int .i64 vo)).cell? ⟨h, 2, none⟩ = some (.bool vh) := hs3.c 2 _ rfl
          have y3 : (((((((w5.setCell ⟨h, 0, none⟩ (.int .i64 vx)).setCell ⟨h, 1, none⟩ (.slice a2 vn c2)).setCell ⟨h, 2, none⟩ (.bool vh)).setCell ⟨h, 3, none⟩ (.string vc)).setCell ⟨u, 0, none⟩ (.int .i64 vk)).setCell ⟨u, 1, none⟩ (.int .i64 0)).setCell ⟨u, 2, none⟩ (.int .i64 vo)).cell? ⟨h, 3, none⟩ = some (.string vc) := hs3.c 3 _ rfl
          have z0 : (((((((w5.setCell ⟨h, 0, none⟩ (.int .i64 vx)).setCell ⟨h, 1, none⟩ (.slice a2 vn c2)).setCell ⟨h, 2, none⟩ (.bool vh)).setCell ⟨h, 3, none⟩ (.string vc)).setCell ⟨u, 0, none⟩ (.int .i64 vk)).setCell ⟨u, 1, none⟩ (.int .i64 0)).setCell ⟨u, 2, none⟩ (.int .i64 vo)).cell? ⟨u, 0, none⟩ = some (.int .i64 vk) := hs2.c 0 _ rfl
          have z1 : (((((((w5.setCell ⟨h, 0, none⟩ (.int .i64 vx)).setCell ⟨h, 1, none⟩ (.slice a2 vn c2)).setCell ⟨h, 2, none⟩ (.bool vh)).setCell ⟨h, 3, none⟩ (.string vc)).setCell ⟨u, 0, none⟩ (.int .i64 vk)).setCell ⟨u, 1, none⟩ (.int .i64 0)).setCell ⟨u, 2, none⟩ (.int .i64 vo)).cell? ⟨u, 1, none⟩ = some (.int .i64 0) := hs2.c 1 _ rfl
          have z2 : (((((((w5.setCell ⟨h, 0, none⟩ (.int .i64 vx)).setCell ⟨h, 1, none⟩ (.slice a2 vn c2)).setCell ⟨h, 2, none⟩ (.bool vh)).setCell ⟨h, 3, none⟩ (.string vc)).setCell ⟨u, 0, none⟩ (.int .i64 vk)).setCell ⟨u, 1, none⟩ (.int .i64 0)).setCell ⟨u, 2, none⟩ (.int .i64 vo)).cell? ⟨u, 2, none⟩ = some (.int .i64 vo) := hs2.c 2 _ rfl
          (first | rw [Exit.noGoto_ret] | (simp only [Exit.inBlock, Exit.then]; rw [Exit.noGoto_ret]) | (simp only [Exit.inBlock, Exit.then]))
          refine bodyPost_ret (scan_res _ h u _ _ _ _ _ _ _ _ _ _ rfl rfl y0 y1 y2 y3 z0 z1 z2) rfl ?_
          rw [HY.out]
          have e1 := HVN.out
          have e2 := HVX.out
          subst e1 e2
          refine ⟨⟨a2, c2, rfl, colon_in (B := K) (c := c) HLN.out HIN2.out HCT.out ?_⟩, hbl⟩
          exact own_cells7 HO5.out HHK.out HUK.out _ _ _ _ _ _ _
        · have t35 : (x == 35) = false := by rw [beq_eq_false_iff_ne]; exact h35
          have HEQ := Lib.hid (HEQ.out.trans (if_neg h35))
          clear h35
          obtain ⟨T, hT⟩ : ∃ T, T = s.extract p s.size := ⟨_, rfl⟩
          have hTs : T.size = s.size - p := by rw [hT, ByteArray.size_extract]; omega
          have hT2 : s.extract p s.size = T := hT.symm
          have hrt := fun w' => readToken_any T (by omega) (by have := HS.out; omega) w'
          simp only [readV_is] at hrt
          have hrl := fun h => readR_len (s := T) (by omega) h
          rw [hT2] at HEQ
          obtain ⟨⟨k, t, m, l, q⟩, hR⟩ : ∃ r, r = readR T := ⟨_, rfl⟩
          rw [← hR] at hrt hrl HEQ
          have HRT := Lib.hid (show ∀ w', Calls Tryz.prog 31 #[.string T] w' fun e w2 => e = .returned (.tuple #[.agg #[.int .i64 k, .string t, .int .i64 m, .int .i64 0], .int .i64 l, .int .i64 q]) ∧ Below w'.heap.size w' w2 from hrt)
          have HRL := Lib.hid (show q = 0 → 1 ≤ l ∧ p + l ≤ s.size from fun h => by have h1 := hrl h; simp at h1; omega)
          clear hrt hrl hR hT hTs
          by_cases hn0 : n = 0
          · subst hn0
            have HNN := Lib.hid (show (0 : Nat) < 64 by decide)
            have HCI := Lib.hid (fun (y : World) => indent_any p (by have := HS.out; omega) y)
            by_cases hE : indE p = 0
            · have hst : scanS s = if q ≠ 0 then badS p q else scanF f s (blankN s (p + l)) (L ++ [⟨k, t, m, p + 1⟩]) (p / 2) := by
                rw [HEQ.out, if_neg (fun h => h.2 hE), if_neg (by rw [HLN.out]; decide), if_pos HLN.out]
              have HST0 := Lib.hid hst
              have w2' : IntKind.i64.wrap (Int.tdiv (p : Int) 2) = ((p / 2 : Nat) : Int) := by
                rw [Int.tdiv_eq_ediv_of_nonneg (by omega)]
                have h2 : (p : Int) / 2 = ((p / 2 : Nat) : Int) := by omega
                rw [h2]
                exact IntWalk.i64_in _ (by have := HS.out; omega)
              rw [hE] at HCI
              clear hst hE
              have g_0 := HG3.out.c 0 _ rfl
              have g_1 := HG3.out.c 1 _ rfl
              have g_2 := HG3.out.c 2 _ rfl
              have g_3 := HG3.out.c 3 _ rfl
              have g_z := HG3.out.fz
              go_wp2_with fail
              clear g_0 g_1 g_2 g_3 g_z
              refine (HCI.out _).mono ?_
              rintro e w4 ⟨rfl, hb⟩
              have HG4 := Lib.hid (HG3.out.keep hb)
              have HH4 := Lib.hid (HH3.out.keep hb)
              have HU4 := Lib.hid (HU3.out.keep hb)
              have HO4 := Lib.hid (own_keep HO3.out hb)
              have HB4 := Lib.hid (HB3.out.trans (hb.mono HB3.out.size))
              have HK4 := Lib.hid (Nat.le_trans HK3.out hb.size)
              clear hb HG3 HH3 HU3 HO3 HB3 HK3
              have g_0 := HG4.out.c 0 _ rfl
              have g_1 := HG4.out.c 1 _ rfl
              have g_2 := HG4.out.c 2 _ rfl
              have g_3 := HG4.out.c 3 _ rfl
              have g_z := HG4.out.fz
              go_upto_region 16 with fail
              obtain ⟨w5, hW5⟩ : ∃ x, x = w4.setCell ⟨g, 0, none⟩ (.int .i64 ((p : Int) / 2)) := ⟨_, rfl⟩
              have HG5 := Lib.hid (show RowAt w5 g [.int .i64 ((p / 2 : Nat) : Int), .slice a 0 c, .bool false, .string ⟨#[]⟩] by rw [hW5, show ((p / 2 : Nat) : Int) = (p : Int) / 2 by omega]; exact row_set HG4.out 0 (by simp) _)
              have HH5 := Lib.hid (show RowAt w5 h [.int .i64 0, .slice none 0 0, .bool false, .string ⟨#[]⟩] by rw [hW5]; exact row_at HH4.out hgh _ _)
              have HU5 := Lib.hid (show RowAt w5 u [.int .i64 0, .int .i64 0, .int .i64 0] by rw [hW5]; exact row_at HU4.out hgu _ _)
              have HO5 := Lib.hid (show w5.ownsRow K 40 4 (.slice a 0 c) 0 (flat tkC L) by rw [hW5]; exact own_cell HO4.out (.inl HGK.out) _ _)
              have HB5 := Lib.hid (show Below w.heap.size w w5 by rw [hW5]; exact bel_cell HB4.out HWG.out _ _)
              have HK5 := Lib.hid (show K ≤ w5.heap.size by rw [hW5, World.size_setCell]; exact HK4.out)
              rw [← hW5]
              clear hW5 HG4 HH4 HU4 HO4 HB4 HK4 g_0 g_1 g_2 g_3 g_z
              obtain ⟨n, hn⟩ : ∃ n : Nat, n = 0 := ⟨_, rfl⟩
              have HG5 := Lib.hid (show RowAt w5 g [.int .i64 ((p / 2 : Nat) : Int), .slice a n c, .bool false, .string ⟨#[]⟩] by rw [hn]; exact HG5.out)
              have HO5 := Lib.hid (show w5.ownsRow K 40 4 (.slice a n c) n (flat tkC L) by rw [hn]; exact HO5.out)
              have HLN := Lib.hid (show L.length = n by rw [hn]; exact HLN.out)
              have HNN := Lib.hid (show n < 64 by omega)
              have HN64 := Lib.hid (show n ≤ 64 by omega)
              clear hn
              have HST := Lib.hid (show scanS s = if q ≠ 0 then badS p q else scanF f s (blankN s (p + l)) (L ++ [⟨k, t, m, p + 1⟩]) (p / 2) by exact HST0.out)
              have g_0 := HG5.out.c 0 _ rfl
              have g_1 := HG5.out.c 1 _ rfl
              have g_2 := HG5.out.c 2 _ rfl
              have g_3 := HG5.out.c 3 _ rfl
              have g_z := HG5.out.fz
              go_wp2_with fail
              clear g_0 g_1 g_2 g_3 g_z
              refine (HRT.out _).mono ?_
              rintro e w6 ⟨rfl, hb⟩
              have HG6 := Lib.hid (HG5.out.keep hb)
              have HH6 := Lib.hid (HH5.out.keep hb)
              have HU6 := Lib.hid (HU5.out.keep hb)
              have HO6 := Lib.hid (own_keep HO5.out hb)
              have HB6 := Lib.hid (HB5.out.trans (hb.mono HB5.out.size))
              have HK6 := Lib.hid (Nat.le_trans HK5.out hb.size)
              clear hb HG5 HH5 HU5 HO5 HB5 HK5
              obtain ⟨W6, b, hW6, hb6, RB, B6, sz6⟩ := box1 w6 #[.int .i64 k, .string t, .int .i64 m, .int .i64 0] 40
              have HG7 := Lib.hid (HG6.out.keep B6)
              have HH7 := Lib.hid (HH6.out.keep B6)
              have HU7 := Lib.hid (HU6.out.keep B6)
              have HO7 := Lib.hid (own_keep HO6.out B6)
              have HB7 := Lib.hid (HB6.out.trans (B6.mono HB6.out.size))
              have HK7 := Lib.hid (Nat.le_trans HK6.out B6.size)
              have HT7 := Lib.hid RB
              have HBX := Lib.hid (show w.heap.size ≤ b by rw [hb6]; exact HB6.out.size)
              have nbg : b ≠ g := by have := HG6.out.lt; omega
              have nbh : b ≠ h := by have := HH6.out.lt; omega
              have nbu : b ≠ u := by have := HU6.out.lt; omega
              have HBO := Lib.hid (show (Value.slice a n c).ownBlock ≠ some b by rw [hb6]; exact own_ne_new HO6.out)
              by_cases hq : q = 0
              · have HQ := Lib.hid hq
                go_upto_region 19 with fail
                rw [← hW6]
                try rw [← hb6]
                clear hW6 hb6 RB B6 sz6 HG6 HH6 HU6 HO6 HB6 HK6
                have t_0 := HT7.out.c 0 _ rfl
                have t_1 := HT7.out.c 1 _ rfl
                have t_2 := HT7.out.c 2 _ rfl
                have t_3 := HT7.out.c 3 _ rfl
                have t_z := HT7.out.fz
                go_upto_region 20 with fail
                obtain ⟨W7, hW7⟩ : ∃ x, x = W6.setCell ⟨b, 3, none⟩ (.int .i64 (((p : Nat) : Int) + 1)) := ⟨_, rfl⟩
                have HT17 := Lib.hid (show RowAt W7 b [.int .i64 k, .string t, .int .i64 m, .int .i64 (((p : Nat) : Int) + 1)] by rw [hW7]; exact row_set HT7.out 3 (by simp) _)
                have HG17 := Lib.hid (show RowAt W7 g [.int .i64 ((p / 2) : Nat), .slice a n c, .bool false, .string ⟨#[]⟩] by rw [hW7]; exact row_at HG7.out nbg _ _)
                have HH17 := Lib.hid (show RowAt W7 h [.int .i64 0, .slice none 0 0, .bool false, .string ⟨#[]⟩] by rw [hW7]; exact row_at HH7.out nbh _ _)
                have HU17 := Lib.hid (show RowAt W7 u [.int .i64 0, .int .i64 0, .int .i64 0] by rw [hW7]; exact row_at HU7.out nbu _ _)
                have HO17 := Lib.hid (show W7.ownsRow K 40 4 (.slice a n c) n (flat tkC L) by rw [hW7]; exact own_cell HO7.out (.inr HBO.out) _ _)
                have HB17 := Lib.hid (show Below w.heap.size w W7 by rw [hW7]; exact bel_cell HB7.out HBX.out _ _)
                have HK17 := Lib.hid (show K ≤ W7.heap.size by rw [hW7, World.size_setCell]; exact HK7.out)
                rw [← hW7]
                clear hW7 t_0 t_1 t_2 t_3 t_z HG7 HH7 HU7 HO7 HB7 HK7 HT7
                have t_0 := HT17.out.c 0 _ rfl
                have t_1 := HT17.out.c 1 _ rfl
                have t_2 := HT17.out.c 2 _ rfl
                have t_3 := HT17.out.c 3 _ rfl
                have g_0 := HG17.out.c 0 _ rfl
                have g_1 := HG17.out.c 1 _ rfl
                have g_2 := HG17.out.c 2 _ rfl
                have g_3 := HG17.out.c 3 _ rfl
                have g_z := HG17.out.fz
                have NW := Lib.hid (row_fresh W7 #[.int .i64 k, .string t, .int .i64 m, .int .i64 (((p : Nat) : Int) + 1)] 40)
                go_wp2_with (at_builtin; refine wpList_append_own _ rfl _ _ 23 rfl K 40 ia (.agg #[.int .i64 0, .string ⟨#[]⟩, .int .i64 0, .int .i64 0]) 4 40 Tryz.underlying23 HIF.out HZ0.out HZ1.out HZ2.out rfl (by decide) _ _ _ rfl (own_new HO17.out _) ⟨W7.heap.size, 0, none⟩ 1 1 [.int .i64 k, .string t, .int .i64 m, .int .i64 (((p : Nat) : Int) + 1)] rfl rfl ?c1x5 ?c2x5 ?c3x5 ?c4x5 ?c5x5 ?_)
                try (case c1x5 => exact fun j u hu => by rw [add_plain, Nat.zero_add]; exact NW.out.c j u hu)
                case c2x5 => first | exact ⟨rfl, rfl, rfl, rfl⟩ | exact tok_one _ _ _ _
                case c3x5 => have := HN64.out; unfold maxLen; omega
                case c4x5 => have := HN64.out; omega
                case c5x5 => have := HK17.out; simp; omega
                intro v8 w8 hown8 hgrow8 _
                have NO7 := own_new HO17.out (Obj.cells #[.int .i64 k, .string t, .int .i64 m, .int .i64 (((p : Nat) : Int) + 1)] 40)
                have HO18 := Lib.hid (show w8.ownsRow K 40 4 v8 (n + 1) (flat tkC (L ++ [⟨k, t, m, ((p : Nat) : Int) + 1⟩])) by rw [flat_snoc]; exact hown8)
                have HG18 := Lib.hid (row_grown (HG17.out.keep (bel_new (Obj.cells #[.int .i64 k, .string t, .int .i64 m, .int .i64 (((p : Nat) : Int) + 1)] 40))) hgrow8 (own_row NO7 HGK.out))
                have HH18 := Lib.hid (row_grown (HH17.out.keep (bel_new (Obj.cells #[.int .i64 k, .string t, .int .i64 m, .int .i64 (((p : Nat) : Int) + 1)] 40))) hgrow8 (own_row NO7 HHK.out))
                have HU18 := Lib.hid (row_grown (HU17.out.keep (bel_new (Obj.cells #[.int .i64 k, .string t, .int .i64 m, .int .i64 (((p : Nat) : Int) + 1)] 40))) hgrow8 (own_row NO7 HUK.out))
                have HB18 := Lib.hid ((HB17.out.alloc HB17.out.size (Obj.cells #[.int .i64 k, .string t, .int .i64 m, .int .i64 (((p : Nat) : Int) + 1)] 40)).grown hgrow8 (by have := HB17.out.size; simp; omega) (fun k hk => by have h1 := (NO7.lt k hk).1; have h2 := HWK.out; omega))
                have HK18 := Lib.hid (show K ≤ w8.heap.size by have h1 := hgrow8.size; rw [World.size_alloc] at h1; have h2 := HK17.out; omega)
                clear hown8 hgrow8 NO7 NW t_0 t_1 t_2 t_3 HT17 HG17 HH17 HU17 HO17 HB17 HK17 g_0 g_1 g_2 g_3 g_z
                obtain ⟨a8, c8, hv8, _⟩ := ins_own HO18.out
                subst hv8
                have g_0 := HG18.out.c 0 _ rfl
                have g_1 := HG18.out.c 1 _ rfl
                have g_2 := HG18.out.c 2 _ rfl
                have g_3 := HG18.out.c 3 _ rfl
                have g_z := HG18.out.fz
                go_upto_region 21 with fail
                obtain ⟨W9, hW9⟩ : ∃ x, x = (w8.setCell ⟨g, 1, none⟩ (.slice a8 (n + 1) c8)) := ⟨_, rfl⟩
                have HG19 := Lib.hid (show RowAt W9 g [.int .i64 ((p / 2) : Nat), (.slice a8 (n + 1) c8), .bool false, .string ⟨#[]⟩] by rw [hW9]; exact row_set HG18.out 1 (by simp) _)
                have HH19 := Lib.hid (show RowAt W9 h [.int .i64 0, .slice none 0 0, .bool false, .string ⟨#[]⟩] by rw [hW9]; exact row_at HH18.out hgh _ _)
                have HU19 := Lib.hid (show RowAt W9 u [.int .i64 0, .int .i64 0, .int .i64 0] by rw [hW9]; exact row_at HU18.out hgu _ _)
                have HO19 := Lib.hid (show W9.ownsRow K 40 4 (.slice a8 (n + 1) c8) (n + 1) (flat tkC (L ++ [⟨k, t, m, ((p : Nat) : Int) + 1⟩])) by rw [hW9]; exact own_cell HO18.out (.inl HGK.out) _ _)
                have HB19 := Lib.hid (show Below w.heap.size w W9 by rw [hW9]; exact bel_cell HB18.out HWG.out _ _)
                have HK19 := Lib.hid (show K ≤ W9.heap.size by rw [hW9, World.size_setCell]; exact HK18.out)
                rw [← hW9]
                clear hW9 HG18 HH18 HU18 HO18 HB18 HK18 g_0 g_1 g_2 g_3 g_z
                have HLE := Lib.hid (HRL.out HQ.out)
                have a1 : IntKind.i64.wrap ((p : Int) + (l : Int)) = ((p + l : Nat) : Int) := by
                  have h1 := HLE.out
                  have h2 := HS.out
                  rw [show (p : Int) + (l : Int) = ((p + l : Nat) : Int) by omega]
                  exact IntWalk.i64_in _ (by omega)
                go_wp2_with fail
                refine (HBL.out _ (p + l) (by have h1 := HLE.out; omega)).mono ?_
                rintro e w20 ⟨rfl, hb⟩
                have HG20 := Lib.hid (HG19.out.keep hb)
                have HH20 := Lib.hid (HH19.out.keep hb)
                have HU20 := Lib.hid (HU19.out.keep hb)
                have HO20 := Lib.hid (own_keep HO19.out hb)
                have HB20 := Lib.hid (HB19.out.trans (hb.mono HB19.out.size))
                have HK20 := Lib.hid (Nat.le_trans HK19.out hb.size)
                clear hb HG19 HH19 HU19 HO19 HB19 HK19
                have HBK := Lib.hid (blank_le s (p + l) (by have h1 := HLE.out; omega))
                clear HBX HBO nbg nbh nbu
                go_wp2_with fail
                go_roundw
                case rel => exact ⟨blankN s (p + l), f, n + 1, L ++ [⟨k, t, m, p + 1⟩], (p / 2), (.slice a8 (n + 1) c8), rfl, HBK.out.2, Lib.hid ⟨by have h1 := HBK.out; have h2 := HLE.out; have h3 := HFU.out; omega, by rw [HST.out, if_neg (by rw [HQ.out]; simp)], by simp [HLN.out], by have h1 := HN64.out; have h2 := HNN.out; omega, HG20.out, HH20.out, HU20.out, HO20.out, HB20.out, HK20.out⟩⟩
                case measure =>
                  have h1 := HBK.out
                  have h2 := HLE.out
                  simp [intOf]
                  omega
              · go_upto_region 17 with fail
                rw [← hW6]
                try rw [← hb6]
                clear hW6 hb6 RB B6 sz6 HG6 HH6 HU6 HO6 HB6 HK6 HO7 HBX HBO nbg nbh nbu HT7
                have tq : (q != 0) = true := by simpa using hq
                have HQ := Lib.hid hq
                clear hq
                go_wp2_with fail
                have HY := Lib.hid (show scanS s = badS p q by rw [HST.out, if_pos HQ.out])
                refine (HFA.out _ p (q) (by omega)).mono ?_
                rintro e w8 ⟨rfl, hb⟩
                have HG8 := Lib.hid (HG7.out.keep hb)
                have HH8 := Lib.hid (HH7.out.keep hb)
                have HU8 := Lib.hid (HU7.out.keep hb)
                have HB8 := Lib.hid (HB7.out.trans (hb.mono HB7.out.size))
                have HK8 := Lib.hid (Nat.le_trans HK7.out hb.size)
                clear hb HG7 HH7 HU7 HB7 HK7
                have r_0 := HH8.out.c 0 _ rfl
                have r_1 := HH8.out.c 1 _ rfl
                have r_2 := HH8.out.c 2 _ rfl
                have r_3 := HH8.out.c 3 _ rfl
                have r_z := HH8.out.fz
                have q_0 := HU8.out.c 0 _ rfl
                have q_1 := HU8.out.c 1 _ rfl
                have q_2 := HU8.out.c 2 _ rfl
                have q_z := HU8.out.fz
                go_wp2_with fail
                have hs1 := (HH8.out).setRow [.int .i64 0, .slice none 0 0, .bool false, .string ⟨#[]⟩] rfl
                have hs2 := ((HU8.out).other hhu [.int .i64 0, .slice none 0 0, .bool false, .string ⟨#[]⟩]).setRow [.int .i64 (q), .int .i64 0, .int .i64 (((p : Nat) : Int) + 1)] rfl
                have hs3 := hs1.other huh [.int .i64 (q), .int .i64 0, .int .i64 (((p : Nat) : Int) + 1)]
                have hbl := set_below (set_below HB8.out HWH.out [.int .i64 0, .slice none 0 0, .bool false, .string ⟨#[]⟩]) HWU.out [.int .i64 (q), .int .i64 0, .int .i64 (((p : Nat) : Int) + 1)]
                rw [sc4, sc3] at hs2 hs3 hbl
                clear hs1
                have y0 : (((((((w8.setCell ⟨h, 0, none⟩ (.int .i64 0)).setCell ⟨h, 1, none⟩ (.slice none 0 0)).setCell ⟨h, 2, none⟩ (.bool false)).setCell ⟨h, 3, none⟩ (.string ⟨#[]⟩)).setCell ⟨u, 0, none⟩ (.int .i64 (q))).setCell ⟨u, 1, none⟩ (.int .i64 0)).setCell ⟨u, 2, none⟩ (.int .i64 (((p : Nat) : Int) + 1))).cell? ⟨h, 0, none⟩ = some (.int .i64 0) := hs3.c 0 _ rfl
                have y1 : (((((((w8.setCell ⟨h, 0, none⟩ (.int .i64 0)).setCell ⟨h, 1, none⟩ (.slice none 0 0)).setCell ⟨h, 2, none⟩ (.bool false)).setCell ⟨h, 3, none⟩ (.string ⟨#[]⟩)).setCell ⟨u, 0, none⟩ (.int .i64 (q))).setCell ⟨u, 1, none⟩ (.int .i64 0)).setCell ⟨u, 2, none⟩ (.int .i64 (((p : Nat) : Int) + 1))).cell? ⟨h, 1, none⟩ = some (.slice none 0 0) := hs3.c 1 _ rfl
                have y2 : (((((((w8.setCell ⟨h, 0, none⟩ (.int .i64 0)).setCell ⟨h, 1, none⟩ (.slice none 0 0)).setCell ⟨h, 2, none⟩ (.bool false)).setCell ⟨h, 3, none⟩ (.string ⟨#[]⟩)).setCell ⟨u, 0, none⟩ (.int .i64 (q))).setCell ⟨u, 1, none⟩ (.int .i64 0)).setCell ⟨u, 2, none⟩ (.int .i64 (((p : Nat) : Int) + 1))).cell? ⟨h, 2, none⟩ = some (.bool false) := hs3.c 2 _ rfl
                have y3 : (((((((w8.setCell ⟨h, 0, none⟩ (.int .i64 0)).setCell ⟨h, 1, none⟩ (.slice none 0 0)).setCell ⟨h, 2, none⟩ (.bool false)).setCell ⟨h, 3, none⟩ (.string ⟨#[]⟩)).setCell ⟨u, 0, none⟩ (.int .i64 (q))).setCell ⟨u, 1, none⟩ (.int .i64 0)).setCell ⟨u, 2, none⟩ (.int .i64 (((p : Nat) : Int) + 1))).cell? ⟨h, 3, none⟩ = some (.string ⟨#[]⟩) := hs3.c 3 _ rfl
                have z0 : (((((((w8.setCell ⟨h, 0, none⟩ (.int .i64 0)).setCell ⟨h, 1, none⟩ (.slice none 0 0)).setCell ⟨h, 2, none⟩ (.bool false)).setCell ⟨h, 3, none⟩ (.string ⟨#[]⟩)).setCell ⟨u, 0, none⟩ (.int .i64 (q))).setCell ⟨u, 1, none⟩ (.int .i64 0)).setCell ⟨u, 2, none⟩ (.int .i64 (((p : Nat) : Int) + 1))).cell? ⟨u, 0, none⟩ = some (.int .i64 (q)) := hs2.c 0 _ rfl
                have z1 : (((((((w8.setCell ⟨h, 0, none⟩ (.int .i64 0)).setCell ⟨h, 1, none⟩ (.slice none 0 0)).setCell ⟨h, 2, none⟩ (.bool false)).setCell ⟨h, 3, none⟩ (.string ⟨#[]⟩)).setCell ⟨u, 0, none⟩ (.int .i64 (q))).setCell ⟨u, 1, none⟩ (.int .i64 0)).setCell ⟨u, 2, none⟩ (.int .i64 (((p : Nat) : Int) + 1))).cell? ⟨u, 1, none⟩ = some (.int .i64 0) := hs2.c 1 _ rfl
                have z2 : (((((((w8.setCell ⟨h, 0, none⟩ (.int .i64 0)).setCell ⟨h, 1, none⟩ (.slice none 0 0)).setCell ⟨h, 2, none⟩ (.bool false)).setCell ⟨h, 3, none⟩ (.string ⟨#[]⟩)).setCell ⟨u, 0, none⟩ (.int .i64 (q))).setCell ⟨u, 1, none⟩ (.int .i64 0)).setCell ⟨u, 2, none⟩ (.int .i64 (((p : Nat) : Int) + 1))).cell? ⟨u, 2, none⟩ = some (.int .i64 (((p : Nat) : Int) + 1)) := hs2.c 2 _ rfl
                (first | rw [Exit.noGoto_ret] | (simp only [Exit.inBlock, Exit.then]; rw [Exit.noGoto_ret]) | (simp only [Exit.inBlock, Exit.then]))
                refine bodyPost_ret (scan_res _ h u _ _ _ _ _ _ _ _ _ _ rfl rfl y0 y1 y2 y3 z0 z1 z2) rfl ?_
                rw [HY.out]
                exact ⟨⟨none, 0, rfl, nil_tok _ _⟩, hbl⟩
            · obtain ⟨E, hEE⟩ : ∃ E, E = indE p := ⟨_, rfl⟩
              rw [← hEE] at HCI hE HEQ
              have HE := Lib.hid hE
              have tE : (E != 0) = true := by simpa using hE
              clear hE hEE
              have g_0 := HG3.out.c 0 _ rfl
              have g_1 := HG3.out.c 1 _ rfl
              have g_2 := HG3.out.c 2 _ rfl
              have g_3 := HG3.out.c 3 _ rfl
              have g_z := HG3.out.fz
              go_wp2_with fail
              clear g_0 g_1 g_2 g_3 g_z
              refine (HCI.out _).mono ?_
              rintro e w4 ⟨rfl, hb⟩
              have HG4 := Lib.hid (HG3.out.keep hb)
              have HH4 := Lib.hid (HH3.out.keep hb)
              have HU4 := Lib.hid (HU3.out.keep hb)
              have HO4 := Lib.hid (own_keep HO3.out hb)
              have HB4 := Lib.hid (HB3.out.trans (hb.mono HB3.out.size))
              have HK4 := Lib.hid (Nat.le_trans HK3.out hb.size)
              clear hb HG3 HH3 HU3 HO3 HB3 HK3
              clear HO4
              go_wp2_with fail
              have HY := Lib.hid (show scanS s = badS p E by rw [HEQ.out, if_pos ⟨HLN.out, HE.out⟩])
              refine (HFA.out _ p (E) (by omega)).mono ?_
              rintro e w5 ⟨rfl, hb⟩
              have HG5 := Lib.hid (HG4.out.keep hb)
              have HH5 := Lib.hid (HH4.out.keep hb)
              have HU5 := Lib.hid (HU4.out.keep hb)
              have HB5 := Lib.hid (HB4.out.trans (hb.mono HB4.out.size))
              have HK5 := Lib.hid (Nat.le_trans HK4.out hb.size)
              clear hb HG4 HH4 HU4 HB4 HK4
              have r_0 := HH5.out.c 0 _ rfl
              have r_1 := HH5.out.c 1 _ rfl
              have r_2 := HH5.out.c 2 _ rfl
              have r_3 := HH5.out.c 3 _ rfl
              have r_z := HH5.out.fz
              have q_0 := HU5.out.c 0 _ rfl
              have q_1 := HU5.out.c 1 _ rfl
              have q_2 := HU5.out.c 2 _ rfl
              have q_z := HU5.out.fz
              go_wp2_with fail
              have hs1 := (HH5.out).setRow [.int .i64 0, .slice none 0 0, .bool false, .string ⟨#[]⟩] rfl
              have hs2 := ((HU5.out).other hhu [.int .i64 0, .slice none 0 0, .bool false, .string ⟨#[]⟩]).setRow [.int .i64 (E), .int .i64 0, .int .i64 (((p : Nat) : Int) + 1)] rfl
              have hs3 := hs1.other huh [.int .i64 (E), .int .i64 0, .int .i64 (((p : Nat) : Int) + 1)]
              have hbl := set_below (set_below HB5.out HWH.out [.int .i64 0, .slice none 0 0, .bool false, .string ⟨#[]⟩]) HWU.out [.int .i64 (E), .int .i64 0, .int .i64 (((p : Nat) : Int) + 1)]
              rw [sc4, sc3] at hs2 hs3 hbl
              clear hs1
              have y0 : (((((((w5.setCell ⟨h, 0, none⟩ (.int .i64 0)).setCell ⟨h, 1, none⟩ (.slice none 0 0)).setCell ⟨h, 2, none⟩ (.bool false)).setCell ⟨h, 3, none⟩ (.string ⟨#[]⟩)).setCell ⟨u, 0, none⟩ (.int .i64 (E))).setCell ⟨u, 1, none⟩ (.int .i64 0)).setCell ⟨u, 2, none⟩ (.int .i64 (((p : Nat) : Int) + 1))).cell? ⟨h, 0, none⟩ = some (.int .i64 0) := hs3.c 0 _ rfl
              have y1 : (((((((w5.setCell ⟨h, 0, none⟩ (.int .i64 0)).setCell ⟨h, 1, none⟩ (.slice none 0 0)).setCell ⟨h, 2, none⟩ (.bool false)).setCell ⟨h, 3, none⟩ (.string ⟨#[]⟩)).setCell ⟨u, 0, none⟩ (.int .i64 (E))).setCell ⟨u, 1, none⟩ (.int .i64 0)).setCell ⟨u, 2, none⟩ (.int .i64 (((p : Nat) : Int) + 1))).cell? ⟨h, 1, none⟩ = some (.slice none 0 0) := hs3.c 1 _ rfl
              have y2 : (((((((w5.setCell ⟨h, 0, none⟩ (.int .i64 0)).setCell ⟨h, 1, none⟩ (.slice none 0 0)).setCell ⟨h, 2, none⟩ (.bool false)).setCell ⟨h, 3, none⟩ (.string ⟨#[]⟩)).setCell ⟨u, 0, none⟩ (.int .i64 (E))).setCell ⟨u, 1, none⟩ (.int .i64 0)).setCell ⟨u, 2, none⟩ (.int .i64 (((p : Nat) : Int) + 1))).cell? ⟨h, 2, none⟩ = some (.bool false) := hs3.c 2 _ rfl
              have y3 : (((((((w5.setCell ⟨h, 0, none⟩ (.int .i64 0)).setCell ⟨h, 1, none⟩ (.slice none 0 0)).setCell ⟨h, 2, none⟩ (.bool false)).setCell ⟨h, 3, none⟩ (.string ⟨#[]⟩)).setCell ⟨u, 0, none⟩ (.int .i64 (E))).setCell ⟨u, 1, none⟩ (.int .i64 0)).setCell ⟨u, 2, none⟩ (.int .i64 (((p : Nat) : Int) + 1))).cell? ⟨h, 3, none⟩ = some (.string ⟨#[]⟩) := hs3.c 3 _ rfl
              have z0 : (((((((w5.setCell ⟨h, 0, none⟩ (.int .i64 0)).setCell ⟨h, 1, none⟩ (.slice none 0 0)).setCell ⟨h, 2, none⟩ (.bool false)).setCell ⟨h, 3, none⟩ (.string ⟨#[]⟩)).setCell ⟨u, 0, none⟩ (.int .i64 (E))).setCell ⟨u, 1, none⟩ (.int .i64 0)).setCell ⟨u, 2, none⟩ (.int .i64 (((p : Nat) : Int) + 1))).cell? ⟨u, 0, none⟩ = some (.int .i64 (E)) := hs2.c 0 _ rfl
              have z1 : (((((((w5.setCell ⟨h, 0, none⟩ (.int .i64 0)).setCell ⟨h, 1, none⟩ (.slice none 0 0)).setCell ⟨h, 2, none⟩ (.bool false)).setCell ⟨h, 3, none⟩ (.string ⟨#[]⟩)).setCell ⟨u, 0, none⟩ (.int .i64 (E))).setCell ⟨u, 1, none⟩ (.int .i64 0)).setCell ⟨u, 2, none⟩ (.int .i64 (((p : Nat) : Int) + 1))).cell? ⟨u, 1, none⟩ = some (.int .i64 0) := hs2.c 1 _ rfl
              have z2 : (((((((w5.setCell ⟨h, 0, none⟩ (.int .i64 0)).setCell ⟨h, 1, none⟩ (.slice none 0 0)).setCell ⟨h, 2, none⟩ (.bool false)).setCell ⟨h, 3, none⟩ (.string ⟨#[]⟩)).setCell ⟨u, 0, none⟩ (.int .i64 (E))).setCell ⟨u, 1, none⟩ (.int .i64 0)).setCell ⟨u, 2, none⟩ (.int .i64 (((p : Nat) : Int) + 1))).cell? ⟨u, 2, none⟩ = some (.int .i64 (((p : Nat) : Int) + 1)) := hs2.c 2 _ rfl
              (first | rw [Exit.noGoto_ret] | (simp only [Exit.inBlock, Exit.then]; rw [Exit.noGoto_ret]) | (simp only [Exit.inBlock, Exit.then]))
              refine bodyPost_ret (scan_res _ h u _ _ _ _ _ _ _ _ _ _ rfl rfl y0 y1 y2 y3 z0 z1 z2) rfl ?_
              rw [HY.out]
              exact ⟨⟨none, 0, rfl, nil_tok _ _⟩, hbl⟩
          · have tn : ((n : Int) == 0) = false := by rw [beq_eq_false_iff_ne]; omega
            by_cases h64 : n = 64
            · subst h64
              have g_0 := HG3.out.c 0 _ rfl
              have g_1 := HG3.out.c 1 _ rfl
              have g_2 := HG3.out.c 2 _ rfl
              have g_3 := HG3.out.c 3 _ rfl
              have g_z := HG3.out.fz
              go_wp2_with fail
              clear g_0 g_1 g_2 g_3 g_z
              clear HO3
              have HY := Lib.hid (show scanS s = badS p 7 by rw [HEQ.out, if_neg (by rw [HLN.out]; simp), if_pos HLN.out])
              refine (HFA.out _ p (7) (by omega)).mono ?_
              rintro e w4 ⟨rfl, hb⟩
              have HG4 := Lib.hid (HG3.out.keep hb)
              have HH4 := Lib.hid (HH3.out.keep hb)
              have HU4 := Lib.hid (HU3.out.keep hb)
              have HB4 := Lib.hid (HB3.out.trans (hb.mono HB3.out.size))
              have HK4 := Lib.hid (Nat.le_trans HK3.out hb.size)
              clear hb HG3 HH3 HU3 HB3 HK3
              have r_0 := HH4.out.c 0 _ rfl
              have r_1 := HH4.out.c 1 _ rfl
              have r_2 := HH4.out.c 2 _ rfl
              have r_3 := HH4.out.c 3 _ rfl
              have r_z := HH4.out.fz
              have q_0 := HU4.out.c 0 _ rfl
              have q_1 := HU4.out.c 1 _ rfl
              have q_2 := HU4.out.c 2 _ rfl
              have q_z := HU4.out.fz
              go_wp2_with fail
              have hs1 := (HH4.out).setRow [.int .i64 0, .slice none 0 0, .bool false, .string ⟨#[]⟩] rfl
              have hs2 := ((HU4.out).other hhu [.int .i64 0, .slice none 0 0, .bool false, .string ⟨#[]⟩]).setRow [.int .i64 (7), .int .i64 0, .int .i64 (((p : Nat) : Int) + 1)] rfl
              have hs3 := hs1.other huh [.int .i64 (7), .int .i64 0, .int .i64 (((p : Nat) : Int) + 1)]
              have hbl := set_below (set_below HB4.out HWH.out [.int .i64 0, .slice none 0 0, .bool false, .string ⟨#[]⟩]) HWU.out [.int .i64 (7), .int .i64 0, .int .i64 (((p : Nat) : Int) + 1)]
              rw [sc4, sc3] at hs2 hs3 hbl
              clear hs1
              have y0 : (((((((w4.setCell ⟨h, 0, none⟩ (.int .i64 0)).setCell ⟨h, 1, none⟩ (.slice none 0 0)).setCell ⟨h, 2, none⟩ (.bool false)).setCell ⟨h, 3, none⟩ (.string ⟨#[]⟩)).setCell ⟨u, 0, none⟩ (.int .i64 (7))).setCell ⟨u, 1, none⟩ (.int .i64 0)).setCell ⟨u, 2, none⟩ (.int .i64 (((p : Nat) : Int) + 1))).cell? ⟨h, 0, none⟩ = some (.int .i64 0) := hs3.c 0 _ rfl
              have y1 : (((((((w4.setCell ⟨h, 0, none⟩ (.int .i64 0)).setCell ⟨h, 1, none⟩ (.slice none 0 0)).setCell ⟨h, 2, none⟩ (.bool false)).setCell ⟨h, 3, none⟩ (.string ⟨#[]⟩)).setCell ⟨u, 0, none⟩ (.int .i64 (7))).setCell ⟨u, 1, none⟩ (.int .i64 0)).setCell ⟨u, 2, none⟩ (.int .i64 (((p : Nat) : Int) + 1))).cell? ⟨h, 1, none⟩ = some (.slice none 0 0) := hs3.c 1 _ rfl
              have y2 : (((((((w4.setCell ⟨h, 0, none⟩ (.int .i64 0)).setCell ⟨h, 1, none⟩ (.slice none 0 0)).setCell ⟨h, 2, none⟩ (.bool false)).setCell ⟨h, 3, none⟩ (.string ⟨#[]⟩)).setCell ⟨u, 0, none⟩ (.int .i64 (7))).setCell ⟨u, 1, none⟩ (.int .i64 0)).setCell ⟨u, 2, none⟩ (.int .i64 (((p : Nat) : Int) + 1))).cell? ⟨h, 2, none⟩ = some (.bool false) := hs3.c 2 _ rfl
              have y3 : (((((((w4.setCell ⟨h, 0, none⟩ (.int .i64 0)).setCell ⟨h, 1, none⟩ (.slice none 0 0)).setCell ⟨h, 2, none⟩ (.bool false)).setCell ⟨h, 3, none⟩ (.string ⟨#[]⟩)).setCell ⟨u, 0, none⟩ (.int .i64 (7))).setCell ⟨u, 1, none⟩ (.int .i64 0)).setCell ⟨u, 2, none⟩ (.int .i64 (((p : Nat) : Int) + 1))).cell? ⟨h, 3, none⟩ = some (.string ⟨#[]⟩) := hs3.c 3 _ rfl
              have z0 : (((((((w4.setCell ⟨h, 0, none⟩ (.int .i64 0)).setCell ⟨h, 1, none⟩ (.slice none 0 0)).setCell ⟨h, 2, none⟩ (.bool false)).setCell ⟨h, 3, none⟩ (.string ⟨#[]⟩)).setCell ⟨u, 0, none⟩ (.int .i64 (7))).setCell ⟨u, 1, none⟩ (.int .i64 0)).setCell ⟨u, 2, none⟩ (.int .i64 (((p : Nat) : Int) + 1))).cell? ⟨u, 0, none⟩ = some (.int .i64 (7)) := hs2.c 0 _ rfl
              have z1 : (((((((w4.setCell ⟨h, 0, none⟩ (.int .i64 0)).setCell ⟨h, 1, none⟩ (.slice none 0 0)).setCell ⟨h, 2, none⟩ (.bool false)).setCell ⟨h, 3, none⟩ (.string ⟨#[]⟩)).setCell ⟨u, 0, none⟩ (.int .i64 (7))).setCell ⟨u, 1, none⟩ (.int .i64 0)).setCell ⟨u, 2, none⟩ (.int .i64 (((p : Nat) : Int) + 1))).cell? ⟨u, 1, none⟩ = some (.int .i64 0) := hs2.c 1 _ rfl
              have z2 : (((((((w4.setCell ⟨h, 0, none⟩ (.int .i64 0)).setCell ⟨h, 1, none⟩ (.slice none 0 0)).setCell ⟨h, 2, none⟩ (.bool false)).setCell ⟨h, 3, none⟩ (.string ⟨#[]⟩)).setCell ⟨u, 0, none⟩ (.int .i64 (7))).setCell ⟨u, 1, none⟩ (.int .i64 0)).setCell ⟨u, 2, none⟩ (.int .i64 (((p : Nat) : Int) + 1))).cell? ⟨u, 2, none⟩ = some (.int .i64 (((p : Nat) : Int) + 1)) := hs2.c 2 _ rfl
              (first | rw [Exit.noGoto_ret] | (simp only [Exit.inBlock, Exit.then]; rw [Exit.noGoto_ret]) | (simp only [Exit.inBlock, Exit.then]))
              refine bodyPost_ret (scan_res _ h u _ _ _ _ _ _ _ _ _ _ rfl rfl y0 y1 y2 y3 z0 z1 z2) rfl ?_
              rw [HY.out]
              exact ⟨⟨none, 0, rfl, nil_tok _ _⟩, hbl⟩
            · have t64 : ((n : Int) == 64) = false := by rw [beq_eq_false_iff_ne]; omega
              have HNN := Lib.hid (show n < 64 by have := HN64.out; omega)
              have HN0 := Lib.hid hn0
              have H64 := Lib.hid h64
              clear hn0 h64
              have HST := Lib.hid (show scanS s = if q ≠ 0 then badS p q else scanF f s (blankN s (p + l)) (L ++ [⟨k, t, m, p + 1⟩]) i by rw [HEQ.out, if_neg (by rw [HLN.out]; exact fun h => HN0.out h.1), if_neg (by rw [HLN.out]; exact H64.out), if_neg (show ¬ L.length = 0 by rw [HLN.out]; exact HN0.out)])
              have g_0 := HG3.out.c 0 _ rfl
              have g_1 := HG3.out.c 1 _ rfl
              have g_2 := HG3.out.c 2 _ rfl
              have g_3 := HG3.out.c 3 _ rfl
              have g_z := HG3.out.fz
              go_wp2_with fail
              clear g_0 g_1 g_2 g_3 g_z
              refine (HRT.out _).mono ?_
              rintro e w4 ⟨rfl, hb⟩
              have HG4 := Lib.hid (HG3.out.keep hb)
              have HH4 := Lib.hid (HH3.out.keep hb)
              have HU4 := Lib.hid (HU3.out.keep hb)
              have HO4 := Lib.hid (own_keep HO3.out hb)
              have HB4 := Lib.hid (HB3.out.trans (hb.mono HB3.out.size))
              have HK4 := Lib.hid (Nat.le_trans HK3.out hb.size)
              clear hb HG3 HH3 HU3 HO3 HB3 HK3
              obtain ⟨W6, b, hW6, hb6, RB, B6, sz6⟩ := box1 w4 #[.int .i64 k, .string t, .int .i64 m, .int .i64 0] 40
              have HG5 := Lib.hid (HG4.out.keep B6)
              have HH5 := Lib.hid (HH4.out.keep B6)
              have HU5 := Lib.hid (HU4.out.keep B6)
              have HO5 := Lib.hid (own_keep HO4.out B6)
              have HB5 := Lib.hid (HB4.out.trans (B6.mono HB4.out.size))
              have HK5 := Lib.hid (Nat.le_trans HK4.out B6.size)
              have HT5 := Lib.hid RB
              have HBX := Lib.hid (show w.heap.size ≤ b by rw [hb6]; exact HB4.out.size)
              have nbg : b ≠ g := by have := HG4.out.lt; omega
              have nbh : b ≠ h := by have := HH4.out.lt; omega
              have nbu : b ≠ u := by have := HU4.out.lt; omega
              have HBO := Lib.hid (show (Value.slice a n c).ownBlock ≠ some b by rw [hb6]; exact own_ne_new HO4.out)
              by_cases hq : q = 0
              · have HQ := Lib.hid hq
                go_upto_region 19 with fail
                rw [← hW6]
                try rw [← hb6]
                clear hW6 hb6 RB B6 sz6 HG4 HH4 HU4 HO4 HB4 HK4
                have t_0 := HT5.out.c 0 _ rfl
                have t_1 := HT5.out.c 1 _ rfl
                have t_2 := HT5.out.c 2 _ rfl
                have t_3 := HT5.out.c 3 _ rfl
                have t_z := HT5.out.fz
                go_upto_region 20 with fail
                obtain ⟨W7, hW7⟩ : ∃ x, x = W6.setCell ⟨b, 3, none⟩ (.int .i64 (((p : Nat) : Int) + 1)) := ⟨_, rfl⟩
                have HT17 := Lib.hid (show RowAt W7 b [.int .i64 k, .string t, .int .i64 m, .int .i64 (((p : Nat) : Int) + 1)] by rw [hW7]; exact row_set HT5.out 3 (by simp) _)
                have HG17 := Lib.hid (show RowAt W7 g [.int .i64 (i : Nat), .slice a n c, .bool false, .string ⟨#[]⟩] by rw [hW7]; exact row_at HG5.out nbg _ _)
                have HH17 := Lib.hid (show RowAt W7 h [.int .i64 0, .slice none 0 0, .bool false, .string ⟨#[]⟩] by rw [hW7]; exact row_at HH5.out nbh _ _)
                have HU17 := Lib.hid (show RowAt W7 u [.int .i64 0, .int .i64 0, .int .i64 0] by rw [hW7]; exact row_at HU5.out nbu _ _)
                have HO17 := Lib.hid (show W7.ownsRow K 40 4 (.slice a n c) n (flat tkC L) by rw [hW7]; exact own_cell HO5.out (.inr HBO.out) _ _)
                have HB17 := Lib.hid (show Below w.heap.size w W7 by rw [hW7]; exact bel_cell HB5.out HBX.out _ _)
                have HK17 := Lib.hid (show K ≤ W7.heap.size by rw [hW7, World.size_setCell]; exact HK5.out)
                rw [← hW7]
                clear hW7 t_0 t_1 t_2 t_3 t_z HG5 HH5 HU5 HO5 HB5 HK5 HT5
                have t_0 := HT17.out.c 0 _ rfl
                have t_1 := HT17.out.c 1 _ rfl
                have t_2 := HT17.out.c 2 _ rfl
                have t_3 := HT17.out.c 3 _ rfl
                have g_0 := HG17.out.c 0 _ rfl
                have g_1 := HG17.out.c 1 _ rfl
                have g_2 := HG17.out.c 2 _ rfl
                have g_3 := HG17.out.c 3 _ rfl
                have g_z := HG17.out.fz
                have NW := Lib.hid (row_fresh W7 #[.int .i64 k, .string t, .int .i64 m, .int .i64 (((p : Nat) : Int) + 1)] 40)
                go_wp2_with (at_builtin; refine wpList_append_own _ rfl _ _ 23 rfl K 40 ia (.agg #[.int .i64 0, .string ⟨#[]⟩, .int .i64 0, .int .i64 0]) 4 40 Tryz.underlying23 HIF.out HZ0.out HZ1.out HZ2.out rfl (by decide) _ _ _ rfl (own_new HO17.out _) ⟨W7.heap.size, 0, none⟩ 1 1 [.int .i64 k, .string t, .int .i64 m, .int .i64 (((p : Nat) : Int) + 1)] rfl rfl ?c1x3 ?c2x3 ?c3x3 ?c4x3 ?c5x3 ?_)
                try (case c1x3 => exact fun j u hu => by rw [add_plain, Nat.zero_add]; exact NW.out.c j u hu)
                case c2x3 => first | exact ⟨rfl, rfl, rfl, rfl⟩ | exact tok_one _ _ _ _
                case c3x3 => have := HN64.out; unfold maxLen; omega
                case c4x3 => have := HN64.out; omega
                case c5x3 => have := HK17.out; simp; omega
                intro v8 w8 hown8 hgrow8 _
                have NO7 := own_new HO17.out (Obj.cells #[.int .i64 k, .string t, .int .i64 m, .int .i64 (((p : Nat) : Int) + 1)] 40)
                have HO18 := Lib.hid (show w8.ownsRow K 40 4 v8 (n + 1) (flat tkC (L ++ [⟨k, t, m, ((p : Nat) : Int) + 1⟩])) by rw [flat_snoc]; exact hown8)
                have HG18 := Lib.hid (row_grown (HG17.out.keep (bel_new (Obj.cells #[.int .i64 k, .string t, .int .i64 m, .int .i64 (((p : Nat) : Int) + 1)] 40))) hgrow8 (own_row NO7 HGK.out))
                have HH18 := Lib.hid (row_grown (HH17.out.keep (bel_new (Obj.cells #[.int .i64 k, .string t, .int .i64 m, .int .i64 (((p : Nat) : Int) + 1)] 40))) hgrow8 (own_row NO7 HHK.out))
                have HU18 := Lib.hid (row_grown (HU17.out.keep (bel_new (Obj.cells #[.int .i64 k, .string t, .int .i64 m, .int .i64 (((p : Nat) : Int) + 1)] 40))) hgrow8 (own_row NO7 HUK.out))
                have HB18 := Lib.hid ((HB17.out.alloc HB17.out.size (Obj.cells #[.int .i64 k, .string t, .int .i64 m, .int .i64 (((p : Nat) : Int) + 1)] 40)).grown hgrow8 (by have := HB17.out.size; simp; omega) (fun k hk => by have h1 := (NO7.lt k hk).1; have h2 := HWK.out; omega))
                have HK18 := Lib.hid (show K ≤ w8.heap.size by have h1 := hgrow8.size; rw [World.size_alloc] at h1; have h2 := HK17.out; omega)
                clear hown8 hgrow8 NO7 NW t_0 t_1 t_2 t_3 HT17 HG17 HH17 HU17 HO17 HB17 HK17 g_0 g_1 g_2 g_3 g_z
                obtain ⟨a8, c8, hv8, _⟩ := ins_own HO18.out
                subst hv8
                have g_0 := HG18.out.c 0 _ rfl
                have g_1 := HG18.out.c 1 _ rfl
                have g_2 := HG18.out.c 2 _ rfl
                have g_3 := HG18.out.c 3 _ rfl
                have g_z := HG18.out.fz
                go_upto_region 21 with fail
                obtain ⟨W9, hW9⟩ : ∃ x, x = (w8.setCell ⟨g, 1, none⟩ (.slice a8 (n + 1) c8)) := ⟨_, rfl⟩
                have HG19 := Lib.hid (show RowAt W9 g [.int .i64 (i : Nat), (.slice a8 (n + 1) c8), .bool false, .string ⟨#[]⟩] by rw [hW9]; exact row_set HG18.out 1 (by simp) _)
                have HH19 := Lib.hid (show RowAt W9 h [.int .i64 0, .slice none 0 0, .bool false, .string ⟨#[]⟩] by rw [hW9]; exact row_at HH18.out hgh _ _)
                have HU19 := Lib.hid (show RowAt W9 u [.int .i64 0, .int .i64 0, .int .i64 0] by rw [hW9]; exact row_at HU18.out hgu _ _)
                have HO19 := Lib.hid (show W9.ownsRow K 40 4 (.slice a8 (n + 1) c8) (n + 1) (flat tkC (L ++ [⟨k, t, m, ((p : Nat) : Int) + 1⟩])) by rw [hW9]; exact own_cell HO18.out (.inl HGK.out) _ _)
                have HB19 := Lib.hid (show Below w.heap.size w W9 by rw [hW9]; exact bel_cell HB18.out HWG.out _ _)
                have HK19 := Lib.hid (show K ≤ W9.heap.size by rw [hW9, World.size_setCell]; exact HK18.out)
                rw [← hW9]
                clear hW9 HG18 HH18 HU18 HO18 HB18 HK18 g_0 g_1 g_2 g_3 g_z
                have HLE := Lib.hid (HRL.out HQ.out)
                have a1 : IntKind.i64.wrap ((p : Int) + (l : Int)) = ((p + l : Nat) : Int) := by
                  have h1 := HLE.out
                  have h2 := HS.out
                  rw [show (p : Int) + (l : Int) = ((p + l : Nat) : Int) by omega]
                  exact IntWalk.i64_in _ (by omega)
                go_wp2_with fail
                refine (HBL.out _ (p + l) (by have h1 := HLE.out; omega)).mono ?_
                rintro e w20 ⟨rfl, hb⟩
                have HG20 := Lib.hid (HG19.out.keep hb)
                have HH20 := Lib.hid (HH19.out.keep hb)
                have HU20 := Lib.hid (HU19.out.keep hb)
                have HO20 := Lib.hid (own_keep HO19.out hb)
                have HB20 := Lib.hid (HB19.out.trans (hb.mono HB19.out.size))
                have HK20 := Lib.hid (Nat.le_trans HK19.out hb.size)
                clear hb HG19 HH19 HU19 HO19 HB19 HK19
                have HBK := Lib.hid (blank_le s (p + l) (by have h1 := HLE.out; omega))
                clear HBX HBO nbg nbh nbu
                go_wp2_with fail
                go_roundw
                case rel => exact ⟨blankN s (p + l), f, n + 1, L ++ [⟨k, t, m, p + 1⟩], i, (.slice a8 (n + 1) c8), rfl, HBK.out.2, Lib.hid ⟨by have h1 := HBK.out; have h2 := HLE.out; have h3 := HFU.out; omega, by rw [HST.out, if_neg (by rw [HQ.out]; simp)], by simp [HLN.out], by have h1 := HN64.out; have h2 := HNN.out; omega, HG20.out, HH20.out, HU20.out, HO20.out, HB20.out, HK20.out⟩⟩
                case measure =>
                  have h1 := HBK.out
                  have h2 := HLE.out
                  simp [intOf]
                  omega
              · go_upto_region 17 with fail
                rw [← hW6]
                try rw [← hb6]
                clear hW6 hb6 RB B6 sz6 HG4 HH4 HU4 HO4 HB4 HK4 HO5 HBX HBO nbg nbh nbu HT5
                have tq : (q != 0) = true := by simpa using hq
                have HQ := Lib.hid hq
                clear hq
                go_wp2_with fail
                have HY := Lib.hid (show scanS s = badS p q by rw [HST.out, if_pos HQ.out])
                refine (HFA.out _ p (q) (by omega)).mono ?_
                rintro e w6 ⟨rfl, hb⟩
                have HG6 := Lib.hid (HG5.out.keep hb)
                have HH6 := Lib.hid (HH5.out.keep hb)
                have HU6 := Lib.hid (HU5.out.keep hb)
                have HB6 := Lib.hid (HB5.out.trans (hb.mono HB5.out.size))
                have HK6 := Lib.hid (Nat.le_trans HK5.out hb.size)
                clear hb HG5 HH5 HU5 HB5 HK5
                have r_0 := HH6.out.c 0 _ rfl
                have r_1 := HH6.out.c 1 _ rfl
                have r_2 := HH6.out.c 2 _ rfl
                have r_3 := HH6.out.c 3 _ rfl
                have r_z := HH6.out.fz
                have q_0 := HU6.out.c 0 _ rfl
                have q_1 := HU6.out.c 1 _ rfl
                have q_2 := HU6.out.c 2 _ rfl
                have q_z := HU6.out.fz
                go_wp2_with fail
                have hs1 := (HH6.out).setRow [.int .i64 0, .slice none 0 0, .bool false, .string ⟨#[]⟩] rfl
                have hs2 := ((HU6.out).other hhu [.int .i64 0, .slice none 0 0, .bool false, .string ⟨#[]⟩]).setRow [.int .i64 (q), .int .i64 0, .int .i64 (((p : Nat) : Int) + 1)] rfl
                have hs3 := hs1.other huh [.int .i64 (q), .int .i64 0, .int .i64 (((p : Nat) : Int) + 1)]
                have hbl := set_below (set_below HB6.out HWH.out [.int .i64 0, .slice none 0 0, .bool false, .string ⟨#[]⟩]) HWU.out [.int .i64 (q), .int .i64 0, .int .i64 (((p : Nat) : Int) + 1)]
                rw [sc4, sc3] at hs2 hs3 hbl
                clear hs1
                have y0 : (((((((w6.setCell ⟨h, 0, none⟩ (.int .i64 0)).setCell ⟨h, 1, none⟩ (.slice none 0 0)).setCell ⟨h, 2, none⟩ (.bool false)).setCell ⟨h, 3, none⟩ (.string ⟨#[]⟩)).setCell ⟨u, 0, none⟩ (.int .i64 (q))).setCell ⟨u, 1, none⟩ (.int .i64 0)).setCell ⟨u, 2, none⟩ (.int .i64 (((p : Nat) : Int) + 1))).cell? ⟨h, 0, none⟩ = some (.int .i64 0) := hs3.c 0 _ rfl
                have y1 : (((((((w6.setCell ⟨h, 0, none⟩ (.int .i64 0)).setCell ⟨h, 1, none⟩ (.slice none 0 0)).setCell ⟨h, 2, none⟩ (.bool false)).setCell ⟨h, 3, none⟩ (.string ⟨#[]⟩)).setCell ⟨u, 0, none⟩ (.int .i64 (q))).setCell ⟨u, 1, none⟩ (.int .i64 0)).setCell ⟨u, 2, none⟩ (.int .i64 (((p : Nat) : Int) + 1))).cell? ⟨h, 1, none⟩ = some (.slice none 0 0) := hs3.c 1 _ rfl
                have y2 : (((((((w6.setCell ⟨h, 0, none⟩ (.int .i64 0)).setCell ⟨h, 1, none⟩ (.slice none 0 0)).setCell ⟨h, 2, none⟩ (.bool false)).setCell ⟨h, 3, none⟩ (.string ⟨#[]⟩)).setCell ⟨u, 0, none⟩ (.int .i64 (q))).setCell ⟨u, 1, none⟩ (.int .i64 0)).setCell ⟨u, 2, none⟩ (.int .i64 (((p : Nat) : Int) + 1))).cell? ⟨h, 2, none⟩ = some (.bool false) := hs3.c 2 _ rfl
                have y3 : (((((((w6.setCell ⟨h, 0, none⟩ (.int .i64 0)).setCell ⟨h, 1, none⟩ (.slice none 0 0)).setCell ⟨h, 2, none⟩ (.bool false)).setCell ⟨h, 3, none⟩ (.string ⟨#[]⟩)).setCell ⟨u, 0, none⟩ (.int .i64 (q))).setCell ⟨u, 1, none⟩ (.int .i64 0)).setCell ⟨u, 2, none⟩ (.int .i64 (((p : Nat) : Int) + 1))).cell? ⟨h, 3, none⟩ = some (.string ⟨#[]⟩) := hs3.c 3 _ rfl
                have z0 : (((((((w6.setCell ⟨h, 0, none⟩ (.int .i64 0)).setCell ⟨h, 1, none⟩ (.slice none 0 0)).setCell ⟨h, 2, none⟩ (.bool false)).setCell ⟨h, 3, none⟩ (.string ⟨#[]⟩)).setCell ⟨u, 0, none⟩ (.int .i64 (q))).setCell ⟨u, 1, none⟩ (.int .i64 0)).setCell ⟨u, 2, none⟩ (.int .i64 (((p : Nat) : Int) + 1))).cell? ⟨u, 0, none⟩ = some (.int .i64 (q)) := hs2.c 0 _ rfl
                have z1 : (((((((w6.setCell ⟨h, 0, none⟩ (.int .i64 0)).setCell ⟨h, 1, none⟩ (.slice none 0 0)).setCell ⟨h, 2, none⟩ (.bool false)).setCell ⟨h, 3, none⟩ (.string ⟨#[]⟩)).setCell ⟨u, 0, none⟩ (.int .i64 (q))).setCell ⟨u, 1, none⟩ (.int .i64 0)).setCell ⟨u, 2, none⟩ (.int .i64 (((p : Nat) : Int) + 1))).cell? ⟨u, 1, none⟩ = some (.int .i64 0) := hs2.c 1 _ rfl
                have z2 : (((((((w6.setCell ⟨h, 0, none⟩ (.int .i64 0)).setCell ⟨h, 1, none⟩ (.slice none 0 0)).setCell ⟨h, 2, none⟩ (.bool false)).setCell ⟨h, 3, none⟩ (.string ⟨#[]⟩)).setCell ⟨u, 0, none⟩ (.int .i64 (q))).setCell ⟨u, 1, none⟩ (.int .i64 0)).setCell ⟨u, 2, none⟩ (.int .i64 (((p : Nat) : Int) + 1))).cell? ⟨u, 2, none⟩ = some (.int .i64 (((p : Nat) : Int) + 1)) := hs2.c 2 _ rfl
                (first | rw [Exit.noGoto_ret] | (simp only [Exit.inBlock, Exit.then]; rw [Exit.noGoto_ret]) | (simp only [Exit.inBlock, Exit.then]))
                refine bodyPost_ret (scan_res _ h u _ _ _ _ _ _ _ _ _ _ rfl rfl y0 y1 y2 y3 z0 z1 z2) rfl ?_
                rw [HY.out]
                exact ⟨⟨none, 0, rfl, nil_tok _ _⟩, hbl⟩
      · have HY0 := Lib.hid (show scanS s = colonS i L ⟨#[]⟩ by rw [heq]; exact scan_stop hlt)
        have k2 : ¬ (p : Int) < (s.size : Int) := by omega
        clear hfu heq hln hn64 hlt
        have HTC := Lib.hid (take_any i L n c ⟨#[]⟩ a K HN64.out wr HO3.out HLN.out)
        have HY := Lib.hid (show scanS s = colonS i L ⟨#[]⟩ by exact HY0.out)
        have g_0 := HG3.out.c 0 _ rfl
        have g_1 := HG3.out.c 1 _ rfl
        have g_2 := HG3.out.c 2 _ rfl
        have g_3 := HG3.out.c 3 _ rfl
        have g_z := HG3.out.fz
        go_wp2_with fail
        refine (HTC.out).mono ?_
        rintro e w4 ⟨⟨a2, c2, rfl, hin2⟩, hb⟩
        have HO4 := Lib.hid (own_keep HO3.out hb)
        have HCT := Lib.hid (colon_take i L ⟨#[]⟩)
        have HIN2 := Lib.hid hin2
        have HH4 := Lib.hid (HH3.out.keep hb)
        have HU4 := Lib.hid (HU3.out.keep hb)
        have HB4 := Lib.hid (HB3.out.trans (hb.mono HB3.out.size))
        obtain ⟨V, hV⟩ : ∃ V, V = colonS i L ⟨#[]⟩ := ⟨_, rfl⟩
        rw [← hV] at HIN2 HY HCT ⊢
        obtain ⟨vi, vL, vh, vc, vk, vo⟩ := V
        obtain ⟨vn, hvn⟩ : ∃ x, x = vL.length := ⟨_, rfl⟩
        have HVN := Lib.hid hvn
        obtain ⟨vx, hvx⟩ : ∃ x : Int, x = (vi : Int) := ⟨_, rfl⟩
        have HVX := Lib.hid hvx
        unfold faultV
        dsimp only at HIN2 HCT ⊢
        rw [← hvn, ← hvx]
        clear hb hin2 hV HH3 HU3 HB3 g_0 g_1 g_2 g_3 g_z HO3 HTC hvn hvx
        have r_0 := HH4.out.c 0 _ rfl
        have r_1 := HH4.out.c 1 _ rfl
        have r_2 := HH4.out.c 2 _ rfl
        have r_3 := HH4.out.c 3 _ rfl
        have r_z := HH4.out.fz
        have q_0 := HU4.out.c 0 _ rfl
        have q_1 := HU4.out.c 1 _ rfl
        have q_2 := HU4.out.c 2 _ rfl
        have q_z := HU4.out.fz
        go_wp2_with fail
        have hs1 := (HH4.out).setRow [.int .i64 vx, .slice a2 vn c2, .bool vh, .string vc] rfl
        have hs2 := ((HU4.out).other hhu [.int .i64 vx, .slice a2 vn c2, .bool vh, .string vc]).setRow [.int .i64 vk, .int .i64 0, .int .i64 vo] rfl
        have hs3 := hs1.other huh [.int .i64 vk, .int .i64 0, .int .i64 vo]
        have hbl := set_below (set_below HB4.out HWH.out [.int .i64 vx, .slice a2 vn c2, .bool vh, .string vc]) HWU.out [.int .i64 vk, .int .i64 0, .int .i64 vo]
        rw [sc4, sc3] at hs2 hs3 hbl
        clear hs1
        have y0 : (((((((w4.setCell ⟨h, 0, none⟩ (.int .i64 vx)).setCell ⟨h, 1, none⟩ (.slice a2 vn c2)).setCell ⟨h, 2, none⟩ (.bool vh)).setCell ⟨h, 3, none⟩ (.string vc)).setCell ⟨u, 0, none⟩ (.int .i64 vk)).setCell ⟨u, 1, none⟩ (.int .i64 0)).setCell ⟨u, 2, none⟩ (.int .i64 vo)).cell? ⟨h, 0, none⟩ = some (.int .i64 vx) := hs3.c 0 _ rfl
        have y1 : (((((((w4.setCell ⟨h, 0, none⟩ (.int .i64 vx)).setCell ⟨h, 1, none⟩ (.slice a2 vn c2)).setCell ⟨h, 2, none⟩ (.bool vh)).setCell ⟨h, 3, none⟩ (.string vc)).setCell ⟨u, 0, none⟩ (.int .i64 vk)).setCell ⟨u, 1, none⟩ (.int .i64 0)).setCell ⟨u, 2, none⟩ (.int .i64 vo)).cell? ⟨h, 1, none⟩ = some (.slice a2 vn c2) := hs3.c 1 _ rfl
        have y2 : (((((((w4.setCell ⟨h, 0, none⟩ (.int .i64 vx)).setCell ⟨h, 1, none⟩ (.slice a2 vn c2)).setCell ⟨h, 2, none⟩ (.bool vh)).setCell ⟨h, 3, none⟩ (.string vc)).setCell ⟨u, 0, none⟩ (.int .i64 vk)).setCell ⟨u, 1, none⟩ (.int .i64 0)).setCell ⟨u, 2, none⟩ (.int .i64 vo)).cell? ⟨h, 2, none⟩ = some (.bool vh) := hs3.c 2 _ rfl
        have y3 : (((((((w4.setCell ⟨h, 0, none⟩ (.int .i64 vx)).setCell ⟨h, 1, none⟩ (.slice a2 vn c2)).setCell ⟨h, 2, none⟩ (.bool vh)).setCell ⟨h, 3, none⟩ (.string vc)).setCell ⟨u, 0, none⟩ (.int .i64 vk)).setCell ⟨u, 1, none⟩ (.int .i64 0)).setCell ⟨u, 2, none⟩ (.int .i64 vo)).cell? ⟨h, 3, none⟩ = some (.string vc) := hs3.c 3 _ rfl
        have z0 : (((((((w4.setCell ⟨h, 0, none⟩ (.int .i64 vx)).setCell ⟨h, 1, none⟩ (.slice a2 vn c2)).setCell ⟨h, 2, none⟩ (.bool vh)).setCell ⟨h, 3, none⟩ (.string vc)).setCell ⟨u, 0, none⟩ (.int .i64 vk)).setCell ⟨u, 1, none⟩ (.int .i64 0)).setCell ⟨u, 2, none⟩ (.int .i64 vo)).cell? ⟨u, 0, none⟩ = some (.int .i64 vk) := hs2.c 0 _ rfl
        have z1 : (((((((w4.setCell ⟨h, 0, none⟩ (.int .i64 vx)).setCell ⟨h, 1, none⟩ (.slice a2 vn c2)).setCell ⟨h, 2, none⟩ (.bool vh)).setCell ⟨h, 3, none⟩ (.string vc)).setCell ⟨u, 0, none⟩ (.int .i64 vk)).setCell ⟨u, 1, none⟩ (.int .i64 0)).setCell ⟨u, 2, none⟩ (.int .i64 vo)).cell? ⟨u, 1, none⟩ = some (.int .i64 0) := hs2.c 1 _ rfl
        have z2 : (((((((w4.setCell ⟨h, 0, none⟩ (.int .i64 vx)).setCell ⟨h, 1, none⟩ (.slice a2 vn c2)).setCell ⟨h, 2, none⟩ (.bool vh)).setCell ⟨h, 3, none⟩ (.string vc)).setCell ⟨u, 0, none⟩ (.int .i64 vk)).setCell ⟨u, 1, none⟩ (.int .i64 0)).setCell ⟨u, 2, none⟩ (.int .i64 vo)).cell? ⟨u, 2, none⟩ = some (.int .i64 vo) := hs2.c 2 _ rfl
        (first | rw [Exit.noGoto_ret] | (simp only [Exit.inBlock, Exit.then]; rw [Exit.noGoto_ret]) | (simp only [Exit.inBlock, Exit.then]))
        refine bodyPost_ret (scan_res _ h u _ _ _ _ _ _ _ _ _ _ rfl rfl y0 y1 y2 y3 z0 z1 z2) rfl ?_
        rw [HY.out]
        have e1 := HVN.out
        have e2 := HVX.out
        subst e1 e2
        refine ⟨⟨a2, c2, rfl, colon_in (B := K) (c := c) HLN.out HIN2.out HCT.out ?_⟩, hbl⟩
        exact own_cells7 HO4.out HHK.out HUK.out _ _ _ _ _ _ _
end Go.Proofs.YtaaaddmdcldclaaGreatDoor
