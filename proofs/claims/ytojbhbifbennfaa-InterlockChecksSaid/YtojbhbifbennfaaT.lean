/- Contracts of lines.Whole and of Line of a group that has a line; an append as one step of a drawn region. -/
import Derived.Test.YtojbhbifbennfaaS
import Derived.Test.YtojbhbifbennfaaQ
namespace Go.Proofs.Ytojbhbifbennfaa
open Go.RowKit Go.Shelf

set_option maxRecDepth 100000 in
theorem whole_any (n M : Int) (hM : n * 1000 = M) (h0 : 0 ≤ n) (h1 : n ≤ 3600) (w : World) : Calls Try.prog 68 #[.int .i64 n] w fun e w' => e = .returned (.agg #[.int .i64 2, .string ⟨#[]⟩, .int .i64 M, .int .i64 0]) ∧ Below w.heap.size w w' := by
  obtain ⟨W, r, hW, hr, R1, B, sz⟩ := box1 w #[.int .i64 0, .string ⟨#[]⟩, .int .i64 0, .int .i64 0] 55
  have HR0 := Lib.hid R1
  have HB0 := Lib.hid B
  have HWR := Lib.hid (show w.heap.size ≤ r by omega)
  have w1' : IntKind.i64.wrap (n * 1000) = M := by rw [hM]; exact IntWalk.i64_in _ ⟨by omega, by omega⟩
  clear R1 B sz h0 h1 hM
  go_enter Try.func68, Try.ntmps68
  go_upto_region 1 with fail
  rw [← hW]
  try rw [← hr]
  clear hW hr
  go_wp2_with fail
  refine (number_any M _).mono ?_
  rintro e w1 ⟨rfl, hb⟩
  have HR1 := Lib.hid (HR0.out.keep hb)
  have HB1 := Lib.hid (HB0.out.trans (hb.mono HB0.out.size))
  clear hb HR0
  have r_0 := HR1.out.c 0 _ rfl
  have r_1 := HR1.out.c 1 _ rfl
  have r_2 := HR1.out.c 2 _ rfl
  have r_3 := HR1.out.c 3 _ rfl
  have r_z := HR1.out.fz
  go_wp2_with fail
  have hs := (HR1.out).setRow [.int .i64 2, .string ⟨#[]⟩, .int .i64 M, .int .i64 0] rfl
  have y0 : ((((w1.setCell ⟨r, 0, none⟩ (.int .i64 2)).setCell ⟨r, 1, none⟩ (.string ⟨#[]⟩)).setCell ⟨r, 2, none⟩ (.int .i64 M)).setCell ⟨r, 3, none⟩ (.int .i64 0)).cell? ⟨r, 0, none⟩ = some (.int .i64 2) := hs.c 0 _ rfl
  have y1 : ((((w1.setCell ⟨r, 0, none⟩ (.int .i64 2)).setCell ⟨r, 1, none⟩ (.string ⟨#[]⟩)).setCell ⟨r, 2, none⟩ (.int .i64 M)).setCell ⟨r, 3, none⟩ (.int .i64 0)).cell? ⟨r, 1, none⟩ = some (.string ⟨#[]⟩) := hs.c 1 _ rfl
  have y2 : ((((w1.setCell ⟨r, 0, none⟩ (.int .i64 2)).setCell ⟨r, 1, none⟩ (.string ⟨#[]⟩)).setCell ⟨r, 2, none⟩ (.int .i64 M)).setCell ⟨r, 3, none⟩ (.int .i64 0)).cell? ⟨r, 2, none⟩ = some (.int .i64 M) := hs.c 2 _ rfl
  have y3 : ((((w1.setCell ⟨r, 0, none⟩ (.int .i64 2)).setCell ⟨r, 1, none⟩ (.string ⟨#[]⟩)).setCell ⟨r, 2, none⟩ (.int .i64 M)).setCell ⟨r, 3, none⟩ (.int .i64 0)).cell? ⟨r, 3, none⟩ = some (.int .i64 0) := hs.c 3 _ rfl
  (try simp only [Exit.inBlock, Exit.then])
  refine bodyPost_ret (by simp [results, Try.results68, go_sem, y0, y1, y2, y3]; try rfl) rfl ?_
  exact ⟨rfl, set_below HB1.out HWR.out [.int .i64 2, .string ⟨#[]⟩, .int .i64 M, .int .i64 0]⟩

/-- append to a row of the call's own, as one step of a region that draws its order; the operation may be guarded -/
theorem step_append_own {P : Program} {ops : Array Oper} {o : Oper} {a : Act} {w : World} {K : Act → World → Prop} {Q : Exit → Act → World → Prop} {E : Prop} (hw : Region.wanted o (yielded ops a.tmps) = true) (s x : Operand) (t : TypeId)
    (ho : o.op = .call { callee := .builtin .append, args := #[s, x], argTypes := #[t, t] })
    (base : Nat) (e : TypeId) (i : TypeInfo) (z : Value) (size bytes : Nat) (ht : P.underlying t = some (.slice e)) (hi : P.info? e = some i) (hz : i.zero = some z)
    (hsize : i.size = size) (hby : i.bytes = bytes) (hzs : z.cells.size = size) (hsz : 0 < size)
    (v : Value) (n : Nat) (xs : List Value) (hs : a.eval s = v) (hown : w.ownsRow base e size v n xs)
    (ad : Addr) (m c : Nat) (news : List Value) (hx : a.eval x = .slice (some ad) m c) (hl : news.length = m * size) (hnews : ∀ j u, news[j]? = some u → w.cell? (ad.add j) = some u) (h1 : ∀ u ∈ news, u.oneCell' = true)
    (h63 : n + m ≤ maxLen) (hbytes : (n + m) * bytes ≤ 140737488355328) (hbase : base ≤ w.heap.size)
    (h : ∀ v' w', w'.ownsRow base e size v' (n + m) (xs ++ news) → w.grownBy w' v.ownBlock → (v' = .slice none 0 0 ↔ v = .slice none 0 0 ∧ m = 0) → K (a.put o.dst v') w') :
    if Region.wanted o (yielded ops a.tmps) = true then Oper.wp P o a w K Q else E := by
  rw [if_pos hw]
  exact wp_append_own w s x t ho base e i z size bytes ht hi hz hsize hby hzs hsz v n xs hs hown ad m c news hx hl hnews h1 h63 hbytes hbase h
abbrev LnS (B : Nat) (wb : World) (g : Nat) (nm : ByteArray) (pa : Option Addr) (N pc : Nat) (dd : Int) (w' : World) : Prop := w'.cell? ⟨g, 0, none⟩ = some (.string nm) ∧ w'.cell? ⟨g, 1, none⟩ = some (.slice pa N pc) ∧ w'.cell? ⟨g, 2, none⟩ = some (.int .i64 dd) ∧ Below B wb w'
theorem ln_of {B : Nat} {wb w' : World} {g : Nat} {nm : ByteArray} {pa : Option Addr} {N pc : Nat} {dd : Int} (hd : g < B) (s : LnS B wb g nm pa N pc dd wb) (hb : Below B wb w') : LnS B wb g nm pa N pc dd w' := by
  obtain ⟨s0, s1, s2, _⟩ := s
  exact ⟨(hb.cell (p := ⟨g, 0, none⟩) hd).trans s0, (hb.cell (p := ⟨g, 1, none⟩) hd).trans s1, (hb.cell (p := ⟨g, 2, none⟩) hd).trans s2, hb⟩
theorem ln_bel {B : Nat} {wb w' : World} {g : Nat} {nm : ByteArray} {pa : Option Addr} {N pc : Nat} {dd : Int} (s : LnS B wb g nm pa N pc dd w') : Below B wb w' := s.2.2.2
theorem ln_keep {wb w1 w2 : World} {g : Nat} {nm : ByteArray} {pa : Option Addr} {N pc : Nat} {dd : Int} (hd : g < wb.heap.size) (c : LnS wb.heap.size wb g nm pa N pc dd wb) (hb : Below w1.heap.size w1 w2) (s : LnS wb.heap.size wb g nm pa N pc dd w1) : LnS wb.heap.size wb g nm pa N pc dd w2 := ln_of hd c ((ln_bel s).trans (hb.mono (ln_bel s).size))
theorem ln_alloc {wb w1 : World} {g : Nat} {nm : ByteArray} {pa : Option Addr} {N pc : Nat} {dd : Int} (hd : g < wb.heap.size) (c : LnS wb.heap.size wb g nm pa N pc dd wb) (ob : Obj) (s : LnS wb.heap.size wb g nm pa N pc dd w1) : LnS wb.heap.size wb g nm pa N pc dd (w1.alloc ob) := ln_of hd c ((ln_bel s).alloc (ln_bel s).size ob)
theorem ln_drew {wb w1 : World} {g : Nat} {nm : ByteArray} {pa : Option Addr} {N pc : Nat} {dd : Int} (hd : g < wb.heap.size) (c : LnS wb.heap.size wb g nm pa N pc dd wb) (s : LnS wb.heap.size wb g nm pa N pc dd w1) : LnS wb.heap.size wb g nm pa N pc dd w1.drew := ln_of hd c (ln_bel s).drew
theorem own_low {w1 xW x1 : World} {g : Nat} {nm : ByteArray} {pa : Option Addr} {N pc : Nat} {dd : Int} {T sz n : Nat} {v : Value} {L : List Value} (s : LnS w1.heap.size w1 g nm pa N pc dd xW) (h : x1.ownsRow xW.heap.size T sz v n L) : x1.ownsRow w1.heap.size T sz v n L := own_base h (ln_bel s).size
theorem own_new {w : World} {B T sz n : Nat} {v : Value} {L : List Value} (h : w.ownsRow B T sz v n L) (ob : Obj) : (w.alloc ob).ownsRow B T sz v n L := own_keep h ((Below.refl _ _).alloc (Nat.le_refl _) ob)
theorem own_drew {w : World} {B T sz n : Nat} {v : Value} {L : List Value} (h : w.ownsRow B T sz v n L) : w.drew.ownsRow B T sz v n L := own_keep h (Below.refl _ _).drew
theorem grown_low {w1 x w5 : World} {B T sz n : Nat} {v : Value} {L : List Value} (hb : Below B w1 x) (ho : x.ownsRow B T sz v n L) (hs : B ≤ x.heap.size) (hg : x.grownBy w5 v.ownBlock) : Below B w1 w5 := hb.grown hg hs (fun k hk => (ho.lt k hk).1)
theorem ins_sets {w : World} {n sz : Nat} {a : Option Addr} {L : List Value} {r : Nat} (h : InS w a n sz L) (hr : ∀ b off, a = some ⟨b, off, none⟩ → r ≠ b) (M : List Value) : InS (w.setCells r 0 M) a n sz L := by
  obtain ⟨hl, hn, h0 | ⟨b, off, ha, hlt, hc⟩⟩ := h
  · exact ⟨hl, hn, .inl h0⟩
  · refine ⟨hl, hn, .inr ⟨b, off, ha, by rw [sz_setCells]; exact hlt, fun j v hj => ?_⟩⟩
    rw [cell_setCells_other (hr b off ha)]
    exact hc j v hj
theorem own_apart {w : World} {B T sz n c : Nat} {a : Option Addr} {L : List Value} {r : Nat} (h : w.ownsRow B T sz (.slice a n c) n L) (hr : r < B) : ∀ b off, a = some ⟨b, off, none⟩ → r ≠ b := by
  intro b off ha
  subst ha
  have := (h.lt b rfl).1
  omega
theorem ins_news {w : World} {ad : Addr} {n sz : Nat} {L : List Value} (h : InS w (some ad) n sz L) : ∀ j u, L[j]? = some u → w.cell? (ad.add j) = some u := by
  obtain ⟨hl, _, h0 | ⟨b, off, ha, _, hc⟩⟩ := h
  · intro j u hu
    have := (List.getElem?_eq_some_iff.1 hu).1
    rw [hl, h0, Nat.zero_mul] at this
    omega
  · injection ha with ha
    subst ha
    intro j u hu
    rw [add_plain]
    exact hc j u hu
def groupW : ByteArray := ⟨#[103, 114, 111, 117, 112]⟩
def deadW : ByteArray := ⟨#[100, 101, 97, 100]⟩
def ofW : ByteArray := ⟨#[111, 102]⟩
def headT (nm : ByteArray) (M : Int) : List TkD := [wordT groupW, wordT nm, wordT deadW, ⟨2, ⟨#[]⟩, M, 0⟩, wordT ofW]
theorem ins_new3 (w : World) (a b c : ByteArray) (T : Nat) : InS (w.alloc (Obj.cells #[.string a, .string b, .string c] T)) (some ⟨w.heap.size, 0, none⟩) 3 1 (flat stL [a, b, c]) :=
  ⟨rfl, by omega, .inr ⟨_, _, rfl, by rw [World.size_alloc]; omega, fun j v hv => by rw [Nat.zero_add, World.cell?_alloc_new]; simpa [flat, stL] using hv⟩⟩
theorem bel_new {w : World} (ob : Obj) : Below w.heap.size w (w.alloc ob) := (Below.refl _ _).alloc (Nat.le_refl _) ob
theorem bel_drew {w : World} : Below w.heap.size w w.drew := (Below.refl _ _).drew
theorem tok_all (xs : List TkD) : ∀ u ∈ flat tkL xs, u.oneCell' = true := by
  intro u hu
  unfold flat at hu
  obtain ⟨x, _, hx⟩ := List.mem_flatMap.1 hu
  exact tok_one x.k x.n x.a x.t u hx

set_option maxHeartbeats 8000000 in
set_option maxRecDepth 100000 in
theorem line_yes (nm : ByteArray) (pa : Option Addr) (pc : Nat) (ns : List ByteArray) (dd : Int) (w : World) (h1 : 2 ≤ ns.length) (h2 : ns.length ≤ 16) (h3 : dB dd = true) (h4 : hasNamesB nm ns = true) (h5 : distB ns = true) (hsz : ∀ s ∈ ns, s.size ≤ maxLen) (hin : InS w pa ns.length 1 (flat stL ns)) : Calls Try.prog 27 #[.agg #[.string nm, .slice pa ns.length pc, .int .i64 dd]] w fun e w' => ∃ b c, e = .returned (.tuple #[.agg #[.slice b (5 + ns.length) c, .bool false, .slice none 0 0, .int .i64 0], .int .i64 0]) ∧ InS w' b (5 + ns.length) 4 (flat tkL (headT nm (dd * 1000) ++ ns.map wordT)) ∧ Below w.heap.size w w' := by
  obtain ⟨i0, hif, hz0, hz1, hz2⟩ := info_parts infoTk
  have hhl := fun (W' : World) (hb : Below w.heap.size w W') => hasLine_yes nm pa pc ns dd W' h1 h2 h3 h4 h5 hsz (hin.keep hb)
  have hwd := fun (W' : World) (hb : Below w.heap.size w W') => words_any pa pc ns W' (by omega) (hin.keep hb)
  obtain ⟨N, hN⟩ : ∃ N, N = ns.length := ⟨_, rfl⟩
  have hd : 0 ≤ dd ∧ dd ≤ 3600 := by unfold dB at h3; simpa using h3
  obtain ⟨M, hM⟩ : ∃ M, dd * 1000 = M := ⟨_, rfl⟩
  have HWH := Lib.hid (fun w => whole_any dd M hM hd.1 hd.2 w)
  rw [← hN] at hhl hwd h1 h2 ⊢
  have HHL := Lib.hid hhl
  have HWD := Lib.hid hwd
  have HN := Lib.hid hN
  have HM := Lib.hid hM
  have HN2 := Lib.hid h1
  have HN16 := Lib.hid h2
  obtain ⟨W, g, r, hW, hg, hr, R1, R2, B, sz⟩ := box2 w #[.string nm, .slice pa N pc, .int .i64 dd] 33 #[.slice none 0 0, .bool false, .slice none 0 0, .int .i64 0] 53
  have HB0 := Lib.hid B
  have HG0 := Lib.hid R1
  have HR0 := Lib.hid R2
  have HWR := Lib.hid (show w.heap.size ≤ r by omega)
  clear R1 R2 B sz hhl hwd hN h1 h2 h3 h4 h5 hsz hin hd
  rw [hM]
  clear hM
  go_enter Try.func27, Try.ntmps27
  go_upto_region 1 with fail
  rw [← hW]
  try rw [← hr]
  try rw [← hg]
  clear hW hg hr
  have g_0 := HG0.out.c 0 _ rfl
  have g_1 := HG0.out.c 1 _ rfl
  have g_2 := HG0.out.c 2 _ rfl
  go_wp2_with fail
  refine (HHL.out _ HB0.out).mono ?_
  rintro e w1 ⟨rfl, hb⟩
  have HG1 := Lib.hid (HG0.out.keep hb)
  have HR1 := Lib.hid (HR0.out.keep hb)
  have HB1 := Lib.hid (HB0.out.trans (hb.mono HB0.out.size))
  clear hb HG0 HR0 HB0 HHL g_0 g_1 g_2
  have g_0 := HG1.out.c 0 _ rfl
  have g_1 := HG1.out.c 1 _ rfl
  have g_2 := HG1.out.c 2 _ rfl
  have HR1x := HR1
  have HRL := Lib.hid (show r < w1.heap.size from HR1.out.lt)
  have HGL := Lib.hid (show g < w1.heap.size from HG1.out.lt)
  have HC := Lib.hid (show LnS w1.heap.size w1 g nm pa N pc dd w1 from ⟨g_0, g_1, g_2, Below.refl _ _⟩)
  have HCD := Lib.hid (ln_drew HGL.out HC.out HC.out)
  go_wp2_with fail
  go_region_held3 (fun w' => w'.cell? ⟨g, 0, none⟩ = some (.string nm) ∧ w'.cell? ⟨g, 1, none⟩ = some (.slice pa N pc) ∧ w'.cell? ⟨g, 2, none⟩ = some (.int .i64 dd) ∧ Below w1.heap.size w1 w')
    (first | (with_reducible exact HC.out) | (with_reducible exact HCD.out) | (with_reducible exact HS1.out) | (with_reducible exact HS2.out) | (with_reducible exact HS3.out) | (with_reducible exact HS4.out) | (with_reducible exact ln_alloc HGL.out HC.out _ (by assumption)) | (with_reducible exact ln_alloc HGL.out HC.out _ HC.out) | (with_reducible exact ln_drew HGL.out HC.out (ln_alloc HGL.out HC.out _ HC.out)) | (with_reducible exact ln_alloc HGL.out HC.out _ HCD.out) | (with_reducible exact ln_drew HGL.out HC.out (by assumption)) | (with_reducible exact ln_keep HGL.out HC.out hb2 (by assumption)) | go_keep)
    (first | (go_at_call 67; refine (words_any _ _ [groupW, nm, deadW] _ (show 3 ≤ 100000 by omega) (by first | exact ins_new3 _ _ _ _ _ | exact (ins_new3 _ _ _ _ _).keep bel_drew)).mono ?_; rintro e x1 ⟨v1, rfl, ho1, hb2⟩; have HS1 : Hid (LnS w1.heap.size w1 g nm pa N pc dd x1) := ln_keep HGL.out HC.out hb2 (by assumption); have HO1 := Lib.hid (own_low (g := g) (nm := nm) (pa := pa) (N := N) (pc := pc) (dd := dd) (by assumption) ho1); clear ho1) | (go_at_call 68; refine (HWH.out _).mono ?_; rintro e x2 ⟨rfl, hb2⟩; have HS2 : Hid (LnS w1.heap.size w1 g nm pa N pc dd x2) := ln_keep HGL.out HC.out hb2 (by assumption); have HO2 := Lib.hid (own_keep HO1.out hb2)) | (go_at_call 69; refine (word_any ofW _).mono ?_; rintro e x3 ⟨rfl, hb2⟩; have HS3 : Hid (LnS w1.heap.size w1 g nm pa N pc dd x3) := ln_keep HGL.out HC.out hb2 (by assumption); have HO3 := Lib.hid (own_keep HO2.out hb2)) | (refine step_append_own (by rfl) (.tmp 12) (.tmp 17) 50 rfl w1.heap.size 55 i0 (.agg #[.int .i64 0, .string ⟨#[]⟩, .int .i64 0, .int .i64 0]) 4 40 Try.underlying50 hif hz0 hz1 hz2 rfl (by decide) v1 3 (flat tkL ([groupW, nm, deadW].map wordT)) (by simp [Act.eval]) (by first | exact own_new HO3.out _ | exact own_drew (own_new HO3.out _) | exact own_new (own_drew HO3.out) _) ⟨x3.heap.size, 0, none⟩ 2 2 #[.int .i64 2, .string ⟨#[]⟩, .int .i64 M, .int .i64 0, .int .i64 1, .string ofW, .int .i64 0, .int .i64 0].toList (by simp [Act.eval]) rfl (fun j u hu => by rw [add_plain, Nat.zero_add]; first | exact (row_fresh x3 #[.int .i64 2, .string ⟨#[]⟩, .int .i64 M, .int .i64 0, .int .i64 1, .string ofW, .int .i64 0, .int .i64 0] 55).c j u hu | exact (row_fresh x3 #[.int .i64 2, .string ⟨#[]⟩, .int .i64 M, .int .i64 0, .int .i64 1, .string ofW, .int .i64 0, .int .i64 0] 55).drew.c j u hu) (by simp [Value.oneCell']) (by unfold maxLen; omega) (by omega) (by have := (ln_bel HS3.out).size; simp; omega) ?_; intro v3 w5 hown5 hgrow5 _; have KB5 : Hid (Below w1.heap.size w1 w5) := (by first | exact grown_low ((ln_bel HS3.out).alloc (ln_bel HS3.out).size _) (own_new HO3.out _) (by have := (ln_bel HS3.out).size; simp; omega) hgrow5 | exact grown_low ((ln_bel HS3.out).alloc (ln_bel HS3.out).size _).drew (own_drew (own_new HO3.out _)) (by have := (ln_bel HS3.out).size; simp; omega) hgrow5); have HS4 : Hid (LnS w1.heap.size w1 g nm pa N pc dd w5) := ln_of HGL.out HC.out KB5.out; have HO5 := Lib.hid hown5; clear hown5 hgrow5) | (fail))
  all_goals
    rename_i hHeld
    clear hHeld g_0 g_1 g_2
    have HG5 := Lib.hid (HG1.out.keep KB5.out)
    have HR5 := Lib.hid (HR1.out.keep KB5.out)
    have HB5 := Lib.hid (HB1.out.trans (KB5.out.mono HB1.out.size))
    have g_0 := HG5.out.c 0 _ rfl
    have g_1 := HG5.out.c 1 _ rfl
    have g_2 := HG5.out.c 2 _ rfl
    go_wp2_with fail
    refine (HWD.out _ HB5.out).mono ?_
    rintro e w6 ⟨v6, rfl, ho6, hb⟩
    have HG6 := Lib.hid (HG5.out.keep hb)
    have HR6 := Lib.hid (HR5.out.keep hb)
    have HB6 := Lib.hid (HB5.out.trans (hb.mono HB5.out.size))
    have HO6 := Lib.hid (own_keep HO5.out hb)
    have HBX := Lib.hid (KB5.out.trans (hb.mono KB5.out.size))
    clear hb g_0 g_1 g_2 HG5 HR5 HB5 HO5 HG1 HR1
    obtain ⟨b6, c6, rfl, hi6⟩ := ins_own ho6
    obtain ⟨p6, o6, rfl, hp6, hc6⟩ := InS.at (f := tkL) (xs := ns.map wordT) tkL_len (by rw [List.length_map, ← HN.out]; exact hi6) (by have := HN2.out; rw [List.length_map, ← HN.out]; omega)
    have HN6 := Lib.hid (show ∀ j u, (flat tkL (ns.map wordT))[j]? = some u → w6.cell? ⟨p6, o6 + j, none⟩ = some u from fun j u hu => by have h := ins_news hi6 j u hu; rw [add_plain] at h; exact h)
    clear ho6 hi6 hp6 hc6
    go_wp2_with (at_builtin; refine wpList_append_own _ rfl _ _ 50 rfl w1.heap.size 55 i0 (.agg #[.int .i64 0, .string ⟨#[]⟩, .int .i64 0, .int .i64 0]) 4 40 Try.underlying50 hif hz0 hz1 hz2 rfl (by decide) _ _ _ rfl HO6.out ⟨p6, o6, none⟩ N c6 (flat tkL (ns.map wordT)) rfl ?c1 ?c2 ?c3 ?c4 ?c5 ?c6 ?_)
    case c1 => rw [flat_len tkL_len, List.length_map, HN.out]
    case c2 => exact fun j u hu => by rw [add_plain]; exact HN6.out j u hu
    case c3 => exact tok_all _
    case c4 => have := HN16.out; unfold maxLen; omega
    case c5 => have := HN16.out; omega
    case c6 => exact HBX.out.size
    intro v7 w7 hown7 hgrow7 _
    have HB7' := Lib.hid (grown_low HBX.out HO6.out HBX.out.size hgrow7)
    have HR7 := Lib.hid (HR1x.out.keep HB7'.out)
    have HB7 := Lib.hid (HB1.out.trans (HB7'.out.mono HB1.out.size))
    have hO7 : w7.ownsRow w1.heap.size 55 4 v7 (5 + N) (flat tkL (headT nm M ++ ns.map wordT)) := by
      rw [flat_append]; exact hown7
    obtain ⟨b7, c7, rfl, hi7⟩ := ins_own hO7
    have HI7 := Lib.hid hi7
    have HRB := Lib.hid (own_apart hO7 (r := r) HRL.out)
    clear hown7 hgrow7 hO7 hi7
    have r_0 := HR7.out.c 0 _ rfl
    have r_1 := HR7.out.c 1 _ rfl
    have r_2 := HR7.out.c 2 _ rfl
    have r_3 := HR7.out.c 3 _ rfl
    have r_z := HR7.out.fz
    go_wp2_with fail
    have hs := (HR7.out).setRow [.slice b7 (5 + N) c7, .bool false, .slice none 0 0, .int .i64 0] rfl
    have y0 : ((((w7.setCell ⟨r, 0, none⟩ (.slice b7 (5 + N) c7)).setCell ⟨r, 1, none⟩ (.bool false)).setCell ⟨r, 2, none⟩ (.slice none 0 0)).setCell ⟨r, 3, none⟩ (.int .i64 0)).cell? ⟨r, 0, none⟩ = some (.slice b7 (5 + N) c7) := hs.c 0 _ rfl
    have y1 : ((((w7.setCell ⟨r, 0, none⟩ (.slice b7 (5 + N) c7)).setCell ⟨r, 1, none⟩ (.bool false)).setCell ⟨r, 2, none⟩ (.slice none 0 0)).setCell ⟨r, 3, none⟩ (.int .i64 0)).cell? ⟨r, 1, none⟩ = some (.bool false) := hs.c 1 _ rfl
    have y2 : ((((w7.setCell ⟨r, 0, none⟩ (.slice b7 (5 + N) c7)).setCell ⟨r, 1, none⟩ (.bool false)).setCell ⟨r, 2, none⟩ (.slice none 0 0)).setCell ⟨r, 3, none⟩ (.int .i64 0)).cell? ⟨r, 2, none⟩ = some (.slice none 0 0) := hs.c 2 _ rfl
    have y3 : ((((w7.setCell ⟨r, 0, none⟩ (.slice b7 (5 + N) c7)).setCell ⟨r, 1, none⟩ (.bool false)).setCell ⟨r, 2, none⟩ (.slice none 0 0)).setCell ⟨r, 3, none⟩ (.int .i64 0)).cell? ⟨r, 3, none⟩ = some (.int .i64 0) := hs.c 3 _ rfl
    (try simp only [Exit.inBlock, Exit.then])
    refine bodyPost_ret (by simp [results, Try.results27, go_sem, y0, y1, y2, y3]; try rfl) rfl ?_
    refine ⟨_, _, rfl, ?_, set_below HB7.out HWR.out [.slice b7 (5 + N) c7, .bool false, .slice none 0 0, .int .i64 0]⟩
    exact ins_sets HI7.out HRB.out [.slice b7 (5 + N) c7, .bool false, .slice none 0 0, .int .i64 0]
end Go.Proofs.Ytojbhbifbennfaa
