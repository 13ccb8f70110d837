/- Contract of lexer.takeColon. -/
import Derived.Test.YtaaaddmdcldclaaGreatDoorNs
namespace Go.Proofs.YtaaaddmdcldclaaGreatDoor
open Go.RowKit Go.Shelf
set_option linter.unusedVariables false
set_option linter.unusedSimpArgs false

theorem sc3 (w : World) (b : Nat) (x y z : Value) : w.setCells b 0 [x, y, z] = ((w.setCell ⟨b, 0, none⟩ x).setCell ⟨b, 1, none⟩ y).setCell ⟨b, 2, none⟩ z := rfl
theorem sc4 (w : World) (b : Nat) (x y z v : Value) : w.setCells b 0 [x, y, z, v] = (((w.setCell ⟨b, 0, none⟩ x).setCell ⟨b, 1, none⟩ y).setCell ⟨b, 2, none⟩ z).setCell ⟨b, 3, none⟩ v := rfl
theorem ins_take {α : Type} {f : α → List Value} {sz : Nat} {w : World} {a : Option Addr} {xs : List α} (hf : ∀ x, (f x).length = sz) (h : InS w a xs.length sz (flat f xs)) (m : Nat) (hm : m ≤ xs.length) : InS w a m sz (flat f (xs.take m)) := by
  have hl : (flat f (xs.take m)).length = m * sz := by rw [flat_len hf, List.length_take, Nat.min_eq_left hm]
  obtain ⟨_, hn, h0 | ⟨b, off, ha, hlt, hc⟩⟩ := h
  · exact ⟨hl, by omega, .inl (by omega)⟩
  · refine ⟨hl, by omega, .inr ⟨b, off, ha, hlt, fun j v hj => hc j v ?_⟩⟩
    have hj2 : j < (flat f (xs.take m)).length := (List.getElem?_eq_some_iff.1 hj).1
    have e : flat f xs = flat f (xs.take m) ++ flat f (xs.drop m) := by rw [← flat_append, List.take_append_drop]
    rw [e, List.getElem?_append_left hj2]
    exact hj
theorem row_at {w : World} {b g : Nat} {L : List Value} (t : RowAt w b L) (hne : g ≠ b) (o : Nat) (v : Value) : RowAt (w.setCell ⟨g, o, none⟩ v) b L :=
  ⟨fun i u h => (World.cell?_setCell_other _ _ _ _ (fun e => hne (congrArg Addr.block e))).trans (t.c i u h), fun o' => by rw [World.frozen?_setCell]; exact t.fz o', by rw [World.size_setCell]; exact t.lt⟩
theorem row_set {w : World} {b : Nat} {L : List Value} (t : RowAt w b L) (o : Nat) (ho : o < L.length) (v : Value) : RowAt (w.setCell ⟨b, o, none⟩ v) b (L.set o v) := by
  refine ⟨fun i u hu => ?_, fun o' => by rw [World.frozen?_setCell]; exact t.fz o', by rw [World.size_setCell]; exact t.lt⟩
  by_cases h : i = o
  · subst h
    rw [List.getElem?_set_self ho] at hu
    obtain rfl := Option.some.inj hu
    exact World.cell?_setCell_same _ _ _ (t.c i _ (List.getElem?_eq_getElem ho))
  · rw [List.getElem?_set_ne (fun e => h e.symm)] at hu
    exact (World.cell?_setCell_other _ _ _ _ (fun e => h (congrArg Addr.off e).symm)).trans (t.c i u hu)
/-- what Scan and takeColon answer -/
def ScnOut (S : ScV) (e : Ending) (w : World) : Prop := ∃ a c, e = .returned (.tuple #[.agg #[.int .i64 S.ind, .slice a S.L.length c, .bool S.hd, .string S.cm], faultV S.code S.col]) ∧ InS w a S.L.length 4 (flat tkC S.L)
/-- what takeColon answers: the slice is the one given, or empty -/
def ScnAt (S : ScV) (a : Option Addr) (e : Ending) : Prop := ∃ a2 c, e = .returned (.tuple #[.agg #[.int .i64 S.ind, .slice a2 S.L.length c, .bool S.hd, .string S.cm], faultV S.code S.col]) ∧ (S.L.length = 0 ∨ a2 = a)
theorem colon_take (i : Nat) (L : List TkF) (cm : ByteArray) : (colonS i L cm).L = L.take (colonS i L cm).L.length := by
  unfold colonS
  split
  · simp
  · split
    · split
      · simp
      · simp
    · simp
theorem nil_tok (w : World) (a : Option Addr) : InS w a ([] : List TkF).length 4 (flat tkC []) := ⟨rfl, by decide, .inl rfl⟩
theorem colon_nil (i : Nat) (cm : ByteArray) : colonS i [] cm = ⟨i, [], false, cm, 0, 0⟩ := rfl
theorem colon_last {i q : Nat} {L : List TkF} {cm : ByteArray} {x : TkF} (hl : L.length = q + 1) (hx : L[q]? = some x) : colonS i L cm = if isColon x = true then (if L.length = 1 then ⟨0, [], false, ⟨#[]⟩, 2, x.a⟩ else ⟨i, L.take (L.length - 1), true, cm, 0, 0⟩) else ⟨i, L, false, cm, 0, 0⟩ := by
  unfold colonS
  have e : L.getLast? = some x := by rw [List.getLast?_eq_getElem?, hl]; exact hx
  rw [e]

set_option maxHeartbeats 8000000 in
set_option maxRecDepth 100000 in
theorem takeColon_nil (i : Nat) (cm : ByteArray) (a : Option Addr) (c : Nat) (w : World) : Calls Tryz.prog 32 #[.agg #[.int .i64 i, .slice a 0 c, .bool false, .string cm]] w fun e w' => ScnAt (colonS i [] cm) a e ∧ Below w.heap.size w w' := by
  rw [colon_nil]
  obtain ⟨W, g, h, u, hW, hg, hh, hu, R1, R2, R3, B, sz⟩ := box3 w #[.int .i64 i, .slice a 0 c, .bool false, .string cm] 25 #[.int .i64 0, .slice none 0 0, .bool false, .string ⟨#[]⟩] 25 #[.int .i64 0, .int .i64 0, .int .i64 0] 28
  have HB0 := Lib.hid B
  have HG0 := Lib.hid R1
  have HH0 := Lib.hid R2
  have HU0 := Lib.hid R3
  have HWH := Lib.hid (show w.heap.size ≤ h by omega)
  have HWU := Lib.hid (show w.heap.size ≤ u by omega)
  have HWG := Lib.hid (show w.heap.size ≤ g by omega)
  have hhu : h ≠ u := by omega
  have huh : u ≠ h := by omega
  have hgh : g ≠ h := by omega
  have hgu : g ≠ u := by omega
  clear B R1 R2 R3 sz
  go_enter Tryz.func32, Tryz.ntmps32
  go_upto_region 1 with fail
  rw [← hW]
  try rw [← hu]
  try rw [← hh]
  try rw [← hg]
  clear hW hg hh hu
  have g_0 := HG0.out.c 0 _ rfl
  have g_1 := HG0.out.c 1 _ rfl
  have g_2 := HG0.out.c 2 _ rfl
  have g_3 := HG0.out.c 3 _ rfl
  have g_z := HG0.out.fz
  have r_0 := HH0.out.c 0 _ rfl
  have r_1 := HH0.out.c 1 _ rfl
  have r_2 := HH0.out.c 2 _ rfl
  have r_3 := HH0.out.c 3 _ rfl
  have r_z := HH0.out.fz
  have q_0 := HU0.out.c 0 _ rfl
  have q_1 := HU0.out.c 1 _ rfl
  have q_2 := HU0.out.c 2 _ rfl
  have q_z := HU0.out.fz
  go_wp2_with fail
  have hs1 := (HH0.out).setRow [.int .i64 i, .slice a 0 c, .bool false, .string cm] rfl
  have hs2 := ((HU0.out).other hhu [.int .i64 i, .slice a 0 c, .bool false, .string cm]).setRow [.int .i64 0, .int .i64 0, .int .i64 0] rfl
  have hs3 := hs1.other huh [.int .i64 0, .int .i64 0, .int .i64 0]
  have hbl := set_below (set_below HB0.out HWH.out [.int .i64 i, .slice a 0 c, .bool false, .string cm]) HWU.out [.int .i64 0, .int .i64 0, .int .i64 0]
  rw [sc4, sc3] at hs2 hs3 hbl
  clear hs1
  have y0 : (((((((W.setCell ⟨h, 0, none⟩ (.int .i64 i)).setCell ⟨h, 1, none⟩ (.slice a 0 c)).setCell ⟨h, 2, none⟩ (.bool false)).setCell ⟨h, 3, none⟩ (.string cm)).setCell ⟨u, 0, none⟩ (.int .i64 0)).setCell ⟨u, 1, none⟩ (.int .i64 0)).setCell ⟨u, 2, none⟩ (.int .i64 0)).cell? ⟨h, 0, none⟩ = some (.int .i64 i) := hs3.c 0 _ rfl
  have y1 : (((((((W.setCell ⟨h, 0, none⟩ (.int .i64 i)).setCell ⟨h, 1, none⟩ (.slice a 0 c)).setCell ⟨h, 2, none⟩ (.bool false)).setCell ⟨h, 3, none⟩ (.string cm)).setCell ⟨u, 0, none⟩ (.int .i64 0)).setCell ⟨u, 1, none⟩ (.int .i64 0)).setCell ⟨u, 2, none⟩ (.int .i64 0)).cell? ⟨h, 1, none⟩ = some (.slice a 0 c) := hs3.c 1 _ rfl
  have y2 : (((((((W.setCell ⟨h, 0, none⟩ (.int .i64 i)).setCell ⟨h, 1, none⟩ (.slice a 0 c)).setCell ⟨h, 2, none⟩ (.bool false)).setCell ⟨h, 3, none⟩ (.string cm)).setCell ⟨u, 0, none⟩ (.int .i64 0)).setCell ⟨u, 1, none⟩ (.int .i64 0)).setCell ⟨u, 2, none⟩ (.int .i64 0)).cell? ⟨h, 2, none⟩ = some (.bool false) := hs3.c 2 _ rfl
  have y3 : (((((((W.setCell ⟨h, 0, none⟩ (.int .i64 i)).setCell ⟨h, 1, none⟩ (.slice a 0 c)).setCell ⟨h, 2, none⟩ (.bool false)).setCell ⟨h, 3, none⟩ (.string cm)).setCell ⟨u, 0, none⟩ (.int .i64 0)).setCell ⟨u, 1, none⟩ (.int .i64 0)).setCell ⟨u, 2, none⟩ (.int .i64 0)).cell? ⟨h, 3, none⟩ = some (.string cm) := hs3.c 3 _ rfl
  have z0 : (((((((W.setCell ⟨h, 0, none⟩ (.int .i64 i)).setCell ⟨h, 1, none⟩ (.slice a 0 c)).setCell ⟨h, 2, none⟩ (.bool false)).setCell ⟨h, 3, none⟩ (.string cm)).setCell ⟨u, 0, none⟩ (.int .i64 0)).setCell ⟨u, 1, none⟩ (.int .i64 0)).setCell ⟨u, 2, none⟩ (.int .i64 0)).cell? ⟨u, 0, none⟩ = some (.int .i64 0) := hs2.c 0 _ rfl
  have z1 : (((((((W.setCell ⟨h, 0, none⟩ (.int .i64 i)).setCell ⟨h, 1, none⟩ (.slice a 0 c)).setCell ⟨h, 2, none⟩ (.bool false)).setCell ⟨h, 3, none⟩ (.string cm)).setCell ⟨u, 0, none⟩ (.int .i64 0)).setCell ⟨u, 1, none⟩ (.int .i64 0)).setCell ⟨u, 2, none⟩ (.int .i64 0)).cell? ⟨u, 1, none⟩ = some (.int .i64 0) := hs2.c 1 _ rfl
  have z2 : (((((((W.setCell ⟨h, 0, none⟩ (.int .i64 i)).setCell ⟨h, 1, none⟩ (.slice a 0 c)).setCell ⟨h, 2, none⟩ (.bool false)).setCell ⟨h, 3, none⟩ (.string cm)).setCell ⟨u, 0, none⟩ (.int .i64 0)).setCell ⟨u, 1, none⟩ (.int .i64 0)).setCell ⟨u, 2, none⟩ (.int .i64 0)).cell? ⟨u, 2, none⟩ = some (.int .i64 0) := hs2.c 2 _ rfl
  (try simp only [Exit.inBlock, Exit.then])
  refine bodyPost_ret (by simp [results, Tryz.results32, go_sem, y0, y1, y2, y3, z0, z1, z2]; try rfl) rfl ?_
  exact ⟨⟨a, c, rfl, .inl rfl⟩, hbl⟩

set_option maxHeartbeats 8000000 in
set_option maxRecDepth 100000 in
theorem takeColon_some (i : Nat) (L : List TkF) (n c : Nat) (cm : ByteArray) (a : Option Addr) (hN : L.length = n) (h0 : 0 < n) (hn : n ≤ 64) (hcap : n ≤ c) (w : World) (hin : InS w a n 4 (flat tkC L)) : Calls Tryz.prog 32 #[.agg #[.int .i64 i, .slice a n c, .bool false, .string cm]] w fun e w' => ScnAt (colonS i L cm) a e ∧ Below w.heap.size w w' := by
  obtain ⟨q, hq⟩ : ∃ q, n = q + 1 := ⟨n - 1, by omega⟩
  obtain ⟨x, hx⟩ : ∃ x, L[q]? = some x := ⟨_, List.getElem?_eq_getElem (by omega)⟩
  have hcl := colon_last (i := i) (cm := cm) (hN.trans hq) hx
  obtain ⟨b, off, rfl, hbl0, hc⟩ := (show InS w a L.length 4 (flat tkC L) by rw [hN]; exact hin).at tkC_len (by omega)
  obtain ⟨k, t, m, ca⟩ := x
  have l0 : w.cell? ⟨b, off + q * 4 + 0, none⟩ = some (.int .i64 k) := hc q _ hx 0 _ rfl
  have l1 : w.cell? ⟨b, off + q * 4 + 1, none⟩ = some (.string t) := hc q _ hx 1 _ rfl
  have l3 : w.cell? ⟨b, off + q * 4 + 3, none⟩ = some (.int .i64 ca) := hc q _ hx 3 _ rfl
  rw [Nat.add_zero] at l0
  obtain ⟨F, hF⟩ : ∃ F, F = (t.toList == ([58] : List UInt8)) := ⟨_, rfl⟩
  have hst : (t.toList == ([58] : List UInt8)) = F := hF.symm
  have hic : isColon ⟨k, t, m, ca⟩ = (decide (k = 6) && F) := by unfold isColon; rw [hst]
  rw [hic] at hcl
  obtain ⟨W, g, h, u, hW, hg, hh, hu, R1, R2, R3, B, sz⟩ := box3 w #[.int .i64 i, .slice (some ⟨b, off, none⟩) n c, .bool false, .string cm] 25 #[.int .i64 0, .slice none 0 0, .bool false, .string ⟨#[]⟩] 25 #[.int .i64 0, .int .i64 0, .int .i64 0] 28
  have HB0 := Lib.hid B
  have HG0 := Lib.hid R1
  have HH0 := Lib.hid R2
  have HU0 := Lib.hid R3
  have HWH := Lib.hid (show w.heap.size ≤ h by omega)
  have HWU := Lib.hid (show w.heap.size ≤ u by omega)
  have HWG := Lib.hid (show w.heap.size ≤ g by omega)
  have hhu : h ≠ u := by omega
  have huh : u ≠ h := by omega
  have hgh : g ≠ h := by omega
  have hgu : g ≠ u := by omega
  clear B R1 R2 R3 sz
  have HBL := Lib.hid hbl0
  have HX := Lib.hid (show W.cell? ⟨b, off + q * 4, none⟩ = some (.int .i64 k) ∧ W.cell? ⟨b, off + q * 4 + 1, none⟩ = some (.string t) ∧ W.cell? ⟨b, off + q * 4 + 3, none⟩ = some (.int .i64 ca) from ⟨(HB0.out.cell (p := ⟨b, off + q * 4, none⟩) hbl0).trans l0, (HB0.out.cell (p := ⟨b, off + q * 4 + 1, none⟩) hbl0).trans l1, (HB0.out.cell (p := ⟨b, off + q * 4 + 3, none⟩) hbl0).trans l3⟩)
  have HIN := Lib.hid hin
  have HN := Lib.hid hN
  have s1 : IntKind.i64.wrap ((n : Int) - 1) = (q : Int) := by
    have h : (n : Int) - 1 = q := by omega
    rw [h]
    exact IntWalk.i64_in _ (by omega)
  have s2 : (q : Int).toNat = q := by omega
  have s3 : (0 : Int) ≤ (q : Int) := by omega
  have s4 : (q : Int) < (n : Int) := by omega
  have s5 : (q : Int) ≤ (n : Int) := by omega
  have s6 : ¬ (q : Int) < 0 := by omega
  have s7 : q ≤ n := by omega
  have s8 : q < n := by omega
  have s9 : (q : Int) ≤ (c : Int) := by omega
  have s10 : q ≤ c := by omega
  have HQ := Lib.hid hq
  have HCL := Lib.hid hcl
  clear hq hx hcl hbl0 hc l0 l1 l3 hic hF hin hN
  go_enter Tryz.func32, Tryz.ntmps32
  go_upto_region 1 with fail
  rw [← hW]
  try rw [← hu]
  try rw [← hh]
  try rw [← hg]
  clear hW hg hh hu
  by_cases h6 : k = 6
  · subst h6
    cases F
    · have HY := Lib.hid (show colonS i L cm = ⟨i, L, false, cm, 0, 0⟩ by rw [HCL.out]; simp)
      have g_0 := HG0.out.c 0 _ rfl
      have g_1 := HG0.out.c 1 _ rfl
      have g_2 := HG0.out.c 2 _ rfl
      have g_3 := HG0.out.c 3 _ rfl
      have g_z := HG0.out.fz
      have x0 := HX.out.1
      have x1 := HX.out.2.1
      have r_0 := HH0.out.c 0 _ rfl
      have r_1 := HH0.out.c 1 _ rfl
      have r_2 := HH0.out.c 2 _ rfl
      have r_3 := HH0.out.c 3 _ rfl
      have r_z := HH0.out.fz
      have q_0 := HU0.out.c 0 _ rfl
      have q_1 := HU0.out.c 1 _ rfl
      have q_2 := HU0.out.c 2 _ rfl
      have q_z := HU0.out.fz
      go_wp2_with fail
      have hs1 := (HH0.out).setRow [.int .i64 i, .slice (some ⟨b, off, none⟩) n c, .bool false, .string cm] rfl
      have hs2 := ((HU0.out).other hhu [.int .i64 i, .slice (some ⟨b, off, none⟩) n c, .bool false, .string cm]).setRow [.int .i64 0, .int .i64 0, .int .i64 0] rfl
      have hs3 := hs1.other huh [.int .i64 0, .int .i64 0, .int .i64 0]
      have hbl := set_below (set_below HB0.out HWH.out [.int .i64 i, .slice (some ⟨b, off, none⟩) n c, .bool false, .string cm]) HWU.out [.int .i64 0, .int .i64 0, .int .i64 0]
      rw [sc4, sc3] at hs2 hs3 hbl
      clear hs1
      have y0 : (((((((W.setCell ⟨h, 0, none⟩ (.int .i64 i)).setCell ⟨h, 1, none⟩ (.slice (some ⟨b, off, none⟩) n c)).setCell ⟨h, 2, none⟩ (.bool false)).setCell ⟨h, 3, none⟩ (.string cm)).setCell ⟨u, 0, none⟩ (.int .i64 0)).setCell ⟨u, 1, none⟩ (.int .i64 0)).setCell ⟨u, 2, none⟩ (.int .i64 0)).cell? ⟨h, 0, none⟩ = some (.int .i64 i) := hs3.c 0 _ rfl
      have y1 : (((((((W.setCell ⟨h, 0, none⟩ (.int .i64 i)).setCell ⟨h, 1, none⟩ (.slice (some ⟨b, off, none⟩) n c)).setCell ⟨h, 2, none⟩ (.bool false)).setCell ⟨h, 3, none⟩ (.string cm)).setCell ⟨u, 0, none⟩ (.int .i64 0)).setCell ⟨u, 1, none⟩ (.int .i64 0)).setCell ⟨u, 2, none⟩ (.int .i64 0)).cell? ⟨h, 1, none⟩ = some (.slice (some ⟨b, off, none⟩) n c) := hs3.c 1 _ rfl
      have y2 : (((((((W.setCell ⟨h, 0, none⟩ (.int .i64 i)).setCell ⟨h, 1, none⟩ (.slice (some ⟨b, off, none⟩) n c)).setCell ⟨h, 2, none⟩ (.bool false)).setCell ⟨h, 3, none⟩ (.string cm)).setCell ⟨u, 0, none⟩ (.int .i64 0)).setCell ⟨u, 1, none⟩ (.int .i64 0)).setCell ⟨u, 2, none⟩ (.int .i64 0)).cell? ⟨h, 2, none⟩ = some (.bool false) := hs3.c 2 _ rfl
      have y3 : (((((((W.setCell ⟨h, 0, none⟩ (.int .i64 i)).setCell ⟨h, 1, none⟩ (.slice (some ⟨b, off, none⟩) n c)).setCell ⟨h, 2, none⟩ (.bool false)).setCell ⟨h, 3, none⟩ (.string cm)).setCell ⟨u, 0, none⟩ (.int .i64 0)).setCell ⟨u, 1, none⟩ (.int .i64 0)).setCell ⟨u, 2, none⟩ (.int .i64 0)).cell? ⟨h, 3, none⟩ = some (.string cm) := hs3.c 3 _ rfl
      have z0 : (((((((W.setCell ⟨h, 0, none⟩ (.int .i64 i)).setCell ⟨h, 1, none⟩ (.slice (some ⟨b, off, none⟩) n c)).setCell ⟨h, 2, none⟩ (.bool false)).setCell ⟨h, 3, none⟩ (.string cm)).setCell ⟨u, 0, none⟩ (.int .i64 0)).setCell ⟨u, 1, none⟩ (.int .i64 0)).setCell ⟨u, 2, none⟩ (.int .i64 0)).cell? ⟨u, 0, none⟩ = some (.int .i64 0) := hs2.c 0 _ rfl
      have z1 : (((((((W.setCell ⟨h, 0, none⟩ (.int .i64 i)).setCell ⟨h, 1, none⟩ (.slice (some ⟨b, off, none⟩) n c)).setCell ⟨h, 2, none⟩ (.bool false)).setCell ⟨h, 3, none⟩ (.string cm)).setCell ⟨u, 0, none⟩ (.int .i64 0)).setCell ⟨u, 1, none⟩ (.int .i64 0)).setCell ⟨u, 2, none⟩ (.int .i64 0)).cell? ⟨u, 1, none⟩ = some (.int .i64 0) := hs2.c 1 _ rfl
      have z2 : (((((((W.setCell ⟨h, 0, none⟩ (.int .i64 i)).setCell ⟨h, 1, none⟩ (.slice (some ⟨b, off, none⟩) n c)).setCell ⟨h, 2, none⟩ (.bool false)).setCell ⟨h, 3, none⟩ (.string cm)).setCell ⟨u, 0, none⟩ (.int .i64 0)).setCell ⟨u, 1, none⟩ (.int .i64 0)).setCell ⟨u, 2, none⟩ (.int .i64 0)).cell? ⟨u, 2, none⟩ = some (.int .i64 0) := hs2.c 2 _ rfl
      (try simp only [Exit.inBlock, Exit.then])
      refine bodyPost_ret (by simp [results, Tryz.results32, go_sem, y0, y1, y2, y3, z0, z1, z2]; try rfl) rfl ?_
      rw [HY.out]
      exact ⟨⟨some ⟨b, off, none⟩, c, by rw [HN.out]; (first | done | rfl), .inr rfl⟩, hbl⟩
    · by_cases hq0 : q = 0
      · subst hq0
        have HY := Lib.hid (show colonS i L cm = ⟨0, [], false, ⟨#[]⟩, 2, ca⟩ by rw [HCL.out]; simp [HN.out, HQ.out])
        have g_0 := HG0.out.c 0 _ rfl
        have g_1 := HG0.out.c 1 _ rfl
        have g_2 := HG0.out.c 2 _ rfl
        have g_3 := HG0.out.c 3 _ rfl
        have g_z := HG0.out.fz
        have x0 : W.cell? ⟨b, off, none⟩ = some (.int .i64 6) := by have h := HX.out.1; simpa using h
        have x1 : W.cell? ⟨b, off + 1, none⟩ = some (.string t) := by have h := HX.out.2.1; simpa using h
        have x3 : W.cell? ⟨b, off + 3, none⟩ = some (.int .i64 ca) := by have h := HX.out.2.2; simpa using h
        have r_0 := HH0.out.c 0 _ rfl
        have r_1 := HH0.out.c 1 _ rfl
        have r_2 := HH0.out.c 2 _ rfl
        have r_3 := HH0.out.c 3 _ rfl
        have r_z := HH0.out.fz
        have q_0 := HU0.out.c 0 _ rfl
        have q_1 := HU0.out.c 1 _ rfl
        have q_2 := HU0.out.c 2 _ rfl
        have q_z := HU0.out.fz
        go_wp2_with fail
        have HBN := Lib.hid (show b < w.heap.size from HBL.out)
        have nbh : h ≠ b := by have h1 := HBL.out; have h2 := HWH.out; omega
        have nbu : u ≠ b := by have h1 := HBL.out; have h2 := HWU.out; omega
        have nhg : h ≠ g := fun e => hgh e.symm
        have nug : u ≠ g := fun e => hgu e.symm
        have s0 : W.cell? ⟨g, 1, none⟩ = some (.slice (some ⟨b, off, none⟩) n c) ∧ W.cell? ⟨b, off + 3, none⟩ = some (.int .i64 ca) := ⟨g_1, x3⟩
        refine wp_region_held_drew (S := fun w => w.cell? ⟨g, 1, none⟩ = some (.slice (some ⟨b, off, none⟩) n c) ∧ w.cell? ⟨b, off + 3, none⟩ = some (.int .i64 ca)) (by kernel_rfl) s0 (fun hHeld => ?_)
        clear r_0 r_1 r_2 r_3 r_z q_0 q_1 q_2 q_z g_0 g_1 g_2 g_3 g_z x0 x1 x3 s0
        have hdr : Below W.heap.size W W.drew := (Below.refl _ _).drew
        have HHW9 := Lib.hid (HH0.out.keep hdr)
        have HUW9 := Lib.hid (HU0.out.keep hdr)
        have HBW9 := Lib.hid (HB0.out.trans (hdr.mono HB0.out.size))
        obtain ⟨W9, hW9⟩ : ∃ z, z = W.drew := ⟨_, rfl⟩
        rw [← hW9] at HHW9 HUW9 HBW9 hHeld ⊢
        clear hW9 hdr
        refine' wpAnyH_take (i := 0) (v := _) rfl (by kernel_rfl) (by kernel_rfl) (by kernel_rfl) (fun _ _ _ h => h) (Or.inl ⟨by rfl, ?_⟩) hHeld ?_
        rotate_left
        · intro w hSw
          (try dsimp only at hSw)
          go_simp
          try with_reducible rfl
        (try simp only [Act.put, List.getElem_toArray, List.getElem_cons_zero, List.getElem_cons_succ, List.setIfInBounds_toArray, List.set_cons_zero, List.set_cons_succ])
        refine' wpAnyH_take (i := 1) (v := _) rfl (by kernel_rfl) (by kernel_rfl) (by kernel_rfl) (fun _ _ _ h => h) (Or.inl ⟨by rfl, ?_⟩) hHeld ?_
        rotate_left
        · intro w hSw
          (try dsimp only at hSw)
          go_simp
          try with_reducible rfl
        (try simp only [Act.put, List.getElem_toArray, List.getElem_cons_zero, List.getElem_cons_succ, List.setIfInBounds_toArray, List.set_cons_zero, List.set_cons_succ])
        refine' wpAnyH_take (i := 2) (v := _) rfl (by kernel_rfl) (by kernel_rfl) (by kernel_rfl) (fun _ _ _ h => h) (Or.inl ⟨by rfl, ?_⟩) hHeld ?_
        rotate_left
        · intro w hSw
          (try dsimp only at hSw)
          go_simp
          try with_reducible rfl
        (try simp only [Act.put, List.getElem_toArray, List.getElem_cons_zero, List.getElem_cons_succ, List.setIfInBounds_toArray, List.set_cons_zero, List.set_cons_succ])
        refine' wpAnyH_take (i := 3) (v := _) rfl (by kernel_rfl) (by kernel_rfl) (by kernel_rfl) (fun _ _ _ h => h) (Or.inl ⟨by rfl, ?_⟩) hHeld ?_
        rotate_left
        · intro w hSw
          (try dsimp only at hSw)
          go_simp
          try with_reducible rfl
        (try simp only [Act.put, List.getElem_toArray, List.getElem_cons_zero, List.getElem_cons_succ, List.setIfInBounds_toArray, List.set_cons_zero, List.set_cons_succ])
        refine' wpAnyH_take (i := 4) (v := _) rfl (by kernel_rfl) (by kernel_rfl) (by kernel_rfl) (fun _ _ _ h => h) (Or.inl ⟨by rfl, ?_⟩) hHeld ?_
        rotate_left
        · intro w hSw
          (try dsimp only at hSw)
          go_simp
          try with_reducible rfl
        (try simp only [Act.put, List.getElem_toArray, List.getElem_cons_zero, List.getElem_cons_succ, List.setIfInBounds_toArray, List.set_cons_zero, List.set_cons_succ])
        refine' wpAnyH_take (i := 5) (v := _) rfl (by kernel_rfl) (by kernel_rfl) (by kernel_rfl) (fun _ _ _ h => h) (Or.inl ⟨by rfl, ?_⟩) hHeld ?_
        rotate_left
        · intro w hSw
          (try dsimp only at hSw)
          go_simp
          try with_reducible rfl
        (try simp only [Act.put, List.getElem_toArray, List.getElem_cons_zero, List.getElem_cons_succ, List.setIfInBounds_toArray, List.set_cons_zero, List.set_cons_succ])
        refine' wpAnyH_take (i := 6) (v := _) rfl (by kernel_rfl) (by kernel_rfl) (by kernel_rfl) (fun _ _ _ h => h) (Or.inl ⟨by rfl, ?_⟩) hHeld ?_
        rotate_left
        · intro w hSw
          (try dsimp only at hSw)
          go_simp
          try with_reducible rfl
        (try simp only [Act.put, List.getElem_toArray, List.getElem_cons_zero, List.getElem_cons_succ, List.setIfInBounds_toArray, List.set_cons_zero, List.set_cons_succ])
        refine wpAnyH_ready (rs := [7]) (by kernel_rfl) (by simp) ?_
        refine AllReadyH.cons rfl (fun K hK => ?_) AllReadyH.nil
        have r_0 := HHW9.out.c 0 _ rfl
        have r_1 := HHW9.out.c 1 _ rfl
        have r_2 := HHW9.out.c 2 _ rfl
        have r_3 := HHW9.out.c 3 _ rfl
        have r_z := HHW9.out.fz
        go_simp
        obtain ⟨y1, hw2⟩ : ∃ x, x = ((((W9.setCell ⟨h, 0, none⟩ (.int .i64 0)).setCell ⟨h, 1, none⟩ (.slice none 0 0)).setCell ⟨h, 2, none⟩ (.bool false)).setCell ⟨h, 3, none⟩ (.string ⟨#[]⟩)) := ⟨_, rfl⟩
        have hw3 : y1 = W9.setCells h 0 [.int .i64 0, .slice none 0 0, .bool false, .string ⟨#[]⟩] := hw2
        have HSX : y1.cell? ⟨g, 1, none⟩ = some (.slice (some ⟨b, off, none⟩) n c) ∧ y1.cell? ⟨b, off + 3, none⟩ = some (.int .i64 ca) := by rw [hw3]; exact ⟨(cell_setCells_other nhg _ 0 _ 1).trans hHeld.1, (cell_setCells_other nbh _ 0 _ (off + 3)).trans hHeld.2⟩
        have HHy1 := Lib.hid (show RowAt y1 h [.int .i64 0, .slice none 0 0, .bool false, .string ⟨#[]⟩] by rw [hw3]; exact HHW9.out.setRow [.int .i64 0, .slice none 0 0, .bool false, .string ⟨#[]⟩] rfl)
        have HUy1 := Lib.hid (show RowAt y1 u [.int .i64 0, .int .i64 0, .int .i64 0] by rw [hw3]; exact HUW9.out.other hhu [.int .i64 0, .slice none 0 0, .bool false, .string ⟨#[]⟩])
        have HBy1 := Lib.hid (show Below w.heap.size w y1 by rw [hw3]; exact set_below HBW9.out HWH.out [.int .i64 0, .slice none 0 0, .bool false, .string ⟨#[]⟩])
        rw [← hw2]
        clear hw2 hw3 hHeld
        refine hK.out _ _ HSX (fun hHeld => ?_)
        clear hK K HSX r_0 r_1 r_2 r_3 r_z
        (try simp only [Act.put, List.getElem_toArray, List.getElem_cons_zero, List.getElem_cons_succ, List.setIfInBounds_toArray, List.set_cons_zero, List.set_cons_succ])
        refine wpAnyH_ready (rs := [8]) (by kernel_rfl) (by simp) ?_
        refine AllReadyH.cons rfl (fun K hK => ?_) AllReadyH.nil
        have q_0 := HUy1.out.c 0 _ rfl
        have q_1 := HUy1.out.c 1 _ rfl
        have q_2 := HUy1.out.c 2 _ rfl
        have q_z := HUy1.out.fz
        go_simp
        obtain ⟨y2, hw2⟩ : ∃ x, x = (((y1.setCell ⟨u, 0, none⟩ (.int .i64 2)).setCell ⟨u, 1, none⟩ (.int .i64 0)).setCell ⟨u, 2, none⟩ (.int .i64 ca)) := ⟨_, rfl⟩
        have hw3 : y2 = y1.setCells u 0 [.int .i64 2, .int .i64 0, .int .i64 ca] := hw2
        have HSX : y2.cell? ⟨g, 1, none⟩ = some (.slice (some ⟨b, off, none⟩) n c) ∧ y2.cell? ⟨b, off + 3, none⟩ = some (.int .i64 ca) := by rw [hw3]; exact ⟨(cell_setCells_other nug _ 0 _ 1).trans hHeld.1, (cell_setCells_other nbu _ 0 _ (off + 3)).trans hHeld.2⟩
        have HUy2 := Lib.hid (show RowAt y2 u [.int .i64 2, .int .i64 0, .int .i64 ca] by rw [hw3]; exact HUy1.out.setRow [.int .i64 2, .int .i64 0, .int .i64 ca] rfl)
        have HHy2 := Lib.hid (show RowAt y2 h [.int .i64 0, .slice none 0 0, .bool false, .string ⟨#[]⟩] by rw [hw3]; exact HHy1.out.other huh [.int .i64 2, .int .i64 0, .int .i64 ca])
        have HBy2 := Lib.hid (show Below w.heap.size w y2 by rw [hw3]; exact set_below HBy1.out HWU.out [.int .i64 2, .int .i64 0, .int .i64 ca])
        rw [← hw2]
        clear hw2 hw3 hHeld
        refine hK.out _ _ HSX (fun hHeld => ?_)
        clear hK K HSX q_0 q_1 q_2 q_z
        (try simp only [Act.put, List.getElem_toArray, List.getElem_cons_zero, List.getElem_cons_succ, List.setIfInBounds_toArray, List.set_cons_zero, List.set_cons_succ])
        refine wpAnyH_done (by kernel_rfl) ?_ _
        (try simp only [Act.put, List.getElem_toArray, List.getElem_cons_zero, List.getElem_cons_succ, List.setIfInBounds_toArray, List.set_cons_zero, List.set_cons_succ])
        clear hHeld
        go_wp2_with fail
        have r_0 := HHy2.out.c 0 _ rfl
        have r_1 := HHy2.out.c 1 _ rfl
        have r_2 := HHy2.out.c 2 _ rfl
        have r_3 := HHy2.out.c 3 _ rfl
        have q_0 := HUy2.out.c 0 _ rfl
        have q_1 := HUy2.out.c 1 _ rfl
        have q_2 := HUy2.out.c 2 _ rfl
        (try simp only [Exit.inBlock, Exit.then])
        refine bodyPost_ret (by simp [results, Tryz.results32, go_sem, r_0, r_1, r_2, r_3, q_0, q_1, q_2]; try rfl) rfl ?_
        rw [HY.out]
        exact ⟨⟨none, 0, rfl, .inl rfl⟩, HBy2.out⟩
      · have t0 : ((q : Int) == 0) = false := by rw [beq_eq_false_iff_ne]; omega
        have HY := Lib.hid (show colonS i L cm = ⟨i, L.take q, true, cm, 0, 0⟩ by rw [HCL.out]; simp [HN.out, HQ.out, hq0])
        have g_0 := HG0.out.c 0 _ rfl
        have g_1 := HG0.out.c 1 _ rfl
        have g_2 := HG0.out.c 2 _ rfl
        have g_3 := HG0.out.c 3 _ rfl
        have g_z := HG0.out.fz
        have x0 := HX.out.1
        have x1 := HX.out.2.1
        go_upto_region 7 with fail
        obtain ⟨W5, hW5⟩ : ∃ x, x = ((W.setCell ⟨g, 1, none⟩ (.slice (some ⟨b, off, none⟩) q q)).setCell ⟨g, 2, none⟩ (.bool true)) := ⟨_, rfl⟩
        have HG5 := Lib.hid (show RowAt W5 g [.int .i64 i, .slice (some ⟨b, off, none⟩) q q, .bool true, .string cm] by rw [hW5]; exact row_set (row_set HG0.out 1 (by simp) _) 2 (by simp) _)
        have HH5 := Lib.hid (show RowAt W5 h [.int .i64 0, .slice none 0 0, .bool false, .string ⟨#[]⟩] by rw [hW5]; exact row_at (row_at HH0.out hgh _ _) hgh _ _)
        have HU5 := Lib.hid (show RowAt W5 u [.int .i64 0, .int .i64 0, .int .i64 0] by rw [hW5]; exact row_at (row_at HU0.out hgu _ _) hgu _ _)
        have HB5 := Lib.hid (show Below w.heap.size w W5 by rw [hW5]; exact (HB0.out.setCell HWG.out _).setCell HWG.out _)
        rw [← hW5]
        clear hW5 g_0 g_1 g_2 g_3 g_z
        have g_0 := HG5.out.c 0 _ rfl
        have g_1 := HG5.out.c 1 _ rfl
        have g_2 := HG5.out.c 2 _ rfl
        have g_3 := HG5.out.c 3 _ rfl
        have g_z := HG5.out.fz
        have r_0 := HH5.out.c 0 _ rfl
        have r_1 := HH5.out.c 1 _ rfl
        have r_2 := HH5.out.c 2 _ rfl
        have r_3 := HH5.out.c 3 _ rfl
        have r_z := HH5.out.fz
        have q_0 := HU5.out.c 0 _ rfl
        have q_1 := HU5.out.c 1 _ rfl
        have q_2 := HU5.out.c 2 _ rfl
        have q_z := HU5.out.fz
        go_wp2_with fail
        have hs1 := (HH5.out).setRow [.int .i64 i, .slice (some ⟨b, off, none⟩) q q, .bool true, .string cm] rfl
        have hs2 := ((HU5.out).other hhu [.int .i64 i, .slice (some ⟨b, off, none⟩) q q, .bool true, .string cm]).setRow [.int .i64 0, .int .i64 0, .int .i64 0] rfl
        have hs3 := hs1.other huh [.int .i64 0, .int .i64 0, .int .i64 0]
        have hbl := set_below (set_below HB5.out HWH.out [.int .i64 i, .slice (some ⟨b, off, none⟩) q q, .bool true, .string cm]) HWU.out [.int .i64 0, .int .i64 0, .int .i64 0]
        rw [sc4, sc3] at hs2 hs3 hbl
        clear hs1
        have y0 : (((((((W5.setCell ⟨h, 0, none⟩ (.int .i64 i)).setCell ⟨h, 1, none⟩ (.slice (some ⟨b, off, none⟩) q q)).setCell ⟨h, 2, none⟩ (.bool true)).setCell ⟨h, 3, none⟩ (.string cm)).setCell ⟨u, 0, none⟩ (.int .i64 0)).setCell ⟨u, 1, none⟩ (.int .i64 0)).setCell ⟨u, 2, none⟩ (.int .i64 0)).cell? ⟨h, 0, none⟩ = some (.int .i64 i) := hs3.c 0 _ rfl
        have y1 : (((((((W5.setCell ⟨h, 0, none⟩ (.int .i64 i)).setCell ⟨h, 1, none⟩ (.slice (some ⟨b, off, none⟩) q q)).setCell ⟨h, 2, none⟩ (.bool true)).setCell ⟨h, 3, none⟩ (.string cm)).setCell ⟨u, 0, none⟩ (.int .i64 0)).setCell ⟨u, 1, none⟩ (.int .i64 0)).setCell ⟨u, 2, none⟩ (.int .i64 0)).cell? ⟨h, 1, none⟩ = some (.slice (some ⟨b, off, none⟩) q q) := hs3.c 1 _ rfl
        have y2 : (((((((W5.setCell ⟨h, 0, none⟩ (.int .i64 i)).setCell ⟨h, 1, none⟩ (.slice (some ⟨b, off, none⟩) q q)).setCell ⟨h, 2, none⟩ (.bool true)).setCell ⟨h, 3, none⟩ (.string cm)).setCell ⟨u, 0, none⟩ (.int .i64 0)).setCell ⟨u, 1, none⟩ (.int .i64 0)).setCell ⟨u, 2, none⟩ (.int .i64 0)).cell? ⟨h, 2, none⟩ = some (.bool true) := hs3.c 2 _ rfl
        have y3 : (((((((W5.setCell ⟨h, 0, none⟩ (.int .i64 i)).setCell ⟨h, 1, none⟩ (.slice (some ⟨b, off, none⟩) q q)).setCell ⟨h, 2, none⟩ (.bool true)).setCell ⟨h, 3, none⟩ (.string cm)).setCell ⟨u, 0, none⟩ (.int .i64 0)).setCell ⟨u, 1, none⟩ (.int .i64 0)).setCell ⟨u, 2, none⟩ (.int .i64 0)).cell? ⟨h, 3, none⟩ = some (.string cm) := hs3.c 3 _ rfl
        have z0 : (((((((W5.setCell ⟨h, 0, none⟩ (.int .i64 i)).setCell ⟨h, 1, none⟩ (.slice (some ⟨b, off, none⟩) q q)).setCell ⟨h, 2, none⟩ (.bool true)).setCell ⟨h, 3, none⟩ (.string cm)).setCell ⟨u, 0, none⟩ (.int .i64 0)).setCell ⟨u, 1, none⟩ (.int .i64 0)).setCell ⟨u, 2, none⟩ (.int .i64 0)).cell? ⟨u, 0, none⟩ = some (.int .i64 0) := hs2.c 0 _ rfl
        have z1 : (((((((W5.setCell ⟨h, 0, none⟩ (.int .i64 i)).setCell ⟨h, 1, none⟩ (.slice (some ⟨b, off, none⟩) q q)).setCell ⟨h, 2, none⟩ (.bool true)).setCell ⟨h, 3, none⟩ (.string cm)).setCell ⟨u, 0, none⟩ (.int .i64 0)).setCell ⟨u, 1, none⟩ (.int .i64 0)).setCell ⟨u, 2, none⟩ (.int .i64 0)).cell? ⟨u, 1, none⟩ = some (.int .i64 0) := hs2.c 1 _ rfl
        have z2 : (((((((W5.setCell ⟨h, 0, none⟩ (.int .i64 i)).setCell ⟨h, 1, none⟩ (.slice (some ⟨b, off, none⟩) q q)).setCell ⟨h, 2, none⟩ (.bool true)).setCell ⟨h, 3, none⟩ (.string cm)).setCell ⟨u, 0, none⟩ (.int .i64 0)).setCell ⟨u, 1, none⟩ (.int .i64 0)).setCell ⟨u, 2, none⟩ (.int .i64 0)).cell? ⟨u, 2, none⟩ = some (.int .i64 0) := hs2.c 2 _ rfl
        (try simp only [Exit.inBlock, Exit.then])
        refine bodyPost_ret (by simp [results, Tryz.results32, go_sem, y0, y1, y2, y3, z0, z1, z2]; try rfl) rfl ?_
        rw [HY.out]
        exact ⟨⟨some ⟨b, off, none⟩, q, by show _ = Ending.returned (.tuple #[.agg #[.int .i64 i, .slice (some ⟨b, off, none⟩) (L.take q).length q, .bool true, .string cm], faultV 0 0]); rw [List.length_take, HN.out, Nat.min_eq_left s7]; (first | done | rfl), .inr rfl⟩, hbl⟩
  · have HY := Lib.hid (show colonS i L cm = ⟨i, L, false, cm, 0, 0⟩ by rw [HCL.out]; simp [h6])
    have t6 : (k != 6) = true := by simpa using h6
    clear h6
    have g_0 := HG0.out.c 0 _ rfl
    have g_1 := HG0.out.c 1 _ rfl
    have g_2 := HG0.out.c 2 _ rfl
    have g_3 := HG0.out.c 3 _ rfl
    have g_z := HG0.out.fz
    have x0 := HX.out.1
    have x1 := HX.out.2.1
    have r_0 := HH0.out.c 0 _ rfl
    have r_1 := HH0.out.c 1 _ rfl
    have r_2 := HH0.out.c 2 _ rfl
    have r_3 := HH0.out.c 3 _ rfl
    have r_z := HH0.out.fz
    have q_0 := HU0.out.c 0 _ rfl
    have q_1 := HU0.out.c 1 _ rfl
    have q_2 := HU0.out.c 2 _ rfl
    have q_z := HU0.out.fz
    go_wp2_with fail
    have hs1 := (HH0.out).setRow [.int .i64 i, .slice (some ⟨b, off, none⟩) n c, .bool false, .string cm] rfl
    have hs2 := ((HU0.out).other hhu [.int .i64 i, .slice (some ⟨b, off, none⟩) n c, .bool false, .string cm]).setRow [.int .i64 0, .int .i64 0, .int .i64 0] rfl
    have hs3 := hs1.other huh [.int .i64 0, .int .i64 0, .int .i64 0]
    have hbl := set_below (set_below HB0.out HWH.out [.int .i64 i, .slice (some ⟨b, off, none⟩) n c, .bool false, .string cm]) HWU.out [.int .i64 0, .int .i64 0, .int .i64 0]
    rw [sc4, sc3] at hs2 hs3 hbl
    clear hs1
    have y0 : (((((((W.setCell ⟨h, 0, none⟩ (.int .i64 i)).setCell ⟨h, 1, none⟩ (.slice (some ⟨b, off, none⟩) n c)).setCell ⟨h, 2, none⟩ (.bool false)).setCell ⟨h, 3, none⟩ (.string cm)).setCell ⟨u, 0, none⟩ (.int .i64 0)).setCell ⟨u, 1, none⟩ (.int .i64 0)).setCell ⟨u, 2, none⟩ (.int .i64 0)).cell? ⟨h, 0, none⟩ = some (.int .i64 i) := hs3.c 0 _ rfl
    have y1 : (((((((W.setCell ⟨h, 0, none⟩ (.int .i64 i)).setCell ⟨h, 1, none⟩ (.slice (some ⟨b, off, none⟩) n c)).setCell ⟨h, 2, none⟩ (.bool false)).setCell ⟨h, 3, none⟩ (.string cm)).setCell ⟨u, 0, none⟩ (.int .i64 0)).setCell ⟨u, 1, none⟩ (.int .i64 0)).setCell ⟨u, 2, none⟩ (.int .i64 0)).cell? ⟨h, 1, none⟩ = some (.slice (some ⟨b, off, none⟩) n c) := hs3.c 1 _ rfl
    have y2 : (((((((W.setCell ⟨h, 0, none⟩ (.int .i64 i)).setCell ⟨h, 1, none⟩ (.slice (some ⟨b, off, none⟩) n c)).setCell ⟨h, 2, none⟩ (.bool false)).setCell ⟨h, 3, none⟩ (.string cm)).setCell ⟨u, 0, none⟩ (.int .i64 0)).setCell ⟨u, 1, none⟩ (.int .i64 0)).setCell ⟨u, 2, none⟩ (.int .i64 0)).cell? ⟨h, 2, none⟩ = some (.bool false) := hs3.c 2 _ rfl
    have y3 : (((((((W.setCell ⟨h, 0, none⟩ (.int .i64 i)).setCell ⟨h, 1, none⟩ (.slice (some ⟨b, off, none⟩) n c)).setCell ⟨h, 2, none⟩ (.bool false)).setCell ⟨h, 3, none⟩ (.string cm)).setCell ⟨u, 0, none⟩ (.int .i64 0)).setCell ⟨u, 1, none⟩ (.int .i64 0)).setCell ⟨u, 2, none⟩ (.int .i64 0)).cell? ⟨h, 3, none⟩ = some (.string cm) := hs3.c 3 _ rfl
    have z0 : (((((((W.setCell ⟨h, 0, none⟩ (.int .i64 i)).setCell ⟨h, 1, none⟩ (.slice (some ⟨b, off, none⟩) n c)).setCell ⟨h, 2, none⟩ (.bool false)).setCell ⟨h, 3, none⟩ (.string cm)).setCell ⟨u, 0, none⟩ (.int .i64 0)).setCell ⟨u, 1, none⟩ (.int .i64 0)).setCell ⟨u, 2, none⟩ (.int .i64 0)).cell? ⟨u, 0, none⟩ = some (.int .i64 0) := hs2.c 0 _ rfl
    have z1 : (((((((W.setCell ⟨h, 0, none⟩ (.int .i64 i)).setCell ⟨h, 1, none⟩ (.slice (some ⟨b, off, none⟩) n c)).setCell ⟨h, 2, none⟩ (.bool false)).setCell ⟨h, 3, none⟩ (.string cm)).setCell ⟨u, 0, none⟩ (.int .i64 0)).setCell ⟨u, 1, none⟩ (.int .i64 0)).setCell ⟨u, 2, none⟩ (.int .i64 0)).cell? ⟨u, 1, none⟩ = some (.int .i64 0) := hs2.c 1 _ rfl
    have z2 : (((((((W.setCell ⟨h, 0, none⟩ (.int .i64 i)).setCell ⟨h, 1, none⟩ (.slice (some ⟨b, off, none⟩) n c)).setCell ⟨h, 2, none⟩ (.bool false)).setCell ⟨h, 3, none⟩ (.string cm)).setCell ⟨u, 0, none⟩ (.int .i64 0)).setCell ⟨u, 1, none⟩ (.int .i64 0)).setCell ⟨u, 2, none⟩ (.int .i64 0)).cell? ⟨u, 2, none⟩ = some (.int .i64 0) := hs2.c 2 _ rfl
    (try simp only [Exit.inBlock, Exit.then])
    refine bodyPost_ret (by simp [results, Tryz.results32, go_sem, y0, y1, y2, y3, z0, z1, z2]; try rfl) rfl ?_
    rw [HY.out]
    exact ⟨⟨some ⟨b, off, none⟩, c, by rw [HN.out]; (first | done | rfl), .inr rfl⟩, hbl⟩
end Go.Proofs.YtaaaddmdcldclaaGreatDoor
