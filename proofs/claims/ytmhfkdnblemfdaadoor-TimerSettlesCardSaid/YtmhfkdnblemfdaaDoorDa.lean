/- isPossible at every block, for any state. -/
import Derived.Test.YtmhfkdnblemfdaaDoorCf
namespace Go.Proofs.YtmhfkdnblemfdaaDoor
open Go.RowKit Go.Shelf

set_option linter.unusedVariables false
set_option linter.unusedSimpArgs false
def inZ (lo n hi : Int) : Bool := decide (lo ≤ n) && decide (n ≤ hi)
theorem inZ_yes {lo n hi : Int} (h1 : lo ≤ n) (h2 : n ≤ hi) : inZ lo n hi = true := by unfold inZ; rw [decide_eq_true h1, decide_eq_true h2]; rfl
theorem inZ_no {lo n hi : Int} (h : ¬ (lo ≤ n ∧ n ≤ hi)) : inZ lo n hi = false := by
  unfold inZ
  rw [Bool.and_eq_false_iff, decide_eq_false_iff_not, decide_eq_false_iff_not]
  omega
theorem inZ_le {lo n hi : Int} (h : inZ lo n hi = true) : lo ≤ n ∧ n ≤ hi := by
  unfold inZ at h
  rw [Bool.and_eq_true, decide_eq_true_eq, decide_eq_true_eq] at h
  exact h
theorem cellB {w w' : World} {a : Addr} {v : Value} (hc : w.cell? a = some v) (hb : Below w.heap.size w w') : w'.cell? a = some v := (hb.cell (World.block_lt_of_cell? _ _ hc)).trans hc
theorem belowN (B : Nat) (w : World) (n : Nat) : Below B w (w.drewN n) := ⟨rfl, rfl, rfl, Nat.le_refl _, fun _ _ => rfl⟩
theorem possC0 (g q o n c : Nat) (x lo hi : Int) (w : World) (hn : 0 < n) (hg : w.cell? ⟨g, 0, none⟩ = some (.slice (some ⟨q, o, none⟩) n c)) (hx : w.cell? ⟨q, o, none⟩ = some (.int .i64 x)) :
    Calls Tryd.prog 42 #[.int .i64 0, .int .i64 lo, .int .i64 hi, .pointer (some ⟨g, 0, none⟩)] w fun e w' => e = .returned (.bool (inZ lo x hi)) ∧ w = w' := by
  have n1 : (0 : Int) < (n : Int) := by omega
  by_cases h1 : lo ≤ x
  · by_cases h2 : x ≤ hi
    · rw [inZ_yes h1 h2]
      go_enter Tryd.func42, Tryd.ntmps42
      go_wp2_with fail
      go_ret
      exact ⟨rfl, rfl⟩
    · rw [inZ_no (fun h => h2 h.2)]
      go_enter Tryd.func42, Tryd.ntmps42
      go_wp2_with fail
      go_ret
      exact ⟨rfl, rfl⟩
  · rw [inZ_no (fun h => h1 h.1)]
    go_enter Tryd.func42, Tryd.ntmps42
    go_wp2_with fail
    go_ret
    exact ⟨rfl, rfl⟩

theorem possC1 (g q o n c : Nat) (x lo hi : Int) (w : World) (hn : 1 < n) (hg : w.cell? ⟨g, 0, none⟩ = some (.slice (some ⟨q, o, none⟩) n c)) (hx : w.cell? ⟨q, o + 1, none⟩ = some (.int .i64 x)) :
    Calls Tryd.prog 42 #[.int .i64 1, .int .i64 lo, .int .i64 hi, .pointer (some ⟨g, 0, none⟩)] w fun e w' => e = .returned (.bool (inZ lo x hi)) ∧ w = w' := by
  have n1 : (1 : Int) < (n : Int) := by omega
  by_cases h1 : lo ≤ x
  · by_cases h2 : x ≤ hi
    · rw [inZ_yes h1 h2]
      go_enter Tryd.func42, Tryd.ntmps42
      go_wp2_with fail
      go_ret
      exact ⟨rfl, rfl⟩
    · rw [inZ_no (fun h => h2 h.2)]
      go_enter Tryd.func42, Tryd.ntmps42
      go_wp2_with fail
      go_ret
      exact ⟨rfl, rfl⟩
  · rw [inZ_no (fun h => h1 h.1)]
    go_enter Tryd.func42, Tryd.ntmps42
    go_wp2_with fail
    go_ret
    exact ⟨rfl, rfl⟩

def poss_count : List Int → Bool
  | [a, c] => inZ 0 a 1 && inZ 0 c 1000000000
  | _ => false
set_option maxHeartbeats 4000000 in
set_option maxRecDepth 100000 in
theorem poss_count_any (rb sc : Nat) (sa : Option Addr) (st : List Int) (v1 v2 v3 v5 v6 v7 : Value) (w : World) (hr : RowAt w rb [.string ⟨#[99, 111, 117, 110, 116]⟩, v1, v2, v3, .int .i64 ((2 : Nat) : Int), v5, v6, v7]) (hst : InS w sa st.length 1 (flat iL st)) :
    Calls Tryd.prog 30 #[.pointer (some ⟨rb, 0, none⟩), .slice sa st.length sc] w fun e w' => e = .returned (.bool (poss_count st)) ∧ Below w.heap.size w w' := by
  obtain ⟨W, g, hW, hg, RG, B, sz⟩ := box1 w #[.slice sa st.length sc] 22
  have HB := Lib.hid B
  have HR := Lib.hid (hr.keep B)
  have HG0' := RG.c 0 _ rfl
  have HST := Lib.hid (hst.keep B)
  have hmf : ∀ (fn : Fn) (first cap : Array Value) (w : World), (Instr.makeFunc fn first cap).run Tryd.prog w = .ok (.func fn first cap) w := fun _ _ _ _ => rfl
  have m63 : st.length ≤ 9223372036854775807 := hst.2.1
  clear hr hst RG B sz 
  by_cases hl : st.length = 2
  · obtain ⟨a, c, rfl⟩ : ∃ a c, st = [a, c] := by
      match st, hl with
      | [a, c], _ => exact ⟨_, _, rfl⟩
    have HG0 := Lib.hid (show W.cell? ⟨g, 0, none⟩ = some (.slice sa 2 sc) from HG0')
    clear HG0' hl m63
    have g0 := HG0.out
    change W = w.alloc (Obj.cells #[.slice sa 2 sc] 22) at hW
    show Calls Tryd.prog 30 #[.pointer (some ⟨rb, 0, none⟩), .slice sa 2 sc] w fun e w' => e = .returned (.bool (inZ 0 a 1 && inZ 0 c 1000000000)) ∧ Below w.heap.size w w'
    obtain ⟨sb, so, rfl, hsl, hsc⟩ := (show InS W sa 2 1 (flat iL [a, c]) from HST.out).at (xs := [a, c]) iL_len (by simp)
    have s0 : W.cell? ⟨sb, so, none⟩ = some (.int .i64 a) := by have h := hsc 0 _ rfl 0 _ rfl; simpa using h
    have s1 : W.cell? ⟨sb, so + 1, none⟩ = some (.int .i64 c) := by have h := hsc 1 _ rfl 0 _ rfl; simpa using h
    have HS0 := Lib.hid s0
    have HS1 := Lib.hid s1
    clear hsl hsc s0 s1
    go_enter Tryd.func30, Tryd.ntmps30
    go_upto_region 1 with fail
    rw [← hW]
    try rw [← hg]
    clear hW hg
    have r_0 := HR.out.c 0 _ rfl
    have r_4 := HR.out.c 4 _ rfl
    go_wp2_with fail
    go_quiet (fail)
    obtain ⟨w1, hw1⟩ : ∃ x, x = W.drewN nq := ⟨_, rfl⟩
    have hb1 : Below W.heap.size W w1 := by rw [hw1]; exact belowN _ _ _
    have HB1 := Lib.hid (HB.out.trans (hb1.mono HB.out.size))
    rw [← hw1]
    have r2 := HR.out.keep hb1
    have r_0 := r2.c 0 _ rfl
    have kc := possC0 g sb so 2 sc a 0 1 w1 (by decide) (cellB HG0.out hb1) (cellB HS0.out hb1)
    have kd := possC1 g sb so 2 sc c 0 1000000000 w1 (by decide) (cellB HG0.out hb1) (cellB HS1.out hb1)
    obtain ⟨Z, hZ⟩ : ∃ x, x = inZ 0 a 1 := ⟨_, rfl⟩
    obtain ⟨Y, hY⟩ : ∃ x, x = inZ 0 c 1000000000 := ⟨_, rfl⟩
    rw [← hZ] at kc
    rw [← hY] at kd
    have KC := Lib.hid kc
    have KD := Lib.hid kd
    have HZ := Lib.hid hZ
    have HY := Lib.hid hY
    clear kc kd hZ hY hw1 hb1
    go_wp2_with fail
    refine KC.out.mono ?_
    rintro e w2 ⟨rfl, rfl⟩
    cases Z
    · go_wp2_with fail
      go_ret
      exact ⟨by rw [← HZ.out]; rfl, HB1.out⟩
    · go_wp2_with fail
      refine KD.out.mono ?_
      rintro e w2 ⟨rfl, rfl⟩
      go_wp2_with fail
      go_ret
      exact ⟨by rw [← HZ.out, ← HY.out]; rfl, HB1.out⟩
  · have HF := Lib.hid (show poss_count st = false by unfold poss_count; split; exact absurd rfl hl; rfl)
    obtain ⟨F, hF⟩ : ∃ x, x = poss_count st := ⟨_, rfl⟩
    rw [← hF] at HF ⊢
    obtain ⟨M, hM⟩ : ∃ M, M = st.length := ⟨_, rfl⟩
    rw [← hM] at HG0' hl m63 hW ⊢
    have g0 := HG0'
    have hl2 : ¬ ((M : Int) = 2) := by omega
    clear hM hF HST hl
    go_enter Tryd.func30, Tryd.ntmps30
    go_upto_region 1 with fail
    rw [← hW]
    try rw [← hg]
    clear hW hg
    have r_0 := HR.out.c 0 _ rfl
    have r_4 := HR.out.c 4 _ rfl
    go_wp2_with fail
    go_quiet (fail)
    obtain ⟨w1, hw1⟩ : ∃ x, x = W.drewN nq := ⟨_, rfl⟩
    have hb1 : Below W.heap.size W w1 := by rw [hw1]; exact belowN _ _ _
    have HB1 := Lib.hid (HB.out.trans (hb1.mono HB.out.size))
    rw [← hw1]
    have r2 := HR.out.keep hb1
    have r_0 := r2.c 0 _ rfl
    clear hw1 hb1
    go_wp2_with fail
    go_ret
    exact ⟨by rw [HF.out]; rfl, HB1.out⟩
def poss_edge : List Int → Bool
  | [a] => inZ 0 a 1
  | _ => false
set_option maxHeartbeats 4000000 in
set_option maxRecDepth 100000 in
theorem poss_edge_any (rb sc : Nat) (sa : Option Addr) (st : List Int) (v1 v2 v3 v5 v6 v7 : Value) (w : World) (hr : RowAt w rb [.string ⟨#[101, 100, 103, 101]⟩, v1, v2, v3, .int .i64 ((1 : Nat) : Int), v5, v6, v7]) (hst : InS w sa st.length 1 (flat iL st)) :
    Calls Tryd.prog 30 #[.pointer (some ⟨rb, 0, none⟩), .slice sa st.length sc] w fun e w' => e = .returned (.bool (poss_edge st)) ∧ Below w.heap.size w w' := by
  obtain ⟨W, g, hW, hg, RG, B, sz⟩ := box1 w #[.slice sa st.length sc] 22
  have HB := Lib.hid B
  have HR := Lib.hid (hr.keep B)
  have HG0' := RG.c 0 _ rfl
  have HST := Lib.hid (hst.keep B)
  have hmf : ∀ (fn : Fn) (first cap : Array Value) (w : World), (Instr.makeFunc fn first cap).run Tryd.prog w = .ok (.func fn first cap) w := fun _ _ _ _ => rfl
  have m63 : st.length ≤ 9223372036854775807 := hst.2.1
  clear hr hst RG B sz 
  by_cases hl : st.length = 1
  · obtain ⟨a, rfl⟩ : ∃ a, st = [a] := by
      match st, hl with
      | [a], _ => exact ⟨_, rfl⟩
    have HG0 := Lib.hid (show W.cell? ⟨g, 0, none⟩ = some (.slice sa 1 sc) from HG0')
    clear HG0' hl m63
    have g0 := HG0.out
    change W = w.alloc (Obj.cells #[.slice sa 1 sc] 22) at hW
    show Calls Tryd.prog 30 #[.pointer (some ⟨rb, 0, none⟩), .slice sa 1 sc] w fun e w' => e = .returned (.bool (inZ 0 a 1)) ∧ Below w.heap.size w w'
    obtain ⟨sb, so, rfl, hsl, hsc⟩ := (show InS W sa 1 1 (flat iL [a]) from HST.out).at (xs := [a]) iL_len (by simp)
    have s0 : W.cell? ⟨sb, so, none⟩ = some (.int .i64 a) := by have h := hsc 0 _ rfl 0 _ rfl; simpa using h
    have HS0 := Lib.hid s0
    clear hsl hsc s0
    go_enter Tryd.func30, Tryd.ntmps30
    go_upto_region 1 with fail
    rw [← hW]
    try rw [← hg]
    clear hW hg
    have r_0 := HR.out.c 0 _ rfl
    have r_4 := HR.out.c 4 _ rfl
    go_wp2_with fail
    go_quiet (fail)
    obtain ⟨w1, hw1⟩ : ∃ x, x = W.drewN nq := ⟨_, rfl⟩
    have hb1 : Below W.heap.size W w1 := by rw [hw1]; exact belowN _ _ _
    have HB1 := Lib.hid (HB.out.trans (hb1.mono HB.out.size))
    rw [← hw1]
    have r2 := HR.out.keep hb1
    have r_0 := r2.c 0 _ rfl
    have kc := possC0 g sb so 1 sc a 0 1 w1 (by decide) (cellB HG0.out hb1) (cellB HS0.out hb1)
    obtain ⟨Z, hZ⟩ : ∃ x, x = inZ 0 a 1 := ⟨_, rfl⟩
    rw [← hZ] at kc
    have KC := Lib.hid kc
    have HZ := Lib.hid hZ
    clear kc hZ hw1 hb1
    go_wp2_with fail
    refine KC.out.mono ?_
    rintro e w2 ⟨rfl, rfl⟩
    go_wp2_with fail
    go_ret
    exact ⟨by rw [HZ.out]; rfl, HB1.out⟩
  · have HF := Lib.hid (show poss_edge st = false by unfold poss_edge; split; exact absurd rfl hl; rfl)
    obtain ⟨F, hF⟩ : ∃ x, x = poss_edge st := ⟨_, rfl⟩
    rw [← hF] at HF ⊢
    obtain ⟨M, hM⟩ : ∃ M, M = st.length := ⟨_, rfl⟩
    rw [← hM] at HG0' hl m63 hW ⊢
    have g0 := HG0'
    have hl2 : ¬ ((M : Int) = 1) := by omega
    clear hM hF HST hl
    go_enter Tryd.func30, Tryd.ntmps30
    go_upto_region 1 with fail
    rw [← hW]
    try rw [← hg]
    clear hW hg
    have r_0 := HR.out.c 0 _ rfl
    have r_4 := HR.out.c 4 _ rfl
    go_wp2_with fail
    go_quiet (fail)
    obtain ⟨w1, hw1⟩ : ∃ x, x = W.drewN nq := ⟨_, rfl⟩
    have hb1 : Below W.heap.size W w1 := by rw [hw1]; exact belowN _ _ _
    have HB1 := Lib.hid (HB.out.trans (hb1.mono HB.out.size))
    rw [← hw1]
    have r2 := HR.out.keep hb1
    have r_0 := r2.c 0 _ rfl
    clear hw1 hb1
    go_wp2_with fail
    go_ret
    exact ⟨by rw [HF.out]; rfl, HB1.out⟩
def poss_hyst (p0 p1 : Int) : List Int → Bool
  | [a] => inZ 0 a 1
  | _ => false
set_option maxHeartbeats 4000000 in
set_option maxRecDepth 100000 in
theorem poss_hyst_any (rb pb po pc sc : Nat) (sa : Option Addr) (p0 p1 : Int) (st : List Int) (v1 v2 v3 v5 v7 : Value) (w : World) (hr : RowAt w rb [.string ⟨#[104, 121, 115, 116]⟩, v1, v2, v3, .int .i64 ((1 : Nat) : Int), v5, .slice (some ⟨pb, po, none⟩) 2 pc, v7]) (hp0 : w.cell? ⟨pb, po, none⟩ = some (.int .i64 p0)) (hp1 : w.cell? ⟨pb, po + 1, none⟩ = some (.int .i64 p1)) (hst : InS w sa st.length 1 (flat iL st)) :
    Calls Tryd.prog 30 #[.pointer (some ⟨rb, 0, none⟩), .slice sa st.length sc] w fun e w' => e = .returned (.bool (poss_hyst p0 p1 st)) ∧ Below w.heap.size w w' := by
  obtain ⟨W, g, hW, hg, RG, B, sz⟩ := box1 w #[.slice sa st.length sc] 22
  have HB := Lib.hid B
  have HR := Lib.hid (hr.keep B)
  have HG0' := RG.c 0 _ rfl
  have HST := Lib.hid (hst.keep B)
  have HP0 := Lib.hid (cellB hp0 B)
  have HP1 := Lib.hid (cellB hp1 B)
  have hmf : ∀ (fn : Fn) (first cap : Array Value) (w : World), (Instr.makeFunc fn first cap).run Tryd.prog w = .ok (.func fn first cap) w := fun _ _ _ _ => rfl
  have m63 : st.length ≤ 9223372036854775807 := hst.2.1
  clear hr hst RG B sz hp0 hp1
  by_cases hl : st.length = 1
  · obtain ⟨a, rfl⟩ : ∃ a, st = [a] := by
      match st, hl with
      | [a], _ => exact ⟨_, rfl⟩
    have HG0 := Lib.hid (show W.cell? ⟨g, 0, none⟩ = some (.slice sa 1 sc) from HG0')
    clear HG0' hl m63
    have g0 := HG0.out
    change W = w.alloc (Obj.cells #[.slice sa 1 sc] 22) at hW
    show Calls Tryd.prog 30 #[.pointer (some ⟨rb, 0, none⟩), .slice sa 1 sc] w fun e w' => e = .returned (.bool (inZ 0 a 1)) ∧ Below w.heap.size w w'
    obtain ⟨sb, so, rfl, hsl, hsc⟩ := (show InS W sa 1 1 (flat iL [a]) from HST.out).at (xs := [a]) iL_len (by simp)
    have s0 : W.cell? ⟨sb, so, none⟩ = some (.int .i64 a) := by have h := hsc 0 _ rfl 0 _ rfl; simpa using h
    have HS0 := Lib.hid s0
    clear hsl hsc s0
    go_enter Tryd.func30, Tryd.ntmps30
    go_upto_region 1 with fail
    rw [← hW]
    try rw [← hg]
    clear hW hg
    have r_0 := HR.out.c 0 _ rfl
    have r_4 := HR.out.c 4 _ rfl
    have r_6 := HR.out.c 6 _ rfl
    have q0 := HP0.out
    have q1 := HP1.out
    go_wp2_with fail
    go_quiet (fail)
    obtain ⟨w1, hw1⟩ : ∃ x, x = W.drewN nq := ⟨_, rfl⟩
    have hb1 : Below W.heap.size W w1 := by rw [hw1]; exact belowN _ _ _
    have HB1 := Lib.hid (HB.out.trans (hb1.mono HB.out.size))
    rw [← hw1]
    have r2 := HR.out.keep hb1
    have r_0 := r2.c 0 _ rfl
    have r_6 := r2.c 6 _ rfl
    have q0 := cellB HP0.out hb1
    have q1 := cellB HP1.out hb1
    have kc := possC0 g sb so 1 sc a 0 1 w1 (by decide) (cellB HG0.out hb1) (cellB HS0.out hb1)
    obtain ⟨Z, hZ⟩ : ∃ x, x = inZ 0 a 1 := ⟨_, rfl⟩
    rw [← hZ] at kc
    have KC := Lib.hid kc
    have HZ := Lib.hid hZ
    clear kc hZ hw1 hb1
    go_wp2_with fail
    refine KC.out.mono ?_
    rintro e w2 ⟨rfl, rfl⟩
    go_wp2_with fail
    go_ret
    exact ⟨by rw [HZ.out]; rfl, HB1.out⟩
  · have HF := Lib.hid (show poss_hyst p0 p1 st = false by unfold poss_hyst; split; exact absurd rfl hl; rfl)
    obtain ⟨F, hF⟩ : ∃ x, x = poss_hyst p0 p1 st := ⟨_, rfl⟩
    rw [← hF] at HF ⊢
    obtain ⟨M, hM⟩ : ∃ M, M = st.length := ⟨_, rfl⟩
    rw [← hM] at HG0' hl m63 hW ⊢
    have g0 := HG0'
    have hl2 : ¬ ((M : Int) = 1) := by omega
    clear hM hF HST hl
    go_enter Tryd.func30, Tryd.ntmps30
    go_upto_region 1 with fail
    rw [← hW]
    try rw [← hg]
    clear hW hg
    have r_0 := HR.out.c 0 _ rfl
    have r_4 := HR.out.c 4 _ rfl
    have r_6 := HR.out.c 6 _ rfl
    have q0 := HP0.out
    have q1 := HP1.out
    go_wp2_with fail
    go_quiet (fail)
    obtain ⟨w1, hw1⟩ : ∃ x, x = W.drewN nq := ⟨_, rfl⟩
    have hb1 : Below W.heap.size W w1 := by rw [hw1]; exact belowN _ _ _
    have HB1 := Lib.hid (HB.out.trans (hb1.mono HB.out.size))
    rw [← hw1]
    have r2 := HR.out.keep hb1
    have r_0 := r2.c 0 _ rfl
    have r_6 := r2.c 6 _ rfl
    have q0 := cellB HP0.out hb1
    have q1 := cellB HP1.out hb1
    clear hw1 hb1
    go_wp2_with fail
    go_ret
    exact ⟨by rw [HF.out]; rfl, HB1.out⟩
def poss_latch : List Int → Bool
  | [a] => inZ 0 a 1
  | _ => false
set_option maxHeartbeats 4000000 in
set_option maxRecDepth 100000 in
theorem poss_latch_any (rb sc : Nat) (sa : Option Addr) (st : List Int) (v1 v2 v3 v5 v6 v7 : Value) (w : World) (hr : RowAt w rb [.string ⟨#[108, 97, 116, 99, 104]⟩, v1, v2, v3, .int .i64 ((1 : Nat) : Int), v5, v6, v7]) (hst : InS w sa st.length 1 (flat iL st)) :
    Calls Tryd.prog 30 #[.pointer (some ⟨rb, 0, none⟩), .slice sa st.length sc] w fun e w' => e = .returned (.bool (poss_latch st)) ∧ Below w.heap.size w w' := by
  obtain ⟨W, g, hW, hg, RG, B, sz⟩ := box1 w #[.slice sa st.length sc] 22
  have HB := Lib.hid B
  have HR := Lib.hid (hr.keep B)
  have HG0' := RG.c 0 _ rfl
  have HST := Lib.hid (hst.keep B)
  have hmf : ∀ (fn : Fn) (first cap : Array Value) (w : World), (Instr.makeFunc fn first cap).run Tryd.prog w = .ok (.func fn first cap) w := fun _ _ _ _ => rfl
  have m63 : st.length ≤ 9223372036854775807 := hst.2.1
  clear hr hst RG B sz 
  by_cases hl : st.length = 1
  · obtain ⟨a, rfl⟩ : ∃ a, st = [a] := by
      match st, hl with
      | [a], _ => exact ⟨_, rfl⟩
    have HG0 := Lib.hid (show W.cell? ⟨g, 0, none⟩ = some (.slice sa 1 sc) from HG0')
    clear HG0' hl m63
    have g0 := HG0.out
    change W = w.alloc (Obj.cells #[.slice sa 1 sc] 22) at hW
    show Calls Tryd.prog 30 #[.pointer (some ⟨rb, 0, none⟩), .slice sa 1 sc] w fun e w' => e = .returned (.bool (inZ 0 a 1)) ∧ Below w.heap.size w w'
    obtain ⟨sb, so, rfl, hsl, hsc⟩ := (show InS W sa 1 1 (flat iL [a]) from HST.out).at (xs := [a]) iL_len (by simp)
    have s0 : W.cell? ⟨sb, so, none⟩ = some (.int .i64 a) := by have h := hsc 0 _ rfl 0 _ rfl; simpa using h
    have HS0 := Lib.hid s0
    clear hsl hsc s0
    go_enter Tryd.func30, Tryd.ntmps30
    go_upto_region 1 with fail
    rw [← hW]
    try rw [← hg]
    clear hW hg
    have r_0 := HR.out.c 0 _ rfl
    have r_4 := HR.out.c 4 _ rfl
    go_wp2_with fail
    go_quiet (fail)
    obtain ⟨w1, hw1⟩ : ∃ x, x = W.drewN nq := ⟨_, rfl⟩
    have hb1 : Below W.heap.size W w1 := by rw [hw1]; exact belowN _ _ _
    have HB1 := Lib.hid (HB.out.trans (hb1.mono HB.out.size))
    rw [← hw1]
    have r2 := HR.out.keep hb1
    have r_0 := r2.c 0 _ rfl
    have kc := possC0 g sb so 1 sc a 0 1 w1 (by decide) (cellB HG0.out hb1) (cellB HS0.out hb1)
    obtain ⟨Z, hZ⟩ : ∃ x, x = inZ 0 a 1 := ⟨_, rfl⟩
    rw [← hZ] at kc
    have KC := Lib.hid kc
    have HZ := Lib.hid hZ
    clear kc hZ hw1 hb1
    go_wp2_with fail
    refine KC.out.mono ?_
    rintro e w2 ⟨rfl, rfl⟩
    go_wp2_with fail
    go_ret
    exact ⟨by rw [HZ.out]; rfl, HB1.out⟩
  · have HF := Lib.hid (show poss_latch st = false by unfold poss_latch; split; exact absurd rfl hl; rfl)
    obtain ⟨F, hF⟩ : ∃ x, x = poss_latch st := ⟨_, rfl⟩
    rw [← hF] at HF ⊢
    obtain ⟨M, hM⟩ : ∃ M, M = st.length := ⟨_, rfl⟩
    rw [← hM] at HG0' hl m63 hW ⊢
    have g0 := HG0'
    have hl2 : ¬ ((M : Int) = 1) := by omega
    clear hM hF HST hl
    go_enter Tryd.func30, Tryd.ntmps30
    go_upto_region 1 with fail
    rw [← hW]
    try rw [← hg]
    clear hW hg
    have r_0 := HR.out.c 0 _ rfl
    have r_4 := HR.out.c 4 _ rfl
    go_wp2_with fail
    go_quiet (fail)
    obtain ⟨w1, hw1⟩ : ∃ x, x = W.drewN nq := ⟨_, rfl⟩
    have hb1 : Below W.heap.size W w1 := by rw [hw1]; exact belowN _ _ _
    have HB1 := Lib.hid (HB.out.trans (hb1.mono HB.out.size))
    rw [← hw1]
    have r2 := HR.out.keep hb1
    have r_0 := r2.c 0 _ rfl
    clear hw1 hb1
    go_wp2_with fail
    go_ret
    exact ⟨by rw [HF.out]; rfl, HB1.out⟩
def poss_minrun (p0 p1 : Int) : List Int → Bool
  | [a, c] => inZ 0 a 1 && inZ 0 c (leastN p0 p1 a)
  | _ => false
set_option maxHeartbeats 4000000 in
set_option maxRecDepth 100000 in
theorem poss_minrun_any (rb pb po pc sc : Nat) (v7b v7n : Nat) (sa : Option Addr) (p0 p1 : Int) (st : List Int) (v1 v2 v3 v5 : Value) (w : World) (hr : RowAt w rb [.string ⟨#[109, 105, 110, 114, 117, 110]⟩, v1, v2, v3, .int .i64 ((2 : Nat) : Int), v5, .slice (some ⟨pb, po, none⟩) 2 pc, .slice (some ⟨v7b, 0, none⟩) v7n v7n]) (hp0 : w.cell? ⟨pb, po, none⟩ = some (.int .i64 p0)) (hp1 : w.cell? ⟨pb, po + 1, none⟩ = some (.int .i64 p1)) (hst : InS w sa st.length 1 (flat iL st)) :
    Calls Tryd.prog 30 #[.pointer (some ⟨rb, 0, none⟩), .slice sa st.length sc] w fun e w' => e = .returned (.bool (poss_minrun p0 p1 st)) ∧ Below w.heap.size w w' := by
  obtain ⟨W, g, hW, hg, RG, B, sz⟩ := box1 w #[.slice sa st.length sc] 22
  have HB := Lib.hid B
  have HR := Lib.hid (hr.keep B)
  have HG0' := RG.c 0 _ rfl
  have HST := Lib.hid (hst.keep B)
  have HP0 := Lib.hid (cellB hp0 B)
  have HP1 := Lib.hid (cellB hp1 B)
  have hmf : ∀ (fn : Fn) (first cap : Array Value) (w : World), (Instr.makeFunc fn first cap).run Tryd.prog w = .ok (.func fn first cap) w := fun _ _ _ _ => rfl
  have m63 : st.length ≤ 9223372036854775807 := hst.2.1
  clear hr hst RG B sz hp0 hp1
  by_cases hl : st.length = 2
  · obtain ⟨a, c, rfl⟩ : ∃ a c, st = [a, c] := by
      match st, hl with
      | [a, c], _ => exact ⟨_, _, rfl⟩
    have HG0 := Lib.hid (show W.cell? ⟨g, 0, none⟩ = some (.slice sa 2 sc) from HG0')
    clear HG0' hl m63
    have g0 := HG0.out
    change W = w.alloc (Obj.cells #[.slice sa 2 sc] 22) at hW
    show Calls Tryd.prog 30 #[.pointer (some ⟨rb, 0, none⟩), .slice sa 2 sc] w fun e w' => e = .returned (.bool (inZ 0 a 1 && inZ 0 c (leastN p0 p1 a))) ∧ Below w.heap.size w w'
    obtain ⟨sb, so, rfl, hsl, hsc⟩ := (show InS W sa 2 1 (flat iL [a, c]) from HST.out).at (xs := [a, c]) iL_len (by simp)
    have s0 : W.cell? ⟨sb, so, none⟩ = some (.int .i64 a) := by have h := hsc 0 _ rfl 0 _ rfl; simpa using h
    have s1 : W.cell? ⟨sb, so + 1, none⟩ = some (.int .i64 c) := by have h := hsc 1 _ rfl 0 _ rfl; simpa using h
    have HS0 := Lib.hid s0
    have HS1 := Lib.hid s1
    clear hsl hsc s0 s1
    go_enter Tryd.func30, Tryd.ntmps30
    go_upto_region 1 with fail
    rw [← hW]
    try rw [← hg]
    clear hW hg
    have r_0 := HR.out.c 0 _ rfl
    have r_4 := HR.out.c 4 _ rfl
    have r_6 := HR.out.c 6 _ rfl
    have q0 := HP0.out
    have q1 := HP1.out
    go_wp2_with fail
    go_quiet (fail)
    obtain ⟨w1, hw1⟩ : ∃ x, x = W.drewN nq := ⟨_, rfl⟩
    have hb1 : Below W.heap.size W w1 := by rw [hw1]; exact belowN _ _ _
    have HB1 := Lib.hid (HB.out.trans (hb1.mono HB.out.size))
    rw [← hw1]
    have r2 := HR.out.keep hb1
    have r_0 := r2.c 0 _ rfl
    have r_6 := r2.c 6 _ rfl
    have q0 := cellB HP0.out hb1
    have q1 := cellB HP1.out hb1
    have kc := possC0 g sb so 2 sc a 0 1 w1 (by decide) (cellB HG0.out hb1) (cellB HS0.out hb1)
    have kd := possC1 g sb so 2 sc c 0 (leastN p0 p1 a) w1 (by decide) (cellB HG0.out hb1) (cellB HS1.out hb1)
    have g0 := cellB HG0.out hb1
    have t0 := cellB HS0.out hb1
    have kl := least_any rb pb po pc v7b v7n _ _ _ _ _ _ p0 p1 a w1 r2 q0 q1
    have KL := Lib.hid kl
    clear kl
    obtain ⟨Z, hZ⟩ : ∃ x, x = inZ 0 a 1 := ⟨_, rfl⟩
    obtain ⟨Y, hY⟩ : ∃ x, x = inZ 0 c (leastN p0 p1 a) := ⟨_, rfl⟩
    rw [← hZ] at kc
    rw [← hY] at kd
    have KC := Lib.hid kc
    have KD := Lib.hid kd
    have HZ := Lib.hid hZ
    have HY := Lib.hid hY
    clear kc kd hZ hY hw1 hb1
    go_wp2_with fail
    refine KC.out.mono ?_
    rintro e w2 ⟨rfl, rfl⟩
    cases Z
    · go_wp2_with fail
      go_ret
      exact ⟨by rw [← HZ.out]; rfl, HB1.out⟩
    · go_wp2_with fail
      refine KL.out.mono ?_
      rintro e w2 ⟨rfl, rfl⟩
      go_wp2_with fail
      refine KD.out.mono ?_
      rintro e w2 ⟨rfl, rfl⟩
      go_wp2_with fail
      go_ret
      exact ⟨by rw [← HZ.out, ← HY.out]; rfl, HB1.out⟩
  · have HF := Lib.hid (show poss_minrun p0 p1 st = false by unfold poss_minrun; split; exact absurd rfl hl; rfl)
    obtain ⟨F, hF⟩ : ∃ x, x = poss_minrun p0 p1 st := ⟨_, rfl⟩
    rw [← hF] at HF ⊢
    obtain ⟨M, hM⟩ : ∃ M, M = st.length := ⟨_, rfl⟩
    rw [← hM] at HG0' hl m63 hW ⊢
    have g0 := HG0'
    have hl2 : ¬ ((M : Int) = 2) := by omega
    clear hM hF HST hl
    go_enter Tryd.func30, Tryd.ntmps30
    go_upto_region 1 with fail
    rw [← hW]
    try rw [← hg]
    clear hW hg
    have r_0 := HR.out.c 0 _ rfl
    have r_4 := HR.out.c 4 _ rfl
    have r_6 := HR.out.c 6 _ rfl
    have q0 := HP0.out
    have q1 := HP1.out
    go_wp2_with fail
    go_quiet (fail)
    obtain ⟨w1, hw1⟩ : ∃ x, x = W.drewN nq := ⟨_, rfl⟩
    have hb1 : Below W.heap.size W w1 := by rw [hw1]; exact belowN _ _ _
    have HB1 := Lib.hid (HB.out.trans (hb1.mono HB.out.size))
    rw [← hw1]
    have r2 := HR.out.keep hb1
    have r_0 := r2.c 0 _ rfl
    have r_6 := r2.c 6 _ rfl
    have q0 := cellB HP0.out hb1
    have q1 := cellB HP1.out hb1
    clear hw1 hb1
    go_wp2_with fail
    go_ret
    exact ⟨by rw [HF.out]; rfl, HB1.out⟩
def poss_offdelay (p0 : Int) : List Int → Bool
  | [a] => inZ (-1) a p0
  | _ => false
set_option maxHeartbeats 4000000 in
set_option maxRecDepth 100000 in
theorem poss_offdelay_any (rb pb po pc sc : Nat) (sa : Option Addr) (p0 : Int) (st : List Int) (v1 v2 v3 v5 v7 : Value) (w : World) (hr : RowAt w rb [.string ⟨#[111, 102, 102, 100, 101, 108, 97, 121]⟩, v1, v2, v3, .int .i64 ((1 : Nat) : Int), v5, .slice (some ⟨pb, po, none⟩) 1 pc, v7]) (hp0 : w.cell? ⟨pb, po, none⟩ = some (.int .i64 p0)) (hst : InS w sa st.length 1 (flat iL st)) :
    Calls Tryd.prog 30 #[.pointer (some ⟨rb, 0, none⟩), .slice sa st.length sc] w fun e w' => e = .returned (.bool (poss_offdelay p0 st)) ∧ Below w.heap.size w w' := by
  obtain ⟨W, g, hW, hg, RG, B, sz⟩ := box1 w #[.slice sa st.length sc] 22
  have HB := Lib.hid B
  have HR := Lib.hid (hr.keep B)
  have HG0' := RG.c 0 _ rfl
  have HST := Lib.hid (hst.keep B)
  have HP0 := Lib.hid (cellB hp0 B)
  have hmf : ∀ (fn : Fn) (first cap : Array Value) (w : World), (Instr.makeFunc fn first cap).run Tryd.prog w = .ok (.func fn first cap) w := fun _ _ _ _ => rfl
  have m63 : st.length ≤ 9223372036854775807 := hst.2.1
  clear hr hst RG B sz hp0
  by_cases hl : st.length = 1
  · obtain ⟨a, rfl⟩ : ∃ a, st = [a] := by
      match st, hl with
      | [a], _ => exact ⟨_, rfl⟩
    have HG0 := Lib.hid (show W.cell? ⟨g, 0, none⟩ = some (.slice sa 1 sc) from HG0')
    clear HG0' hl m63
    have g0 := HG0.out
    change W = w.alloc (Obj.cells #[.slice sa 1 sc] 22) at hW
    show Calls Tryd.prog 30 #[.pointer (some ⟨rb, 0, none⟩), .slice sa 1 sc] w fun e w' => e = .returned (.bool (inZ (-1) a p0)) ∧ Below w.heap.size w w'
    obtain ⟨sb, so, rfl, hsl, hsc⟩ := (show InS W sa 1 1 (flat iL [a]) from HST.out).at (xs := [a]) iL_len (by simp)
    have s0 : W.cell? ⟨sb, so, none⟩ = some (.int .i64 a) := by have h := hsc 0 _ rfl 0 _ rfl; simpa using h
    have HS0 := Lib.hid s0
    clear hsl hsc s0
    go_enter Tryd.func30, Tryd.ntmps30
    go_upto_region 1 with fail
    rw [← hW]
    try rw [← hg]
    clear hW hg
    have r_0 := HR.out.c 0 _ rfl
    have r_4 := HR.out.c 4 _ rfl
    have r_6 := HR.out.c 6 _ rfl
    have q0 := HP0.out
    go_wp2_with fail
    go_quiet (fail)
    obtain ⟨w1, hw1⟩ : ∃ x, x = W.drewN nq := ⟨_, rfl⟩
    have hb1 : Below W.heap.size W w1 := by rw [hw1]; exact belowN _ _ _
    have HB1 := Lib.hid (HB.out.trans (hb1.mono HB.out.size))
    rw [← hw1]
    have r2 := HR.out.keep hb1
    have r_0 := r2.c 0 _ rfl
    have r_6 := r2.c 6 _ rfl
    have q0 := cellB HP0.out hb1
    have kc := possC0 g sb so 1 sc a (-1) p0 w1 (by decide) (cellB HG0.out hb1) (cellB HS0.out hb1)
    obtain ⟨Z, hZ⟩ : ∃ x, x = inZ (-1) a p0 := ⟨_, rfl⟩
    rw [← hZ] at kc
    have KC := Lib.hid kc
    have HZ := Lib.hid hZ
    clear kc hZ hw1 hb1
    go_wp2_with fail
    refine KC.out.mono ?_
    rintro e w2 ⟨rfl, rfl⟩
    go_wp2_with fail
    go_ret
    exact ⟨by rw [HZ.out]; rfl, HB1.out⟩
  · have HF := Lib.hid (show poss_offdelay p0 st = false by unfold poss_offdelay; split; exact absurd rfl hl; rfl)
    obtain ⟨F, hF⟩ : ∃ x, x = poss_offdelay p0 st := ⟨_, rfl⟩
    rw [← hF] at HF ⊢
    obtain ⟨M, hM⟩ : ∃ M, M = st.length := ⟨_, rfl⟩
    rw [← hM] at HG0' hl m63 hW ⊢
    have g0 := HG0'
    have hl2 : ¬ ((M : Int) = 1) := by omega
    clear hM hF HST hl
    go_enter Tryd.func30, Tryd.ntmps30
    go_upto_region 1 with fail
    rw [← hW]
    try rw [← hg]
    clear hW hg
    have r_0 := HR.out.c 0 _ rfl
    have r_4 := HR.out.c 4 _ rfl
    have r_6 := HR.out.c 6 _ rfl
    have q0 := HP0.out
    go_wp2_with fail
    go_quiet (fail)
    obtain ⟨w1, hw1⟩ : ∃ x, x = W.drewN nq := ⟨_, rfl⟩
    have hb1 : Below W.heap.size W w1 := by rw [hw1]; exact belowN _ _ _
    have HB1 := Lib.hid (HB.out.trans (hb1.mono HB.out.size))
    rw [← hw1]
    have r2 := HR.out.keep hb1
    have r_0 := r2.c 0 _ rfl
    have r_6 := r2.c 6 _ rfl
    have q0 := cellB HP0.out hb1
    clear hw1 hb1
    go_wp2_with fail
    go_ret
    exact ⟨by rw [HF.out]; rfl, HB1.out⟩
def poss_ondelay (p0 : Int) : List Int → Bool
  | [a] => inZ 0 a (p0 + 1)
  | _ => false
set_option maxHeartbeats 4000000 in
set_option maxRecDepth 100000 in
theorem poss_ondelay_any (rb pb po pc sc : Nat) (sa : Option Addr) (p0 : Int) (st : List Int) (v1 v2 v3 v5 v7 : Value) (w : World) (hr : RowAt w rb [.string ⟨#[111, 110, 100, 101, 108, 97, 121]⟩, v1, v2, v3, .int .i64 ((1 : Nat) : Int), v5, .slice (some ⟨pb, po, none⟩) 1 pc, v7]) (hp0 : w.cell? ⟨pb, po, none⟩ = some (.int .i64 p0)) (hr0 : 0 ≤ p0 ∧ p0 ≤ 86400) (hst : InS w sa st.length 1 (flat iL st)) :
    Calls Tryd.prog 30 #[.pointer (some ⟨rb, 0, none⟩), .slice sa st.length sc] w fun e w' => e = .returned (.bool (poss_ondelay p0 st)) ∧ Below w.heap.size w w' := by
  obtain ⟨W, g, hW, hg, RG, B, sz⟩ := box1 w #[.slice sa st.length sc] 22
  have HB := Lib.hid B
  have HR := Lib.hid (hr.keep B)
  have HG0' := RG.c 0 _ rfl
  have HST := Lib.hid (hst.keep B)
  have HP0 := Lib.hid (cellB hp0 B)
  have hmf : ∀ (fn : Fn) (first cap : Array Value) (w : World), (Instr.makeFunc fn first cap).run Tryd.prog w = .ok (.func fn first cap) w := fun _ _ _ _ => rfl
  have m63 : st.length ≤ 9223372036854775807 := hst.2.1
  clear hr hst RG B sz hp0
  by_cases hl : st.length = 1
  · obtain ⟨a, rfl⟩ : ∃ a, st = [a] := by
      match st, hl with
      | [a], _ => exact ⟨_, rfl⟩
    have HG0 := Lib.hid (show W.cell? ⟨g, 0, none⟩ = some (.slice sa 1 sc) from HG0')
    clear HG0' hl m63
    have g0 := HG0.out
    change W = w.alloc (Obj.cells #[.slice sa 1 sc] 22) at hW
    show Calls Tryd.prog 30 #[.pointer (some ⟨rb, 0, none⟩), .slice sa 1 sc] w fun e w' => e = .returned (.bool (inZ 0 a (p0 + 1))) ∧ Below w.heap.size w w'
    obtain ⟨sb, so, rfl, hsl, hsc⟩ := (show InS W sa 1 1 (flat iL [a]) from HST.out).at (xs := [a]) iL_len (by simp)
    have s0 : W.cell? ⟨sb, so, none⟩ = some (.int .i64 a) := by have h := hsc 0 _ rfl 0 _ rfl; simpa using h
    have HS0 := Lib.hid s0
    clear hsl hsc s0
    have e1 : IntKind.i64.wrap (p0 + 1) = p0 + 1 := IntWalk.i64_in _ (by omega)
    go_enter Tryd.func30, Tryd.ntmps30
    go_upto_region 1 with fail
    rw [← hW]
    try rw [← hg]
    clear hW hg
    have r_0 := HR.out.c 0 _ rfl
    have r_4 := HR.out.c 4 _ rfl
    have r_6 := HR.out.c 6 _ rfl
    have q0 := HP0.out
    go_wp2_with fail
    go_quiet (fail)
    obtain ⟨w1, hw1⟩ : ∃ x, x = W.drewN nq := ⟨_, rfl⟩
    have hb1 : Below W.heap.size W w1 := by rw [hw1]; exact belowN _ _ _
    have HB1 := Lib.hid (HB.out.trans (hb1.mono HB.out.size))
    rw [← hw1]
    have r2 := HR.out.keep hb1
    have r_0 := r2.c 0 _ rfl
    have r_6 := r2.c 6 _ rfl
    have q0 := cellB HP0.out hb1
    have kc := possC0 g sb so 1 sc a 0 (p0 + 1) w1 (by decide) (cellB HG0.out hb1) (cellB HS0.out hb1)
    obtain ⟨Z, hZ⟩ : ∃ x, x = inZ 0 a (p0 + 1) := ⟨_, rfl⟩
    rw [← hZ] at kc
    have KC := Lib.hid kc
    have HZ := Lib.hid hZ
    clear kc hZ hw1 hb1
    go_wp2_with fail
    refine KC.out.mono ?_
    rintro e w2 ⟨rfl, rfl⟩
    go_wp2_with fail
    go_ret
    exact ⟨by rw [HZ.out]; rfl, HB1.out⟩
  · have HF := Lib.hid (show poss_ondelay p0 st = false by unfold poss_ondelay; split; exact absurd rfl hl; rfl)
    obtain ⟨F, hF⟩ : ∃ x, x = poss_ondelay p0 st := ⟨_, rfl⟩
    rw [← hF] at HF ⊢
    obtain ⟨M, hM⟩ : ∃ M, M = st.length := ⟨_, rfl⟩
    rw [← hM] at HG0' hl m63 hW ⊢
    have g0 := HG0'
    have hl2 : ¬ ((M : Int) = 1) := by omega
    clear hM hF HST hl
    go_enter Tryd.func30, Tryd.ntmps30
    go_upto_region 1 with fail
    rw [← hW]
    try rw [← hg]
    clear hW hg
    have r_0 := HR.out.c 0 _ rfl
    have r_4 := HR.out.c 4 _ rfl
    have r_6 := HR.out.c 6 _ rfl
    have q0 := HP0.out
    go_wp2_with fail
    go_quiet (fail)
    obtain ⟨w1, hw1⟩ : ∃ x, x = W.drewN nq := ⟨_, rfl⟩
    have hb1 : Below W.heap.size W w1 := by rw [hw1]; exact belowN _ _ _
    have HB1 := Lib.hid (HB.out.trans (hb1.mono HB.out.size))
    rw [← hw1]
    have r2 := HR.out.keep hb1
    have r_0 := r2.c 0 _ rfl
    have r_6 := r2.c 6 _ rfl
    have q0 := cellB HP0.out hb1
    clear hw1 hb1
    go_wp2_with fail
    go_ret
    exact ⟨by rw [HF.out]; rfl, HB1.out⟩
def poss_pulse (p0 : Int) : List Int → Bool
  | [a, c] => inZ 0 a 1 && inZ 0 c p0
  | _ => false
set_option maxHeartbeats 4000000 in
set_option maxRecDepth 100000 in
theorem poss_pulse_any (rb pb po pc sc : Nat) (sa : Option Addr) (p0 : Int) (st : List Int) (v1 v2 v3 v5 v7 : Value) (w : World) (hr : RowAt w rb [.string ⟨#[112, 117, 108, 115, 101]⟩, v1, v2, v3, .int .i64 ((2 : Nat) : Int), v5, .slice (some ⟨pb, po, none⟩) 1 pc, v7]) (hp0 : w.cell? ⟨pb, po, none⟩ = some (.int .i64 p0)) (hst : InS w sa st.length 1 (flat iL st)) :
    Calls Tryd.prog 30 #[.pointer (some ⟨rb, 0, none⟩), .slice sa st.length sc] w fun e w' => e = .returned (.bool (poss_pulse p0 st)) ∧ Below w.heap.size w w' := by
  obtain ⟨W, g, hW, hg, RG, B, sz⟩ := box1 w #[.slice sa st.length sc] 22
  have HB := Lib.hid B
  have HR := Lib.hid (hr.keep B)
  have HG0' := RG.c 0 _ rfl
  have HST := Lib.hid (hst.keep B)
  have HP0 := Lib.hid (cellB hp0 B)
  have hmf : ∀ (fn : Fn) (first cap : Array Value) (w : World), (Instr.makeFunc fn first cap).run Tryd.prog w = .ok (.func fn first cap) w := fun _ _ _ _ => rfl
  have m63 : st.length ≤ 9223372036854775807 := hst.2.1
  clear hr hst RG B sz hp0
  by_cases hl : st.length = 2
  · obtain ⟨a, c, rfl⟩ : ∃ a c, st = [a, c] := by
      match st, hl with
      | [a, c], _ => exact ⟨_, _, rfl⟩
    have HG0 := Lib.hid (show W.cell? ⟨g, 0, none⟩ = some (.slice sa 2 sc) from HG0')
    clear HG0' hl m63
    have g0 := HG0.out
    change W = w.alloc (Obj.cells #[.slice sa 2 sc] 22) at hW
    show Calls Tryd.prog 30 #[.pointer (some ⟨rb, 0, none⟩), .slice sa 2 sc] w fun e w' => e = .returned (.bool (inZ 0 a 1 && inZ 0 c p0)) ∧ Below w.heap.size w w'
    obtain ⟨sb, so, rfl, hsl, hsc⟩ := (show InS W sa 2 1 (flat iL [a, c]) from HST.out).at (xs := [a, c]) iL_len (by simp)
    have s0 : W.cell? ⟨sb, so, none⟩ = some (.int .i64 a) := by have h := hsc 0 _ rfl 0 _ rfl; simpa using h
    have s1 : W.cell? ⟨sb, so + 1, none⟩ = some (.int .i64 c) := by have h := hsc 1 _ rfl 0 _ rfl; simpa using h
    have HS0 := Lib.hid s0
    have HS1 := Lib.hid s1
    clear hsl hsc s0 s1
    go_enter Tryd.func30, Tryd.ntmps30
    go_upto_region 1 with fail
    rw [← hW]
    try rw [← hg]
    clear hW hg
    have r_0 := HR.out.c 0 _ rfl
    have r_4 := HR.out.c 4 _ rfl
    have r_6 := HR.out.c 6 _ rfl
    have q0 := HP0.out
    go_wp2_with fail
    go_quiet (fail)
    obtain ⟨w1, hw1⟩ : ∃ x, x = W.drewN nq := ⟨_, rfl⟩
    have hb1 : Below W.heap.size W w1 := by rw [hw1]; exact belowN _ _ _
    have HB1 := Lib.hid (HB.out.trans (hb1.mono HB.out.size))
    rw [← hw1]
    have r2 := HR.out.keep hb1
    have r_0 := r2.c 0 _ rfl
    have r_6 := r2.c 6 _ rfl
    have q0 := cellB HP0.out hb1
    have kc := possC0 g sb so 2 sc a 0 1 w1 (by decide) (cellB HG0.out hb1) (cellB HS0.out hb1)
    have kd := possC1 g sb so 2 sc c 0 p0 w1 (by decide) (cellB HG0.out hb1) (cellB HS1.out hb1)
    obtain ⟨Z, hZ⟩ : ∃ x, x = inZ 0 a 1 := ⟨_, rfl⟩
    obtain ⟨Y, hY⟩ : ∃ x, x = inZ 0 c p0 := ⟨_, rfl⟩
    rw [← hZ] at kc
    rw [← hY] at kd
    have KC := Lib.hid kc
    have KD := Lib.hid kd
    have HZ := Lib.hid hZ
    have HY := Lib.hid hY
    clear kc kd hZ hY hw1 hb1
    go_wp2_with fail
    refine KC.out.mono ?_
    rintro e w2 ⟨rfl, rfl⟩
    cases Z
    · go_wp2_with fail
      go_ret
      exact ⟨by rw [← HZ.out]; rfl, HB1.out⟩
    · go_wp2_with fail
      refine KD.out.mono ?_
      rintro e w2 ⟨rfl, rfl⟩
      go_wp2_with fail
      go_ret
      exact ⟨by rw [← HZ.out, ← HY.out]; rfl, HB1.out⟩
  · have HF := Lib.hid (show poss_pulse p0 st = false by unfold poss_pulse; split; exact absurd rfl hl; rfl)
    obtain ⟨F, hF⟩ : ∃ x, x = poss_pulse p0 st := ⟨_, rfl⟩
    rw [← hF] at HF ⊢
    obtain ⟨M, hM⟩ : ∃ M, M = st.length := ⟨_, rfl⟩
    rw [← hM] at HG0' hl m63 hW ⊢
    have g0 := HG0'
    have hl2 : ¬ ((M : Int) = 2) := by omega
    clear hM hF HST hl
    go_enter Tryd.func30, Tryd.ntmps30
    go_upto_region 1 with fail
    rw [← hW]
    try rw [← hg]
    clear hW hg
    have r_0 := HR.out.c 0 _ rfl
    have r_4 := HR.out.c 4 _ rfl
    have r_6 := HR.out.c 6 _ rfl
    have q0 := HP0.out
    go_wp2_with fail
    go_quiet (fail)
    obtain ⟨w1, hw1⟩ : ∃ x, x = W.drewN nq := ⟨_, rfl⟩
    have hb1 : Below W.heap.size W w1 := by rw [hw1]; exact belowN _ _ _
    have HB1 := Lib.hid (HB.out.trans (hb1.mono HB.out.size))
    rw [← hw1]
    have r2 := HR.out.keep hb1
    have r_0 := r2.c 0 _ rfl
    have r_6 := r2.c 6 _ rfl
    have q0 := cellB HP0.out hb1
    clear hw1 hb1
    go_wp2_with fail
    go_ret
    exact ⟨by rw [HF.out]; rfl, HB1.out⟩
end Go.Proofs.YtmhfkdnblemfdaaDoor
