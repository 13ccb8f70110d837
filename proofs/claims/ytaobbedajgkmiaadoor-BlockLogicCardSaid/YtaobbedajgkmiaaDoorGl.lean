/- The law Logic. -/
import Derived.Test.YtaobbedajgkmiaaDoorFz
namespace Go.Proofs.YtaobbedajgkmiaaDoor
open Go.RowKit Go.Shelf

set_option linter.unusedVariables false
set_option linter.unusedSimpArgs false
def bL (x : Bool) : List Value := [.bool x]
theorem bL_len (x : Bool) : (bL x).length = 1 := rfl
/-- the first k values, each the number that f gives -/
def vsK (f : Bool → Int) (bs : List Bool) (k : Nat) : List (Int × Int) := (bs.take k).map fun x => (2, f x)
theorem vsK_succ (f : Bool → Int) {bs : List Bool} {k : Nat} {x : Bool} (h : bs[k]? = some x) : vsK f bs (k + 1) = vsK f bs k ++ [(2, f x)] := by
  unfold vsK
  rw [List.take_add_one, h, Option.toList_some, List.map_append]; rfl
theorem vsK_len (f : Bool → Int) (bs : List Bool) (k : Nat) (h : k ≤ bs.length) : (vsK f bs k).length = k := by unfold vsK; rw [List.length_map, List.length_take]; omega
def nI (x : Bool) : Int := bI (!x)
theorem bI_01 (x : Bool) : bI x = 0 ∨ bI x = 1 := by cases x <;> decide
theorem vsK_ok (f : Bool → Int) (hf : ∀ x, f x = 0 ∨ f x = 1) (bs : List Bool) (k : Nat) : ∀ v ∈ vsK f bs k, PossP v.1 v.2 ∧ v.1 = 2 := by
  intro v hv
  unfold vsK at hv
  obtain ⟨x, _, rfl⟩ := List.mem_map.1 hv
  exact ⟨.inr (.inl ⟨rfl, hf x⟩), rfl⟩
theorem cl01 {n : Int} (h : n = 0 ∨ n = 1) : clampI n = n := by rcases h with rfl | rfl <;> rfl
theorem clV_vsK (f : Bool → Int) (hf : ∀ x, f x = 0 ∨ f x = 1) (bs : List Bool) (k : Nat) : clV (vsK f bs k) = (bs.take k).map f := by
  unfold clV vsK
  rw [List.map_map]
  apply List.map_congr_left
  intro x _
  exact cl01 (hf x)
theorem nI_01 (x : Bool) : nI x = 0 ∨ nI x = 1 := bI_01 _
/-- the least of numbers, and the greatest of their opposites -/
theorem de_morgan (bs : List Bool) : ∀ k, 1 ≤ k → k ≤ bs.length → (minK (bs.map bI) k = 0 ∨ minK (bs.map bI) k = 1) ∧ maxK (bs.map nI) k = 1 - minK (bs.map bI) k
  | 0, h, _ => absurd h (by decide)
  | k + 1, _, hk => by
    obtain ⟨x, hx⟩ : ∃ x, bs[k]? = some x := ⟨_, List.getElem?_eq_getElem (by omega)⟩
    have e1 : (bs.map bI).getD k 0 = bI x := by rw [List.getD_eq_getElem?_getD, List.getElem?_map, hx]; rfl
    have e2 : (bs.map nI).getD k 0 = nI x := by rw [List.getD_eq_getElem?_getD, List.getElem?_map, hx]; rfl
    have e3 : nI x = 1 - bI x := by cases x <;> rfl
    have h01 := bI_01 x
    by_cases h0 : k = 0
    · subst h0
      rw [minK_one, maxK_one, e1, e2]
      exact ⟨h01, e3⟩
    · obtain ⟨i1, i2⟩ := de_morgan bs k (by omega) (by omega)
      rw [minK_succ _ k (by omega), maxK_succ _ k (by omega), e1, e2, i2]
      omega
theorem own_ne {w : World} {B B' e b1 b2 n1 n2 c1 c2 : Nat} {L1 L2 : List Value} (h1 : w.ownsRow B e 2 (.slice (some ⟨b1, 0, none⟩) n1 c1) n1 L1) (h2 : w.ownsRow B' e 2 (.slice (some ⟨b2, 0, none⟩) n2 c2) n2 L2) (hne : (∃ (i : Nat) (x y : Value), L1[i]? = some x ∧ L2[i]? = some y ∧ x ≠ y) ∨ (c2 = 0 ∧ 0 < n1)) : b1 ≠ b2 := by
  intro e1
  subst e1
  rcases h1.2 with ⟨h, _⟩ | ⟨g1, cap1, cur1, h, _, hh1, hn1, _, hs1, ht1⟩
  · cases h
  · injection h with h _ hc1; injection h with h; injection h with h; subst h hc1
    rcases h2.2 with ⟨h, _⟩ | ⟨g2, cap2, cur2, h, _, hh2, hn2, _, hs2, ht2⟩
    · cases h
    · injection h with h _ hc2; injection h with h; injection h with h; subst h hc2
      rw [hh1] at hh2
      simp only [Option.some.injEq, Obj.cells.injEq] at hh2
      obtain ⟨rfl, _⟩ := hh2
      rcases hne with ⟨i, x, y, hx, hy, hxy⟩ | ⟨h0, hp⟩
      · rw [← ht1, List.getElem?_take] at hx
        rw [← ht2, List.getElem?_take] at hy
        split at hx
        · split at hy
          · rw [hx] at hy; exact hxy (Option.some.inj hy)
          · cases hy
        · cases hx
      · omega
theorem first_ne {bs : List Bool} {j k : Nat} (hj : 1 ≤ j) (hk : 1 ≤ k) (hb : 1 ≤ bs.length) : ∃ (i : Nat) (x y : Value), (flat valL (vsK bI bs j))[i]? = some x ∧ (flat valL (vsK nI bs k))[i]? = some y ∧ x ≠ y := by
  obtain ⟨a, r, rfl⟩ : ∃ a r, bs = a :: r := by
    cases bs with
    | nil => simp at hb
    | cons a r => exact ⟨a, r, rfl⟩
  obtain ⟨j, rfl⟩ : ∃ m, j = m + 1 := ⟨j - 1, by omega⟩
  obtain ⟨k, rfl⟩ : ∃ m, k = m + 1 := ⟨k - 1, by omega⟩
  refine ⟨1, .int .i64 (bI a), .int .i64 (nI a), rfl, rfl, ?_⟩
  cases a <;> (intro h; injection h with _ h; exact absurd h (by decide))
theorem infoVal : (Tryd.prog.info? 51).map (fun i => (i.zero, i.size, i.bytes)) = some (some (.agg #[.int .i64 0, .int .i64 0]), 2, 16) := by kernel_rfl
theorem ev1_not (x : Bool) (q ic : Nat) (w : World) (hm : MaxAt w) (hv : RowAt w q [.int .i64 2, .int .i64 (bI x)]) :
    Calls Tryd.prog 23 #[.string ⟨#[110, 111, 116]⟩, .slice none 0 0, .slice (some ⟨q, 0, none⟩) 1 ic] w fun e w' => e = .returned (.tuple #[.agg #[.int .i64 2, .int .i64 (nI x)], .int .i64 0]) ∧ Below w.heap.size w w' := by
  have hc : clV [((2 : Int), bI x)] = [bI x] := by cases x <;> rfl
  have h := ev_not [(2, bI x)] (by simp) (by simp) (by intro v hv; obtain rfl : v = (2, bI x) := (by simpa using hv); exact ⟨.inr (.inl ⟨rfl, bI_01 x⟩), rfl⟩) ⟨bI x, hc, by have := bI_01 x; omega, by have := bI_01 x; omega⟩ none 0 (some ⟨q, 0, none⟩) ic w hm (nil_ins _) (row_ins1 hv rfl (by simp))
  rw [hc] at h
  rw [show nI x = 1 - bI x by cases x <;> rfl]
  exact h
theorem ev1_notI (A : Int) (hA : A = 0 ∨ A = 1) (q ic : Nat) (w : World) (hm : MaxAt w) (hv : RowAt w q [.int .i64 2, .int .i64 A]) :
    Calls Tryd.prog 23 #[.string ⟨#[110, 111, 116]⟩, .slice none 0 0, .slice (some ⟨q, 0, none⟩) 1 ic] w fun e w' => e = .returned (.tuple #[.agg #[.int .i64 2, .int .i64 (1 - A)], .int .i64 0]) ∧ Below w.heap.size w w' := by
  have hc : clV [((2 : Int), A)] = [A] := by simp [clV, cl01 hA]
  have h := ev_not [(2, A)] (by simp) (by simp) (by intro v hv; obtain rfl : v = (2, A) := (by simpa using hv); exact ⟨.inr (.inl ⟨rfl, hA⟩), rfl⟩) ⟨A, hc, by omega, by omega⟩ none 0 (some ⟨q, 0, none⟩) ic w hm (nil_ins _) (row_ins1 hv rfl (by simp))
  rw [hc] at h
  exact h
theorem ins_two {bs : List Bool} {w : World} {a : Option Addr} (h2 : 2 ≤ bs.length) (h : InS w a bs.length 2 (flat valL (vsK bI bs bs.length))) : ∃ x0 x1, bs[0]? = some x0 ∧ bs[1]? = some x1 ∧ InS w a 2 2 [.int .i64 2, .int .i64 (bI x0), .int .i64 2, .int .i64 (bI x1)] := by
  obtain ⟨x0, x1, r, rfl⟩ : ∃ x0 x1 r, bs = x0 :: x1 :: r := by
    match bs, h2 with
    | x0 :: x1 :: r, _ => exact ⟨x0, x1, r, rfl⟩
  refine ⟨x0, x1, rfl, rfl, rfl, by decide, ?_⟩
  obtain ⟨_, _, h0 | ⟨b, off, ha, hlt, hc⟩⟩ := h
  · simp at h0
  · refine .inr ⟨b, off, ha, hlt, fun j v hj => hc j v ?_⟩
    have hj4 : j < 4 := (List.getElem?_eq_some_iff.1 hj).1
    rw [← hj]
    have e : flat valL (vsK bI (x0 :: x1 :: r) (x0 :: x1 :: r).length) = [.int .i64 2, .int .i64 (bI x0), .int .i64 2, .int .i64 (bI x1)] ++ flat valL (vsK bI r r.length) := rfl
    rw [e, List.getElem?_append_left (by simpa using hj4)]
theorem evN_and (bs : List Bool) (h2 : 2 ≤ bs.length) (h8 : bs.length ≤ 8) (a : Option Addr) (ic : Nat) (w : World) (hm : MaxAt w) (hv : InS w a bs.length 2 (flat valL (vsK bI bs bs.length))) :
    Calls Tryd.prog 23 #[.string ⟨#[97, 110, 100]⟩, .slice none 0 0, .slice a bs.length ic] w fun e w' => e = .returned (.tuple #[.agg #[.int .i64 2, .int .i64 (minK (bs.map bI) bs.length)], .int .i64 0]) ∧ Below w.heap.size w w' := by
  have hl := vsK_len bI bs bs.length (Nat.le_refl _)
  have hc := clV_vsK bI bI_01 bs bs.length
  rw [List.take_length] at hc
  have h := ev_and (vsK bI bs bs.length) (by omega) (by omega) (vsK_ok bI bI_01 bs _) (by rw [hc, List.length_map]; omega) none 0 a ic w hm (nil_ins _) (by rw [hl]; exact hv)
  rw [hc, hl, List.length_map] at h
  exact h
theorem evN_or (bs : List Bool) (h2 : 2 ≤ bs.length) (h8 : bs.length ≤ 8) (a : Option Addr) (ic : Nat) (w : World) (hm : MaxAt w) (hv : InS w a bs.length 2 (flat valL (vsK nI bs bs.length))) :
    Calls Tryd.prog 23 #[.string ⟨#[111, 114]⟩, .slice none 0 0, .slice a bs.length ic] w fun e w' => e = .returned (.tuple #[.agg #[.int .i64 2, .int .i64 (maxK (bs.map nI) bs.length)], .int .i64 0]) ∧ Below w.heap.size w w' := by
  have hl := vsK_len nI bs bs.length (Nat.le_refl _)
  have hc := clV_vsK nI nI_01 bs bs.length
  rw [List.take_length] at hc
  have h := ev_or (vsK nI bs bs.length) (by omega) (by omega) (vsK_ok nI nI_01 bs _) (by rw [hc, List.length_map]; omega) none 0 a ic w hm (nil_ins _) (by rw [hl]; exact hv)
  rw [hc, hl, List.length_map] at h
  exact h
theorem ev2_xor (x y : Bool) (a : Option Addr) (ic : Nat) (w : World) (hm : MaxAt w) (hv : InS w a 2 2 [.int .i64 2, .int .i64 (bI x), .int .i64 2, .int .i64 (bI y)]) :
    Calls Tryd.prog 23 #[.string ⟨#[120, 111, 114]⟩, .slice none 0 0, .slice a 2 ic] w fun e w' => e = .returned (.tuple #[.agg #[.int .i64 2, .int .i64 (bI (x != y))], .int .i64 0]) ∧ Below w.heap.size w w' := by
  have hc : clV [((2 : Int), bI x), (2, bI y)] = [bI x, bI y] := by cases x <;> cases y <;> rfl
  have h := ev_xor [(2, bI x), (2, bI y)] (by simp) (by simp) (by intro v hv; simp only [List.mem_cons, List.not_mem_nil, or_false] at hv; rcases hv with rfl | rfl <;> exact ⟨.inr (.inl ⟨rfl, bI_01 _⟩), rfl⟩) ⟨bI x, bI y, hc, bI_01 x, bI_01 y⟩ none 0 a ic w hm (nil_ins _) hv
  rw [hc] at h
  rw [show bI (x != y) = (if [bI x, bI y].getD 0 0 = [bI x, bI y].getD 1 0 then 0 else 1) by cases x <;> cases y <;> rfl]
  exact h
set_option maxHeartbeats 16000000 in
set_option maxRecDepth 100000 in
theorem logic_law (la : Option Addr) (lc : Nat) (bs : List Bool) (w : World) (hm : MaxAt w) (hl : InS w la bs.length 1 (flat bL bs)) :
    Calls Tryd.prog 6 #[.slice la bs.length lc] w fun e w' => e = .returned (.bool true) ∧ Below w.heap.size w w' := by
  have KAW := Lib.hid (awake_yes w hm)
  have HMX := Lib.hid (fun (x : World) (hb : Below w.heap.size w x) => hm.keep hb)
  have HLI := Lib.hid (fun (x : World) (hb : Below w.heap.size w x) => hl.keep hb)
  obtain ⟨N, hN⟩ : ∃ N, N = bs.length := ⟨_, rfl⟩
  have HN := Lib.hid hN
  have n63 : N ≤ 9223372036854775807 := by rw [hN]; exact hl.2.1
  rw [← hN]
  obtain ⟨i0, hif, hz0, hz1, hz2⟩ := info_parts infoVal
  have HIF := Lib.hid hif
  have HZ0 := Lib.hid hz0
  have HZ1 := Lib.hid hz1
  have HZ2 := Lib.hid hz2
  clear hm hl hN hif hz0 hz1 hz2
  by_cases hlo : N < 2
  · go_enter Tryd.func6, Tryd.ntmps6
    go_wp2_with fail
    refine KAW.out.mono ?_
    rintro e w1 ⟨rfl, hb⟩
    have HB1 := Lib.hid hb
    clear hb
    go_wp2_with fail
    go_ret
    exact ⟨rfl, HB1.out⟩
  · by_cases hhi : 8 < N
    · go_enter Tryd.func6, Tryd.ntmps6
      go_wp2_with fail
      refine KAW.out.mono ?_
      rintro e w1 ⟨rfl, hb⟩
      have HB1 := Lib.hid hb
      clear hb
      go_wp2_with fail
      go_ret
      exact ⟨rfl, HB1.out⟩
    · go_enter Tryd.func6, Tryd.ntmps6
      go_wp2_with fail
      refine KAW.out.mono ?_
      rintro e w1 ⟨rfl, hb⟩
      have HB1 := Lib.hid hb
      clear hb
      obtain ⟨BB, hBB⟩ : ∃ x, x = w1.heap.size := ⟨_, rfl⟩
      obtain ⟨w2, ib, hW2, hib, hI2, hB2, sz2⟩ : ∃ w2 ib, w2 = w1.alloc (Obj.cells #[] 51) ∧ ib = w1.heap.size ∧ w2.ownsRow BB 51 2 (.slice (some ⟨ib, 0, none⟩) 0 0) 0 [] ∧ Below w1.heap.size w1 w2 ∧ w2.heap.size = w1.heap.size + 1 := ⟨_, _, rfl, rfl, by rw [hBB]; exact own_empty _ _ _, (Below.refl _ _).alloc (Nat.le_refl _) _, World.size_alloc _ _⟩
      obtain ⟨w3, nb, hW3, hnb, hN3, hB3, sz3⟩ : ∃ w3 nb, w3 = w2.alloc (Obj.cells #[] 51) ∧ nb = w1.heap.size + 1 ∧ w3.ownsRow BB 51 2 (.slice (some ⟨nb, 0, none⟩) 0 0) 0 [] ∧ Below w2.heap.size w2 w3 ∧ w3.heap.size = w2.heap.size + 1 := ⟨_, _, rfl, rfl, by rw [← sz2]; exact own_base (own_empty _ _ _) (by omega), (Below.refl _ _).alloc (Nat.le_refl _) _, World.size_alloc _ _⟩
      have HI3 := Lib.hid (own_keep hI2 hB3)
      have HN3 := Lib.hid hN3
      have hB13 := hB2.trans (hB3.mono hB2.size)
      have HW3 := Lib.hid (show Below BB w1 w3 by rw [hBB]; exact hB13)
      have HSB := Lib.hid (show w.heap.size ≤ BB by rw [hBB]; exact HB1.out.size)
      have HS3 := Lib.hid (show BB ≤ w3.heap.size by omega)
      have hne : ib ≠ nb := by omega
      go_wp2_with fail
      rw [← hW2, ← hW3]
      rw [← hnb, ← hib]
      clear hW2 hW3 hib hnb hI2 hN3 hB2 hB3 sz2 sz3 hB13 hBB
      go_loopw [3, 4, 5] (fun p q i wr => ∃ k : Nat, ∃ ib ic nb nc, k ≤ N ∧ i = .int .i64 k ∧ p = .slice (some ⟨ib, 0, none⟩) k ic ∧ q = .slice (some ⟨nb, 0, none⟩) k nc ∧ Hid (wr.ownsRow BB 51 2 (.slice (some ⟨ib, 0, none⟩) k ic) k (flat valL (vsK bI bs k)) ∧ wr.ownsRow BB 51 2 (.slice (some ⟨nb, 0, none⟩) k nc) k (flat valL (vsK nI bs k)) ∧ ib ≠ nb ∧ (k = 0 → nc = 0) ∧ Below BB w1 wr ∧ BB ≤ wr.heap.size)) (fun _ _ i _ => N - (intOf i).toNat)
      case atStart => exact ⟨0, ib, 0, nb, 0, Nat.zero_le _, rfl, rfl, rfl, Lib.hid ⟨HI3.out, HN3.out, hne, fun _ => rfl, HW3.out, HS3.out⟩⟩
      case round =>
        clear hne
        obtain ⟨k, ib, ic, nb, nc, hk, rfl, rfl, rfl, hH⟩ := hrel
        have HI := Lib.hid hH.out.1
        have HNO := Lib.hid hH.out.2.1
        have HNE := Lib.hid hH.out.2.2.1
        have HC0 := Lib.hid hH.out.2.2.2.1
        have HB := Lib.hid hH.out.2.2.2.2.1
        have HS := Lib.hid hH.out.2.2.2.2.2
        clear hH
        have HBW := Lib.hid (HB1.out.trans (HB.out.mono HSB.out))
        by_cases hlt : k < N
        · obtain ⟨x, hx⟩ : ∃ x, bs[k]? = some x := ⟨_, List.getElem?_eq_getElem (by have := HN.out; omega)⟩
          have HX := Lib.hid hx
          have HSI := Lib.hid (vsK_succ bI hx)
          have HSN := Lib.hid (vsK_succ nI hx)
          have hB1 : 1 ≤ bs.length := by have := HN.out; omega
          have HBL := Lib.hid hB1
          have kk : (k : Int) < (N : Int) := by omega
          have kd : decide (k < N) = true := decide_eq_true hlt
          obtain ⟨V, hV⟩ : ∃ v, v = bI x := ⟨_, rfl⟩
          obtain ⟨U, hU⟩ : ∃ v, v = nI x := ⟨_, rfl⟩
          have KB := Lib.hid (fun w => show Calls Tryd.prog 22 #[.bool x] w fun e w' => e = .returned (.agg #[.int .i64 2, .int .i64 V]) ∧ Below w.heap.size w w' by rw [hV]; exact binary_any x w)
          have KU := Lib.hid (fun w => show Calls Tryd.prog 22 #[.bool (!x)] w fun e w' => e = .returned (.agg #[.int .i64 2, .int .i64 U]) ∧ Below w.heap.size w w' by rw [hU]; exact binary_any (!x) w)
          have KV := Lib.hid (fun q ic w hm hv => show Calls Tryd.prog 23 #[.string ⟨#[110, 111, 116]⟩, .slice none 0 0, .slice (some ⟨q, 0, none⟩) 1 ic] w fun e w' => e = .returned (.tuple #[.agg #[.int .i64 2, .int .i64 U], .int .i64 0]) ∧ Below w.heap.size w w' by rw [hU]; exact ev1_not x q ic w hm (by rw [← hV]; exact hv))
          rw [← hV] at HSI
          rw [← hU] at HSN
          clear hx hV hU hB1
          obtain ⟨lb, lo, rfl, hll, hlc⟩ := (show InS wr la bs.length 1 (flat bL bs) from HLI.out _ HBW.out).at bL_len (by have := HN.out; omega)
          have l0 : wr.cell? ⟨lb, lo + k, none⟩ = some (.bool x) := by have h := hlc k x HX.out 0 _ rfl; simpa using h
          have HLL := Lib.hid hll
          clear hlc hll
          go_wp2_with fail
          refine (KB.out _).mono ?_
          rintro e WA ⟨rfl, hb⟩
          have HIA := Lib.hid (own_keep HI.out hb)
          have HNA := Lib.hid (own_keep HNO.out hb)
          have HBA := Lib.hid (HB.out.trans (hb.mono HS.out))
          have HSA := Lib.hid (Nat.le_trans HS.out hb.size)
          have HL0 := Lib.hid ((hb.cell (p := ⟨lb, lo + k, none⟩) HLL.out).trans l0)
          have HLLA := Lib.hid (Nat.lt_of_lt_of_le HLL.out hb.size)
          clear hb l0 HI HNO HB HS HLL HBW
          have hif := HIF.out
          have hz0 := HZ0.out
          have hz1 := HZ1.out
          have hz2 := HZ2.out
          go_wp2_with (at_builtin; refine wpList_append_own _ rfl _ _ 49 rfl BB 51 i0 (.agg #[.int .i64 0, .int .i64 0]) 2 16 Tryd.underlying49 hif hz0 hz1 hz2 rfl (by decide) _ _ _ rfl (own_at HIA.out _) ⟨WA.heap.size, 0, none⟩ 1 1 [.int .i64 2, .int .i64 V] rfl rfl ?a1 ?a2 ?a3 ?a4 ?a5 ?_)
          case a1 =>
            intro q u hu
            rw [add_plain, Nat.zero_add]
            exact (row_fresh WA #[.int .i64 2, .int .i64 V] 51).c q u hu
          case a2 =>
            intro u hu
            simp at hu
            rcases hu with rfl | rfl <;> rfl
          case a3 => unfold maxLen; omega
          case a4 => omega
          case a5 => have := HSA.out; rw [World.size_alloc]; omega
          intro v5 w5 hown hgrow _
          obtain ⟨g5, c5, rfl⟩ : ∃ g5 c5, v5 = .slice (some ⟨g5, 0, none⟩) (k + 1) c5 := by
            rcases hown.2 with ⟨_, h⟩ | ⟨g9, cap, cur, h1, _⟩
            · omega
            · exact ⟨_, _, h1⟩
          have nal : Below WA.heap.size WA (WA.alloc (Obj.cells #[.int .i64 2, .int .i64 V] 51)) := (Below.refl _ _).alloc (Nat.le_refl _) _
          clear hif hz0 hz1 hz2
          have hIn : w5.ownsRow BB 51 2 (.slice (some ⟨g5, 0, none⟩) (k + 1) c5) (k + 1) (flat valL (vsK bI bs (k + 1))) := by rw [HSI.out, flat_append]; exact hown
          have hNo : w5.ownsRow BB 51 2 (.slice (some ⟨nb, 0, none⟩) k nc) k (flat valL (vsK nI bs k)) := (own_keep HNA.out nal).kept hgrow (.inr (by simp only [Value.ownBlock, ne_eq, Option.some.injEq]; exact fun e => HNE.out e.symm))
          have HNE5 := Lib.hid (show g5 ≠ nb from own_ne hIn hNo (by
            rcases Nat.eq_zero_or_pos k with h | h
            · exact .inr ⟨HC0.out h, by omega⟩
            · exact .inl (first_ne (by omega) h HBL.out)))
          have vlt := fun q e => (HIA.out.lt q e).1
          have HB5 := Lib.hid ((HBA.out.trans (nal.mono HSA.out)).grown hgrow (by have := HSA.out; rw [World.size_alloc]; omega) (fun q e => vlt q e))
          have HI5 := Lib.hid hIn
          have HN5 := Lib.hid hNo
          have HS5 := Lib.hid (show BB ≤ w5.heap.size from Nat.le_trans (by have := HSA.out; rw [World.size_alloc]; omega) hgrow.size)
          have HBW := Lib.hid (HB1.out.trans (HB5.out.mono HSB.out))
          clear hIn hNo hown hgrow nal vlt HIA HNA HBA HL0 HLLA HSA
          obtain ⟨lb2, lo2, hla, hll, hlc⟩ := (show InS w5 (some ⟨lb, lo, none⟩) bs.length 1 (flat bL bs) from HLI.out _ HBW.out).at bL_len (by have := HBL.out; omega)
          injection hla with hla
          injection hla with hla1 hla2
          subst hla1 hla2
          have l0 : w5.cell? ⟨lb, lo + k, none⟩ = some (.bool x) := by have h := hlc k x HX.out 0 _ rfl; simpa using h
          have HLL := Lib.hid hll
          clear hlc hll
          go_wp2_with fail
          refine (KB.out _).mono ?_
          rintro e w6 ⟨rfl, hb⟩
          obtain ⟨w7, g7, hW7, hg7, R7, B7, _⟩ := box1 w6 #[.int .i64 2, .int .i64 V] 51
          have hb7 := hb.trans (B7.mono hb.size)
          have HR7 := Lib.hid R7
          have HI7 := Lib.hid (own_keep HI5.out hb7)
          have HN7 := Lib.hid (own_keep HN5.out hb7)
          have HB7 := Lib.hid (HB5.out.trans (hb7.mono HS5.out))
          have HS7 := Lib.hid (Nat.le_trans HS5.out hb7.size)
          have HL7 := Lib.hid ((hb7.cell (p := ⟨lb, lo + k, none⟩) HLL.out).trans l0)
          have HLL7 := Lib.hid (Nat.lt_of_lt_of_le HLL.out hb7.size)
          have HBW7 := Lib.hid (HB1.out.trans (HB7.out.mono HSB.out))
          clear hb R7 B7 hb7 l0 HI5 HN5 HB5 HS5 HLL HBW
          go_wp2_with fail
          rw [← hW7]
          rw [← hg7]
          clear hW7 hg7
          refine (KV.out g7 1 w7 (HMX.out _ HBW7.out) HR7.out).mono ?_
          rintro e w8 ⟨rfl, hb⟩
          obtain ⟨w9, g9, hW9, hg9, R9, B9, _⟩ := box1 w8 #[.int .i64 2, .int .i64 U] 51
          have hb9 := hb.trans (B9.mono hb.size)
          have HR9 := Lib.hid R9
          have HI9 := Lib.hid (own_keep HI7.out hb9)
          have HN9 := Lib.hid (own_keep HN7.out hb9)
          have HB9 := Lib.hid (HB7.out.trans (hb9.mono HS7.out))
          have HS9 := Lib.hid (Nat.le_trans HS7.out hb9.size)
          have HL9 := Lib.hid ((hb9.cell (p := ⟨lb, lo + k, none⟩) HLL7.out).trans HL7.out)
          have HLL9 := Lib.hid (Nat.lt_of_lt_of_le HLL7.out hb9.size)
          clear hb R9 B9 hb9 HI7 HN7 HB7 HS7 HL7 HLL7 HBW7 HR7
          go_upto_region 12 with fail
          rw [← hW9]
          rw [← hg9]
          clear hW9 hg9
          go_wp2_with fail
          have HS0 := Lib.hid (show (w9.cell? ⟨g9, 0, none⟩ = some (.int .i64 2) ∧ w9.cell? ⟨g9, 1, none⟩ = some (.int .i64 U) ∧ w9.cell? ⟨lb, lo + k, none⟩ = some (.bool x)) from ⟨HR9.out.c 0 _ rfl, HR9.out.c 1 _ rfl, HL9.out⟩)
          refine wp_region_held_drew (S := fun w => (w.cell? ⟨g9, 0, none⟩ = some (.int .i64 2) ∧ w.cell? ⟨g9, 1, none⟩ = some (.int .i64 U) ∧ w.cell? ⟨lb, lo + k, none⟩ = some (.bool x))) (by kernel_rfl) HS0.out (fun hHeld => ?_)
          have hdr : Below w9.heap.size w9 w9.drew := (Below.refl _ _).drew
          obtain ⟨wx, hwx⟩ : ∃ x, x = w9.drew := ⟨_, rfl⟩
          have HX9 := Lib.hid (show Below w9.heap.size w9 wx by rw [hwx]; exact hdr)
          have HGX := Lib.hid (Nat.lt_of_lt_of_le HR9.out.lt HX9.out.size)
          have HLX := Lib.hid (Nat.lt_of_lt_of_le HLL9.out HX9.out.size)
          rw [← hwx] at hHeld ⊢
          clear hwx hdr HS0
          refine' wpAnyH_take (i := 0) (v := _) rfl (by kernel_rfl) (by kernel_rfl) (by kernel_rfl) (fun _ _ _ h => h) (Or.inl ⟨by rfl, ?_⟩) hHeld ?_
          rotate_left
          · intro w hSw
            (try dsimp only at hSw)
            go_simp
            try with_reducible rfl
          (try simp only [Act.put, List.getElem_toArray, List.getElem_cons_zero, List.getElem_cons_succ, List.setIfInBounds_toArray, List.set_cons_zero, List.set_cons_succ])
          refine' wpAnyH_take (i := 1) (v := _) rfl (by kernel_rfl) (by kernel_rfl) (by kernel_rfl) (fun _ _ _ h => h) (Or.inl ⟨by rfl, ?_⟩) hHeld ?_
          rotate_left
          · intro w hSw
            (try dsimp only at hSw)
            go_simp
            try with_reducible rfl
          (try simp only [Act.put, List.getElem_toArray, List.getElem_cons_zero, List.getElem_cons_succ, List.setIfInBounds_toArray, List.set_cons_zero, List.set_cons_succ])
          refine' wpAnyH_take (i := 2) (v := _) rfl (by kernel_rfl) (by kernel_rfl) (by kernel_rfl) (fun _ _ _ h => h) (Or.inl ⟨by rfl, ?_⟩) hHeld ?_
          rotate_left
          · intro w hSw
            (try dsimp only at hSw)
            go_simp
            try with_reducible rfl
          (try simp only [Act.put, List.getElem_toArray, List.getElem_cons_zero, List.getElem_cons_succ, List.setIfInBounds_toArray, List.set_cons_zero, List.set_cons_succ])
          refine' wpAnyH_take (i := 3) (v := _) rfl (by kernel_rfl) (by kernel_rfl) (by kernel_rfl) (fun _ _ _ h => h) (Or.inl ⟨by rfl, ?_⟩) hHeld ?_
          rotate_left
          · intro w hSw
            (try dsimp only at hSw)
            go_simp
            try with_reducible rfl
          (try simp only [Act.put, List.getElem_toArray, List.getElem_cons_zero, List.getElem_cons_succ, List.setIfInBounds_toArray, List.set_cons_zero, List.set_cons_succ])
          refine' wpAnyH_take (i := 4) (v := _) rfl (by kernel_rfl) (by kernel_rfl) (by kernel_rfl) (fun _ _ _ h => h) (Or.inl ⟨by rfl, ?_⟩) hHeld ?_
          rotate_left
          · intro w hSw
            (try dsimp only at hSw)
            go_simp
            try with_reducible rfl
          (try simp only [Act.put, List.getElem_toArray, List.getElem_cons_zero, List.getElem_cons_succ, List.setIfInBounds_toArray, List.set_cons_zero, List.set_cons_succ])
          refine' wpAnyH_take (i := 5) (v := _) rfl (by kernel_rfl) (by kernel_rfl) (by kernel_rfl) (fun _ _ _ h => h) (Or.inl ⟨by rfl, ?_⟩) hHeld ?_
          rotate_left
          · intro w hSw
            (try dsimp only at hSw)
            go_simp
            try with_reducible rfl
          (try simp only [Act.put, List.getElem_toArray, List.getElem_cons_zero, List.getElem_cons_succ, List.setIfInBounds_toArray, List.set_cons_zero, List.set_cons_succ])
          refine' wpAnyH_take (i := 6) (v := _) rfl (by kernel_rfl) (by kernel_rfl) (by kernel_rfl) (fun _ _ _ h => h) (Or.inl ⟨by rfl, ?_⟩) hHeld ?_
          rotate_left
          · intro w hSw
            (try dsimp only at hSw)
            go_simp
            try with_reducible rfl
          (try simp only [Act.put, List.getElem_toArray, List.getElem_cons_zero, List.getElem_cons_succ, List.setIfInBounds_toArray, List.set_cons_zero, List.set_cons_succ])
          refine' wpAnyH_take (i := 7) (v := _) rfl (by kernel_rfl) (by kernel_rfl) (by kernel_rfl) (fun _ _ _ h => h) (Or.inl ⟨by rfl, ?_⟩) hHeld ?_
          rotate_left
          · intro w hSw
            (try dsimp only at hSw)
            go_simp
            try with_reducible rfl
          (try simp only [Act.put, List.getElem_toArray, List.getElem_cons_zero, List.getElem_cons_succ, List.setIfInBounds_toArray, List.set_cons_zero, List.set_cons_succ])
          refine' wpAnyH_take (i := 8) (v := _) rfl (by kernel_rfl) (by kernel_rfl) (by kernel_rfl) (fun _ _ _ h => h) (Or.inl ⟨by rfl, ?_⟩) hHeld ?_
          rotate_left
          · intro w hSw
            (try dsimp only at hSw)
            go_simp
            try with_reducible rfl
          (try simp only [Act.put, List.getElem_toArray, List.getElem_cons_zero, List.getElem_cons_succ, List.setIfInBounds_toArray, List.set_cons_zero, List.set_cons_succ])
          have hh := hHeld
          refine wpAnyH_ready (rs := [9]) (by kernel_rfl) (by simp) ?_
          refine AllReadyH.cons rfl (fun K hK => ?_) AllReadyH.nil
          go_simp
          refine (KU.out _).mono ?_
          rintro e wy ⟨rfl, hb⟩
          have HX10 := Lib.hid (HX9.out.trans (hb.mono HX9.out.size))
          have hs2 : (wy.cell? ⟨g9, 0, none⟩ = some (.int .i64 2) ∧ wy.cell? ⟨g9, 1, none⟩ = some (.int .i64 U) ∧ wy.cell? ⟨lb, lo + k, none⟩ = some (.bool x)) := ⟨(hb.cell (p := ⟨g9, 0, none⟩) HGX.out).trans hh.1, (hb.cell (p := ⟨g9, 1, none⟩) HGX.out).trans hh.2.1, (hb.cell (p := ⟨lb, lo + k, none⟩) HLX.out).trans hh.2.2⟩
          clear hb hHeld hh HX9 HGX HLX
          (try go_simp)
          refine hK.out _ _ hs2 (fun hHeld => ?_)
          clear hK K hs2
          (try simp only [Act.put, List.getElem_toArray, List.getElem_cons_zero, List.getElem_cons_succ, List.setIfInBounds_toArray, List.set_cons_zero, List.set_cons_succ])
          refine' wpAnyH_take (i := 10) (v := _) rfl (by kernel_rfl) (by kernel_rfl) (by kernel_rfl) (fun _ _ _ h => h) (Or.inl ⟨by rfl, ?_⟩) hHeld ?_
          rotate_left
          · intro w hSw
            (try dsimp only at hSw)
            go_simp
            try with_reducible rfl
          (try simp only [Act.put, List.getElem_toArray, List.getElem_cons_zero, List.getElem_cons_succ, List.setIfInBounds_toArray, List.set_cons_zero, List.set_cons_succ])
          refine' wpAnyH_take (i := 11) (v := _) rfl (by kernel_rfl) (by kernel_rfl) (by kernel_rfl) (fun _ _ _ h => h) (Or.inl ⟨by rfl, ?_⟩) hHeld ?_
          rotate_left
          · intro w hSw
            (try dsimp only at hSw)
            go_simp
            try with_reducible rfl
          (try simp only [Act.put, List.getElem_toArray, List.getElem_cons_zero, List.getElem_cons_succ, List.setIfInBounds_toArray, List.set_cons_zero, List.set_cons_succ])
          refine wpAnyH_done (by kernel_rfl) ?_ _
          (try simp only [Act.put, List.getElem_toArray, List.getElem_cons_zero, List.getElem_cons_succ, List.setIfInBounds_toArray, List.set_cons_zero, List.set_cons_succ])
          clear hHeld
          obtain ⟨WA, hWA⟩ : ∃ x, x = wy := ⟨_, rfl⟩
          rw [← hWA] at HX10 ⊢
          clear hWA
          have HRA := Lib.hid (HR9.out.keep HX10.out)
          have HIA := Lib.hid (own_keep HI9.out HX10.out)
          have HNA := Lib.hid (own_keep HN9.out HX10.out)
          have HBA := Lib.hid (HB9.out.trans (HX10.out.mono HS9.out))
          have HSA := Lib.hid (Nat.le_trans HS9.out HX10.out.size)
          clear HR9 HI9 HN9 HB9 HS9 HL9 HLL9 HX10
          have r_0 := HRA.out.c 0 _ rfl
          have r_1 := HRA.out.c 1 _ rfl
          have hif := HIF.out
          have hz0 := HZ0.out
          have hz1 := HZ1.out
          have hz2 := HZ2.out
          go_wp2_with (at_builtin; refine wpList_append_own _ rfl _ _ 49 rfl BB 51 i0 (.agg #[.int .i64 0, .int .i64 0]) 2 16 Tryd.underlying49 hif hz0 hz1 hz2 rfl (by decide) _ _ _ rfl (own_at HNA.out _) ⟨WA.heap.size, 0, none⟩ 1 1 [.int .i64 2, .int .i64 U] rfl rfl ?b1 ?b2 ?b3 ?b4 ?b5 ?_)
          case b1 =>
            intro q u hu
            rw [add_plain, Nat.zero_add]
            exact (row_fresh WA #[.int .i64 2, .int .i64 U] 51).c q u hu
          case b2 =>
            intro u hu
            simp at hu
            rcases hu with rfl | rfl <;> rfl
          case b3 => unfold maxLen; omega
          case b4 => omega
          case b5 => have := HSA.out; rw [World.size_alloc]; omega
          intro v5 w6 hown hgrow _
          obtain ⟨g6, c6, rfl⟩ : ∃ g6 c6, v5 = .slice (some ⟨g6, 0, none⟩) (k + 1) c6 := by
            rcases hown.2 with ⟨_, h⟩ | ⟨g9, cap, cur, h1, _⟩
            · omega
            · exact ⟨_, _, h1⟩
          have nal : Below WA.heap.size WA (WA.alloc (Obj.cells #[.int .i64 2, .int .i64 U] 51)) := (Below.refl _ _).alloc (Nat.le_refl _) _
          clear hif hz0 hz1 hz2
          have hNo : w6.ownsRow BB 51 2 (.slice (some ⟨g6, 0, none⟩) (k + 1) c6) (k + 1) (flat valL (vsK nI bs (k + 1))) := by rw [HSN.out, flat_append]; exact hown
          have hIn : w6.ownsRow BB 51 2 (.slice (some ⟨g5, 0, none⟩) (k + 1) c5) (k + 1) (flat valL (vsK bI bs (k + 1))) := (own_keep HIA.out nal).kept hgrow (.inr (by simp only [Value.ownBlock, ne_eq, Option.some.injEq]; exact HNE5.out))
          have HNE6 := Lib.hid (show g5 ≠ g6 from own_ne hIn hNo (.inl (first_ne (by omega) (by omega) HBL.out)))
          have vlt := fun q e => (HNA.out.lt q e).1
          have HB6 := Lib.hid ((HBA.out.trans (nal.mono HSA.out)).grown hgrow (by have := HSA.out; rw [World.size_alloc]; omega) (fun q e => vlt q e))
          have HI6 := Lib.hid hIn
          have HN6 := Lib.hid hNo
          have HS6 := Lib.hid (show BB ≤ w6.heap.size from Nat.le_trans (by have := HSA.out; rw [World.size_alloc]; omega) hgrow.size)
          clear hIn hNo hown hgrow nal vlt HIA HNA HBA HSA r_0 r_1
          go_wp2_with fail
          go_roundw
          case rel => exact ⟨k + 1, g5, c5, g6, c6, by omega, by go_num, rfl, rfl, Lib.hid ⟨HI6.out, HN6.out, HNE6.out, fun h => absurd h (by omega), HB6.out, HS6.out⟩⟩
          case measure => (simp [intOf]) <;> omega
        · obtain rfl : k = N := by omega
          obtain ⟨_, _, he, hi⟩ := ins_own HI.out
          injection he with he1 _ he2
          subst he1 he2
          obtain ⟨_, _, he, hn⟩ := ins_own HNO.out
          injection he with he1 _ he2
          subst he1 he2
          have hcap : k ≤ ic := by
            rcases HI.out.2 with ⟨h, _⟩ | ⟨g9, cap, cur, h1, _, _, h2, _⟩
            · cases h
            · injection h1 with _ _ h1; omega
          have hcap2 : ic ≤ 9223372036854775807 := by
            rcases HI.out.2 with ⟨h, _⟩ | ⟨g9, cap, cur, h1, _, _, _, h2, _⟩
            · cases h
            · injection h1 with _ _ h1; unfold maxLen at h2; omega
          have n2 : 2 ≤ bs.length := by have := HN.out; omega
          have n8 : bs.length ≤ 8 := by have := HN.out; omega
          have hIN : InS wr (some ⟨ib, 0, none⟩) bs.length 2 (flat valL (vsK bI bs bs.length)) := by have h := hi; rwa [HN.out] at h
          have hNN : InS wr (some ⟨nb, 0, none⟩) bs.length 2 (flat valL (vsK nI bs bs.length)) := by have h := hn; rwa [HN.out] at h
          obtain ⟨x0, x1, hx0, hx1, h2i⟩ := ins_two n2 hIN
          have HII := Lib.hid hIN
          have HNI := Lib.hid hNN
          have H2I := Lib.hid h2i
          obtain ⟨hA01, hAO⟩ := de_morgan bs bs.length (by omega) (Nat.le_refl _)
          have kand := fun a ic w hm hv => evN_and bs n2 n8 a ic w hm hv
          have kor := fun a ic w hm hv => evN_or bs n2 n8 a ic w hm hv
          obtain ⟨A, hA⟩ : ∃ x, x = minK (bs.map bI) bs.length := ⟨_, rfl⟩
          rw [hAO] at kor
          rw [← hA] at kand kor hA01
          obtain ⟨Q, hQ⟩ : ∃ x, x = 1 - A := ⟨_, rfl⟩
          have kno := fun q ic w hm hv => ev1_notI A hA01 q ic w hm hv
          rw [← hQ] at kor kno
          obtain ⟨X, hX⟩ : ∃ x, x = bI (x0 != x1) := ⟨_, rfl⟩
          have kx := fun a ic w hm hv => ev2_xor x0 x1 a ic w hm hv
          have kbx := fun w => binary_any (x0 != x1) w
          rw [← hX] at kx kbx
          rw [← HN.out] at kand kor
          have KAND := Lib.hid kand
          have KOR := Lib.hid kor
          have KNO := Lib.hid kno
          have KXO := Lib.hid kx
          have KBX := Lib.hid kbx
          obtain ⟨lb, lo, rfl, hll, hlc⟩ := (show InS wr la bs.length 1 (flat bL bs) from HLI.out _ HBW.out).at bL_len (by omega)
          have HL0 := Lib.hid (show wr.cell? ⟨lb, lo, none⟩ = some (.bool x0) by have h := hlc 0 x0 hx0 0 _ rfl; simpa using h)
          have HL1 := Lib.hid (show wr.cell? ⟨lb, lo + 1, none⟩ = some (.bool x1) by have h := hlc 1 x1 hx1 0 _ rfl; simpa using h)
          have HLL := Lib.hid hll
          have HB100 := Lib.hid HBW.out
          have c2 : (2 : Int) ≤ (ic : Int) := by omega
          have c3 : decide (2 ≤ ic) = true := decide_eq_true (by omega)
          have p0 : decide (0 < k) = true := decide_eq_true (by omega)
          have p1 : decide (1 < k) = true := decide_eq_true (by omega)
          have p2 : (1 : Int) < (k : Int) := by omega
          have p4 : 0 < k := by omega
          have p5 : 1 < k := by omega
          have p3 : (0 : Int) < (k : Int) := by omega
          have HNk := Lib.hid HN.out
          clear hi hn hIN hNN h2i hA01 hAO kand kor kno kx kbx hA hQ hX hx0 hx1 hlc hll HI HNO HB HS HNE HC0 HBW
          go_wp2_with fail
          have HRX := Lib.hid (Below.refl wr.heap.size wr)
          refine (KAND.out _ _ _ (HMX.out _ HB100.out) (by have h := HII.out.keep HRX.out; rwa [← HNk.out] at h)).mono ?_
          rintro e w101 ⟨rfl, hb⟩
          have HB101 := Lib.hid (HB100.out.trans (hb.mono HB100.out.size))
          have HRX := Lib.hid (HRX.out.trans (hb.mono HRX.out.size))
          clear hb  HB100
          obtain ⟨w102, gA, hW, hg, R, hb, sz⟩ := box1 w101 #[.int .i64 2, .int .i64 A] 51
          have HB102 := Lib.hid (HB101.out.trans (hb.mono HB101.out.size))
          have HA_102 := Lib.hid R
          have HRX := Lib.hid (HRX.out.trans (hb.mono HRX.out.size))
          clear R hb sz  HB101
          go_upto_region 16 with fail
          rw [← hW]
          rw [← hg]
          clear hW hg
          have a_0 := HA_102.out.c 0 _ rfl
          have a_1 := HA_102.out.c 1 _ rfl
          obtain ⟨w103, gB, hW, hg, R, hb, sz⟩ := box1 w102 #[.int .i64 2, .int .i64 A] 51
          have HA_103 := Lib.hid (HA_102.out.keep hb)
          have HB103 := Lib.hid (HB102.out.trans (hb.mono HB102.out.size))
          have HB_103 := Lib.hid R
          have HRX := Lib.hid (HRX.out.trans (hb.mono HRX.out.size))
          clear R hb sz HA_102 HB102
          go_wp2_with fail
          rw [← hW]
          rw [← hg]
          clear hW hg
          clear a_0 a_1
          refine (KNO.out gB _ _ (HMX.out _ HB103.out) HB_103.out).mono ?_
          rintro e w104 ⟨rfl, hb⟩
          have HA_104 := Lib.hid (HA_103.out.keep hb)
          have HB_104 := Lib.hid (HB_103.out.keep hb)
          have HB104 := Lib.hid (HB103.out.trans (hb.mono HB103.out.size))
          have HRX := Lib.hid (HRX.out.trans (hb.mono HRX.out.size))
          clear hb HA_103 HB_103 HB103
          obtain ⟨w105, gN, hW, hg, R, hb, sz⟩ := box1 w104 #[.int .i64 2, .int .i64 Q] 51
          have HA_105 := Lib.hid (HA_104.out.keep hb)
          have HB_105 := Lib.hid (HB_104.out.keep hb)
          have HB105 := Lib.hid (HB104.out.trans (hb.mono HB104.out.size))
          have HN_105 := Lib.hid R
          have HRX := Lib.hid (HRX.out.trans (hb.mono HRX.out.size))
          clear R hb sz HA_104 HB_104 HB104
          go_upto_region 17 with fail
          rw [← hW]
          rw [← hg]
          clear hW hg
          go_wp2_with fail
          refine (KOR.out _ _ _ (HMX.out _ HB105.out) (by have h := HNI.out.keep HRX.out; rwa [← HNk.out] at h)).mono ?_
          rintro e w106 ⟨rfl, hb⟩
          have HA_106 := Lib.hid (HA_105.out.keep hb)
          have HB_106 := Lib.hid (HB_105.out.keep hb)
          have HN_106 := Lib.hid (HN_105.out.keep hb)
          have HB106 := Lib.hid (HB105.out.trans (hb.mono HB105.out.size))
          have HRX := Lib.hid (HRX.out.trans (hb.mono HRX.out.size))
          clear hb HA_105 HB_105 HN_105 HB105
          obtain ⟨w107, gO, hW, hg, R, hb, sz⟩ := box1 w106 #[.int .i64 2, .int .i64 Q] 51
          have HA_107 := Lib.hid (HA_106.out.keep hb)
          have HB_107 := Lib.hid (HB_106.out.keep hb)
          have HN_107 := Lib.hid (HN_106.out.keep hb)
          have HB107 := Lib.hid (HB106.out.trans (hb.mono HB106.out.size))
          have HO_107 := Lib.hid R
          have HRX := Lib.hid (HRX.out.trans (hb.mono HRX.out.size))
          clear R hb sz HA_106 HB_106 HN_106 HB106
          go_upto_region 18 with fail
          rw [← hW]
          rw [← hg]
          clear hW hg
          go_wp2_with fail
          refine (KXO.out _ _ _ (HMX.out _ HB107.out) (H2I.out.keep HRX.out)).mono ?_
          rintro e w108 ⟨rfl, hb⟩
          have HA_108 := Lib.hid (HA_107.out.keep hb)
          have HB_108 := Lib.hid (HB_107.out.keep hb)
          have HN_108 := Lib.hid (HN_107.out.keep hb)
          have HO_108 := Lib.hid (HO_107.out.keep hb)
          have HB108 := Lib.hid (HB107.out.trans (hb.mono HB107.out.size))
          have HRX := Lib.hid (HRX.out.trans (hb.mono HRX.out.size))
          clear hb HA_107 HB_107 HN_107 HO_107 HB107
          obtain ⟨w109, gX, hW, hg, R, hb, sz⟩ := box1 w108 #[.int .i64 2, .int .i64 X] 51
          have HA_109 := Lib.hid (HA_108.out.keep hb)
          have HB_109 := Lib.hid (HB_108.out.keep hb)
          have HN_109 := Lib.hid (HN_108.out.keep hb)
          have HO_109 := Lib.hid (HO_108.out.keep hb)
          have HB109 := Lib.hid (HB108.out.trans (hb.mono HB108.out.size))
          have HX_109 := Lib.hid R
          have HRX := Lib.hid (HRX.out.trans (hb.mono HRX.out.size))
          clear R hb sz HA_108 HB_108 HN_108 HO_108 HB108
          go_upto_region 19 with fail
          rw [← hW]
          rw [← hg]
          clear hW hg
          go_wp2_with fail
          have HS0 := Lib.hid (show (w109.cell? ⟨gN, 0, none⟩ = some (.int .i64 2) ∧ w109.cell? ⟨gN, 1, none⟩ = some (.int .i64 Q) ∧ w109.cell? ⟨gO, 0, none⟩ = some (.int .i64 2) ∧ w109.cell? ⟨gO, 1, none⟩ = some (.int .i64 Q) ∧ w109.cell? ⟨gX, 0, none⟩ = some (.int .i64 2) ∧ w109.cell? ⟨gX, 1, none⟩ = some (.int .i64 X) ∧ w109.cell? ⟨lb, lo, none⟩ = some (.bool x0) ∧ w109.cell? ⟨lb, lo + 1, none⟩ = some (.bool x1)) from ⟨HN_109.out.c 0 _ rfl, HN_109.out.c 1 _ rfl, HO_109.out.c 0 _ rfl, HO_109.out.c 1 _ rfl, HX_109.out.c 0 _ rfl, HX_109.out.c 1 _ rfl, (HRX.out.cell (p := ⟨lb, lo, none⟩) HLL.out).trans HL0.out, (HRX.out.cell (p := ⟨lb, lo + 1, none⟩) HLL.out).trans HL1.out⟩)
          refine wp_region_held_drew (S := fun w => (w.cell? ⟨gN, 0, none⟩ = some (.int .i64 2) ∧ w.cell? ⟨gN, 1, none⟩ = some (.int .i64 Q) ∧ w.cell? ⟨gO, 0, none⟩ = some (.int .i64 2) ∧ w.cell? ⟨gO, 1, none⟩ = some (.int .i64 Q) ∧ w.cell? ⟨gX, 0, none⟩ = some (.int .i64 2) ∧ w.cell? ⟨gX, 1, none⟩ = some (.int .i64 X) ∧ w.cell? ⟨lb, lo, none⟩ = some (.bool x0) ∧ w.cell? ⟨lb, lo + 1, none⟩ = some (.bool x1))) (by kernel_rfl) HS0.out (fun hHeld => ?_)
          have hdr : Below w109.heap.size w109 w109.drew := (Below.refl _ _).drew
          obtain ⟨wx, hwx⟩ : ∃ x, x = w109.drew := ⟨_, rfl⟩
          have HXX := Lib.hid (show Below w109.heap.size w109 wx by rw [hwx]; exact hdr)
          have HZN := Lib.hid (Nat.lt_of_lt_of_le HN_109.out.lt HXX.out.size)
          have HZO := Lib.hid (Nat.lt_of_lt_of_le HO_109.out.lt HXX.out.size)
          have HZX := Lib.hid (Nat.lt_of_lt_of_le HX_109.out.lt HXX.out.size)
          have HZL := Lib.hid (Nat.lt_of_lt_of_le (Nat.lt_of_lt_of_le HLL.out HRX.out.size) HXX.out.size)
          rw [← hwx] at hHeld ⊢
          clear hwx hdr HS0
          refine' wpAnyH_take (i := 0) (v := _) rfl (by kernel_rfl) (by kernel_rfl) (by kernel_rfl) (fun _ _ _ h => h) (Or.inl ⟨by rfl, ?_⟩) hHeld ?_
          rotate_left
          · intro w hSw
            (try dsimp only at hSw)
            go_simp
            try with_reducible rfl
          (try simp only [Act.put, List.getElem_toArray, List.getElem_cons_zero, List.getElem_cons_succ, List.setIfInBounds_toArray, List.set_cons_zero, List.set_cons_succ])
          refine' wpAnyH_take (i := 1) (v := _) rfl (by kernel_rfl) (by kernel_rfl) (by kernel_rfl) (fun _ _ _ h => h) (Or.inl ⟨by rfl, ?_⟩) hHeld ?_
          rotate_left
          · intro w hSw
            (try dsimp only at hSw)
            go_simp
            try with_reducible rfl
          (try simp only [Act.put, List.getElem_toArray, List.getElem_cons_zero, List.getElem_cons_succ, List.setIfInBounds_toArray, List.set_cons_zero, List.set_cons_succ])
          refine' wpAnyH_take (i := 2) (v := _) rfl (by kernel_rfl) (by kernel_rfl) (by kernel_rfl) (fun _ _ _ h => h) (Or.inl ⟨by rfl, ?_⟩) hHeld ?_
          rotate_left
          · intro w hSw
            (try dsimp only at hSw)
            go_simp
            try with_reducible rfl
          (try simp only [Act.put, List.getElem_toArray, List.getElem_cons_zero, List.getElem_cons_succ, List.setIfInBounds_toArray, List.set_cons_zero, List.set_cons_succ])
          refine' wpAnyH_take (i := 3) (v := _) rfl (by kernel_rfl) (by kernel_rfl) (by kernel_rfl) (fun _ _ _ h => h) (Or.inl ⟨by rfl, ?_⟩) hHeld ?_
          rotate_left
          · intro w hSw
            (try dsimp only at hSw)
            go_simp
            try with_reducible rfl
          (try simp only [Act.put, List.getElem_toArray, List.getElem_cons_zero, List.getElem_cons_succ, List.setIfInBounds_toArray, List.set_cons_zero, List.set_cons_succ])
          refine' wpAnyH_take (i := 4) (v := _) rfl (by kernel_rfl) (by kernel_rfl) (by kernel_rfl) (fun _ _ _ h => h) (Or.inl ⟨by rfl, ?_⟩) hHeld ?_
          rotate_left
          · intro w hSw
            (try dsimp only at hSw)
            go_simp
            try with_reducible rfl
          (try simp only [Act.put, List.getElem_toArray, List.getElem_cons_zero, List.getElem_cons_succ, List.setIfInBounds_toArray, List.set_cons_zero, List.set_cons_succ])
          refine' wpAnyH_take (i := 5) (v := _) rfl (by kernel_rfl) (by kernel_rfl) (by kernel_rfl) (fun _ _ _ h => h) (Or.inl ⟨by rfl, ?_⟩) hHeld ?_
          rotate_left
          · intro w hSw
            (try dsimp only at hSw)
            go_simp
            try with_reducible rfl
          (try simp only [Act.put, List.getElem_toArray, List.getElem_cons_zero, List.getElem_cons_succ, List.setIfInBounds_toArray, List.set_cons_zero, List.set_cons_succ])
          refine' wpAnyH_take (i := 6) (v := _) rfl (by kernel_rfl) (by kernel_rfl) (by kernel_rfl) (fun _ _ _ h => h) (Or.inl ⟨by rfl, ?_⟩) hHeld ?_
          rotate_left
          · intro w hSw
            (try dsimp only at hSw)
            go_simp
            try with_reducible rfl
          (try simp only [Act.put, List.getElem_toArray, List.getElem_cons_zero, List.getElem_cons_succ, List.setIfInBounds_toArray, List.set_cons_zero, List.set_cons_succ])
          refine' wpAnyH_take (i := 7) (v := _) rfl (by kernel_rfl) (by kernel_rfl) (by kernel_rfl) (fun _ _ _ h => h) (Or.inl ⟨by rfl, ?_⟩) hHeld ?_
          rotate_left
          · intro w hSw
            (try dsimp only at hSw)
            go_simp
            try with_reducible rfl
          (try simp only [Act.put, List.getElem_toArray, List.getElem_cons_zero, List.getElem_cons_succ, List.setIfInBounds_toArray, List.set_cons_zero, List.set_cons_succ])
          refine' wpAnyH_take (i := 8) (v := _) rfl (by kernel_rfl) (by kernel_rfl) (by kernel_rfl) (fun _ _ _ h => h) (Or.inl ⟨by rfl, ?_⟩) hHeld ?_
          rotate_left
          · intro w hSw
            (try dsimp only at hSw)
            go_simp
            try with_reducible rfl
          (try simp only [Act.put, List.getElem_toArray, List.getElem_cons_zero, List.getElem_cons_succ, List.setIfInBounds_toArray, List.set_cons_zero, List.set_cons_succ])
          refine' wpAnyH_take (i := 9) (v := _) rfl (by kernel_rfl) (by kernel_rfl) (by kernel_rfl) (fun _ _ _ h => h) (Or.inl ⟨by rfl, ?_⟩) hHeld ?_
          rotate_left
          · intro w hSw
            (try dsimp only at hSw)
            go_simp
            try with_reducible rfl
          (try simp only [Act.put, List.getElem_toArray, List.getElem_cons_zero, List.getElem_cons_succ, List.setIfInBounds_toArray, List.set_cons_zero, List.set_cons_succ])
          refine' wpAnyH_take (i := 10) (v := _) rfl (by kernel_rfl) (by kernel_rfl) (by kernel_rfl) (fun _ _ _ h => h) (Or.inl ⟨by rfl, ?_⟩) hHeld ?_
          rotate_left
          · intro w hSw
            (try dsimp only at hSw)
            go_simp
            try with_reducible rfl
          (try simp only [Act.put, List.getElem_toArray, List.getElem_cons_zero, List.getElem_cons_succ, List.setIfInBounds_toArray, List.set_cons_zero, List.set_cons_succ])
          refine' wpAnyH_take (i := 11) (v := _) rfl (by kernel_rfl) (by kernel_rfl) (by kernel_rfl) (fun _ _ _ h => h) (Or.inl ⟨by rfl, ?_⟩) hHeld ?_
          rotate_left
          · intro w hSw
            (try dsimp only at hSw)
            go_simp
            try with_reducible rfl
          (try simp only [Act.put, List.getElem_toArray, List.getElem_cons_zero, List.getElem_cons_succ, List.setIfInBounds_toArray, List.set_cons_zero, List.set_cons_succ])
          refine' wpAnyH_take (i := 12) (v := _) rfl (by kernel_rfl) (by kernel_rfl) (by kernel_rfl) (fun _ _ _ h => h) (Or.inl ⟨by rfl, ?_⟩) hHeld ?_
          rotate_left
          · intro w hSw
            (try dsimp only at hSw)
            go_simp
            try with_reducible rfl
          (try simp only [Act.put, List.getElem_toArray, List.getElem_cons_zero, List.getElem_cons_succ, List.setIfInBounds_toArray, List.set_cons_zero, List.set_cons_succ])
          refine' wpAnyH_take (i := 13) (v := _) rfl (by kernel_rfl) (by kernel_rfl) (by kernel_rfl) (fun _ _ _ h => h) (Or.inl ⟨by rfl, ?_⟩) hHeld ?_
          rotate_left
          · intro w hSw
            (try dsimp only at hSw)
            go_simp
            try with_reducible rfl
          (try simp only [Act.put, List.getElem_toArray, List.getElem_cons_zero, List.getElem_cons_succ, List.setIfInBounds_toArray, List.set_cons_zero, List.set_cons_succ])
          refine' wpAnyH_take (i := 14) (v := _) rfl (by kernel_rfl) (by kernel_rfl) (by kernel_rfl) (fun _ _ _ h => h) (Or.inl ⟨by rfl, ?_⟩) hHeld ?_
          rotate_left
          · intro w hSw
            (try dsimp only at hSw)
            go_simp
            try with_reducible rfl
          (try simp only [Act.put, List.getElem_toArray, List.getElem_cons_zero, List.getElem_cons_succ, List.setIfInBounds_toArray, List.set_cons_zero, List.set_cons_succ])
          refine' wpAnyH_take (i := 15) (v := _) rfl (by kernel_rfl) (by kernel_rfl) (by kernel_rfl) (fun _ _ _ h => h) (Or.inl ⟨by rfl, ?_⟩) hHeld ?_
          rotate_left
          · intro w hSw
            (try dsimp only at hSw)
            go_simp
            try with_reducible rfl
          (try simp only [Act.put, List.getElem_toArray, List.getElem_cons_zero, List.getElem_cons_succ, List.setIfInBounds_toArray, List.set_cons_zero, List.set_cons_succ])
          refine' wpAnyH_take (i := 16) (v := _) rfl (by kernel_rfl) (by kernel_rfl) (by kernel_rfl) (fun _ _ _ h => h) (Or.inl ⟨by rfl, ?_⟩) hHeld ?_
          rotate_left
          · intro w hSw
            (try dsimp only at hSw)
            go_simp
            try with_reducible rfl
          (try simp only [Act.put, List.getElem_toArray, List.getElem_cons_zero, List.getElem_cons_succ, List.setIfInBounds_toArray, List.set_cons_zero, List.set_cons_succ])
          refine' wpAnyH_take (i := 17) (v := _) rfl (by kernel_rfl) (by kernel_rfl) (by kernel_rfl) (fun _ _ _ h => h) (Or.inl ⟨by rfl, ?_⟩) hHeld ?_
          rotate_left
          · intro w hSw
            (try dsimp only at hSw)
            go_simp
            try with_reducible rfl
          (try simp only [Act.put, List.getElem_toArray, List.getElem_cons_zero, List.getElem_cons_succ, List.setIfInBounds_toArray, List.set_cons_zero, List.set_cons_succ])
          refine' wpAnyH_take (i := 18) (v := _) rfl (by kernel_rfl) (by kernel_rfl) (by kernel_rfl) (fun _ _ _ h => h) (Or.inl ⟨by rfl, ?_⟩) hHeld ?_
          rotate_left
          · intro w hSw
            (try dsimp only at hSw)
            go_simp
            try with_reducible rfl
          (try simp only [Act.put, List.getElem_toArray, List.getElem_cons_zero, List.getElem_cons_succ, List.setIfInBounds_toArray, List.set_cons_zero, List.set_cons_succ])
          refine' wpAnyH_take (i := 19) (v := _) rfl (by kernel_rfl) (by kernel_rfl) (by kernel_rfl) (fun _ _ _ h => h) (Or.inl ⟨by rfl, ?_⟩) hHeld ?_
          rotate_left
          · intro w hSw
            (try dsimp only at hSw)
            go_simp
            try with_reducible rfl
          (try simp only [Act.put, List.getElem_toArray, List.getElem_cons_zero, List.getElem_cons_succ, List.setIfInBounds_toArray, List.set_cons_zero, List.set_cons_succ])
          refine' wpAnyH_take (i := 20) (v := _) rfl (by kernel_rfl) (by kernel_rfl) (by kernel_rfl) (fun _ _ _ h => h) (Or.inl ⟨by rfl, ?_⟩) hHeld ?_
          rotate_left
          · intro w hSw
            (try dsimp only at hSw)
            go_simp
            try with_reducible rfl
          (try simp only [Act.put, List.getElem_toArray, List.getElem_cons_zero, List.getElem_cons_succ, List.setIfInBounds_toArray, List.set_cons_zero, List.set_cons_succ])
          refine' wpAnyH_take (i := 21) (v := _) rfl (by kernel_rfl) (by kernel_rfl) (by kernel_rfl) (fun _ _ _ h => h) (Or.inl ⟨by rfl, ?_⟩) hHeld ?_
          rotate_left
          · intro w hSw
            (try dsimp only at hSw)
            go_simp
            try with_reducible rfl
          (try simp only [Act.put, List.getElem_toArray, List.getElem_cons_zero, List.getElem_cons_succ, List.setIfInBounds_toArray, List.set_cons_zero, List.set_cons_succ])
          refine' wpAnyH_take (i := 22) (v := _) rfl (by kernel_rfl) (by kernel_rfl) (by kernel_rfl) (fun _ _ _ h => h) (Or.inl ⟨by rfl, ?_⟩) hHeld ?_
          rotate_left
          · intro w hSw
            (try dsimp only at hSw)
            go_simp
            try with_reducible rfl
          (try simp only [Act.put, List.getElem_toArray, List.getElem_cons_zero, List.getElem_cons_succ, List.setIfInBounds_toArray, List.set_cons_zero, List.set_cons_succ])
          refine' wpAnyH_take (i := 23) (v := _) rfl (by kernel_rfl) (by kernel_rfl) (by kernel_rfl) (fun _ _ _ h => h) (Or.inl ⟨by rfl, ?_⟩) hHeld ?_
          rotate_left
          · intro w hSw
            (try dsimp only at hSw)
            go_simp
            try with_reducible rfl
          (try simp only [Act.put, List.getElem_toArray, List.getElem_cons_zero, List.getElem_cons_succ, List.setIfInBounds_toArray, List.set_cons_zero, List.set_cons_succ])
          refine' wpAnyH_take (i := 24) (v := _) rfl (by kernel_rfl) (by kernel_rfl) (by kernel_rfl) (fun _ _ _ h => h) (Or.inl ⟨by rfl, ?_⟩) hHeld ?_
          rotate_left
          · intro w hSw
            (try dsimp only at hSw)
            go_simp
            try with_reducible rfl
          (try simp only [Act.put, List.getElem_toArray, List.getElem_cons_zero, List.getElem_cons_succ, List.setIfInBounds_toArray, List.set_cons_zero, List.set_cons_succ])
          refine' wpAnyH_take (i := 25) (v := _) rfl (by kernel_rfl) (by kernel_rfl) (by kernel_rfl) (fun _ _ _ h => h) (Or.inl ⟨by rfl, ?_⟩) hHeld ?_
          rotate_left
          · intro w hSw
            (try dsimp only at hSw)
            go_simp
            try with_reducible rfl
          (try simp only [Act.put, List.getElem_toArray, List.getElem_cons_zero, List.getElem_cons_succ, List.setIfInBounds_toArray, List.set_cons_zero, List.set_cons_succ])
          refine' wpAnyH_take (i := 26) (v := _) rfl (by kernel_rfl) (by kernel_rfl) (by kernel_rfl) (fun _ _ _ h => h) (Or.inl ⟨by rfl, ?_⟩) hHeld ?_
          rotate_left
          · intro w hSw
            (try dsimp only at hSw)
            go_simp
            try with_reducible rfl
          (try simp only [Act.put, List.getElem_toArray, List.getElem_cons_zero, List.getElem_cons_succ, List.setIfInBounds_toArray, List.set_cons_zero, List.set_cons_succ])
          refine' wpAnyH_take (i := 27) (v := _) rfl (by kernel_rfl) (by kernel_rfl) (by kernel_rfl) (fun _ _ _ h => h) (Or.inl ⟨by rfl, ?_⟩) hHeld ?_
          rotate_left
          · intro w hSw
            (try dsimp only at hSw)
            go_simp
            try with_reducible rfl
          (try simp only [Act.put, List.getElem_toArray, List.getElem_cons_zero, List.getElem_cons_succ, List.setIfInBounds_toArray, List.set_cons_zero, List.set_cons_succ])
          have hh := hHeld
          refine wpAnyH_ready (rs := [28]) (by kernel_rfl) (by simp) ?_
          refine AllReadyH.cons rfl (fun K hK => ?_) AllReadyH.nil
          go_simp
          refine (KBX.out _).mono ?_
          rintro e wy ⟨rfl, hb⟩
          have HBY := Lib.hid (HB109.out.trans ((HXX.out.trans (hb.mono HXX.out.size)).mono HB109.out.size))
          have hs2 : (wy.cell? ⟨gN, 0, none⟩ = some (.int .i64 2) ∧ wy.cell? ⟨gN, 1, none⟩ = some (.int .i64 Q) ∧ wy.cell? ⟨gO, 0, none⟩ = some (.int .i64 2) ∧ wy.cell? ⟨gO, 1, none⟩ = some (.int .i64 Q) ∧ wy.cell? ⟨gX, 0, none⟩ = some (.int .i64 2) ∧ wy.cell? ⟨gX, 1, none⟩ = some (.int .i64 X) ∧ wy.cell? ⟨lb, lo, none⟩ = some (.bool x0) ∧ wy.cell? ⟨lb, lo + 1, none⟩ = some (.bool x1)) := ⟨(hb.cell (p := ⟨gN, 0, none⟩) HZN.out).trans hh.1, (hb.cell (p := ⟨gN, 1, none⟩) HZN.out).trans hh.2.1, (hb.cell (p := ⟨gO, 0, none⟩) HZO.out).trans hh.2.2.1, (hb.cell (p := ⟨gO, 1, none⟩) HZO.out).trans hh.2.2.2.1, (hb.cell (p := ⟨gX, 0, none⟩) HZX.out).trans hh.2.2.2.2.1, (hb.cell (p := ⟨gX, 1, none⟩) HZX.out).trans hh.2.2.2.2.2.1, (hb.cell (p := ⟨lb, lo, none⟩) HZL.out).trans hh.2.2.2.2.2.2.1, (hb.cell (p := ⟨lb, lo + 1, none⟩) HZL.out).trans hh.2.2.2.2.2.2.2⟩
          clear hb hHeld hh HXX HZN HZO HZX HZL
          (try go_simp)
          refine hK.out _ _ hs2 (fun hHeld => ?_)
          clear hK K hs2
          (try simp only [Act.put, List.getElem_toArray, List.getElem_cons_zero, List.getElem_cons_succ, List.setIfInBounds_toArray, List.set_cons_zero, List.set_cons_succ])
          refine' wpAnyH_take (i := 29) (v := _) rfl (by kernel_rfl) (by kernel_rfl) (by kernel_rfl) (fun _ _ _ h => h) (Or.inl ⟨by rfl, ?_⟩) hHeld ?_
          rotate_left
          · intro w hSw
            (try dsimp only at hSw)
            go_simp
            try with_reducible rfl
          (try simp only [Act.put, List.getElem_toArray, List.getElem_cons_zero, List.getElem_cons_succ, List.setIfInBounds_toArray, List.set_cons_zero, List.set_cons_succ])
          refine' wpAnyH_take (i := 30) (v := _) rfl (by kernel_rfl) (by kernel_rfl) (by kernel_rfl) (fun _ _ _ h => h) (Or.inl ⟨by rfl, ?_⟩) hHeld ?_
          rotate_left
          · intro w hSw
            (try dsimp only at hSw)
            go_simp
            try with_reducible rfl
          (try simp only [Act.put, List.getElem_toArray, List.getElem_cons_zero, List.getElem_cons_succ, List.setIfInBounds_toArray, List.set_cons_zero, List.set_cons_succ])
          refine' wpAnyH_take (i := 31) (v := _) rfl (by kernel_rfl) (by kernel_rfl) (by kernel_rfl) (fun _ _ _ h => h) (Or.inl ⟨by rfl, ?_⟩) hHeld ?_
          rotate_left
          · intro w hSw
            (try dsimp only at hSw)
            go_simp
            try with_reducible rfl
          (try simp only [Act.put, List.getElem_toArray, List.getElem_cons_zero, List.getElem_cons_succ, List.setIfInBounds_toArray, List.set_cons_zero, List.set_cons_succ])
          refine wpAnyH_done (by kernel_rfl) ?_ _
          (try simp only [Act.put, List.getElem_toArray, List.getElem_cons_zero, List.getElem_cons_succ, List.setIfInBounds_toArray, List.set_cons_zero, List.set_cons_succ])
          clear hHeld
          go_wp2_with fail
          go_ret
          exact ⟨rfl, HBY.out⟩
end Go.Proofs.YtaobbedajgkmiaaDoor
