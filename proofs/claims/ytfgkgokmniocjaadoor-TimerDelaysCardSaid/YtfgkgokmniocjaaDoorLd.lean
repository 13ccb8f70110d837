/- The law Delays of timer. Asked: MaxLen's cell holds some number. -/
import Derived.Test.YtfgkgokmniocjaaDoorCi
namespace Go.Proofs.YtfgkgokmniocjaaDoor
open Go.RowKit Go.Shelf

set_option linter.unusedVariables false
set_option linter.unusedSimpArgs false
theorem outs_in {w : World} {va : Option Addr} {M i : Nat} {ko : Int} {Ov : Nat → Int} (h : InS w va M 2 (flat valL (outsV ko Ov M))) (hi : i < M) : ∃ b o, va = some ⟨b, o, none⟩ ∧ b < w.heap.size ∧ w.cell? ⟨b, o + i * 2, none⟩ = some (.int .i64 ko) ∧ w.cell? ⟨b, o + i * 2 + 1, none⟩ = some (.int .i64 (Ov i)) := by
  have e : (outsV ko Ov M)[i]? = some ⟨ko, Ov i⟩ := by unfold outsV; rw [List.getElem?_map, List.getElem?_range hi]; rfl
  have hl : (outsV ko Ov M).length = M := outsV_len ko Ov M
  obtain ⟨b, o, rfl, hb, hc⟩ := (show InS w va (outsV ko Ov M).length 2 (flat valL (outsV ko Ov M)) by rw [hl]; exact h).at valL_len (by omega)
  exact ⟨b, o, rfl, hb, by have := hc i _ e 0 _ rfl; rw [Nat.add_zero] at this; exact this, hc i _ e 1 _ rfl⟩
theorem lit_bit (z : Int) (P : Prop) (B : Bool) (hz : z = 0 ∨ z = 1) (hw : z = 1 ↔ P) (hB : B = true ↔ P) : z = bitN B := by
  unfold bitN
  cases B
  · rw [if_neg (by decide)]
    rcases hz with hz | hz
    · exact hz
    · exact absurd (hB.2 (hw.1 hz)) (by decide)
  · rw [if_pos rfl]
    exact hw.2 (hB.1 rfl)
theorem bit_cases (b : Bool) : bitN b = 0 ∨ bitN b = 1 := by cases b; exact .inl rfl; exact .inr rfl
/-- what stands at step k -/
def eB (zs : List Int) (k : Nat) : Bool := decide (zs.getD k 0 = 1)
theorem eB_bit (zs : List Int) (k : Nat) (b : Bool) (h : zs.getD k 0 = bitN b) : eB zs k = b := by unfold eB; rw [h]; cases b <;> rfl
def OnI (t x : Int) (e : Nat → Bool) (k : Nat) : Prop := 0 ≤ x ∧ x ≤ t + 1 ∧ x ≤ k ∧ (∀ m : Nat, (k : Int) - x ≤ m → m < k → e m = true) ∧ (x ≤ t → x = k ∨ ∃ m : Nat, (m : Int) + 1 = k - x ∧ e m = false)
theorem on_next (t x : Int) (e : Nat → Bool) (k : Nat) (h0 : 0 ≤ t) (h : OnI t x e k) : OnI t (if e k = true then (if x = 0 then 0 else min (x - 1 + 1) t) + 1 else 0) e (k + 1) := by
  unfold OnI at h ⊢
  obtain ⟨h1, h2, h3, h4, h5⟩ := h
  by_cases he : e k = true
  · rw [if_pos he]
    obtain ⟨y, hy⟩ : ∃ y, y = (if x = 0 then 0 else min (x - 1 + 1) t) := ⟨_, rfl⟩
    have hm : y = min x t := by rw [hy]; split <;> omega
    rw [← hy, hm]
    refine ⟨by omega, by omega, by omega, fun m a b => ?_, fun hx => ?_⟩
    · by_cases hk : m = k
      · subst hk; exact he
      · exact h4 m (by omega) (by omega)
    · rcases h5 (by omega) with h | ⟨m, a, b⟩
      · left; omega
      · right; exact ⟨m, by omega, b⟩
  · rw [if_neg he]
    have hef : e k = false := by cases h9 : e k; rfl; exact absurd h9 he
    exact ⟨by omega, by omega, by omega, fun m a b => by omega, fun _ => .inr ⟨k, by omega, hef⟩⟩
theorem on_run (t : Int) (zs : List Int) (h0 : 0 ≤ t) : ∀ k, OnI t (stOndelay t 1 zs k) (eB zs) k
  | 0 => ⟨Int.le_refl 0, by show (0 : Int) ≤ t + 1; omega, by show (0 : Int) ≤ 0; omega, fun m a b => by omega, fun _ => .inl rfl⟩
  | k + 1 => by
    have h := on_next t (stOndelay t 1 zs k) (eB zs) k h0 (on_run t zs h0 k)
    have e : stOndelay t 1 zs (k + 1) = if eB zs k = true then (if stOndelay t 1 zs k = 0 then 0 else min (stOndelay t 1 zs k - 1 + 1) t) + 1 else 0 := by
      show onS (zs.getD k 0) (stOndelay t 1 zs k) t 1 = _
      unfold onS eB
      simp only [decide_eq_true_eq]
    rw [e]
    exact h
def WantOn (t : Int) (e : Nat → Bool) (k : Nat) : Prop := t ≤ k ∧ ∀ m : Nat, (k : Int) - t ≤ m → m ≤ k → e m = true
theorem on_ov (t : Int) (zs : List Int) (h0 : 0 ≤ t) (k : Nat) (B : Bool) (hB : B = true ↔ WantOn t (eB zs) k) : ovOndelay t 1 zs k = bitN B := by
  have h := on_run t zs h0 k
  unfold OnI at h
  obtain ⟨h1, h2, h3, h4, h5⟩ := h
  have e : ovOndelay t 1 zs k = if eB zs k = true ∧ t ≤ stOndelay t 1 zs k then 1 else 0 := by
    have hm : (if stOndelay t 1 zs k = 0 then 0 else min (stOndelay t 1 zs k - 1 + 1) t) = min (stOndelay t 1 zs k) t := by split <;> omega
    unfold ovOndelay onV eB
    rw [hm]
    simp only [decide_eq_true_eq]
    by_cases h9 : zs.getD k 0 = 1 ∧ t ≤ stOndelay t 1 zs k
    · rw [if_pos h9, if_pos ⟨h9.1, by omega⟩]
    · rw [if_neg h9, if_neg (fun h => h9 ⟨h.1, by have := h.2; omega⟩)]
  rw [e]
  refine lit_bit _ (WantOn t (eB zs) k) B (by split <;> simp) ?_ hB
  unfold WantOn
  constructor
  · intro h
    split at h
    · rename_i hc
      refine ⟨by omega, fun m a b => ?_⟩
      by_cases hk : m = k
      · subst hk; exact hc.1
      · exact h4 m (by omega) (by omega)
    · omega
  · rintro ⟨a, b⟩
    rw [if_pos]
    refine ⟨b k (by omega) (Nat.le_refl _), ?_⟩
    by_cases hx : t ≤ stOndelay t 1 zs k
    · exact hx
    · rcases h5 (by omega) with h | ⟨m, c, d⟩
      · omega
      · have := b m (by omega) (by omega)
        rw [this] at d; cases d
def OffI (t x : Int) (e : Nat → Bool) (k : Nat) : Prop := (x = -1 ∧ ∃ m, m + 1 = k ∧ e m = true) ∨ (x = 0 ∧ ∀ m : Nat, m < k → e m = true → (m : Int) + t < k) ∨ (1 ≤ x ∧ x ≤ t ∧ ∃ m : Nat, (m : Int) = k - 1 - x ∧ e m = true ∧ ∀ i, m < i → i < k → e i = false)
theorem off_next (t x : Int) (e : Nat → Bool) (k : Nat) (h0 : 0 ≤ t) (h : OffI t x e k) : OffI t (if e k = true then -1 else if x = -1 then lastsN 0 t else if x = 0 then 0 else lastsN (x - 1 + 1) t) e (k + 1) := by
  unfold OffI at h ⊢
  by_cases he : e k = true
  · rw [if_pos he]
    exact .inl ⟨rfl, k, rfl, he⟩
  · rw [if_neg he]
    have hef : e k = false := by cases h9 : e k; rfl; exact absurd h9 he
    right
    rcases h with ⟨h1, m, h2, h3⟩ | ⟨h1, h2⟩ | ⟨h1, h2, m, h3, h4, h5⟩
    · rw [if_pos h1]
      unfold lastsN
      by_cases ht : 0 < t
      · right
        rw [if_pos ht]
        refine ⟨by omega, by omega, m, by omega, h3, fun i a b => ?_⟩
        obtain rfl : i = k := by omega
        exact hef
      · left
        rw [if_neg ht]
        refine ⟨rfl, fun i a b => ?_⟩
        by_cases hk : i = k
        · subst hk; exact absurd b he
        · omega
    · left
      rw [if_neg (by omega), if_pos h1]
      refine ⟨rfl, fun i a b => ?_⟩
      by_cases hk : i = k
      · subst hk; exact absurd b he
      · have := h2 i (by omega) b
        omega
    · rw [if_neg (by omega), if_neg (by omega)]
      unfold lastsN
      by_cases hy : x - 1 + 1 < t
      · right
        rw [if_pos hy]
        refine ⟨by omega, by omega, m, by omega, h4, fun i a b => ?_⟩
        by_cases hk : i = k
        · subst hk; exact hef
        · exact h5 i a (by omega)
      · left
        rw [if_neg hy]
        refine ⟨rfl, fun i a b => ?_⟩
        by_cases hk : i = k
        · subst hk; exact absurd b he
        · by_cases him : m < i
          · have := h5 i him (by omega); rw [this] at b; cases b
          · omega
theorem off_run (t : Int) (zs : List Int) (h0 : 0 ≤ t) : ∀ k, OffI t (stOffdelay t 1 zs k) (eB zs) k
  | 0 => .inr (.inl ⟨rfl, fun m h => by omega⟩)
  | k + 1 => by
    have h := off_next t (stOffdelay t 1 zs k) (eB zs) k h0 (off_run t zs h0 k)
    have e : stOffdelay t 1 zs (k + 1) = if eB zs k = true then -1 else if stOffdelay t 1 zs k = -1 then lastsN 0 t else if stOffdelay t 1 zs k = 0 then 0 else lastsN (stOffdelay t 1 zs k - 1 + 1) t := by
      show offS (zs.getD k 0) (stOffdelay t 1 zs k) t 1 = _
      unfold offS eB
      simp only [decide_eq_true_eq]
    rw [e]
    exact h
def WantOff (t : Int) (e : Nat → Bool) (k : Nat) : Prop := ∃ m : Nat, (k : Int) - t ≤ m ∧ m ≤ k ∧ e m = true
theorem off_ov (t : Int) (zs : List Int) (h0 : 0 ≤ t) (k : Nat) (B : Bool) (hB : B = true ↔ WantOff t (eB zs) k) : ovOffdelay t 1 zs k = bitN B := by
  have h := off_run t zs h0 k
  unfold OffI at h
  have e : ovOffdelay t 1 zs k = if eB zs k = true then 1 else if stOffdelay t 1 zs k = -1 then (if 0 < t then 1 else 0) else if stOffdelay t 1 zs k = 0 then 0 else if stOffdelay t 1 zs k - 1 + 1 < t then 1 else 0 := by
    unfold ovOffdelay offV eB
    simp only [decide_eq_true_eq]
  rw [e]
  refine lit_bit _ (WantOff t (eB zs) k) B (by (repeat' split) <;> simp) ?_ hB
  unfold WantOff
  by_cases he : eB zs k = true
  · rw [if_pos he]
    exact ⟨fun _ => ⟨k, by omega, Nat.le_refl _, he⟩, fun _ => rfl⟩
  · rw [if_neg he]
    rcases h with ⟨h1, m, h2, h3⟩ | ⟨h1, h2⟩ | ⟨h1, h2, m, h3, h4, h5⟩
    · rw [if_pos h1]
      constructor
      · intro h
        split at h
        · exact ⟨m, by omega, by omega, h3⟩
        · omega
      · rintro ⟨i, a, b, c⟩
        have hik : i ≠ k := by intro hk; subst hk; exact he c
        rw [if_pos (by omega)]
    · rw [if_neg (by omega), if_pos h1]
      constructor
      · intro h; omega
      · rintro ⟨i, a, b, c⟩
        have hik : i ≠ k := by intro hk; subst hk; exact he c
        have := h2 i (by omega) c
        omega
    · rw [if_neg (by omega), if_neg (by omega)]
      constructor
      · intro h
        split at h
        · exact ⟨m, by omega, by omega, h4⟩
        · omega
      · rintro ⟨i, a, b, c⟩
        have hik : i ≠ k := by intro hk; subst hk; exact he c
        have him : i ≤ m := by
          by_cases him : m < i
          · have := h5 i him (by omega); rw [this] at c; cases c
          · omega
        rw [if_pos (by omega)]
set_option maxHeartbeats 16000000 in
set_option maxRecDepth 100000 in
theorem delays_law (t : Int) (a : Option Addr) (c : Nat) (bs : List Bool) (w : World) (hm : MaxAt w) (hin : InS w a bs.length 1 (flat boolL bs)) :
    Calls Tryd.prog 5 #[.int .i64 t, .slice a bs.length c] w fun e w' => e = .returned (.bool true) ∧ Below w.heap.size w w' := by
  have KAW := Lib.hid (awake_yes w hm)
  have HM := Lib.hid hm
  have HIN := Lib.hid hin
  obtain ⟨M, hM⟩ : ∃ M, M = bs.length := ⟨_, rfl⟩
  have HML := Lib.hid hM
  have m63 : M ≤ 9223372036854775807 := by rw [hM]; exact hin.2.1
  rw [← hM]
  clear hm hin hM
  by_cases hearly : (80 < M) ∨ (¬ 80 < M ∧ t < 0) ∨ (¬ 80 < M ∧ ¬ t < 0 ∧ 100 < t)
  · rcases hearly with x0 | ⟨x0, x1⟩ | ⟨x0, x1, x2⟩
    all_goals
      go_enter Tryd.func5, Tryd.ntmps5
      go_wp2_with fail
      refine KAW.out.mono ?_
      rintro e w1 ⟨rfl, hb⟩
      have HB1 := Lib.hid hb
      clear hb
      go_wp2_with fail
      go_ret
      exact ⟨rfl, HB1.out⟩
  · have m80 : M ≤ 80 := by omega
    have u1 : 0 ≤ t := by omega
    have u2 : t ≤ 100 := by omega
    clear hearly m63
    go_enter Tryd.func5, Tryd.ntmps5
    go_wp2_with fail
    refine KAW.out.mono ?_
    rintro e wa ⟨rfl, hb⟩
    have HB1 := Lib.hid hb
    clear hb KAW
    obtain ⟨V0, p0, hW, hp, RP, B, sz⟩ := box1 wa #[.int .i64 t] 2
    have HP := Lib.hid RP
    have HBa := Lib.hid (HB1.out.trans (B.mono HB1.out.size))
    clear RP B sz
    go_wp2_with fail
    rw [← hW]
    try rw [← hp]
    clear hW hp
    have ko := on_any a c bs V0 (by have := HML.out; omega) (HIN.out.keep HBa.out)
    rw [← HML.out] at ko
    have KO := Lib.hid ko
    clear ko
    refine KO.out.mono ?_
    rintro e y0 ⟨v, rfl, hll, hb⟩
    rw [HML.out] at hll
    obtain ⟨oa, rs, oc, rfl, hrl, hio⟩ := ll_run hll
    have HBb := Lib.hid (HBa.out.trans (hb.mono HBa.out.size))
    have HPb := Lib.hid (HP.out.keep hb)
    have kr := runOndelay t 1 (bs.map bitN) ⟨u1, by omega⟩ (by decide) (by decide) (bits_ok _) (by rw [List.length_map]; have := HML.out; omega) (some ⟨p0, 0, none⟩) 1 oa oc rs y0 (HM.out.keep HBb.out) ⟨rfl, (show 1 ≤ 9223372036854775807 by decide), .inr ⟨p0, 0, rfl, HPb.out.lt, fun q u hu => by rw [Nat.zero_add]; exact HPb.out.c q u hu⟩⟩ hio
    rw [hrl, ← HML.out] at kr
    rw [hrl, ← HML.out]
    have KR := Lib.hid kr
    clear kr hll hrl hio hb KO HP HPb
    go_wp2_with fail
    refine KR.out.mono ?_
    rintro e z0 ⟨v, rfl, ho, hb⟩
    obtain ⟨va0, vc0, rfl, hins⟩ := ins_own ho
    have HO0 := Lib.hid hins
    have HZ0 := Lib.hid (HBb.out.trans (hb.mono HBb.out.size))
    clear hb ho hins KR HBa HBb
    obtain ⟨V1, p1, hW, hp, RP, B, sz⟩ := box1 z0 #[.int .i64 t] 2
    have HP := Lib.hid RP
    have HBa := Lib.hid (HZ0.out.trans (B.mono HZ0.out.size))
    have HO0 := Lib.hid (HO0.out.keep B)
    clear RP B sz
    go_wp2_with fail
    rw [← hW]
    try rw [← hp]
    clear hW hp
    have ko := on_any a c bs V1 (by have := HML.out; omega) (HIN.out.keep HBa.out)
    rw [← HML.out] at ko
    have KO := Lib.hid ko
    clear ko
    refine KO.out.mono ?_
    rintro e y1 ⟨v, rfl, hll, hb⟩
    rw [HML.out] at hll
    obtain ⟨oa, rs, oc, rfl, hrl, hio⟩ := ll_run hll
    have HBb := Lib.hid (HBa.out.trans (hb.mono HBa.out.size))
    have HPb := Lib.hid (HP.out.keep hb)
    have HO0 := Lib.hid (HO0.out.keep hb)
    have kr := runOffdelay t 1 (bs.map bitN) ⟨u1, by omega⟩ (by decide) (by decide) (bits_ok _) (by rw [List.length_map]; have := HML.out; omega) (some ⟨p1, 0, none⟩) 1 oa oc rs y1 (HM.out.keep HBb.out) ⟨rfl, (show 1 ≤ 9223372036854775807 by decide), .inr ⟨p1, 0, rfl, HPb.out.lt, fun q u hu => by rw [Nat.zero_add]; exact HPb.out.c q u hu⟩⟩ hio
    rw [hrl, ← HML.out] at kr
    rw [hrl, ← HML.out]
    have KR := Lib.hid kr
    clear kr hll hrl hio hb KO HP HPb
    go_wp2_with fail
    refine KR.out.mono ?_
    rintro e z1 ⟨v, rfl, ho, hb⟩
    obtain ⟨va1, vc1, rfl, hins⟩ := ins_own ho
    have HO1 := Lib.hid hins
    have HZ1 := Lib.hid (HBb.out.trans (hb.mono HBb.out.size))
    have HO0 := Lib.hid (HO0.out.keep hb)
    clear hb ho hins KR HBa HBb
    obtain ⟨zs, has⟩ : ∃ l, l = bs.map bitN := ⟨_, rfl⟩
    have HAS := Lib.hid has
    rw [← has] at HO0 HO1
    clear has
    go_wp2_with fail
    go_loopw [9] (fun i wr => ∃ k : Nat, k ≤ M ∧ i = .int .i64 k ∧ Hid (Below z1.heap.size z1 wr)) (fun i _ => M - (intOf i).toNat)
    case atStart => exact ⟨0, Nat.zero_le _, rfl, Lib.hid (Below.refl _ _)⟩
    case round =>
      obtain ⟨k, hk, rfl, HBR⟩ := hrel
      by_cases hlt2 : k < M
      · have k1 : (0 : Int) ≤ (k : Int) := by omega
        have k2 : (k : Int) < (M : Int) := by omega
        obtain ⟨wo, hwo⟩ : ∃ x : World, x = wr := ⟨_, rfl⟩
        rw [← hwo] at HBR ⊢
        clear hwo
        go_wp2_with fail
        go_loopw [10, 11, 12] (fun aa b i wr => ∃ (q : Int) (A B : Bool), -1 ≤ q ∧ q ≤ k ∧ (k : Int) - t - 1 ≤ q ∧ aa = .bool A ∧ b = .bool B ∧ i = .int .i64 q ∧ Hid ((A = true ↔ t ≤ k ∧ ∀ m : Nat, q < m → m ≤ k → eB zs m = true) ∧ (B = true ↔ ∃ m : Nat, q < m ∧ m ≤ k ∧ eB zs m = true) ∧ wr = wo)) (fun _ _ i _ => (intOf i + 1).toNat)
        case atStart => exact ⟨k, decide (t ≤ k), false, by omega, by omega, by omega, rfl, rfl, rfl, Lib.hid ⟨⟨(fun h => ⟨of_decide_eq_true h, fun m h1 h2 => by omega⟩), fun hm => decide_eq_true hm.1⟩, ⟨(fun h => by cases h), fun hm => by obtain ⟨m, h1, h2, _⟩ := hm; omega⟩, by first | rfl | trivial⟩⟩
        case round =>
          obtain ⟨q, A, B, hq1, hq2, hq3, rfl, rfl, rfl, hH⟩ := hrel
          have HAA := Lib.hid hH.out.1
          have HBB := Lib.hid hH.out.2.1
          obtain rfl := hH.out.2.2
          clear hH
          by_cases hgo : 0 ≤ q ∧ (k : Int) - t ≤ q
          · obtain ⟨g1, g2⟩ := hgo
            obtain ⟨n, rfl⟩ : ∃ n : Nat, q = n := ⟨q.toNat, by omega⟩
            obtain ⟨lb, lo, rfl, hll, hlc⟩ := (show InS wr a bs.length 1 (flat boolL bs) from (HIN.out.keep HZ1.out).keep HBR.out).at boolL_len (by have := HML.out; omega)
            obtain ⟨p, hp⟩ : ∃ x, bs[n]? = some x := ⟨_, List.getElem?_eq_getElem (by have := HML.out; omega)⟩
            have l0 := hlc n _ hp 0 _ rfl
            simp only [Nat.mul_one, Nat.add_zero] at l0
            have hpe : eB zs n = p := eB_bit zs n p (by rw [HAS.out, List.getD_eq_getElem?_getD, List.getElem?_map, hp]; rfl)
            have HA9 := HAA.out
            have HB9 := HBB.out
            have g3 : (n : Int) < (M : Int) := by omega
            have hna : (A && p) = true ↔ t ≤ k ∧ ∀ m : Nat, (n : Int) - 1 < m → m ≤ k → eB zs m = true := by
              rw [Bool.and_eq_true_iff, HA9]
              constructor
              · rintro ⟨⟨b0, b1⟩, b2⟩
                refine ⟨b0, fun m a1 a2 => ?_⟩
                by_cases hmn : m = n
                · subst hmn; rw [hpe]; exact b2
                · exact b1 m (by omega) a2
              · rintro ⟨b0, b1⟩
                exact ⟨⟨b0, fun m a1 a2 => b1 m (by omega) a2⟩, by rw [← hpe]; exact b1 n (by omega) (by omega)⟩
            have hnb : (B || p) = true ↔ ∃ m : Nat, (n : Int) - 1 < m ∧ m ≤ k ∧ eB zs m = true := by
              constructor
              · intro hor
                rcases Bool.or_eq_true_iff.1 hor with hb | hb
                · obtain ⟨m, a1, a2, a3⟩ := HB9.1 hb
                  exact ⟨m, by omega, a2, a3⟩
                · exact ⟨n, by omega, by omega, by rw [hpe]; exact hb⟩
              · rintro ⟨m, a1, a2, a3⟩
                by_cases hmn : m = n
                · subst hmn; rw [Bool.or_eq_true_iff]; exact .inr (by rw [← hpe]; exact a3)
                · rw [Bool.or_eq_true_iff]; exact .inl (HB9.2 ⟨m, by omega, a2, a3⟩)
            have HNA := Lib.hid hna
            have HNB := Lib.hid hnb
            clear hna hnb hpe HA9 HB9 hp hlc HAA HBB
            cases A
            · cases B
              · go_wp2_with fail
                go_roundw
                case rel => exact ⟨(n : Int) - 1, false, p, by omega, by omega, by omega, rfl, rfl, rfl, Lib.hid ⟨HNA.out, HNB.out, by first | rfl | trivial⟩⟩
                case measure => (simp [intOf]) <;> omega
              · go_wp2_with fail
                go_roundw
                case rel => exact ⟨(n : Int) - 1, false, true, by omega, by omega, by omega, rfl, rfl, rfl, Lib.hid ⟨HNA.out, HNB.out, by first | rfl | trivial⟩⟩
                case measure => (simp [intOf]) <;> omega
            · cases B
              · go_wp2_with fail
                go_roundw
                case rel => exact ⟨(n : Int) - 1, p, p, by omega, by omega, by omega, rfl, rfl, rfl, Lib.hid ⟨HNA.out, HNB.out, by first | rfl | trivial⟩⟩
                case measure => (simp [intOf]) <;> omega
              · go_wp2_with fail
                go_roundw
                case rel => exact ⟨(n : Int) - 1, p, true, by omega, by omega, by omega, rfl, rfl, rfl, Lib.hid ⟨HNA.out, HNB.out, by first | rfl | trivial⟩⟩
                case measure => (simp [intOf]) <;> omega
          · have hA : A = true ↔ WantOn t (eB zs) k := by
              have h9 := HAA.out
              unfold WantOn
              rw [h9]
              exact ⟨fun h => ⟨h.1, fun m a1 a2 => h.2 m (by omega) a2⟩, fun h => ⟨h.1, fun m a1 a2 => h.2 m (by omega) a2⟩⟩
            have hB : B = true ↔ WantOff t (eB zs) k := by
              have h9 := HBB.out
              unfold WantOff
              rw [h9]
              constructor
              · rintro ⟨m, a1, a2, a3⟩
                exact ⟨m, by omega, a2, a3⟩
              · rintro ⟨m, a1, a2, a3⟩
                exact ⟨m, by omega, a2, a3⟩
            obtain ⟨g, go, rfl, lg, o0, o1⟩ := outs_in ((HO0.out.keep HBR.out)) hlt2
            obtain ⟨h, ho, rfl, lh, o2, o3⟩ := outs_in ((HO1.out.keep HBR.out)) hlt2
            rw [on_ov t zs u1 k A hA] at o1
            rw [off_ov t zs u1 k B hB] at o3
            have KX := Lib.hid (lbit_any A)
            have KY := Lib.hid (lbit_any B)
            have hg9 : ¬ (0 ≤ q ∧ (k : Int) - t ≤ q) := hgo
            clear hB HBB hA HAA
            rcases (by omega : q < 0 ∨ (0 ≤ q ∧ ¬ (k : Int) - t ≤ q)) with f1 | ⟨f1, f2⟩
            · clear hgo hg9
              have HC := Lib.hid (And.intro o0 (And.intro o1 (And.intro o2 (o3))))
              go_wp2_with fail
              go_cut [112] from 97 to 112 (fun z wx => z = .bool false ∧ Hid (Below wr.heap.size wr wx))
              case first =>
                refine wp_region_held_drew (S := fun w' => w'.cell? ⟨g, go + k * 2, none⟩ = some (.int .i64 2) ∧ w'.cell? ⟨g, go + k * 2 + 1, none⟩ = some (.int .i64 (bitN A)) ∧ w'.cell? ⟨h, ho + k * 2, none⟩ = some (.int .i64 2) ∧ w'.cell? ⟨h, ho + k * 2 + 1, none⟩ = some (.int .i64 (bitN B))) (by kernel_rfl) HC.out (fun hHeld => ?_)
                refine' wpAnyH_take (i := 0) (v := _) rfl (by kernel_rfl) (by kernel_rfl) (by kernel_rfl) (fun _ _ _ h => h) (Or.inl ⟨by rfl, ?_⟩) hHeld ?_
                rotate_left
                · intro w hSw
                  (try dsimp only at hSw)
                  go_simp
                  try with_reducible rfl
                (try simp only [Act.put, List.getElem_toArray, List.getElem_cons_zero, List.getElem_cons_succ, List.setIfInBounds_toArray, List.set_cons_zero, List.set_cons_succ])
                refine' wpAnyH_take (i := 1) (v := _) rfl (by kernel_rfl) (by kernel_rfl) (by kernel_rfl) (fun _ _ _ h => h) (Or.inl ⟨by rfl, ?_⟩) hHeld ?_
                rotate_left
                · intro w hSw
                  (try dsimp only at hSw)
                  go_simp
                  try with_reducible rfl
                (try simp only [Act.put, List.getElem_toArray, List.getElem_cons_zero, List.getElem_cons_succ, List.setIfInBounds_toArray, List.set_cons_zero, List.set_cons_succ])
                refine' wpAnyH_take (i := 2) (v := _) rfl (by kernel_rfl) (by kernel_rfl) (by kernel_rfl) (fun _ _ _ h => h) (Or.inl ⟨by rfl, ?_⟩) hHeld ?_
                rotate_left
                · intro w hSw
                  (try dsimp only at hSw)
                  go_simp
                  try with_reducible rfl
                (try simp only [Act.put, List.getElem_toArray, List.getElem_cons_zero, List.getElem_cons_succ, List.setIfInBounds_toArray, List.set_cons_zero, List.set_cons_succ])
                refine' wpAnyH_take (i := 3) (v := _) rfl (by kernel_rfl) (by kernel_rfl) (by kernel_rfl) (fun _ _ _ h => h) (Or.inl ⟨by rfl, ?_⟩) hHeld ?_
                rotate_left
                · intro w hSw
                  (try dsimp only at hSw)
                  go_simp
                  try with_reducible rfl
                (try simp only [Act.put, List.getElem_toArray, List.getElem_cons_zero, List.getElem_cons_succ, List.setIfInBounds_toArray, List.set_cons_zero, List.set_cons_succ])
                refine' wpAnyH_take (i := 4) (v := _) rfl (by kernel_rfl) (by kernel_rfl) (by kernel_rfl) (fun _ _ _ h => h) (Or.inl ⟨by rfl, ?_⟩) hHeld ?_
                rotate_left
                · intro w hSw
                  (try dsimp only at hSw)
                  go_simp
                  try with_reducible rfl
                (try simp only [Act.put, List.getElem_toArray, List.getElem_cons_zero, List.getElem_cons_succ, List.setIfInBounds_toArray, List.set_cons_zero, List.set_cons_succ])
                refine wpAnyH_ready (rs := [5]) (by kernel_rfl) (by simp) ?_
                refine AllReadyH.cons rfl (fun K hK => ?_) AllReadyH.nil
                go_simp
                refine (KX.out _).mono ?_
                rintro e x1 ⟨rfl, hb2⟩
                have hbx : Below wr.heap.size wr x1 := (by first | exact hb2 | exact (Below.refl wr.heap.size wr).drew.trans hb2)
                have HSX : x1.cell? ⟨g, go + k * 2, none⟩ = some (.int .i64 2) ∧ x1.cell? ⟨g, go + k * 2 + 1, none⟩ = some (.int .i64 (bitN A)) ∧ x1.cell? ⟨h, ho + k * 2, none⟩ = some (.int .i64 2) ∧ x1.cell? ⟨h, ho + k * 2 + 1, none⟩ = some (.int .i64 (bitN B)) := And.intro ((hbx.cell (p := ⟨g, go + k * 2, none⟩) lg).trans HC.out.1) (And.intro ((hbx.cell (p := ⟨g, go + k * 2 + 1, none⟩) lg).trans HC.out.2.1) (And.intro ((hbx.cell (p := ⟨h, ho + k * 2, none⟩) lh).trans HC.out.2.2.1) (((hbx.cell (p := ⟨h, ho + k * 2 + 1, none⟩) lh).trans HC.out.2.2.2))))
                clear hb2
                try go_simp
                clear hHeld
                refine hK.out _ _ HSX (fun hHeld => ?_)
                clear hK K HSX
                (try simp only [Act.put, List.getElem_toArray, List.getElem_cons_zero, List.getElem_cons_succ, List.setIfInBounds_toArray, List.set_cons_zero, List.set_cons_succ])
                refine' wpAnyH_take (i := 6) (v := _) rfl (by kernel_rfl) (by kernel_rfl) (by kernel_rfl) (fun _ _ _ h => h) (Or.inl ⟨by rfl, ?_⟩) hHeld ?_
                rotate_left
                · intro w hSw
                  (try dsimp only at hSw)
                  go_simp
                  try with_reducible rfl
                (try simp only [Act.put, List.getElem_toArray, List.getElem_cons_zero, List.getElem_cons_succ, List.setIfInBounds_toArray, List.set_cons_zero, List.set_cons_succ])
                refine' wpAnyH_take (i := 7) (v := _) rfl (by kernel_rfl) (by kernel_rfl) (by kernel_rfl) (fun _ _ _ h => h) (Or.inl ⟨by rfl, ?_⟩) hHeld ?_
                rotate_left
                · intro w hSw
                  (try dsimp only at hSw)
                  go_simp
                  try with_reducible rfl
                (try simp only [Act.put, List.getElem_toArray, List.getElem_cons_zero, List.getElem_cons_succ, List.setIfInBounds_toArray, List.set_cons_zero, List.set_cons_succ])
                refine' wpAnyH_take (i := 8) (v := _) rfl (by kernel_rfl) (by kernel_rfl) (by kernel_rfl) (fun _ _ _ h => h) (Or.inl ⟨by rfl, ?_⟩) hHeld ?_
                rotate_left
                · intro w hSw
                  (try dsimp only at hSw)
                  go_simp
                  try with_reducible rfl
                (try simp only [Act.put, List.getElem_toArray, List.getElem_cons_zero, List.getElem_cons_succ, List.setIfInBounds_toArray, List.set_cons_zero, List.set_cons_succ])
                refine' wpAnyH_take (i := 9) (v := _) rfl (by kernel_rfl) (by kernel_rfl) (by kernel_rfl) (fun _ _ _ h => h) (Or.inl ⟨by rfl, ?_⟩) hHeld ?_
                rotate_left
                · intro w hSw
                  (try dsimp only at hSw)
                  go_simp
                  try with_reducible rfl
                (try simp only [Act.put, List.getElem_toArray, List.getElem_cons_zero, List.getElem_cons_succ, List.setIfInBounds_toArray, List.set_cons_zero, List.set_cons_succ])
                refine' wpAnyH_take (i := 10) (v := _) rfl (by kernel_rfl) (by kernel_rfl) (by kernel_rfl) (fun _ _ _ h => h) (Or.inl ⟨by rfl, ?_⟩) hHeld ?_
                rotate_left
                · intro w hSw
                  (try dsimp only at hSw)
                  go_simp
                  try with_reducible rfl
                (try simp only [Act.put, List.getElem_toArray, List.getElem_cons_zero, List.getElem_cons_succ, List.setIfInBounds_toArray, List.set_cons_zero, List.set_cons_succ])
                refine' wpAnyH_take (i := 11) (v := _) rfl (by kernel_rfl) (by kernel_rfl) (by kernel_rfl) (fun _ _ _ h => h) (Or.inl ⟨by rfl, ?_⟩) hHeld ?_
                rotate_left
                · intro w hSw
                  (try dsimp only at hSw)
                  go_simp
                  try with_reducible rfl
                (try simp only [Act.put, List.getElem_toArray, List.getElem_cons_zero, List.getElem_cons_succ, List.setIfInBounds_toArray, List.set_cons_zero, List.set_cons_succ])
                refine' wpAnyH_take (i := 12) (v := _) rfl (by kernel_rfl) (by kernel_rfl) (by kernel_rfl) (fun _ _ _ h => h) (Or.inl ⟨by rfl, ?_⟩) hHeld ?_
                rotate_left
                · intro w hSw
                  (try dsimp only at hSw)
                  go_simp
                  try with_reducible rfl
                (try simp only [Act.put, List.getElem_toArray, List.getElem_cons_zero, List.getElem_cons_succ, List.setIfInBounds_toArray, List.set_cons_zero, List.set_cons_succ])
                refine wpAnyH_ready (rs := [13]) (by kernel_rfl) (by simp) ?_
                refine AllReadyH.cons rfl (fun K hK => ?_) AllReadyH.nil
                go_simp
                refine (KY.out _).mono ?_
                rintro e x2 ⟨rfl, hb3⟩
                have hby : Below wr.heap.size wr x2 := hbx.trans (hb3.mono hbx.size)
                have HSX : x2.cell? ⟨g, go + k * 2, none⟩ = some (.int .i64 2) ∧ x2.cell? ⟨g, go + k * 2 + 1, none⟩ = some (.int .i64 (bitN A)) ∧ x2.cell? ⟨h, ho + k * 2, none⟩ = some (.int .i64 2) ∧ x2.cell? ⟨h, ho + k * 2 + 1, none⟩ = some (.int .i64 (bitN B)) := And.intro ((hby.cell (p := ⟨g, go + k * 2, none⟩) lg).trans HC.out.1) (And.intro ((hby.cell (p := ⟨g, go + k * 2 + 1, none⟩) lg).trans HC.out.2.1) (And.intro ((hby.cell (p := ⟨h, ho + k * 2, none⟩) lh).trans HC.out.2.2.1) (((hby.cell (p := ⟨h, ho + k * 2 + 1, none⟩) lh).trans HC.out.2.2.2))))
                clear hb3
                try go_simp
                clear hHeld
                refine hK.out _ _ HSX (fun hHeld => ?_)
                clear hK K HSX
                (try simp only [Act.put, List.getElem_toArray, List.getElem_cons_zero, List.getElem_cons_succ, List.setIfInBounds_toArray, List.set_cons_zero, List.set_cons_succ])
                refine' wpAnyH_take (i := 14) (v := _) rfl (by kernel_rfl) (by kernel_rfl) (by kernel_rfl) (fun _ _ _ h => h) (Or.inl ⟨by rfl, ?_⟩) hHeld ?_
                rotate_left
                · intro w hSw
                  (try dsimp only at hSw)
                  go_simp
                  try with_reducible rfl
                (try simp only [Act.put, List.getElem_toArray, List.getElem_cons_zero, List.getElem_cons_succ, List.setIfInBounds_toArray, List.set_cons_zero, List.set_cons_succ])
                refine' wpAnyH_take (i := 15) (v := _) rfl (by kernel_rfl) (by kernel_rfl) (by kernel_rfl) (fun _ _ _ h => h) (Or.inl ⟨by rfl, ?_⟩) hHeld ?_
                rotate_left
                · intro w hSw
                  (try dsimp only at hSw)
                  go_simp
                  try with_reducible rfl
                (try simp only [Act.put, List.getElem_toArray, List.getElem_cons_zero, List.getElem_cons_succ, List.setIfInBounds_toArray, List.set_cons_zero, List.set_cons_succ])
                refine wpAnyH_done (by kernel_rfl) ?_ _
                (try simp only [Act.put, List.getElem_toArray, List.getElem_cons_zero, List.getElem_cons_succ, List.setIfInBounds_toArray, List.set_cons_zero, List.set_cons_succ])
                have hbz := hby
                clear hHeld HC hbx hby
                go_wp2_with fail
                go_meet
                exact ⟨rfl, Lib.hid hbz⟩
              case rest =>
                obtain ⟨rfl, hcc⟩ := hcut
                have HBN := Lib.hid (HBR.out.trans (hcc.out.mono HBR.out.size))
                clear hcc
                go_wp2_with fail
                go_roundw
                case rel => exact ⟨k + 1, by omega, by go_num, HBN⟩
                case measure => (simp [intOf]) <;> omega
            · clear hgo hg9
              have HC := Lib.hid (And.intro o0 (And.intro o1 (And.intro o2 (o3))))
              go_wp2_with fail
              go_cut [112] from 97 to 112 (fun z wx => z = .bool false ∧ Hid (Below wr.heap.size wr wx))
              case first =>
                refine wp_region_held_drew (S := fun w' => w'.cell? ⟨g, go + k * 2, none⟩ = some (.int .i64 2) ∧ w'.cell? ⟨g, go + k * 2 + 1, none⟩ = some (.int .i64 (bitN A)) ∧ w'.cell? ⟨h, ho + k * 2, none⟩ = some (.int .i64 2) ∧ w'.cell? ⟨h, ho + k * 2 + 1, none⟩ = some (.int .i64 (bitN B))) (by kernel_rfl) HC.out (fun hHeld => ?_)
                refine' wpAnyH_take (i := 0) (v := _) rfl (by kernel_rfl) (by kernel_rfl) (by kernel_rfl) (fun _ _ _ h => h) (Or.inl ⟨by rfl, ?_⟩) hHeld ?_
                rotate_left
                · intro w hSw
                  (try dsimp only at hSw)
                  go_simp
                  try with_reducible rfl
                (try simp only [Act.put, List.getElem_toArray, List.getElem_cons_zero, List.getElem_cons_succ, List.setIfInBounds_toArray, List.set_cons_zero, List.set_cons_succ])
                refine' wpAnyH_take (i := 1) (v := _) rfl (by kernel_rfl) (by kernel_rfl) (by kernel_rfl) (fun _ _ _ h => h) (Or.inl ⟨by rfl, ?_⟩) hHeld ?_
                rotate_left
                · intro w hSw
                  (try dsimp only at hSw)
                  go_simp
                  try with_reducible rfl
                (try simp only [Act.put, List.getElem_toArray, List.getElem_cons_zero, List.getElem_cons_succ, List.setIfInBounds_toArray, List.set_cons_zero, List.set_cons_succ])
                refine' wpAnyH_take (i := 2) (v := _) rfl (by kernel_rfl) (by kernel_rfl) (by kernel_rfl) (fun _ _ _ h => h) (Or.inl ⟨by rfl, ?_⟩) hHeld ?_
                rotate_left
                · intro w hSw
                  (try dsimp only at hSw)
                  go_simp
                  try with_reducible rfl
                (try simp only [Act.put, List.getElem_toArray, List.getElem_cons_zero, List.getElem_cons_succ, List.setIfInBounds_toArray, List.set_cons_zero, List.set_cons_succ])
                refine' wpAnyH_take (i := 3) (v := _) rfl (by kernel_rfl) (by kernel_rfl) (by kernel_rfl) (fun _ _ _ h => h) (Or.inl ⟨by rfl, ?_⟩) hHeld ?_
                rotate_left
                · intro w hSw
                  (try dsimp only at hSw)
                  go_simp
                  try with_reducible rfl
                (try simp only [Act.put, List.getElem_toArray, List.getElem_cons_zero, List.getElem_cons_succ, List.setIfInBounds_toArray, List.set_cons_zero, List.set_cons_succ])
                refine' wpAnyH_take (i := 4) (v := _) rfl (by kernel_rfl) (by kernel_rfl) (by kernel_rfl) (fun _ _ _ h => h) (Or.inl ⟨by rfl, ?_⟩) hHeld ?_
                rotate_left
                · intro w hSw
                  (try dsimp only at hSw)
                  go_simp
                  try with_reducible rfl
                (try simp only [Act.put, List.getElem_toArray, List.getElem_cons_zero, List.getElem_cons_succ, List.setIfInBounds_toArray, List.set_cons_zero, List.set_cons_succ])
                refine wpAnyH_ready (rs := [5]) (by kernel_rfl) (by simp) ?_
                refine AllReadyH.cons rfl (fun K hK => ?_) AllReadyH.nil
                go_simp
                refine (KX.out _).mono ?_
                rintro e x1 ⟨rfl, hb2⟩
                have hbx : Below wr.heap.size wr x1 := (by first | exact hb2 | exact (Below.refl wr.heap.size wr).drew.trans hb2)
                have HSX : x1.cell? ⟨g, go + k * 2, none⟩ = some (.int .i64 2) ∧ x1.cell? ⟨g, go + k * 2 + 1, none⟩ = some (.int .i64 (bitN A)) ∧ x1.cell? ⟨h, ho + k * 2, none⟩ = some (.int .i64 2) ∧ x1.cell? ⟨h, ho + k * 2 + 1, none⟩ = some (.int .i64 (bitN B)) := And.intro ((hbx.cell (p := ⟨g, go + k * 2, none⟩) lg).trans HC.out.1) (And.intro ((hbx.cell (p := ⟨g, go + k * 2 + 1, none⟩) lg).trans HC.out.2.1) (And.intro ((hbx.cell (p := ⟨h, ho + k * 2, none⟩) lh).trans HC.out.2.2.1) (((hbx.cell (p := ⟨h, ho + k * 2 + 1, none⟩) lh).trans HC.out.2.2.2))))
                clear hb2
                try go_simp
                clear hHeld
                refine hK.out _ _ HSX (fun hHeld => ?_)
                clear hK K HSX
                (try simp only [Act.put, List.getElem_toArray, List.getElem_cons_zero, List.getElem_cons_succ, List.setIfInBounds_toArray, List.set_cons_zero, List.set_cons_succ])
                refine' wpAnyH_take (i := 6) (v := _) rfl (by kernel_rfl) (by kernel_rfl) (by kernel_rfl) (fun _ _ _ h => h) (Or.inl ⟨by rfl, ?_⟩) hHeld ?_
                rotate_left
                · intro w hSw
                  (try dsimp only at hSw)
                  go_simp
                  try with_reducible rfl
                (try simp only [Act.put, List.getElem_toArray, List.getElem_cons_zero, List.getElem_cons_succ, List.setIfInBounds_toArray, List.set_cons_zero, List.set_cons_succ])
                refine' wpAnyH_take (i := 7) (v := _) rfl (by kernel_rfl) (by kernel_rfl) (by kernel_rfl) (fun _ _ _ h => h) (Or.inl ⟨by rfl, ?_⟩) hHeld ?_
                rotate_left
                · intro w hSw
                  (try dsimp only at hSw)
                  go_simp
                  try with_reducible rfl
                (try simp only [Act.put, List.getElem_toArray, List.getElem_cons_zero, List.getElem_cons_succ, List.setIfInBounds_toArray, List.set_cons_zero, List.set_cons_succ])
                refine' wpAnyH_take (i := 8) (v := _) rfl (by kernel_rfl) (by kernel_rfl) (by kernel_rfl) (fun _ _ _ h => h) (Or.inl ⟨by rfl, ?_⟩) hHeld ?_
                rotate_left
                · intro w hSw
                  (try dsimp only at hSw)
                  go_simp
                  try with_reducible rfl
                (try simp only [Act.put, List.getElem_toArray, List.getElem_cons_zero, List.getElem_cons_succ, List.setIfInBounds_toArray, List.set_cons_zero, List.set_cons_succ])
                refine' wpAnyH_take (i := 9) (v := _) rfl (by kernel_rfl) (by kernel_rfl) (by kernel_rfl) (fun _ _ _ h => h) (Or.inl ⟨by rfl, ?_⟩) hHeld ?_
                rotate_left
                · intro w hSw
                  (try dsimp only at hSw)
                  go_simp
                  try with_reducible rfl
                (try simp only [Act.put, List.getElem_toArray, List.getElem_cons_zero, List.getElem_cons_succ, List.setIfInBounds_toArray, List.set_cons_zero, List.set_cons_succ])
                refine' wpAnyH_take (i := 10) (v := _) rfl (by kernel_rfl) (by kernel_rfl) (by kernel_rfl) (fun _ _ _ h => h) (Or.inl ⟨by rfl, ?_⟩) hHeld ?_
                rotate_left
                · intro w hSw
                  (try dsimp only at hSw)
                  go_simp
                  try with_reducible rfl
                (try simp only [Act.put, List.getElem_toArray, List.getElem_cons_zero, List.getElem_cons_succ, List.setIfInBounds_toArray, List.set_cons_zero, List.set_cons_succ])
                refine' wpAnyH_take (i := 11) (v := _) rfl (by kernel_rfl) (by kernel_rfl) (by kernel_rfl) (fun _ _ _ h => h) (Or.inl ⟨by rfl, ?_⟩) hHeld ?_
                rotate_left
                · intro w hSw
                  (try dsimp only at hSw)
                  go_simp
                  try with_reducible rfl
                (try simp only [Act.put, List.getElem_toArray, List.getElem_cons_zero, List.getElem_cons_succ, List.setIfInBounds_toArray, List.set_cons_zero, List.set_cons_succ])
                refine' wpAnyH_take (i := 12) (v := _) rfl (by kernel_rfl) (by kernel_rfl) (by kernel_rfl) (fun _ _ _ h => h) (Or.inl ⟨by rfl, ?_⟩) hHeld ?_
                rotate_left
                · intro w hSw
                  (try dsimp only at hSw)
                  go_simp
                  try with_reducible rfl
                (try simp only [Act.put, List.getElem_toArray, List.getElem_cons_zero, List.getElem_cons_succ, List.setIfInBounds_toArray, List.set_cons_zero, List.set_cons_succ])
                refine wpAnyH_ready (rs := [13]) (by kernel_rfl) (by simp) ?_
                refine AllReadyH.cons rfl (fun K hK => ?_) AllReadyH.nil
                go_simp
                refine (KY.out _).mono ?_
                rintro e x2 ⟨rfl, hb3⟩
                have hby : Below wr.heap.size wr x2 := hbx.trans (hb3.mono hbx.size)
                have HSX : x2.cell? ⟨g, go + k * 2, none⟩ = some (.int .i64 2) ∧ x2.cell? ⟨g, go + k * 2 + 1, none⟩ = some (.int .i64 (bitN A)) ∧ x2.cell? ⟨h, ho + k * 2, none⟩ = some (.int .i64 2) ∧ x2.cell? ⟨h, ho + k * 2 + 1, none⟩ = some (.int .i64 (bitN B)) := And.intro ((hby.cell (p := ⟨g, go + k * 2, none⟩) lg).trans HC.out.1) (And.intro ((hby.cell (p := ⟨g, go + k * 2 + 1, none⟩) lg).trans HC.out.2.1) (And.intro ((hby.cell (p := ⟨h, ho + k * 2, none⟩) lh).trans HC.out.2.2.1) (((hby.cell (p := ⟨h, ho + k * 2 + 1, none⟩) lh).trans HC.out.2.2.2))))
                clear hb3
                try go_simp
                clear hHeld
                refine hK.out _ _ HSX (fun hHeld => ?_)
                clear hK K HSX
                (try simp only [Act.put, List.getElem_toArray, List.getElem_cons_zero, List.getElem_cons_succ, List.setIfInBounds_toArray, List.set_cons_zero, List.set_cons_succ])
                refine' wpAnyH_take (i := 14) (v := _) rfl (by kernel_rfl) (by kernel_rfl) (by kernel_rfl) (fun _ _ _ h => h) (Or.inl ⟨by rfl, ?_⟩) hHeld ?_
                rotate_left
                · intro w hSw
                  (try dsimp only at hSw)
                  go_simp
                  try with_reducible rfl
                (try simp only [Act.put, List.getElem_toArray, List.getElem_cons_zero, List.getElem_cons_succ, List.setIfInBounds_toArray, List.set_cons_zero, List.set_cons_succ])
                refine' wpAnyH_take (i := 15) (v := _) rfl (by kernel_rfl) (by kernel_rfl) (by kernel_rfl) (fun _ _ _ h => h) (Or.inl ⟨by rfl, ?_⟩) hHeld ?_
                rotate_left
                · intro w hSw
                  (try dsimp only at hSw)
                  go_simp
                  try with_reducible rfl
                (try simp only [Act.put, List.getElem_toArray, List.getElem_cons_zero, List.getElem_cons_succ, List.setIfInBounds_toArray, List.set_cons_zero, List.set_cons_succ])
                refine wpAnyH_done (by kernel_rfl) ?_ _
                (try simp only [Act.put, List.getElem_toArray, List.getElem_cons_zero, List.getElem_cons_succ, List.setIfInBounds_toArray, List.set_cons_zero, List.set_cons_succ])
                have hbz := hby
                clear hHeld HC hbx hby
                go_wp2_with fail
                go_meet
                exact ⟨rfl, Lib.hid hbz⟩
              case rest =>
                obtain ⟨rfl, hcc⟩ := hcut
                have HBN := Lib.hid (HBR.out.trans (hcc.out.mono HBR.out.size))
                clear hcc
                go_wp2_with fail
                go_roundw
                case rel => exact ⟨k + 1, by omega, by go_num, HBN⟩
                case measure => (simp [intOf]) <;> omega
      · obtain rfl : k = M := by omega
        go_wp2_with fail
        go_ret
        exact ⟨rfl, HZ1.out.trans (HBR.out.mono HZ1.out.size)⟩
end Go.Proofs.YtfgkgokmniocjaaDoor
