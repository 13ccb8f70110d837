/- Contracts of the codec functions that take texts and heads of lists. -/
import Derived.Test.YtlhgbnjflemiiaaB
import Derived.Lib.IndexBytes
namespace Go.Proofs.Ytlhgbnjflemiiaa
open Go.RowKit

theorem extract1 (s : ByteArray) : (s.extract 1 s.size).data.toList = s.data.toList.drop 1 := by
  rw [Lib.extract_to_end]

/-- what takeHead takes -/
def tkH (l : List UInt8) (k : Int) : Nat × Nat :=
  if kindL l = k ∧ (tkU (l.drop 1)).2 ≠ 0 ∧ (tkU (l.drop 1)).1 ≤ 65535 then ((tkU (l.drop 1)).1, 1 + (tkU (l.drop 1)).2) else (0, 0)

theorem tkU_lt (l : List UInt8) : (tkU l).1 < 18446744073709551616 ∧ (tkU l).2 ≤ 9 := by
  have h := tkN_lt l 3 16 (.inl ⟨rfl, rfl⟩)
  have h64 := lt64_of h
  unfold tkU
  split
  · simp
  · simp only; omega

set_option maxHeartbeats 400000 in
theorem takeHead_any (s : ByteArray) (k : Int) (w : World) (hk0 : k ≠ 0) (hs : s.size ≤ 9223372036854775807) :
    Calls Try.prog 62 #[.string s, .int .i64 k, .int .u64 65535] w fun e w' => e = .returned (.tuple #[.int .i64 (tkH s.data.toList k).1, .int .i64 (tkH s.data.toList k).2]) ∧ w = w' := by
  have HK := kindOf_any s w
  have HU := takeUnsigned_any (s.extract 1 s.size) w
  rw [extract1] at HU
  have hb := tkU_lt (s.data.toList.drop 1)
  unfold tkH
  by_cases hk : kindL s.data.toList = k
  · have hp : 0 < s.size := by
      rw [← size_len]
      cases hl : s.data.toList with
      | nil => rw [hl] at hk; simp [kindL] at hk; omega
      | cons => simp
    generalize tkU (s.data.toList.drop 1) = p at *
    obtain ⟨c, z⟩ := p
    simp only at hb HU ⊢
    rw [hk] at HK
    obtain ⟨hb1, hb2⟩ := hb
    have hkk : (k != k) = false := by simp [bne]
    have H1 := Lib.hid HK; have H2 := Lib.hid HU; clear HK HU
    have H3 := Lib.hid hk; clear hk
    by_cases hz : z = 0
    · subst hz
      rw [if_neg (by simp)]
      go_enter Try.func62, Try.ntmps62
      go_wp2_with (first | (go_at_call 45; refine H1.out.mono ?_; rintro e w' ⟨rfl, rfl⟩) | (go_at_call 47; refine H2.out.mono ?_; rintro e w' ⟨rfl, rfl⟩))
      go_ret2
      exact ⟨rfl, rfl⟩
    · have hz' : ((z : Int) == 0) = false := by simp; omega
      by_cases hc : c ≤ 65535
      · rw [if_pos ⟨H3.out, hz, hc⟩]
        go_enter Try.func62, Try.ntmps62
        go_wp2_with (first | (go_at_call 45; refine H1.out.mono ?_; rintro e w' ⟨rfl, rfl⟩) | (go_at_call 47; refine H2.out.mono ?_; rintro e w' ⟨rfl, rfl⟩))
        go_ret2
        exact ⟨rfl, rfl⟩
      · rw [if_neg (fun h => hc h.2.2)]
        go_enter Try.func62, Try.ntmps62
        go_wp2_with (first | (go_at_call 45; refine H1.out.mono ?_; rintro e w' ⟨rfl, rfl⟩) | (go_at_call 47; refine H2.out.mono ?_; rintro e w' ⟨rfl, rfl⟩))
        go_ret2
        exact ⟨rfl, rfl⟩
  · rw [if_neg (fun h => hk h.1)]
    have hkk : (kindL s.data.toList != k) = true := by simp [bne, hk]
    have H1 := Lib.hid HK; clear HK HU
    go_enter Try.func62, Try.ntmps62
    go_wp2_with (first | (go_at_call 45; refine H1.out.mono ?_; rintro e w' ⟨rfl, rfl⟩))
    go_ret2
    exact ⟨rfl, rfl⟩

set_option maxHeartbeats 400000 in
theorem takeList_any (s : ByteArray) (w : World) (hs : s.size ≤ 9223372036854775807) :
    Calls Try.prog 51 #[.string s] w fun e w' => e = .returned (.tuple #[.int .i64 (tkH s.data.toList 6).1, .int .i64 (tkH s.data.toList 6).2]) ∧ w = w' := by
  have H := Lib.hid (takeHead_any s 6 w (by omega) hs)
  go_enter Try.func51, Try.ntmps51
  go_wp2_with (first | (go_at_call 62; refine H.out.mono ?_; rintro e w' ⟨rfl, rfl⟩))
  go_ret2
  exact ⟨rfl, rfl⟩

/-- how many bytes takeText takes, and the text -/
def tkTn (l : List UInt8) : Nat := if (tkH l 5).2 = 0 ∨ l.length < (tkH l 5).2 + (tkH l 5).1 then 0 else (tkH l 5).2 + (tkH l 5).1
def tkTs (s : ByteArray) : ByteArray := if tkTn s.data.toList = 0 then ⟨#[]⟩ else s.extract (tkH s.data.toList 5).2 ((tkH s.data.toList 5).2 + (tkH s.data.toList 5).1)

theorem tkN_size (l : List UInt8) (k : Int) (m : Nat) : (tkN l k m).2 ≠ 0 → 1 + (tkN l k m).2 ≤ l.length := by
  unfold tkN; split
  · rename_i h; intro _; simp only; omega
  · intro h; simp at h
theorem tkU_size (l : List UInt8) : (tkU l).2 ≤ l.length := by
  have := tkN_size l 3 16
  unfold tkU; split
  · simp
  · simp only; omega
theorem tkS_size (l : List UInt8) : (tkS l).2 ≤ l.length := by
  have := tkN_size l 4 32
  unfold tkS; split
  · simp
  · simp only; omega
theorem tkH_size (l : List UInt8) (k : Int) (hk : k ≠ 0) : (tkH l k).2 ≤ l.length ∧ (tkH l k).2 ≤ 10 ∧ (tkH l k).1 ≤ 65535 := by
  have h1 := tkU_size (l.drop 1)
  have h2 := tkU_lt (l.drop 1)
  rw [List.length_drop] at h1
  unfold tkH; split
  · rename_i h
    cases l with
    | nil => simp [kindL] at h; omega
    | cons c r => simp only [List.length_cons] at *; omega
  · simp
theorem tkTn_size (l : List UInt8) : tkTn l ≤ l.length := by unfold tkTn; split <;> omega

set_option maxHeartbeats 400000 in
theorem takeText_any (s : ByteArray) (w : World) (hs : s.size ≤ 9223372036854775807) :
    Calls Try.prog 50 #[.string s] w fun e w' => e = .returned (.tuple #[.string (tkTs s), .int .i64 (tkTn s.data.toList)]) ∧ w = w' := by
  have HH := takeHead_any s 5 w (by omega) hs
  have hb := tkH_size s.data.toList 5 (by omega)
  rw [size_len] at hb
  unfold tkTs tkTn
  rw [size_len]
  generalize tkH s.data.toList 5 = p at *
  obtain ⟨n, z⟩ := p
  simp only at hb HH ⊢
  obtain ⟨hb1, hb2, hb3⟩ := hb
  have H := Lib.hid HH; clear HH
  by_cases hz : z = 0
  · subst hz
    rw [if_pos (Or.inl rfl), if_pos rfl]
    go_enter Try.func50, Try.ntmps50
    go_wp2_with (first | (go_at_call 62; refine H.out.mono ?_; rintro e w' ⟨rfl, rfl⟩))
    go_ret2
    exact ⟨rfl, rfl⟩
  · have hz' : ((z : Int) == 0) = false := by simp; omega
    by_cases hc : s.size < z + n
    · rw [if_pos (Or.inr hc), if_pos rfl]
      go_enter Try.func50, Try.ntmps50
      go_wp2_with (first | (go_at_call 62; refine H.out.mono ?_; rintro e w' ⟨rfl, rfl⟩))
      go_ret2
      exact ⟨rfl, rfl⟩
    · have hif : (if z = 0 ∨ s.size < z + n then 0 else z + n) = z + n := if_neg (by omega)
      rw [hif, if_neg (by omega)]
      clear hif
      go_enter Try.func50, Try.ntmps50
      go_wp2_with (first | (go_at_call 62; refine H.out.mono ?_; rintro e w' ⟨rfl, rfl⟩))
      go_ret2
      refine ⟨?_, rfl⟩
      congr 1

/-- the size and the depth of what begins here, if it is no list -/
def flat (l : List UInt8) : Nat × Nat :=
  if kindL l = 1 ∨ kindL l = 2 then (1, 0) else if kindL l = 3 then ((tkU l).2, 0) else if kindL l = 4 then ((tkS l).2, 0) else if kindL l = 5 then (tkTn l, 0) else (0, 0)
/-- the rest of a list: n values more, behind so many bytes -/
def measL (f : List UInt8 → Nat × Nat) (l : List UInt8) : Nat → Nat → Nat → Nat × Nat
  | 0, z, d => (z, d + 1)
  | n + 1, z, d => if (f (l.drop z)).1 = 0 then (0, 0) else measL f l n (z + (f (l.drop z)).1) (max d (f (l.drop z)).2)
/-- the size and the depth of what begins here -/
def meas : Nat → List UInt8 → Nat × Nat
  | 0, l => if kindL l = 6 then (0, 0) else flat l
  | r + 1, l => if kindL l = 6 then (if (tkH l 6).2 = 0 then (0, 0) else measL (meas r) l (tkH l 6).1 (tkH l 6).2 0) else flat l

theorem flat_size (l : List UInt8) : (flat l).1 ≤ l.length ∧ (flat l).2 = 0 := by
  have h1 := tkU_size l; have h2 := tkS_size l; have h3 := tkTn_size l
  have h4 : kindL l = 1 ∨ kindL l = 2 → 1 ≤ l.length := by
    cases l with
    | nil => simp [kindL]
    | cons => simp
  unfold flat
  (repeat' split) <;> simp <;> omega
theorem measL_size (f : List UInt8 → Nat × Nat) (l : List UInt8) (D : Nat) (hf : ∀ x, (f x).1 ≤ x.length ∧ (f x).2 ≤ D) : ∀ (n z d : Nat), z ≤ l.length → d ≤ D → (measL f l n z d).1 ≤ l.length ∧ (measL f l n z d).2 ≤ D + 1
  | 0, z, d, hz, hd => ⟨hz, by simp only [measL]; omega⟩
  | n + 1, z, d, hz, hd => by
    have := hf (l.drop z)
    rw [List.length_drop] at this
    unfold measL
    split
    · simp
    · exact measL_size f l D hf n _ _ (by omega) (by omega)
theorem meas_size : ∀ (r : Nat) (l : List UInt8), (meas r l).1 ≤ l.length ∧ (meas r l).2 ≤ r
  | 0, l => by
    have := flat_size l
    unfold meas; split
    · simp
    · omega
  | r + 1, l => by
    have h1 := flat_size l
    have h2 := tkH_size l 6 (by omega)
    unfold meas
    split
    · split
      · simp
      · exact measL_size (meas r) l r (meas_size r) _ _ _ h2.1 (by omega)
    · omega

end Go.Proofs.Ytlhgbnjflemiiaa
