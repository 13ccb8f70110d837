/- Contracts of the specification's readers of texts and heads, and of its Kind. -/
import Derived.Test.YtlhgbnjflemiiaaRG
namespace Go.Proofs.Ytlhgbnjflemiiaa
open Go.RowKit

theorem kindL_rest (s : ByteArray) (at_ : Nat) (h : at_ < s.size) : kindL (restL s at_) = kindC s[at_].toNat := by rw [restL_cons s at_ h]; rfl
theorem kindC5 (c : Nat) : kindC c = 5 ↔ c = 48 := by unfold kindC; (repeat' split) <;> constructor <;> intro h <;> omega
theorem kindC6 (c : Nat) : kindC c = 6 ↔ c = 64 := by unfold kindC; (repeat' split) <;> constructor <;> intro h <;> omega

theorem readT_any (s : ByteArray) (at_ : Nat) (w : World) (hs : s.size ≤ 9223372036854775807) :
    Calls Try.prog 55 #[.string s, .int .i64 at_] w fun e w' => e = .returned (if tkTn (restL s at_) = 0 then .tuple #[.string ⟨#[]⟩, .int .i64 0, .bool false] else .tuple #[.string (tkTs (s.extract at_ s.size)), .int .i64 ((at_ + tkTn (restL s at_) : Nat) : Int), .bool true]) ∧ Below w.heap.size w w' := by
  by_cases hlt : at_ < s.size
  · by_cases hc : s[at_].toNat = 48
    · have hk : kindL (restL s at_) = 5 := by rw [kindL_rest s at_ hlt]; exact (kindC5 _).2 hc
      have HU := readU_any s (at_ + 1) w hs (by omega)
      have hH : tkH (restL s at_) 5 = if kindL (restL s at_) = 5 ∧ (tkU ((restL s at_).drop 1)).2 ≠ 0 ∧ (tkU ((restL s at_).drop 1)).1 ≤ 65535 then ((tkU ((restL s at_).drop 1)).1, 1 + (tkU ((restL s at_).drop 1)).2) else (0, 0) := rfl
      have hT : tkTn (restL s at_) = if (tkH (restL s at_) 5).2 = 0 ∨ (restL s at_).length < (tkH (restL s at_) 5).2 + (tkH (restL s at_) 5).1 then 0 else (tkH (restL s at_) 5).2 + (tkH (restL s at_) 5).1 := rfl
      have hTs : tkTs (s.extract at_ s.size) = if tkTn (restL s at_) = 0 then ⟨#[]⟩ else (s.extract at_ s.size).extract (tkH (restL s at_) 5).2 ((tkH (restL s at_) 5).2 + (tkH (restL s at_) 5).1) := by unfold tkTs; rw [rest_list]
      have hsz := tkU_size (restL s (at_ + 1))
      have hlt' := tkU_lt (restL s (at_ + 1))
      rw [restL_length] at hsz
      rw [restL_tail, hk] at hH
      rw [hTs, hT, hH, restL_length]
      generalize tkU (restL s (at_ + 1)) = p at *
      obtain ⟨n, z⟩ := p
      simp only at HU hsz hlt' ⊢
      by_cases hz : z = 0
      · subst hz
        rw [if_pos rfl] at HU
        refine (readT_none s at_ w hlt hs hc (Lib.hid ?_)).mono ?_
        · simpa using HU
        · rintro e w' ⟨rfl, hb⟩
          exact ⟨by simp, hb⟩
      · rw [if_neg hz] at HU
        refine (readT_some s at_ n (at_ + 1 + z) w hlt hs hc (by omega) hlt'.1 (Lib.hid ?_)).mono ?_
        · simpa using HU
        · rintro e w' ⟨rfl, hb⟩
          refine ⟨?_, hb⟩
          by_cases h1 : n ≤ 65535
          · have e1 : (if True ∧ z ≠ 0 ∧ n ≤ 65535 then (n, 1 + z) else (0, 0)) = (n, 1 + z) := if_pos ⟨trivial, hz, h1⟩
            simp only [true_and] at e1
            simp only [e1, true_and]
            by_cases h2 : at_ + 1 + z + n ≤ s.size
            · rw [if_pos ⟨h1, h2⟩, if_neg (show ¬ (1 + z = 0 ∨ s.size - at_ < 1 + z + n) by omega), if_neg (by omega), if_neg (by omega), ext_ext s at_ _ _ (by omega)]
              rw [show at_ + 1 + z = at_ + (1 + z) by omega, show at_ + (1 + z) + n = at_ + (1 + z + n) by omega]
            · rw [if_neg (fun h => h2 h.2), if_pos (show (1 + z = 0 ∨ s.size - at_ < 1 + z + n) by omega), if_pos rfl]
          · have e1 : (if True ∧ z ≠ 0 ∧ n ≤ 65535 then (n, 1 + z) else (0, 0)) = (0, 0) := if_neg (fun h => h1 h.2.2)
            simp only [true_and] at e1
            simp only [e1, true_and]
            rw [if_neg (fun h => h1 h.1)]
            simp
    · have hk : kindL (restL s at_) ≠ 5 := by rw [kindL_rest s at_ hlt]; exact fun h => hc ((kindC5 _).1 h)
      have e0 : tkH (restL s at_) 5 = (0, 0) := by unfold tkH; rw [if_neg (fun h => hk h.1)]
      have e : tkTn (restL s at_) = 0 := by unfold tkTn; rw [e0]; simp
      rw [e, if_pos rfl]
      refine (readT_other s at_ w hlt hc).mono ?_
      rintro e w' ⟨rfl, rfl⟩
      exact ⟨rfl, Below.refl _ _⟩
  · have e : tkTn (restL s at_) = 0 := by have := tkTn_size (restL s at_); rw [restL_length] at this; omega
    rw [e, if_pos rfl]
    refine (readT_end s at_ w (by omega)).mono ?_
    rintro e w' ⟨rfl, rfl⟩
    exact ⟨rfl, Below.refl _ _⟩

set_option maxHeartbeats 1000000 in
theorem readH_end (s : ByteArray) (at_ : Nat) (w : World) (hs : s.size ≤ at_) :
    Calls Try.prog 56 #[.string s, .int .i64 at_] w fun e w' => e = .returned (.tuple #[.int .i64 0, .int .i64 0, .bool false]) ∧ w = w' := by
  have hd : decide ((s.size : Int) ≤ (at_ : Int)) = true := by simp; omega
  go_enter Try.func56, Try.ntmps56
  go_wp2
  go_ret3
  exact ⟨rfl, rfl⟩
set_option maxHeartbeats 1000000 in
theorem readH_other (s : ByteArray) (at_ : Nat) (w : World) (hs : at_ < s.size) (hc : s[at_].toNat ≠ 64) :
    Calls Try.prog 56 #[.string s, .int .i64 at_] w fun e w' => e = .returned (.tuple #[.int .i64 0, .int .i64 0, .bool false]) ∧ w = w' := by
  have hd : decide ((s.size : Int) ≤ (at_ : Int)) = false := by simp; omega
  have hx : ((s[at_].toNat : Int) != 64) = true := by simp [bne]; omega
  go_enter Try.func56, Try.ntmps56
  go_wp2
  go_ret3
  exact ⟨rfl, rfl⟩
set_option maxHeartbeats 1000000 in
theorem readH_none (s : ByteArray) (at_ : Nat) (w : World) (hs : at_ < s.size) (hb : s.size ≤ 9223372036854775807) (hc : s[at_].toNat = 64)
    (HU : Hid (Calls Try.prog 53 #[.string s, .int .i64 ((at_ : Int) + 1)] w fun e w' => e = .returned (.tuple #[.int .u64 0, .int .i64 0, .bool false]) ∧ Below w.heap.size w w')) :
    Calls Try.prog 56 #[.string s, .int .i64 at_] w fun e w' => e = .returned (.tuple #[.int .i64 0, .int .i64 0, .bool false]) ∧ Below w.heap.size w w' := by
  have hd : decide ((s.size : Int) ≤ (at_ : Int)) = false := by simp; omega
  have hx : ((s[at_].toNat : Int) != 64) = false := by simp [bne]; omega
  clear hc
  go_enter Try.func56, Try.ntmps56
  go_wp2_with (go_at_call 53; refine HU.out.mono ?_; rintro e w' ⟨rfl, hb⟩)
  go_ret3
  exact ⟨rfl, hb⟩
set_option maxHeartbeats 1000000 in
theorem readH_some (s : ByteArray) (at_ n a : Nat) (w : World) (hs : at_ < s.size) (hb : s.size ≤ 9223372036854775807) (hc : s[at_].toNat = 64) (hn : n < 18446744073709551616)
    (HU : Hid (Calls Try.prog 53 #[.string s, .int .i64 ((at_ : Int) + 1)] w fun e w' => e = .returned (.tuple #[.int .u64 n, .int .i64 a, .bool true]) ∧ Below w.heap.size w w')) :
    Calls Try.prog 56 #[.string s, .int .i64 at_] w fun e w' => e = .returned (if n ≤ 65535 then .tuple #[.int .i64 n, .int .i64 a, .bool true] else .tuple #[.int .i64 0, .int .i64 0, .bool false]) ∧ Below w.heap.size w w' := by
  have hd : decide ((s.size : Int) ≤ (at_ : Int)) = false := by simp; omega
  have hx : ((s[at_].toNat : Int) != 64) = false := by simp [bne]; omega
  clear hc
  by_cases h1 : n ≤ 65535
  · have hd1 : decide ((65535 : Int) < (n : Int)) = false := by simp; omega
    rw [if_pos h1]
    go_enter Try.func56, Try.ntmps56
    go_wp2_with (go_at_call 53; refine HU.out.mono ?_; rintro e w' ⟨rfl, hb⟩)
    go_ret3
    exact ⟨by go_num, hb⟩
  · have hd1 : decide ((65535 : Int) < (n : Int)) = true := by simp; omega
    rw [if_neg h1]
    go_enter Try.func56, Try.ntmps56
    go_wp2_with (go_at_call 53; refine HU.out.mono ?_; rintro e w' ⟨rfl, hb⟩)
    go_ret3
    exact ⟨rfl, hb⟩

theorem readH_any (s : ByteArray) (at_ : Nat) (w : World) (hs : s.size ≤ 9223372036854775807) :
    Calls Try.prog 56 #[.string s, .int .i64 at_] w fun e w' => e = .returned (if (tkH (restL s at_) 6).2 = 0 then .tuple #[.int .i64 0, .int .i64 0, .bool false] else .tuple #[.int .i64 ((tkH (restL s at_) 6).1 : Nat), .int .i64 ((at_ + (tkH (restL s at_) 6).2 : Nat) : Int), .bool true]) ∧ Below w.heap.size w w' := by
  by_cases hlt : at_ < s.size
  · by_cases hc : s[at_].toNat = 64
    · have hk : kindL (restL s at_) = 6 := by rw [kindL_rest s at_ hlt]; exact (kindC6 _).2 hc
      have HU := readU_any s (at_ + 1) w hs (by omega)
      have hH : tkH (restL s at_) 6 = if kindL (restL s at_) = 6 ∧ (tkU ((restL s at_).drop 1)).2 ≠ 0 ∧ (tkU ((restL s at_).drop 1)).1 ≤ 65535 then ((tkU ((restL s at_).drop 1)).1, 1 + (tkU ((restL s at_).drop 1)).2) else (0, 0) := rfl
      have hlt' := tkU_lt (restL s (at_ + 1))
      rw [restL_tail, hk] at hH
      rw [hH]
      generalize tkU (restL s (at_ + 1)) = p at *
      obtain ⟨n, z⟩ := p
      simp only at HU hlt' ⊢
      by_cases hz : z = 0
      · subst hz
        rw [if_pos rfl] at HU
        refine (readH_none s at_ w hlt hs hc (Lib.hid ?_)).mono ?_
        · simpa using HU
        · rintro e w' ⟨rfl, hb⟩
          exact ⟨by simp, hb⟩
      · rw [if_neg hz] at HU
        refine (readH_some s at_ n (at_ + 1 + z) w hlt hs hc hlt'.1 (Lib.hid ?_)).mono ?_
        · simpa using HU
        · rintro e w' ⟨rfl, hb⟩
          refine ⟨?_, hb⟩
          by_cases h1 : n ≤ 65535
          · rw [if_pos h1, if_pos (show True ∧ z ≠ 0 ∧ n ≤ 65535 from ⟨trivial, hz, h1⟩)]
            simp only
            rw [if_neg (show ¬ (1 + z = 0) by omega), show at_ + 1 + z = at_ + (1 + z) by omega]
          · have e1 : (if True ∧ z ≠ 0 ∧ n ≤ 65535 then (n, 1 + z) else (0, 0)) = (0, 0) := if_neg (fun h => h1 h.2.2)
            rw [if_neg h1, e1]
            simp
    · have hk : kindL (restL s at_) ≠ 6 := by rw [kindL_rest s at_ hlt]; exact fun h => hc ((kindC6 _).1 h)
      have e : tkH (restL s at_) 6 = (0, 0) := by unfold tkH; rw [if_neg (fun h => hk h.1)]
      rw [e, if_pos rfl]
      refine (readH_other s at_ w hlt hc).mono ?_
      rintro e w' ⟨rfl, rfl⟩
      exact ⟨rfl, Below.refl _ _⟩
  · have e : (tkH (restL s at_) 6).2 = 0 := by have := (tkH_size (restL s at_) 6 (by omega)).1; rw [restL_length] at this; omega
    rw [if_pos e]
    refine (readH_end s at_ w (by omega)).mono ?_
    rintro e w' ⟨rfl, rfl⟩
    exact ⟨rfl, Below.refl _ _⟩
end Go.Proofs.Ytlhgbnjflemiiaa
