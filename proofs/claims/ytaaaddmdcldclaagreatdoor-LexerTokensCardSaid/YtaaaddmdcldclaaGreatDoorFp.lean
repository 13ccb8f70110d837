/- As XP of wip/tpl, for texts of up to 1000 bytes, in a namespace of its own (Fx): contracts that fixed.Parse leans on: a cut at a point, digits that are tested and read. No conditions beyond what each states. -/
import Derived.Test.YtaaaddmdcldclaaGreatDoorNk
import Derived.Deep.QuietTactic
import Derived.Deep.RegionWith
import Derived.WalkKit
import Derived.WalkSpells
import Derived.RegionTactic
import Derived.ChangeAlike
import Derived.Shelf.Strings.SlTrimAscii
import Derived.Lib.CutLaws
namespace Go.Proofs.YtaaaddmdcldclaaGreatDoor.Fx
open Go.RowKit

def bs (l : List UInt8) : ByteArray := ⟨l.toArray⟩
theorem bs_size (l : List UInt8) : (bs l).size = l.length := by unfold bs; exact List.size_toArray
theorem bs_data (l : List UInt8) : (bs l).data.toList = l := rfl
theorem ret_int {k : IntKind} {a b : Int} (h : a = b) : Ending.returned (.int k a) = .returned (.int k b) := by rw [h]
theorem below_drewN (B : Nat) (w : World) (n : Nat) : Below B w (w.drewN n) := ⟨rfl, rfl, rfl, Nat.le_refl _, fun _ _ => rfl⟩

set_option maxHeartbeats 1000000 in
theorem cut_inner (s : ByteArray) (w : World) (hs : s.size ≤ 1000) :
    Calls Tryz.prog 68 #[.string s, .string ⟨#[46]⟩] w fun e w' => e = .returned (.tuple #[.string (bs (Lib.cut s.data.toList [46]).1), .string (bs (Lib.cut s.data.toList [46]).2.1), .bool (Lib.cut s.data.toList [46]).2.2]) ∧ Below w.heap.size w w' := by
  have hI := Tryz.stringslite_Index_one s 46 w
  rw [← Lib.index_one] at hI
  rcases Lib.indexB_cases s ⟨#[46]⟩ with hix | ⟨i, hix, hroom⟩
  · obtain ⟨e1, e2, e3⟩ := Lib.cutB_miss s ⟨#[46]⟩ hix
    have hix' : Lib.index s.data.toList [46] = -1 := hix
    rw [hix'] at hI
    change bs (Lib.cut s.data.toList [46]).1 = _ at e1
    change bs (Lib.cut s.data.toList [46]).2.1 = _ at e2
    change (Lib.cut s.data.toList [46]).2.2 = _ at e3
    rw [e1, e2, e3]
    have HI := Lib.hid hI
    clear hI hix hix' e1 e2 e3
    go_enter Tryz.func68, Tryz.ntmps68
    go_wp2_with fail
    refine HI.out.mono ?_
    rintro e w1 ⟨rfl, rfl⟩
    go_wp2_with fail
    go_ret3
    exact ⟨rfl, Below.refl _ _⟩
  · obtain ⟨e1, e2, e3⟩ := Lib.cutB_hit s ⟨#[46]⟩ i hix
    have hix' : Lib.index s.data.toList [46] = i := hix
    rw [hix'] at hI
    change bs (Lib.cut s.data.toList [46]).1 = _ at e1
    change bs (Lib.cut s.data.toList [46]).2.1 = _ at e2
    change (Lib.cut s.data.toList [46]).2.2 = _ at e3
    rw [e1, e2, e3]
    have HI := Lib.hid hI
    have hz : (⟨#[46]⟩ : ByteArray).size = 1 := rfl
    rw [hz] at hroom ⊢
    have c1 : (0 : Int) ≤ ↑i := by omega
    have c2 : (↑i : Int) ≤ ↑s.size := by omega
    have c3 : (0 : Int) ≤ ↑i + 1 := by omega
    have c4 : (↑i + 1 : Int) ≤ ↑s.size := by omega
    have c5 : i ≤ s.size := by omega
    have c6 : i + 1 ≤ s.size := hroom
    have c7 : (i : Int) ≤ 1000 := by omega
    clear hI hix hix' e1 e2 e3 hz
    go_enter Tryz.func68, Tryz.ntmps68
    go_wp2_with fail
    refine HI.out.mono ?_
    rintro e w1 ⟨rfl, rfl⟩
    go_wp2_with fail
    go_quiet (fail)
    go_wp2_with fail
    go_ret3
    exact ⟨rfl, below_drewN _ _ _⟩

set_option maxHeartbeats 400000 in
theorem cut_dot (s : ByteArray) (w : World) (hs : s.size ≤ 1000) :
    Calls Tryz.prog 42 #[.string s, .string ⟨#[46]⟩] w fun e w' => e = .returned (.tuple #[.string (bs (Lib.cut s.data.toList [46]).1), .string (bs (Lib.cut s.data.toList [46]).2.1), .bool (Lib.cut s.data.toList [46]).2.2]) ∧ Below w.heap.size w w' := by
  have HC := Lib.hid (cut_inner s w hs)
  go_enter Tryz.func42, Tryz.ntmps42
  go_wp2_with fail
  refine HC.out.mono ?_
  rintro e w1 ⟨rfl, hb⟩
  go_wp2_with fail
  go_ret3
  exact ⟨rfl, hb⟩

/-- decimal digits, one or more -/
def isDg (l : List UInt8) : Bool := !l.isEmpty && l.all fun c => decide (48 ≤ c.toNat) && decide (c.toNat ≤ 57)

theorem digits_contains (c : UInt8) : [48, 49, 50, 51, 52, 53, 54, 55, 56, 57].contains c = (decide (48 ≤ c.toNat) && decide (c.toNat ≤ 57)) := by
  have h : ∀ n : Fin 256, ([48, 49, 50, 51, 52, 53, 54, 55, 56, 57] : List UInt8).contains (UInt8.ofNat n.val) = (decide (48 ≤ (UInt8.ofNat n.val).toNat) && decide ((UInt8.ofNat n.val).toNat ≤ 57)) := by decide +kernel
  have := h ⟨c.toNat, c.toNat_lt⟩
  rwa [UInt8.ofNat_toNat] at this

theorem dropWhile_all {p : UInt8 → Bool} : ∀ (l : List UInt8), l.dropWhile p = [] ↔ l.all p = true
  | [] => by simp
  | c :: l => by
    by_cases h : p c = true
    · rw [List.dropWhile_cons_of_pos h, dropWhile_all l, List.all_cons, h, Bool.true_and]
    · rw [List.dropWhile_cons_of_neg h, List.all_cons]
      simp [h]
theorem dropWhile_head {p : UInt8 → Bool} : ∀ (l : List UInt8), (l.dropWhile p).all p = true → l.dropWhile p = []
  | [], _ => rfl
  | c :: l, h => by
    by_cases hc : p c = true
    · rw [List.dropWhile_cons_of_pos hc] at h ⊢
      exact dropWhile_head l h
    · rw [List.dropWhile_cons_of_neg hc, List.all_cons, Bool.and_eq_true] at h
      exact absurd h.1 hc
theorem trimS_nil (l cs : List UInt8) : Lib.trimS l cs = [] ↔ l.all (cs.contains ·) = true := by
  unfold Lib.trimS Lib.trimLeftS Lib.trimRightS
  rw [dropWhile_all, List.all_reverse]
  constructor
  · intro h
    have := (dropWhile_all _).1 (dropWhile_head _ h)
    rwa [List.all_reverse] at this
  · intro h
    have h2 : l.reverse.dropWhile (cs.contains ·) = [] := (dropWhile_all _).2 (by rw [List.all_reverse]; exact h)
    rw [h2]; rfl
theorem isDg_trim (l : List UInt8) : isDg l = (!l.isEmpty && (Lib.trimS l [48, 49, 50, 51, 52, 53, 54, 55, 56, 57]).isEmpty) := by
  unfold isDg
  have e : (l.all fun c => decide (48 ≤ c.toNat) && decide (c.toNat ≤ 57)) = (Lib.trimS l [48, 49, 50, 51, 52, 53, 54, 55, 56, 57]).isEmpty := by
    rw [Bool.eq_iff_iff, List.isEmpty_iff, trimS_nil]
    have : (fun c : UInt8 => decide (48 ≤ c.toNat) && decide (c.toNat ≤ 57)) = fun c => [48, 49, 50, 51, 52, 53, 54, 55, 56, 57].contains c := by funext c; exact (digits_contains c).symm
    rw [this]
  rw [e]

theorem loop_eq (s : ByteArray) : ∀ (n i : Nat) (r : List UInt8), s.size - i = n → ByteArray.toList.loop s i r = r.reverse ++ s.data.toList.drop i
  | 0, i, r, h => by
    unfold ByteArray.toList.loop
    rw [if_neg (by omega), List.drop_of_length_le (by simpa using (by omega : s.size ≤ i)), List.append_nil]
  | n + 1, i, r, h => by
    unfold ByteArray.toList.loop
    have hi : i < s.data.toList.length := by simpa using (by omega : i < s.size)
    rw [if_pos (by omega), loop_eq s n (i + 1) _ (by omega), List.reverse_cons, List.append_assoc, List.drop_eq_getElem_cons hi]
    have e : s.get! i = s.data.toList[i] := by
      have hs : i < s.size := by omega
      simp [ByteArray.get!, getElem!_pos, hs]
    rw [e]; rfl
theorem toList_eq (s : ByteArray) : s.toList = s.data.toList := by
  unfold ByteArray.toList
  rw [loop_eq s _ 0 [] rfl]; rfl

set_option maxHeartbeats 400000 in
theorem isdig_any (s : ByteArray) (w : World) (hs : s.size ≤ 9223372036854775807) :
    Calls Tryz.prog 107 #[.string s] w fun e w' => e = .returned (.bool (isDg s.data.toList)) ∧ Below w.heap.size w w' := by
  have hT := Any.strings_Trim_laid Tryz.lays160 (by kernel_rfl) s ⟨#[48, 49, 50, 51, 52, 53, 54, 55, 56, 57]⟩ w hs (by decide) (ascii_of_all (by decide))
  change Calls Tryz.prog 119 _ _ (fun e w' => e = .returned (.string (bs (Lib.trimS s.data.toList [48, 49, 50, 51, 52, 53, 54, 55, 56, 57]))) ∧ Below w.heap.size w w') at hT
  have hd := isDg_trim s.data.toList
  obtain ⟨S, hS⟩ : ∃ S, S = bs (Lib.trimS s.data.toList [48, 49, 50, 51, 52, 53, 54, 55, 56, 57]) := ⟨_, rfl⟩
  have hSe : S.toList.isEmpty = (Lib.trimS s.data.toList [48, 49, 50, 51, 52, 53, 54, 55, 56, 57]).isEmpty := by rw [hS, toList_eq]; rfl
  rw [← hS] at hT
  rw [← hSe, ← toList_eq] at hd
  obtain ⟨b, hb⟩ : ∃ b, b = isDg s.data.toList := ⟨_, rfl⟩
  rw [← hb]
  rw [toList_eq, ← hb, ← toList_eq] at hd
  have HD := Lib.hid hd
  have HT := Lib.hid hT
  clear hd hT hS hSe hb hs
  by_cases h0 : s.toList.isEmpty = true
  · go_enter Tryz.func107, Tryz.ntmps107
    go_wp2_with fail
    go_ret
    exact ⟨by rw [HD.out, h0]; rfl, Below.refl _ _⟩
  · have h0' : s.toList.isEmpty = false := by simpa using h0
    clear h0
    go_enter Tryz.func107, Tryz.ntmps107
    go_wp2_with fail
    refine HT.out.mono ?_
    rintro e w1 ⟨rfl, hb⟩
    go_wp2_with fail
    go_ret
    exact ⟨by rw [HD.out, h0']; rfl, hb⟩

/-- a number, continued by the digits -/
def rd (n : Int) (l : List UInt8) : Int := l.foldl (fun n c => min (n * 10 + ((c.toNat : Int) - 48) % 256) 1000000000001) n
theorem rd_range (l : List UInt8) : ∀ (n : Int), 0 ≤ n → n ≤ 1000000000001 → 0 ≤ rd n l ∧ rd n l ≤ 1000000000001 := by
  induction l with
  | nil => intro n h1 h2; exact ⟨h1, h2⟩
  | cons c l ih =>
    intro n h1 h2
    show 0 ≤ rd (min (n * 10 + ((c.toNat : Int) - 48) % 256) 1000000000001) l ∧ rd (min (n * 10 + ((c.toNat : Int) - 48) % 256) 1000000000001) l ≤ _
    exact ih _ (by omega) (by omega)
theorem rd_snoc (n : Int) (l : List UInt8) (c : UInt8) : rd n (l ++ [c]) = min (rd n l * 10 + ((c.toNat : Int) - 48) % 256) 1000000000001 := by
  unfold rd; rw [List.foldl_append]; rfl

theorem take_snoc (s : ByteArray) (k : Nat) (h : k < s.size) : s.data.toList.take (k + 1) = s.data.toList.take k ++ [s[k]] := by
  rw [List.take_succ_eq_append_getElem (by simpa using h)]; rfl

set_option maxHeartbeats 400000 in
theorem rd_any (n : Int) (s : ByteArray) (w : World) (h0 : 0 ≤ n) (h1 : n ≤ 1000000000001) (hs : s.size ≤ 1000) :
    Calls Tryz.prog 108 #[.int .i64 n, .string s] w fun e w' => e = .returned (.int .i64 (rd n s.data.toList)) ∧ w = w' := by
  go_enter Tryz.func108, Tryz.ntmps108
  go_wp2_with fail
  go_loop [0, 8] (fun v i => ∃ k : Nat, k ≤ s.size ∧ i = .int .i64 k ∧ v = .int .i64 (rd n (s.data.toList.take k))) (fun _ i => s.size - (intOf i).toNat)
  case atStart => exact ⟨0, Nat.zero_le _, rfl, rfl⟩
  case round =>
    obtain ⟨k, hk, rfl, rfl⟩ := hrel
    obtain ⟨r1, r2⟩ := rd_range (s.data.toList.take k) n h0 h1
    by_cases hlt : k < s.size
    · have hb : s[k].toNat < 256 := s[k].toNat_lt
      have hsn := rd_snoc n (s.data.toList.take k) s[k]
      rw [← take_snoc s k hlt] at hsn
      have HS := Lib.hid hsn
      clear hsn
      obtain ⟨R, hR⟩ : ∃ R, R = rd n (s.data.toList.take k) := ⟨_, rfl⟩
      rw [← hR] at r1 r2
      rw [← hR]
      have HR := Lib.hid hR
      clear hR
      go_wp2_with fail
      go_round
      case rel => exact ⟨k + 1, by omega, by go_num, by rw [HS.out, ← HR.out]⟩
      case measure => simp [intOf]; omega
    · obtain rfl : k = s.size := by omega
      go_wp2_with fail
      go_ret
      exact ⟨ret_int (by rw [List.take_of_length_le (by rw [← Lib.size_eq]; exact Nat.le_refl _)]), rfl⟩

/-- what Parse answers, its pieces given -/
def parseOf (neg ptd da db long : Bool) (N : Int) : Int × Int :=
  if (!da || (ptd && (!db || long))) = true then (0, 2) else if 1000000000000 < N then (0, 6) else (if neg = true then -N else N, 0)

set_option maxHeartbeats 1000000 in
theorem parse_walk (s D A B : ByteArray) (neg ptd da db long : Bool) (R N : Int) (w : World) (hN : 0 ≤ N) (hN2 : N ≤ 1000000000001) (hB : B.size ≤ 1000) (hl : decide ((3 : Int) < B.size) = long)
    (Hp : ∀ w, Calls Tryz.prog 88 #[.string s, .string ⟨#[45]⟩] w fun e w' => e = .returned (.tuple #[.string D, .bool neg]) ∧ w' = w)
    (Hc : ∀ w, Calls Tryz.prog 42 #[.string D, .string ⟨#[46]⟩] w fun e w' => e = .returned (.tuple #[.string A, .string B, .bool ptd]) ∧ Below w.heap.size w w')
    (Ha : ∀ w, Calls Tryz.prog 107 #[.string A] w fun e w' => e = .returned (.bool da) ∧ Below w.heap.size w w')
    (Hb : ∀ w, Calls Tryz.prog 107 #[.string B] w fun e w' => e = .returned (.bool db) ∧ Below w.heap.size w w')
    (Hr : ∀ w, Calls Tryz.prog 108 #[.int .i64 0, .string A] w fun e w' => e = .returned (.int .i64 R) ∧ w = w')
    (Hn : ∀ w, Calls Tryz.prog 108 #[.int .i64 R, .string ((B ++ ⟨#[48, 48, 48]⟩).extract 0 3)] w fun e w' => e = .returned (.int .i64 N) ∧ w = w') :
    Calls Tryz.prog 89 #[.string s] w fun e w' => e = .returned (.tuple #[.int .i64 (parseOf neg ptd da db long N).1, .int .i64 (parseOf neg ptd da db long N).2]) ∧ Below w.heap.size w w' := by
  have g1 : ¬ 9223372036854775807 < B.size + 3 := by omega
  have g2 : (B ++ ⟨#[48, 48, 48]⟩).size = B.size + 3 := ByteArray.size_append
  have g3 : 3 ≤ B.size + 3 := by omega
  have g4 : (3 : Int) ≤ ↑B.size + 3 := by omega
  clear hB
  obtain ⟨z1, hz1⟩ : ∃ z, z = (parseOf neg ptd da db long N).1 := ⟨_, rfl⟩
  obtain ⟨z2, hz2⟩ : ∃ z, z = (parseOf neg ptd da db long N).2 := ⟨_, rfl⟩
  rw [← hz1, ← hz2]
  have HP := Lib.hid Hp
  have HC := Lib.hid Hc
  have HA := Lib.hid Ha
  have HB := Lib.hid Hb
  have HR := Lib.hid Hr
  have HN := Lib.hid Hn
  clear Hp Hc Ha Hb Hr Hn
  have hpz : parseOf neg ptd da db long N = if (!da || (ptd && (!db || long))) = true then (0, 2) else if 1000000000000 < N then (0, 6) else (if neg = true then -N else N, 0) := rfl
  rw [hpz] at hz1 hz2
  clear hpz
  cases da
  · simp only [Bool.not_false, Bool.true_or, if_true] at hz1 hz2
    subst hz1 hz2
    go_enter Tryz.func89, Tryz.ntmps89
    go_wp2_with fail
    refine (HP.out _).mono ?_
    rintro e w1 ⟨rfl, rfl⟩
    go_wp2_with fail
    refine (HC.out _).mono ?_
    rintro e w2 ⟨rfl, hb2⟩
    have Hb2 := Lib.hid hb2
    clear hb2
    go_wp2_with fail
    refine (HA.out _).mono ?_
    rintro e w3 ⟨rfl, hb3⟩
    have Hb3 := Lib.hid hb3
    clear hb3
    go_wp2_with fail
    go_ret2
    exact ⟨rfl, Hb2.out.trans (Hb3.out.mono Hb2.out.size)⟩
  · cases ptd
    · simp only [Bool.not_true, Bool.false_and, Bool.false_or, Bool.false_eq_true, if_false] at hz1 hz2
      by_cases hN3 : 1000000000000 < N
      · rw [if_pos hN3] at hz1 hz2
        subst hz1 hz2
        have t1 : decide (1000000000000 < N) = true := decide_eq_true hN3
        clear hN3
        go_enter Tryz.func89, Tryz.ntmps89
        go_wp2_with fail
        refine (HP.out _).mono ?_
        rintro e w1 ⟨rfl, rfl⟩
        go_wp2_with fail
        refine (HC.out _).mono ?_
        rintro e w2 ⟨rfl, hb2⟩
        have Hb2 := Lib.hid hb2
        clear hb2
        go_wp2_with fail
        refine (HA.out _).mono ?_
        rintro e w3 ⟨rfl, hb3⟩
        have Hb3 := Lib.hid hb3
        clear hb3
        go_wp2_with fail
        go_quiet ((first | (go_at_call_of 108 (Value.string A); exact Calls.quiet_of_same ((HR.out _).mono fun e w' h => ⟨h.1, h.2.symm⟩)) | (go_at_call 108; exact Calls.quiet_of_same ((HN.out _).mono fun e w' h => ⟨h.1, h.2.symm⟩))))
        go_wp2_with fail
        go_ret2
        exact ⟨rfl, (Hb2.out.trans (Hb3.out.mono Hb2.out.size)).trans (below_drewN _ _ _)⟩
      · rw [if_neg hN3] at hz1 hz2
        have t1 : decide (1000000000000 < N) = false := decide_eq_false hN3
        have hN4 : N ≤ 1000000000000 := by omega
        clear hN3 hN2
        cases neg
        · simp only [Bool.false_eq_true, if_false] at hz1 hz2
          subst hz1 hz2
          go_enter Tryz.func89, Tryz.ntmps89
          go_wp2_with fail
          refine (HP.out _).mono ?_
          rintro e w1 ⟨rfl, rfl⟩
          go_wp2_with fail
          refine (HC.out _).mono ?_
          rintro e w2 ⟨rfl, hb2⟩
          have Hb2 := Lib.hid hb2
          clear hb2
          go_wp2_with fail
          refine (HA.out _).mono ?_
          rintro e w3 ⟨rfl, hb3⟩
          have Hb3 := Lib.hid hb3
          clear hb3
          go_wp2_with fail
          go_quiet ((first | (go_at_call_of 108 (Value.string A); exact Calls.quiet_of_same ((HR.out _).mono fun e w' h => ⟨h.1, h.2.symm⟩)) | (go_at_call 108; exact Calls.quiet_of_same ((HN.out _).mono fun e w' h => ⟨h.1, h.2.symm⟩))))
          go_wp2_with fail
          go_ret2
          exact ⟨rfl, (Hb2.out.trans (Hb3.out.mono Hb2.out.size)).trans (below_drewN _ _ _)⟩
        · simp only [if_true] at hz1 hz2
          subst hz1 hz2
          go_enter Tryz.func89, Tryz.ntmps89
          go_wp2_with fail
          refine (HP.out _).mono ?_
          rintro e w1 ⟨rfl, rfl⟩
          go_wp2_with fail
          refine (HC.out _).mono ?_
          rintro e w2 ⟨rfl, hb2⟩
          have Hb2 := Lib.hid hb2
          clear hb2
          go_wp2_with fail
          refine (HA.out _).mono ?_
          rintro e w3 ⟨rfl, hb3⟩
          have Hb3 := Lib.hid hb3
          clear hb3
          go_wp2_with fail
          go_quiet ((first | (go_at_call_of 108 (Value.string A); exact Calls.quiet_of_same ((HR.out _).mono fun e w' h => ⟨h.1, h.2.symm⟩)) | (go_at_call 108; exact Calls.quiet_of_same ((HN.out _).mono fun e w' h => ⟨h.1, h.2.symm⟩))))
          go_wp2_with fail
          go_ret2
          exact ⟨rfl, (Hb2.out.trans (Hb3.out.mono Hb2.out.size)).trans (below_drewN _ _ _)⟩
    · cases db
      · simp only [Bool.not_true, Bool.not_false, Bool.true_and, Bool.false_or, Bool.true_or, if_true] at hz1 hz2
        subst hz1 hz2
        go_enter Tryz.func89, Tryz.ntmps89
        go_wp2_with fail
        refine (HP.out _).mono ?_
        rintro e w1 ⟨rfl, rfl⟩
        go_wp2_with fail
        refine (HC.out _).mono ?_
        rintro e w2 ⟨rfl, hb2⟩
        have Hb2 := Lib.hid hb2
        clear hb2
        go_wp2_with fail
        refine (HA.out _).mono ?_
        rintro e w3 ⟨rfl, hb3⟩
        have Hb3 := Lib.hid hb3
        clear hb3
        go_wp2_with fail
        refine (HB.out _).mono ?_
        rintro e w4 ⟨rfl, hb4⟩
        have Hb4 := Lib.hid hb4
        clear hb4
        go_wp2_with fail
        go_ret2
        exact ⟨rfl, (Hb2.out.trans (Hb3.out.mono Hb2.out.size)).trans (Hb4.out.mono (Nat.le_trans Hb2.out.size Hb3.out.size))⟩
      · cases long
        · simp only [Bool.not_true, Bool.true_and, Bool.or_false, Bool.false_eq_true, if_false] at hz1 hz2
          by_cases hN3 : 1000000000000 < N
          · rw [if_pos hN3] at hz1 hz2
            subst hz1 hz2
            have t1 : decide (1000000000000 < N) = true := decide_eq_true hN3
            clear hN3
            go_enter Tryz.func89, Tryz.ntmps89
            go_wp2_with fail
            refine (HP.out _).mono ?_
            rintro e w1 ⟨rfl, rfl⟩
            go_wp2_with fail
            refine (HC.out _).mono ?_
            rintro e w2 ⟨rfl, hb2⟩
            have Hb2 := Lib.hid hb2
            clear hb2
            go_wp2_with fail
            refine (HA.out _).mono ?_
            rintro e w3 ⟨rfl, hb3⟩
            have Hb3 := Lib.hid hb3
            clear hb3
            go_wp2_with fail
            refine (HB.out _).mono ?_
            rintro e w4 ⟨rfl, hb4⟩
            have Hb4 := Lib.hid hb4
            clear hb4
            go_wp2_with fail
            go_quiet ((first | (go_at_call_of 108 (Value.string A); exact Calls.quiet_of_same ((HR.out _).mono fun e w' h => ⟨h.1, h.2.symm⟩)) | (go_at_call 108; exact Calls.quiet_of_same ((HN.out _).mono fun e w' h => ⟨h.1, h.2.symm⟩))))
            go_wp2_with fail
            go_ret2
            exact ⟨rfl, ((Hb2.out.trans (Hb3.out.mono Hb2.out.size)).trans (Hb4.out.mono (Nat.le_trans Hb2.out.size Hb3.out.size))).trans (below_drewN _ _ _)⟩
          · rw [if_neg hN3] at hz1 hz2
            have t1 : decide (1000000000000 < N) = false := decide_eq_false hN3
            have hN4 : N ≤ 1000000000000 := by omega
            clear hN3 hN2
            cases neg
            · simp only [Bool.false_eq_true, if_false] at hz1 hz2
              subst hz1 hz2
              go_enter Tryz.func89, Tryz.ntmps89
              go_wp2_with fail
              refine (HP.out _).mono ?_
              rintro e w1 ⟨rfl, rfl⟩
              go_wp2_with fail
              refine (HC.out _).mono ?_
              rintro e w2 ⟨rfl, hb2⟩
              have Hb2 := Lib.hid hb2
              clear hb2
              go_wp2_with fail
              refine (HA.out _).mono ?_
              rintro e w3 ⟨rfl, hb3⟩
              have Hb3 := Lib.hid hb3
              clear hb3
              go_wp2_with fail
              refine (HB.out _).mono ?_
              rintro e w4 ⟨rfl, hb4⟩
              have Hb4 := Lib.hid hb4
              clear hb4
              go_wp2_with fail
              go_quiet ((first | (go_at_call_of 108 (Value.string A); exact Calls.quiet_of_same ((HR.out _).mono fun e w' h => ⟨h.1, h.2.symm⟩)) | (go_at_call 108; exact Calls.quiet_of_same ((HN.out _).mono fun e w' h => ⟨h.1, h.2.symm⟩))))
              go_wp2_with fail
              go_ret2
              exact ⟨rfl, ((Hb2.out.trans (Hb3.out.mono Hb2.out.size)).trans (Hb4.out.mono (Nat.le_trans Hb2.out.size Hb3.out.size))).trans (below_drewN _ _ _)⟩
            · simp only [if_true] at hz1 hz2
              subst hz1 hz2
              go_enter Tryz.func89, Tryz.ntmps89
              go_wp2_with fail
              refine (HP.out _).mono ?_
              rintro e w1 ⟨rfl, rfl⟩
              go_wp2_with fail
              refine (HC.out _).mono ?_
              rintro e w2 ⟨rfl, hb2⟩
              have Hb2 := Lib.hid hb2
              clear hb2
              go_wp2_with fail
              refine (HA.out _).mono ?_
              rintro e w3 ⟨rfl, hb3⟩
              have Hb3 := Lib.hid hb3
              clear hb3
              go_wp2_with fail
              refine (HB.out _).mono ?_
              rintro e w4 ⟨rfl, hb4⟩
              have Hb4 := Lib.hid hb4
              clear hb4
              go_wp2_with fail
              go_quiet ((first | (go_at_call_of 108 (Value.string A); exact Calls.quiet_of_same ((HR.out _).mono fun e w' h => ⟨h.1, h.2.symm⟩)) | (go_at_call 108; exact Calls.quiet_of_same ((HN.out _).mono fun e w' h => ⟨h.1, h.2.symm⟩))))
              go_wp2_with fail
              go_ret2
              exact ⟨rfl, ((Hb2.out.trans (Hb3.out.mono Hb2.out.size)).trans (Hb4.out.mono (Nat.le_trans Hb2.out.size Hb3.out.size))).trans (below_drewN _ _ _)⟩
        · simp only [Bool.not_true, Bool.true_and, Bool.or_true, if_true] at hz1 hz2
          subst hz1 hz2
          go_enter Tryz.func89, Tryz.ntmps89
          go_wp2_with fail
          refine (HP.out _).mono ?_
          rintro e w1 ⟨rfl, rfl⟩
          go_wp2_with fail
          refine (HC.out _).mono ?_
          rintro e w2 ⟨rfl, hb2⟩
          have Hb2 := Lib.hid hb2
          clear hb2
          go_wp2_with fail
          refine (HA.out _).mono ?_
          rintro e w3 ⟨rfl, hb3⟩
          have Hb3 := Lib.hid hb3
          clear hb3
          go_wp2_with fail
          refine (HB.out _).mono ?_
          rintro e w4 ⟨rfl, hb4⟩
          have Hb4 := Lib.hid hb4
          clear hb4
          go_wp2_with fail
          go_ret2
          exact ⟨rfl, (Hb2.out.trans (Hb3.out.mono Hb2.out.size)).trans (Hb4.out.mono (Nat.le_trans Hb2.out.size Hb3.out.size))⟩

def parseL (l : List UInt8) : Int × Int :=
  parseOf (Lib.hasPrefix l [45]) (Lib.cut (Lib.trimPrefix l [45]) [46]).2.2 (isDg (Lib.cut (Lib.trimPrefix l [45]) [46]).1) (isDg (Lib.cut (Lib.trimPrefix l [45]) [46]).2.1) (decide ((3 : Int) < (Lib.cut (Lib.trimPrefix l [45]) [46]).2.1.length))
    (rd (rd 0 (Lib.cut (Lib.trimPrefix l [45]) [46]).1) (((Lib.cut (Lib.trimPrefix l [45]) [46]).2.1 ++ [48, 48, 48]).take 3))

theorem trimPrefix_le (l p : List UInt8) : (Lib.trimPrefix l p).length ≤ l.length := by
  unfold Lib.trimPrefix; split
  · rw [List.length_drop]; omega
  · omega
theorem cut_le (l p : List UInt8) : (Lib.cut l p).1.length ≤ l.length ∧ (Lib.cut l p).2.1.length ≤ l.length := by
  unfold Lib.cut; split
  · simp only [List.length_take, List.length_drop]; omega
  · simp

theorem bs_append (l m : List UInt8) : bs l ++ bs m = bs (l ++ m) := by
  have h : (bs l ++ bs m).data.toList = (bs (l ++ m)).data.toList := by rw [ByteArray.data_append]; simp [bs]
  have h2 : ∀ a b : ByteArray, a.data.toList = b.data.toList → a = b := fun a b h => by obtain ⟨⟨l⟩⟩ := a; obtain ⟨⟨m⟩⟩ := b; exact congrArg (fun l => ByteArray.mk (Array.mk l)) h
  exact h2 _ _ h
theorem bs_extract (l : List UInt8) (n : Nat) : ((bs l).extract 0 n).data.toList = l.take n := by
  rw [Lib.extract_data, bs_data]; simp

theorem parse_any (s : ByteArray) (w : World) (hs : s.size ≤ 1000) :
    Calls Tryz.prog 89 #[.string s] w fun e w' => e = .returned (.tuple #[.int .i64 (parseL s.data.toList).1, .int .i64 (parseL s.data.toList).2]) ∧ Below w.heap.size w w' := by
  have hl : s.data.toList.length ≤ 1000 := by rw [← Lib.size_eq]; exact hs
  have h1 := trimPrefix_le s.data.toList [45]
  have h2 := cut_le (Lib.trimPrefix s.data.toList [45]) [46]
  have sD := bs_size (Lib.trimPrefix s.data.toList [45])
  have sA := bs_size (Lib.cut (Lib.trimPrefix s.data.toList [45]) [46]).1
  have sB := bs_size (Lib.cut (Lib.trimPrefix s.data.toList [45]) [46]).2.1
  have r1 := rd_range (Lib.cut (Lib.trimPrefix s.data.toList [45]) [46]).1 0 (by omega) (by omega)
  have r2 := rd_range (((Lib.cut (Lib.trimPrefix s.data.toList [45]) [46]).2.1 ++ [48, 48, 48]).take 3) _ r1.1 r1.2
  unfold parseL
  refine parse_walk s (bs (Lib.trimPrefix s.data.toList [45])) (bs (Lib.cut (Lib.trimPrefix s.data.toList [45]) [46]).1) (bs (Lib.cut (Lib.trimPrefix s.data.toList [45]) [46]).2.1) _ _ _ _ _ (rd 0 (Lib.cut (Lib.trimPrefix s.data.toList [45]) [46]).1) _ w r2.1 r2.2 (by omega) (by rw [sB])
    (fun w => Tryz.strings_CutPrefix s ⟨#[45]⟩ w) (fun w => cut_dot _ w (by omega)) (fun w => isdig_any _ w (by omega)) (fun w => isdig_any _ w (by omega)) (fun w => rd_any 0 _ w (by omega) (by omega) (by omega)) (fun w => ?_)
  have h3 := rd_any (rd 0 (Lib.cut (Lib.trimPrefix s.data.toList [45]) [46]).1) ((bs (Lib.cut (Lib.trimPrefix s.data.toList [45]) [46]).2.1 ++ bs [48, 48, 48]).extract 0 3) w r1.1 r1.2 (by
    rw [bs_append, Lib.size_eq, bs_extract, List.length_take]; omega)
  rw [bs_append] at h3
  rw [bs_extract, ← bs_append] at h3
  exact h3
end Go.Proofs.YtaaaddmdcldclaaGreatDoor.Fx
