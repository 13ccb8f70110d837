/- Contracts of the specification's formed, number, Parse, ParseClock. -/
import Derived.Test.YtnlkalnpmnnadaaDoorI
namespace Go.Proofs.YtnlkalnpmnnadaaDoor
open Go.RowKit

theorem getD_get (s : ByteArray) (k : Nat) (h : k < s.size) : s.data.toList.getD k 0 = s[k] := by
  have h2 : k < s.data.toList.length := by rw [← Lib.size_eq]; exact h
  rw [List.getD, List.getElem?_eq_getElem h2]; rfl
theorem fit_digit {b : UInt8} {f : UInt8} (hf : (f.toNat : Int) = 48) : fitB b f = (decide ((48 : Int) ≤ (b.toNat : Int)) && decide ((b.toNat : Int) ≤ 57)) := by
  have e : f = 48 := UInt8.toNat.inj (show f.toNat = 48 by omega)
  unfold fitB; rw [if_pos e]
  congr 1
  · exact decide_eq_decide.2 (by omega)
  · exact decide_eq_decide.2 (by omega)
theorem fit_same {b : UInt8} {f : UInt8} (hf : ¬ (f.toNat : Int) = 48) : fitB b f = decide ((b.toNat : Int) = (f.toNat : Int)) := by
  have e : ¬ f = 48 := fun e => hf (by rw [e]; rfl)
  unfold fitB; rw [if_neg e, Bool.eq_iff_iff, beq_iff_eq, decide_eq_true_eq]
  constructor
  · intro h; rw [h]
  · intro h; exact UInt8.toNat.inj (by omega)

set_option maxRecDepth 100000 in
set_option maxHeartbeats 4000000 in
theorem rformed_eq (s f : ByteArray) (w : World) (hs : s.size ≤ 100) (hf : f.size = s.size) :
    Calls Tryd.prog 47 #[.string s, .string f] w fun e w' => e = .returned (.bool (formL s.data.toList f.data.toList)) ∧ Below w.heap.size w w' := by
  obtain ⟨n, hn⟩ : ∃ n, n = s.size := ⟨_, rfl⟩
  have hF : formL s.data.toList f.data.toList = (List.range n).all fun i => fitB (s.data.toList.getD i 0) (f.data.toList.getD i 0) := by
    unfold formL
    rw [← Lib.size_eq, ← Lib.size_eq, hf, decide_eq_true rfl, Bool.true_and, hn]
  have HF := Lib.hid hF
  clear hF
  rw [← hn] at hs hf
  have t1 : ((s.size : Int) != (f.size : Int)) = false := by rw [hf, ← hn]; exact bne_self_eq_false _
  go_enter Tryd.func47, Tryd.ntmps47
  go_wp2_with fail
  go_loopw [5] (fun i wr => ∃ k : Nat, k ≤ n ∧ i = .int .i64 k ∧ ((List.range k).all fun i => fitB (s.data.toList.getD i 0) (f.data.toList.getD i 0)) = true ∧ Below w.heap.size w wr) (fun i _ => n - (intOf i).toNat)
  case atStart => exact ⟨0, by omega, rfl, rfl, Below.refl _ _⟩
  case round =>
    obtain ⟨k, hk, rfl, hall, hb⟩ := hrel
    have HB := Lib.hid hb
    have HA := Lib.hid hall
    clear hb hall
    by_cases hlt : k < n
    · have k1 : k < s.size := by omega
      have k2 : k < f.size := by omega
      have k3 : (0 : Int) ≤ (k : Int) := by omega
      have k4 : (k : Int) < (s.size : Int) := by omega
      have k5 : (k : Int) < (f.size : Int) := by omega
      have hsucc := List.range_succ (n := k)
      have HG := Lib.hid (getD_get s k k1)
      have HH := Lib.hid (getD_get f k k2)
      have HS := Lib.hid (show ((List.range (k + 1)).all fun i => fitB (s.data.toList.getD i 0) (f.data.toList.getD i 0)) = fitB s[k] f[k] by rw [hsucc, List.all_append, HA.out, List.all_cons, List.all_nil, Bool.and_true, Bool.true_and, HG.out, HH.out])
      have HN := Lib.hid (show fitB s[k] f[k] = false → ((List.range n).all fun i => fitB (s.data.toList.getD i 0) (f.data.toList.getD i 0)) = false from fun h => by
        rw [← Bool.not_eq_true, List.all_eq_true]
        intro h2
        have h3 := h2 k (List.mem_range.2 hlt)
        rw [HG.out, HH.out, h] at h3; cases h3)
      clear hsucc
      by_cases hz : ((f[k].toNat : Nat) : Int) = 48
      · have e1 : (((f[k].toNat : Nat) : Int) == 48) = true := beq_iff_eq.2 hz
        have e4 : (((f[k].toNat : Nat) : Int) != 48) = false := by rw [hz]; rfl
        have HD := Lib.hid (fit_digit (b := s[k]) hz)
        by_cases h1 : ((s[k].toNat : Nat) : Int) < 48
        · have e2 : decide (((s[k].toNat : Nat) : Int) < 48) = true := decide_eq_true h1
          have HX := Lib.hid (HN.out (by rw [HD.out, decide_eq_false (by omega), Bool.false_and]))
          clear hz h1
          go_wp2_with fail
          go_quiet (fail)
          go_wp2_with fail
          go_ret
          exact ⟨by rw [HF.out, HX.out]; rfl, bdraw HB.out _⟩
        · have e2 : decide (((s[k].toNat : Nat) : Int) < 48) = false := decide_eq_false h1
          by_cases h2 : (57 : Int) < ((s[k].toNat : Nat) : Int)
          · have e3 : decide ((57 : Int) < ((s[k].toNat : Nat) : Int)) = true := decide_eq_true h2
            have HX := Lib.hid (HN.out (by rw [HD.out, decide_eq_false (show ¬ ((s[k].toNat : Nat) : Int) ≤ 57 by omega), Bool.and_false]))
            clear hz h1 h2
            go_wp2_with fail
            go_quiet (fail)
            go_wp2_with fail
            go_ret
            exact ⟨by rw [HF.out, HX.out]; rfl, bdraw HB.out _⟩
          · have e3 : decide ((57 : Int) < ((s[k].toNat : Nat) : Int)) = false := decide_eq_false h2
            have HX := Lib.hid (show ((List.range (k + 1)).all fun i => fitB (s.data.toList.getD i 0) (f.data.toList.getD i 0)) = true by rw [HS.out, HD.out, decide_eq_true (show (48 : Int) ≤ ((s[k].toNat : Nat) : Int) by omega), decide_eq_true (show ((s[k].toNat : Nat) : Int) ≤ 57 by omega)]; rfl)
            clear hz h1 h2
            go_wp2_with fail
            go_quiet (fail)
            go_wp2_with fail
            go_roundw
            case rel => exact ⟨k + 1, by omega, by go_num, HX.out, bdraw HB.out _⟩
            case measure => simp [intOf]; omega
      · have e1 : (((f[k].toNat : Nat) : Int) == 48) = false := beq_eq_false_iff_ne.2 hz
        have e4 : (((f[k].toNat : Nat) : Int) != 48) = true := by rw [bne_iff_ne]; exact hz
        have HD := Lib.hid (fit_same (b := s[k]) hz)
        by_cases h1 : ((s[k].toNat : Nat) : Int) = ((f[k].toNat : Nat) : Int)
        · have e5 : (((s[k].toNat : Nat) : Int) != ((f[k].toNat : Nat) : Int)) = false := by rw [h1]; exact bne_self_eq_false _
          have HX := Lib.hid (show ((List.range (k + 1)).all fun i => fitB (s.data.toList.getD i 0) (f.data.toList.getD i 0)) = true by rw [HS.out, HD.out, decide_eq_true h1])
          clear hz h1
          go_wp2_with fail
          go_quiet (fail)
          go_wp2_with fail
          go_roundw
          case rel => exact ⟨k + 1, by omega, by go_num, HX.out, bdraw HB.out _⟩
          case measure => simp [intOf]; omega
        · have e5 : (((s[k].toNat : Nat) : Int) != ((f[k].toNat : Nat) : Int)) = true := by rw [bne_iff_ne]; exact h1
          have HX := Lib.hid (HN.out (by rw [HD.out, decide_eq_false h1]))
          clear hz h1
          go_wp2_with fail
          go_quiet (fail)
          go_wp2_with fail
          go_ret
          exact ⟨by rw [HF.out, HX.out]; rfl, bdraw HB.out _⟩
    · obtain rfl : k = n := by omega
      go_wp2_with fail
      go_ret
      exact ⟨by rw [HF.out, HA.out]; rfl, HB.out⟩

set_option maxHeartbeats 400000 in
theorem rformed_ne (s f : ByteArray) (w : World) (hf : f.size ≠ s.size) :
    Calls Tryd.prog 47 #[.string s, .string f] w fun e w' => e = .returned (.bool (formL s.data.toList f.data.toList)) ∧ Below w.heap.size w w' := by
  have HF := Lib.hid (show formL s.data.toList f.data.toList = false by unfold formL; rw [← Lib.size_eq, ← Lib.size_eq, decide_eq_false (fun h => hf h.symm), Bool.false_and])
  have t1 : ((s.size : Int) != (f.size : Int)) = true := by rw [bne_iff_ne]; omega
  clear hf
  go_enter Tryd.func47, Tryd.ntmps47
  go_wp2_with fail
  go_ret
  exact ⟨by rw [HF.out]; rfl, Below.refl _ _⟩
theorem rformed_any (s f : ByteArray) (w : World) (hs : s.size ≤ 100) :
    Calls Tryd.prog 47 #[.string s, .string f] w fun e w' => e = .returned (.bool (formL s.data.toList f.data.toList)) ∧ Below w.heap.size w w' := by
  by_cases h : f.size = s.size
  · exact rformed_eq s f w hs h
  · exact rformed_ne s f w h

theorem numF_snoc (l : List UInt8) (c : UInt8) : numF 0 (l ++ [c]) = 10 * numF 0 l + (c.toNat - 48) := by unfold numF; rw [List.foldl_append]; rfl
theorem take_snoc (s : ByteArray) (k : Nat) (h : k < s.size) : s.data.toList.take (k + 1) = s.data.toList.take k ++ [s[k]] := by
  rw [List.take_succ_eq_append_getElem (by rw [← Lib.size_eq]; exact h)]; rfl
theorem digs_take (l : List UInt8) (k : Nat) (h : digs l = true) : digs (l.take k) = true := by
  unfold digs at h ⊢
  rw [List.all_eq_true] at h ⊢
  exact fun x hx => h x (List.mem_of_mem_take hx)
theorem digs_at (s : ByteArray) (k : Nat) (hk : k < s.size) (h : digs s.data.toList = true) : (48 : Int) ≤ ((s[k].toNat : Nat) : Int) ∧ ((s[k].toNat : Nat) : Int) ≤ 57 := by
  unfold digs at h
  rw [List.all_eq_true] at h
  have := h s[k] (List.getElem_mem (by rw [← Lib.size_eq]; exact hk))
  rw [Bool.and_eq_true, decide_eq_true_eq, decide_eq_true_eq] at this
  omega

set_option maxHeartbeats 1000000 in
theorem rnumber_any (s : ByteArray) (w : World) (hs : s.size ≤ 4) (hd : digs s.data.toList = true) :
    Calls Tryd.prog 48 #[.string s] w fun e w' => e = .returned (.int .i64 (numL s.data.toList : Nat)) ∧ w = w' := by
  have HD := Lib.hid hd
  clear hd
  go_enter Tryd.func48, Tryd.ntmps48
  go_wp2_with fail
  go_loop [3, 4] (fun n i => ∃ k : Nat, k ≤ s.size ∧ i = .int .i64 k ∧ n = .int .i64 ((numF 0 (s.data.toList.take k) : Nat) : Int)) (fun _ i => s.size - (intOf i).toNat)
  case atStart => exact ⟨0, Nat.zero_le _, rfl, rfl⟩
  case round =>
    obtain ⟨k, hk, rfl, rfl⟩ := hrel
    by_cases hlt : k < s.size
    · have h1 := digs_at s k hlt HD.out
      have hb := numL_lt (s.data.toList.take k) 4 (digs_take _ _ HD.out) (by rw [List.length_take]; omega) (by omega)
      change 0 ≤ ((numF 0 (s.data.toList.take k) : Nat) : Int) ∧ ((numF 0 (s.data.toList.take k) : Nat) : Int) < 10000 at hb
      have hsn := numF_snoc (s.data.toList.take k) s[k]
      rw [← take_snoc s k hlt] at hsn
      obtain ⟨a, ha⟩ : ∃ a, a = numF 0 (s.data.toList.take k) := ⟨_, rfl⟩
      rw [← ha] at hsn hb ⊢
      have HS := Lib.hid (show ((numF 0 (s.data.toList.take (k + 1)) : Nat) : Int) = 10 * (a : Int) + ((s[k].toNat : Nat) - 48) by rw [hsn]; omega)
      clear ha hsn
      go_wp2_with fail
      go_round
      case rel => exact ⟨k + 1, by omega, by go_num, by rw [HS.out]⟩
      case measure => simp [intOf]; omega
    · obtain rfl : k = s.size := by omega
      have HE := Lib.hid (show s.data.toList.take s.size = s.data.toList by rw [Lib.size_eq]; exact List.take_length)
      go_wp2_with fail
      go_ret
      exact ⟨ret_int (by rw [HE.out]; rfl), rfl⟩

set_option maxHeartbeats 1000000 in
theorem rparseClock_any (s : ByteArray) (w : World) (hs : s.size ≤ 100) :
    Calls Tryd.prog 35 #[.string s] w fun e w' => e = .returned (.tuple #[.int .i64 (clockR s.data.toList).1, .int .i64 (clockR s.data.toList).2]) ∧ Below w.heap.size w w' := by
  have H := rformed_any s ⟨#[48, 48, 58, 48, 48]⟩ w hs
  change Calls Tryd.prog 47 _ w (fun e w' => e = .returned (.bool (formL s.data.toList clockF)) ∧ Below w.heap.size w w') at H
  cases h : formL s.data.toList clockF
  · rw [h] at H
    have hR : clockR s.data.toList = (0, 2) := by unfold clockR; rw [h]; rfl
    rw [hR]
    have H := Lib.hid H
    clear h hR
    go_enter Tryd.func35, Tryd.ntmps35
    go_wp2_with fail
    refine H.out.mono ?_
    rintro e w1 ⟨rfl, hb⟩
    have B := Lib.hid hb
    clear hb
    go_wp2_with fail
    go_ret2
    exact ⟨rfl, B.out⟩
  · rw [h] at H
    obtain ⟨_, _, d0, d1, hl⟩ := clock_vals s h
    have r0 := numL_lt _ 2 d0 (by rw [List.length_take]; omega) (by omega)
    have r1 := numL_lt _ 2 d1 (by rw [List.length_drop]; omega) (by omega)
    have hR : clockR s.data.toList = if hh s.data.toList < 24 ∧ mm s.data.toList < 60 then (hh s.data.toList * 60 + mm s.data.toList, 0) else (0, 6) := by unfold clockR; rw [if_pos h]
    rw [hR]
    have s5 : s.size = 5 := by rw [Lib.size_eq]; exact hl
    have e0 : (s.extract 0 2).data.toList = s.data.toList.take 2 := Lib.extract_from_zero s 2
    have e1 : (s.extract 3 s.size).data.toList = s.data.toList.drop 3 := Lib.extract_to_end s 3
    have z0 : (s.extract 0 2).size = 2 := by rw [Lib.size_eq, e0, List.length_take, hl]; rfl
    have z1 : (s.extract 3 s.size).size = 2 := by rw [Lib.size_eq, e1, List.length_drop, hl]
    have N0 := fun w => rnumber_any (s.extract 0 2) w (by omega) (by rw [e0]; exact d0)
    have N1 := fun w => rnumber_any (s.extract 3 s.size) w (by omega) (by rw [e1]; exact d1)
    rw [e0] at N0
    rw [e1] at N1
    change 0 ≤ hh s.data.toList ∧ hh s.data.toList < 10000 at r0
    change 0 ≤ mm s.data.toList ∧ mm s.data.toList < 10000 at r1
    change ∀ w, Calls Tryd.prog 48 #[.string (s.extract 0 2)] w (fun e w' => e = .returned (.int .i64 (hh s.data.toList)) ∧ w = w') at N0
    change ∀ w, Calls Tryd.prog 48 #[.string (s.extract 3 s.size)] w (fun e w' => e = .returned (.int .i64 (mm s.data.toList)) ∧ w = w') at N1
    obtain ⟨x, hx⟩ : ∃ x, x = hh s.data.toList := ⟨_, rfl⟩
    obtain ⟨y, hy⟩ : ∃ y, y = mm s.data.toList := ⟨_, rfl⟩
    rw [← hx] at r0 N0 ⊢
    rw [← hy] at r1 N1 ⊢
    rw [s5] at N1
    obtain ⟨S, hS⟩ : ∃ S, S = s.extract 0 2 := ⟨_, rfl⟩
    obtain ⟨T, hT⟩ : ∃ S, S = s.extract 3 5 := ⟨_, rfl⟩
    rw [← hS] at N0
    rw [← hT] at N1
    have f1 : s.extract 0 2 = S := hS.symm
    have f2 : s.extract 3 5 = T := hT.symm
    have N0 := Lib.hid N0
    have N1 := Lib.hid N1
    have H := Lib.hid H
    clear d0 d1 hl hR hx hy h e0 e1 z0 z1 hS hT
    rcases (by omega : 24 ≤ x ∨ (x < 24 ∧ 60 ≤ y) ∨ (x < 24 ∧ y < 60)) with hc | ⟨hc1, hc2⟩ | ⟨hc1, hc2⟩
    · rw [if_neg (by omega)]
      have q1 : decide ((23 : Int) < x) = true := decide_eq_true (by omega)
      clear hc
      go_enter Tryd.func35, Tryd.ntmps35
      go_wp2_with fail
      refine H.out.mono ?_
      rintro e w1 ⟨rfl, hb⟩
      have B := Lib.hid hb
      clear hb
      go_wp2_with fail
      go_quiet ((first | (go_at_call_of 48 (Value.string S); exact Calls.quiet_of_same ((N0.out _).mono fun e w' h => ⟨h.1, h.2.symm⟩)) | (go_at_call 48; exact Calls.quiet_of_same ((N1.out _).mono fun e w' h => ⟨h.1, h.2.symm⟩))))
      go_wp2_with fail
      go_ret2
      exact ⟨rfl, bdraw B.out _⟩
    · rw [if_neg (by omega)]
      have q1 : decide ((23 : Int) < x) = false := decide_eq_false (by omega)
      have q2 : decide ((59 : Int) < y) = true := decide_eq_true (by omega)
      clear hc1 hc2
      go_enter Tryd.func35, Tryd.ntmps35
      go_wp2_with fail
      refine H.out.mono ?_
      rintro e w1 ⟨rfl, hb⟩
      have B := Lib.hid hb
      clear hb
      go_wp2_with fail
      go_quiet ((first | (go_at_call_of 48 (Value.string S); exact Calls.quiet_of_same ((N0.out _).mono fun e w' h => ⟨h.1, h.2.symm⟩)) | (go_at_call 48; exact Calls.quiet_of_same ((N1.out _).mono fun e w' h => ⟨h.1, h.2.symm⟩))))
      go_wp2_with fail
      go_ret2
      exact ⟨rfl, bdraw B.out _⟩
    · rw [if_pos ⟨hc1, hc2⟩]
      have q1 : decide ((23 : Int) < x) = false := decide_eq_false (by omega)
      have q2 : decide ((59 : Int) < y) = false := decide_eq_false (by omega)
      go_enter Tryd.func35, Tryd.ntmps35
      go_wp2_with fail
      refine H.out.mono ?_
      rintro e w1 ⟨rfl, hb⟩
      have B := Lib.hid hb
      clear hb
      go_wp2_with fail
      go_quiet ((first | (go_at_call_of 48 (Value.string S); exact Calls.quiet_of_same ((N0.out _).mono fun e w' h => ⟨h.1, h.2.symm⟩)) | (go_at_call 48; exact Calls.quiet_of_same ((N1.out _).mono fun e w' h => ⟨h.1, h.2.symm⟩))))
      go_wp2_with fail
      go_ret2
      exact ⟨by rw [show 60 * x + y = x * 60 + y by omega]; rfl, bdraw B.out _⟩

set_option maxHeartbeats 2000000 in
theorem rparse_ok (s : ByteArray) (w : World) (hs : s.size ≤ 100) (h : formL s.data.toList dateF = true) (hk : checkI (dY s.data.toList) (dM s.data.toList) (dD s.data.toList) = 0) :
    Calls Tryd.prog 33 #[.string s] w fun e w' => e = .returned (.tuple #[dateV (dY s.data.toList) (dM s.data.toList) (dD s.data.toList), .int .i64 0]) ∧ Below w.heap.size w w' := by
  have H := fun w => rformed_any s ⟨#[48, 48, 48, 48, 45, 48, 48, 45, 48, 48]⟩ w hs
  change ∀ w, Calls Tryd.prog 47 _ w (fun e w' => e = .returned (.bool (formL s.data.toList dateF)) ∧ Below w.heap.size w w') at H
  rw [h] at H
  obtain ⟨_, _, _, d0, d1, d2, hl⟩ := date_vals s h
  have s5 : s.size = 10 := by rw [Lib.size_eq]; exact hl
  have e0 : (s.extract 0 4).data.toList = s.data.toList.take 4 := Lib.extract_from_zero s 4
  have e1 : (s.extract 5 7).data.toList = (s.data.toList.take 7).drop 5 := by rw [Lib.extract_data]; simp [List.drop_take]
  have e2 : (s.extract 8 10).data.toList = s.data.toList.drop 8 := by rw [← s5]; exact Lib.extract_to_end s 8
  have z0 : (s.extract 0 4).size = 4 := by rw [Lib.size_eq, e0, List.length_take, hl]; rfl
  have z1 : (s.extract 5 7).size = 2 := by rw [Lib.size_eq, e1, List.length_drop, List.length_take, hl]; rfl
  have z2 : (s.extract 8 10).size = 2 := by rw [Lib.size_eq, e2, List.length_drop, hl]
  have N0 := fun w => rnumber_any (s.extract 0 4) w (by omega) (by rw [e0]; exact d0)
  have N1 := fun w => rnumber_any (s.extract 5 7) w (by omega) (by rw [e1]; exact d1)
  have N2 := fun w => rnumber_any (s.extract 8 10) w (by omega) (by rw [e2]; exact d2)
  rw [e0] at N0
  rw [e1] at N1
  rw [e2] at N2
  change ∀ w, Calls Tryd.prog 48 #[.string (s.extract 0 4)] w (fun e w' => e = .returned (.int .i64 (dY s.data.toList)) ∧ w = w') at N0
  change ∀ w, Calls Tryd.prog 48 #[.string (s.extract 5 7)] w (fun e w' => e = .returned (.int .i64 (dM s.data.toList)) ∧ w = w') at N1
  change ∀ w, Calls Tryd.prog 48 #[.string (s.extract 8 10)] w (fun e w' => e = .returned (.int .i64 (dD s.data.toList)) ∧ w = w') at N2
  obtain ⟨y, hy⟩ : ∃ y, y = dY s.data.toList := ⟨_, rfl⟩
  obtain ⟨m, hm⟩ : ∃ y, y = dM s.data.toList := ⟨_, rfl⟩
  obtain ⟨d, hd⟩ : ∃ y, y = dD s.data.toList := ⟨_, rfl⟩
  rw [← hy] at N0
  rw [← hm] at N1
  rw [← hd] at N2
  rw [← hy, ← hm, ← hd] at hk ⊢
  have HC := Lib.hid fun w' => rcheck_any y m d w'
  obtain ⟨z, hz⟩ : ∃ z, z = checkI y m d := ⟨_, rfl⟩
  rw [← hz] at HC hk
  rw [hk] at HC
  clear hk
  obtain ⟨S, hS⟩ : ∃ S, S = s.extract 0 4 := ⟨_, rfl⟩
  obtain ⟨T, hT⟩ : ∃ S, S = s.extract 5 7 := ⟨_, rfl⟩
  obtain ⟨U, hU⟩ : ∃ S, S = s.extract 8 10 := ⟨_, rfl⟩
  rw [← hS] at N0
  rw [← hT] at N1
  rw [← hU] at N2
  have f1 : s.extract 0 4 = S := hS.symm
  have f2 : s.extract 5 7 = T := hT.symm
  have f3 : s.extract 8 10 = U := hU.symm
  have N0 := Lib.hid N0
  have N1 := Lib.hid N1
  have N2 := Lib.hid N2
  have H := Lib.hid H
  clear d0 d1 d2 hl hy hm hd hz h e0 e1 e2 z0 z1 z2 hS hT hU
  go_enter Tryd.func33, Tryd.ntmps33
  go_wp2_with fail
  refine (H.out _).mono ?_
  rintro e w1 ⟨rfl, hb⟩
  have HR : DateAt w1 w.heap.size 0 0 0 := DateAt.keep ⟨by simp, by simp, by simp, by simp⟩ hb
  have B := Lib.hid (((Below.refl w.heap.size w).alloc (Nat.le_refl _) _).trans (hb.mono (by simp)))
  have HRR := Lib.hid HR
  clear hb HR
  go_wp2_with fail
  go_region_held3 (fun _ => True) (first | exact True.intro)
    (first | (go_at_call_of 48 (Value.string S); refine (N0.out _).mono ?_; rintro e w' ⟨rfl, rfl⟩) | (go_at_call_of 48 (Value.string T); refine (N1.out _).mono ?_; rintro e w' ⟨rfl, rfl⟩) | (go_at_call 48; refine (N2.out _).mono ?_; rintro e w' ⟨rfl, rfl⟩))
  all_goals
    rename_i hHeld
    clear hHeld
    go_wp2_with fail
    have B1 : Below w.heap.size w (w1.alloc (Obj.cells #[.int .i64 y, .int .i64 m, .int .i64 d] 23)).drew := (B.out.alloc B.out.size _).trans (below_drewN _ _ 1)
    have D1 : DateAt (w1.alloc (Obj.cells #[.int .i64 y, .int .i64 m, .int .i64 d] 23)).drew w1.heap.size y m d := ⟨by simp, by simp, by simp, by simp⟩
    have R1 : DateAt (w1.alloc (Obj.cells #[.int .i64 y, .int .i64 m, .int .i64 d] 23)).drew w.heap.size 0 0 0 := HRR.out.keep (((Below.refl _ _).alloc (Nat.le_refl _) _).trans (below_drewN _ _ 1))
    refine (HC.out _).mono ?_
    rintro e w2 ⟨rfl, hb2⟩
    have HD2 := Lib.hid (D1.keep hb2)
    have HR2 := Lib.hid (R1.keep hb2)
    have B2 := Lib.hid (B1.trans (hb2.mono B1.size))
    have e0 := HD2.out.c0
    have e1 := HD2.out.c1
    have e2 := HD2.out.c2
    have s0 := HR2.out.c0
    have s1 := HR2.out.c1
    have s2 := HR2.out.c2
    have fz := HR2.out.fz
    clear hb2 B1 D1 R1
    have y0 := ((HR2.out.set0 y)).c0
    have y1 := ((HR2.out.set0 y).set1 m).c1
    have y2 := (((HR2.out.set0 y).set1 m).set2 d).c2
    go_wp2_with fail
    refine bodyPost_ret (v := .tuple #[dateV y m d, .int .i64 0]) (by simp [results, Tryd.results33, go_sem, y0, y1, y2]) rfl ⟨rfl, ?_⟩
    exact ((B2.out.setCell (Nat.le_refl _) _).setCell (Nat.le_refl _) _).setCell (Nat.le_refl _) _

set_option maxHeartbeats 2000000 in
theorem rparse_bad (s : ByteArray) (w : World) (hs : s.size ≤ 100) (h : formL s.data.toList dateF = true) (hk : checkI (dY s.data.toList) (dM s.data.toList) (dD s.data.toList) ≠ 0) :
    Calls Tryd.prog 33 #[.string s] w fun e w' => e = .returned (.tuple #[dateV 0 0 0, .int .i64 (checkI (dY s.data.toList) (dM s.data.toList) (dD s.data.toList))]) ∧ Below w.heap.size w w' := by
  have H := fun w => rformed_any s ⟨#[48, 48, 48, 48, 45, 48, 48, 45, 48, 48]⟩ w hs
  change ∀ w, Calls Tryd.prog 47 _ w (fun e w' => e = .returned (.bool (formL s.data.toList dateF)) ∧ Below w.heap.size w w') at H
  rw [h] at H
  obtain ⟨_, _, _, d0, d1, d2, hl⟩ := date_vals s h
  have s5 : s.size = 10 := by rw [Lib.size_eq]; exact hl
  have e0 : (s.extract 0 4).data.toList = s.data.toList.take 4 := Lib.extract_from_zero s 4
  have e1 : (s.extract 5 7).data.toList = (s.data.toList.take 7).drop 5 := by rw [Lib.extract_data]; simp [List.drop_take]
  have e2 : (s.extract 8 10).data.toList = s.data.toList.drop 8 := by rw [← s5]; exact Lib.extract_to_end s 8
  have z0 : (s.extract 0 4).size = 4 := by rw [Lib.size_eq, e0, List.length_take, hl]; rfl
  have z1 : (s.extract 5 7).size = 2 := by rw [Lib.size_eq, e1, List.length_drop, List.length_take, hl]; rfl
  have z2 : (s.extract 8 10).size = 2 := by rw [Lib.size_eq, e2, List.length_drop, hl]
  have N0 := fun w => rnumber_any (s.extract 0 4) w (by omega) (by rw [e0]; exact d0)
  have N1 := fun w => rnumber_any (s.extract 5 7) w (by omega) (by rw [e1]; exact d1)
  have N2 := fun w => rnumber_any (s.extract 8 10) w (by omega) (by rw [e2]; exact d2)
  rw [e0] at N0
  rw [e1] at N1
  rw [e2] at N2
  change ∀ w, Calls Tryd.prog 48 #[.string (s.extract 0 4)] w (fun e w' => e = .returned (.int .i64 (dY s.data.toList)) ∧ w = w') at N0
  change ∀ w, Calls Tryd.prog 48 #[.string (s.extract 5 7)] w (fun e w' => e = .returned (.int .i64 (dM s.data.toList)) ∧ w = w') at N1
  change ∀ w, Calls Tryd.prog 48 #[.string (s.extract 8 10)] w (fun e w' => e = .returned (.int .i64 (dD s.data.toList)) ∧ w = w') at N2
  obtain ⟨y, hy⟩ : ∃ y, y = dY s.data.toList := ⟨_, rfl⟩
  obtain ⟨m, hm⟩ : ∃ y, y = dM s.data.toList := ⟨_, rfl⟩
  obtain ⟨d, hd⟩ : ∃ y, y = dD s.data.toList := ⟨_, rfl⟩
  rw [← hy] at N0
  rw [← hm] at N1
  rw [← hd] at N2
  rw [← hy, ← hm, ← hd] at hk ⊢
  have HC := Lib.hid fun w' => rcheck_any y m d w'
  obtain ⟨z, hz⟩ : ∃ z, z = checkI y m d := ⟨_, rfl⟩
  rw [← hz] at HC hk ⊢
  have t0 : (z != 0) = true := by rw [bne_iff_ne]; exact hk
  clear hk
  obtain ⟨S, hS⟩ : ∃ S, S = s.extract 0 4 := ⟨_, rfl⟩
  obtain ⟨T, hT⟩ : ∃ S, S = s.extract 5 7 := ⟨_, rfl⟩
  obtain ⟨U, hU⟩ : ∃ S, S = s.extract 8 10 := ⟨_, rfl⟩
  rw [← hS] at N0
  rw [← hT] at N1
  rw [← hU] at N2
  have f1 : s.extract 0 4 = S := hS.symm
  have f2 : s.extract 5 7 = T := hT.symm
  have f3 : s.extract 8 10 = U := hU.symm
  have N0 := Lib.hid N0
  have N1 := Lib.hid N1
  have N2 := Lib.hid N2
  have H := Lib.hid H
  clear d0 d1 d2 hl hy hm hd hz h e0 e1 e2 z0 z1 z2 hS hT hU
  go_enter Tryd.func33, Tryd.ntmps33
  go_wp2_with fail
  refine (H.out _).mono ?_
  rintro e w1 ⟨rfl, hb⟩
  have HR : DateAt w1 w.heap.size 0 0 0 := DateAt.keep ⟨by simp, by simp, by simp, by simp⟩ hb
  have B := Lib.hid (((Below.refl w.heap.size w).alloc (Nat.le_refl _) _).trans (hb.mono (by simp)))
  have HRR := Lib.hid HR
  clear hb HR
  go_wp2_with fail
  go_region_held3 (fun _ => True) (first | exact True.intro)
    (first | (go_at_call_of 48 (Value.string S); refine (N0.out _).mono ?_; rintro e w' ⟨rfl, rfl⟩) | (go_at_call_of 48 (Value.string T); refine (N1.out _).mono ?_; rintro e w' ⟨rfl, rfl⟩) | (go_at_call 48; refine (N2.out _).mono ?_; rintro e w' ⟨rfl, rfl⟩))
  all_goals
    rename_i hHeld
    clear hHeld
    go_wp2_with fail
    have B1 : Below w.heap.size w (w1.alloc (Obj.cells #[.int .i64 y, .int .i64 m, .int .i64 d] 23)).drew := (B.out.alloc B.out.size _).trans (below_drewN _ _ 1)
    have D1 : DateAt (w1.alloc (Obj.cells #[.int .i64 y, .int .i64 m, .int .i64 d] 23)).drew w1.heap.size y m d := ⟨by simp, by simp, by simp, by simp⟩
    have R1 : DateAt (w1.alloc (Obj.cells #[.int .i64 y, .int .i64 m, .int .i64 d] 23)).drew w.heap.size 0 0 0 := HRR.out.keep (((Below.refl _ _).alloc (Nat.le_refl _) _).trans (below_drewN _ _ 1))
    refine (HC.out _).mono ?_
    rintro e w2 ⟨rfl, hb2⟩
    have HD2 := Lib.hid (D1.keep hb2)
    have HR2 := Lib.hid (R1.keep hb2)
    have B2 := Lib.hid (B1.trans (hb2.mono B1.size))
    have e0 := HD2.out.c0
    have e1 := HD2.out.c1
    have e2 := HD2.out.c2
    have s0 := HR2.out.c0
    have s1 := HR2.out.c1
    have s2 := HR2.out.c2
    have fz := HR2.out.fz
    clear hb2 B1 D1 R1
    have y0 := ((HR2.out.set0 0)).c0
    have y1 := ((HR2.out.set0 0).set1 0).c1
    have y2 := (((HR2.out.set0 0).set1 0).set2 0).c2
    go_wp2_with fail
    refine bodyPost_ret (v := .tuple #[dateV 0 0 0, .int .i64 z]) (by simp [results, Tryd.results33, go_sem, y0, y1, y2]) rfl ⟨rfl, ?_⟩
    exact ((B2.out.setCell (Nat.le_refl _) _).setCell (Nat.le_refl _) _).setCell (Nat.le_refl _) _

set_option maxHeartbeats 1000000 in
theorem rparse_syn (s : ByteArray) (w : World) (hs : s.size ≤ 100) (h : formL s.data.toList dateF = false) :
    Calls Tryd.prog 33 #[.string s] w fun e w' => e = .returned (.tuple #[dateV 0 0 0, .int .i64 2]) ∧ Below w.heap.size w w' := by
  have H := fun w => rformed_any s ⟨#[48, 48, 48, 48, 45, 48, 48, 45, 48, 48]⟩ w hs
  change ∀ w, Calls Tryd.prog 47 _ w (fun e w' => e = .returned (.bool (formL s.data.toList dateF)) ∧ Below w.heap.size w w') at H
  rw [h] at H
  have H := Lib.hid H
  clear h
  go_enter Tryd.func33, Tryd.ntmps33
  go_wp2_with fail
  refine (H.out _).mono ?_
  rintro e w1 ⟨rfl, hb⟩
  have HR : DateAt w1 w.heap.size 0 0 0 := DateAt.keep ⟨by simp, by simp, by simp, by simp⟩ hb
  have y0 := (HR.set0 0).c0
  have y1 := ((HR.set0 0).set1 0).c1
  have y2 := (((HR.set0 0).set1 0).set2 0).c2
  have s0 := HR.c0
  have s1 := HR.c1
  have s2 := HR.c2
  have fz := HR.fz
  have B := Lib.hid (((Below.refl w.heap.size w).alloc (Nat.le_refl _) _).trans (hb.mono (by simp)))
  clear hb HR
  go_wp2_with fail
  refine bodyPost_ret (v := .tuple #[dateV 0 0 0, .int .i64 2]) (by simp [results, Tryd.results33, go_sem, y0, y1, y2]) rfl ⟨rfl, ?_⟩
  exact ((B.out.setCell (Nat.le_refl _) _).setCell (Nat.le_refl _) _).setCell (Nat.le_refl _) _
end Go.Proofs.YtnlkalnpmnnadaaDoor
