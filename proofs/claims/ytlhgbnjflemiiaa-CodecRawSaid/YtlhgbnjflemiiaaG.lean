/- Contracts of the Writer's Data, List, Text. -/
import Derived.Test.YtlhgbnjflemiiaaF
namespace Go.Proofs.Ytlhgbnjflemiiaa
open Go.RowKit

theorem Own.str {B A : Nat} {w : World} {ao : Option Addr} {n c : Nat} {bs : List UInt8} (h : Own B A w (.slice ao n c) bs) :
    (convert 26 9 (.slice ao n c)).run Try.prog w = .ok (.string ⟨bs.toArray⟩) w := by
  rcases h with ⟨hv, rfl⟩ | ⟨g, cap, hv, _, _, _, _, _, hc, _⟩
  · injection hv with h1 h2 h3; subst h1 h2 h3
    exact run_convert_bytes_nil _ 26 5 Try.underlying26 Try.underlying5 0 0 9 Try.underlying9
  · injection hv with h1 h2 h3; subst h1 h2 h3
    refine run_convert_bytes_back w 26 9 5 _ c bs Try.underlying26 Try.underlying5 Try.underlying9 (fun j hj => ?_)
    rw [Addr.add_lit, Nat.zero_add, hc j hj]
    unfold u8s
    rw [List.getElem?_map, List.getElem?_eq_getElem hj]
    rfl

set_option maxHeartbeats 400000 in
theorem data_any (B A : Nat) (bs : List UInt8) (w : World) (h : Wr B w A bs) :
    Calls Try.prog 12 #[.pointer (some ⟨A, 0, none⟩)] w fun e w' => e = .returned (.string ⟨bs.toArray⟩) ∧ w = w' := by
  obtain ⟨ao, c, hv, hown⟩ := h.val
  have hrun := hown.str
  clear hown h
  go_enter Try.func12, Try.ntmps12
  go_wp2
  go_ret
  exact ⟨rfl, rfl⟩

set_option maxHeartbeats 400000 in
theorem list_no (A : Nat) (n : Int) (w : World) (h : n < 0 ∨ 65535 < n) :
    Calls Try.prog 33 #[.pointer (some ⟨A, 0, none⟩), .int .i64 n] w fun e w' => e = .returned (.int .i64 6) ∧ w = w' := by
  rcases h with h | h
  · go_enter Try.func33, Try.ntmps33
    go_wp2
    go_ret
    exact ⟨rfl, rfl⟩
  · have h0 : ¬ n < 0 := by omega
    have hd : decide (n < 0) = false := by simp; omega
    go_enter Try.func33, Try.ntmps33
    go_wp2
    go_ret
    exact ⟨rfl, rfl⟩

set_option maxHeartbeats 400000 in
theorem list_yes (B A : Nat) (bs : List UInt8) (n : Nat) (w : World) (h : Wr B w A bs) (hfit : bs.length + 10 ≤ 140737488355328) (hn : n ≤ 65535) :
    Calls Try.prog 33 #[.pointer (some ⟨A, 0, none⟩), .int .i64 n] w fun e w' => e = .returned (.int .i64 0) ∧ Wr B w' A (bs ++ 64 :: num 16 n (usz n)) ∧ Below B w w' ∧ Keep A w w' := by
  obtain ⟨i0, hi, hz0, hz1, hz2⟩ := info_parts Try.info5
  obtain ⟨ao0, c0, hv, hown⟩ := h.val
  have hlo := h.lo; have hhi := h.hi; have hfz := h.fz
  have hd : decide ((n : Int) < 0) = false := by simp
  go_enter Try.func33, Try.ntmps33
  go_wp2_with (at_builtin; refine wpList_app B A _ rfl (.tmp 15) (.tmp 16) 26 26 rfl 5 i0 Try.underlying26 hi hz0 hz1 hz2 _ bs rfl (hown.kept (by simp) ?k1) _ [64] rfl (Src.ofSlice _ Try.underlying26 ⟨w.heap.size, 0, none⟩ 1 1 _ rfl (cells_one rfl) ?k2) (by simp; omega) (by simp; omega) (by simp; omega) ?k3)
  case k1 => exact fun g _ _ hg => Below.heap_alloc _ _ _ hg
  case k2 => exact one_u8s
  case k3 =>
    intro ao c w1 happ
    obtain ⟨k0, f0, s0, e0, e1⟩ := happ.head hown hhi hv hfz
    have Hw := Lib.hid (h.stored (by simp) happ.own e0 e1 s0)
    have Hkp := Lib.hid (Keep.stored ((Below.refl _ w).alloc (Nat.le_refl _) _) hhi hv happ k0)
    have Hb : Hid (Below B w (w1.setCell ⟨A, 0, none⟩ (.slice ao (bs.length + 1) c))) := (((Below.refl B w).alloc (by omega) _).trans happ.below).setCell hlo _
    have H := Lib.hid (unsigned_any B A (bs ++ [64]) n _ Hw.out (by simp; omega) (by omega))
    clear happ e0 e1 h hv hfz hown
    go_wp2_with (first | (go_at_call 38; refine H.out.mono ?_; rintro e w2 ⟨rfl, hw, hb, hkp⟩))
    go_ret
    refine ⟨rfl, ?_, Hb.out.trans hb, Hkp.out.trans hkp⟩
    rw [List.append_assoc] at hw
    exact hw

/-- the bytes of a string -/
def sb (s : ByteArray) : List UInt8 := s.data.toList
theorem sb_length (s : ByteArray) : (sb s).length = s.size := size_len s

set_option maxHeartbeats 400000 in
theorem text_no (A : Nat) (s : ByteArray) (w : World) (h : 65535 < s.size) (hs : s.size ≤ 9223372036854775807) :
    Calls Try.prog 35 #[.pointer (some ⟨A, 0, none⟩), .string s] w fun e w' => e = .returned (.int .i64 7) ∧ w = w' := by
  go_enter Try.func35, Try.ntmps35
  go_wp2
  go_ret
  exact ⟨rfl, rfl⟩

set_option maxHeartbeats 800000 in
theorem text_yes (B A : Nat) (bs : List UInt8) (s : ByteArray) (w : World) (h : Wr B w A bs) (hfit : bs.length + 10 + s.size ≤ 140737488355328) (hn : s.size ≤ 65535) :
    Calls Try.prog 35 #[.pointer (some ⟨A, 0, none⟩), .string s] w fun e w' => e = .returned (.int .i64 0) ∧ Wr B w' A (bs ++ (48 :: num 16 s.size (usz s.size) ++ sb s)) ∧ Below B w w' ∧ Keep A w w' := by
  obtain ⟨i0, hi, hz0, hz1, hz2⟩ := info_parts Try.info5
  obtain ⟨ao0, c0, hv, hown⟩ := h.val
  have hlo := h.lo; have hhi := h.hi; have hfz := h.fz
  go_enter Try.func35, Try.ntmps35
  go_wp2_with (at_builtin; refine wpList_app B A _ rfl (.tmp 12) (.tmp 13) 26 26 rfl 5 i0 Try.underlying26 hi hz0 hz1 hz2 _ bs rfl (hown.kept (by simp) ?k1) _ [48] rfl (Src.ofSlice _ Try.underlying26 ⟨w.heap.size, 0, none⟩ 1 1 _ rfl (cells_one rfl) ?k2) (by simp; omega) (by simp; omega) (by simp; omega) ?k3)
  case k1 => exact fun g _ _ hg => Below.heap_alloc _ _ _ hg
  case k2 => exact one_u8s
  case k3 =>
    intro ao c w1 happ
    obtain ⟨k0, f0, s0, e0, e1⟩ := happ.head hown hhi hv hfz
    have Hw := Lib.hid (h.stored (by simp) happ.own e0 e1 s0)
    have Hkp := Lib.hid (Keep.stored ((Below.refl _ w).alloc (Nat.le_refl _) _) hhi hv happ k0)
    have Hb : Hid (Below B w (w1.setCell ⟨A, 0, none⟩ (.slice ao (bs.length + 1) c))) := (((Below.refl B w).alloc (by omega) _).trans happ.below).setCell hlo _
    have hu := unsigned_any B A (bs ++ [48]) s.size _ Hw.out (by simp; omega) (by omega)
    obtain ⟨bs2, hbs2⟩ : ∃ l, l = bs ++ [48] ++ num 16 s.size (usz s.size) := ⟨_, rfl⟩
    rw [← hbs2] at hu
    have H := Lib.hid hu; clear hu
    have HB := Lib.hid hbs2
    clear happ e0 e1 h hv hfz hown
    have hlen : bs2.length + s.size ≤ 140737488355328 := by
      rw [hbs2, List.length_append, List.length_append, List.length_singleton, num_length _ _ _ (usz_8 _ (by omega))]
      have := usz_8 s.size (by omega); omega
    clear hbs2
    go_wp2_with (first | (go_at_call 38; refine H.out.mono ?_; rintro e w2 ⟨rfl, hw, hb, hkp⟩; obtain ⟨ao2, c2, hv2, hown2⟩ := hw.val; have hhi2 := hw.hi; have hfz2 := hw.fz; have Hw2 := Lib.hid hw; have Hb2 := Lib.hid hb; have Hk2 := Lib.hid hkp; clear hw hb hkp k0 f0) | (at_builtin; refine wpList_app B A _ rfl (.tmp 26) (.tmp 27) 26 9 rfl 5 i0 Try.underlying26 hi hz0 hz1 hz2 _ _ rfl hown2 _ (sb s) rfl ?q1 ?q2 ?q4 ?q5 ?q3))
    case q1 =>
      rw [sb_length]
      exact Src.ofString _ Try.underlying9 s
    case q2 => rw [sb_length]; omega
    case q4 => omega
    case q5 => omega
    case q3 =>
      intro ao3 c3 w3 happ
      obtain ⟨k3, f3, s3, g0, g1⟩ := happ.head2 hown2 hhi2 hv2 hfz2
      have Hw3 := Lib.hid (Hw2.out.stored (by rw [List.length_append]) happ.own g0 g1 s3)
      have Hb3 := Lib.hid happ.below
      have Hk3 := Lib.hid (Keep.stored (Below.refl _ w2) hhi2 hv2 happ k3)
      clear happ g0 g1 hv2 hfz2 hown2
      go_wp2
      go_ret
      refine ⟨rfl, ?_, ((Hb.out.trans Hb2.out).trans Hb3.out).setCell hlo _, (Hkp.out.trans Hk2.out).trans Hk3.out⟩
      rw [show bs ++ 48 :: (num 16 s.size (usz s.size) ++ sb s) = bs2 ++ sb s by rw [HB.out]; simp]
      exact Hw3.out
end Go.Proofs.Ytlhgbnjflemiiaa
