/- The contract of curve.Eval. -/
import Derived.Test.YthghcppdfeeloaaEv
import Derived.Test.YthghcppdfeeloaaDi
namespace Go.Proofs.Ythghcppdfeeloaa
open Go.RowKit

set_option maxHeartbeats 400000 in
theorem eval_any (a : Option Addr) (n cap : Nat) (ks : List (Int × Int)) (x : Int) (w : World) (h : IsKnots w a n ks) :
    Calls Try.prog 13 #[.slice a n cap, .int .i64 x] w fun e w' => e = .returned (.tuple #[.int .i64 (if checkL ks = 0 then valI ks x else 0), .int .i64 (checkL ks)]) ∧ Below w.heap.size w w' := by
  have hk := check_any a n cap ks w h
  by_cases he : checkL ks = 0
  · obtain ⟨h0, h32, _, hr⟩ := check_zero ks he
    obtain ⟨b, off, rfl, hb, rfl, hc⟩ := h.some h0
    rw [if_pos he]
    rw [he] at hk ⊢
    have HV := Lib.hid fun w' (hw : Below w.heap.size w w') => value_any b off cap ks x w' h0 h32 (Nat.lt_of_lt_of_le hb hw.size) (hc.at hb hw) hr
    obtain ⟨z, hz⟩ : ∃ z, z = valI ks x := ⟨_, rfl⟩
    rw [← hz] at HV ⊢
    obtain ⟨n, hn⟩ : ∃ n, n = ks.length := ⟨_, rfl⟩
    rw [← hn] at HV hk ⊢
    have HK := Lib.hid hk
    clear hk he h hz hn hc hr h0 h32
    go_enter Try.func13, Try.ntmps13
    go_wp2_with fail
    refine HK.out.mono ?_
    rintro e w1 ⟨rfl, hb1⟩
    have B1 := Lib.hid hb1
    clear hb1
    go_wp2_with fail
    refine (HV.out _ B1.out).mono ?_
    rintro e w2 ⟨rfl, hb2⟩
    have B2 := Lib.hid (B1.out.trans (hb2.mono B1.out.size))
    clear hb2
    go_wp2_with fail
    go_ret2
    exact ⟨rfl, B2.out⟩
  · rw [if_neg he]
    obtain ⟨E, hE⟩ : ∃ E, E = checkL ks := ⟨_, rfl⟩
    rw [← hE] at hk he ⊢
    have HK := Lib.hid hk
    have t0 : (E != 0) = true := by rw [bne_iff_ne]; exact he
    clear hk he h hE
    go_enter Try.func13, Try.ntmps13
    go_wp2_with fail
    refine HK.out.mono ?_
    rintro e w1 ⟨rfl, hb1⟩
    have B1 := Lib.hid hb1
    clear hb1
    go_wp2_with fail
    go_ret2
    exact ⟨rfl, B1.out⟩
end Go.Proofs.Ythghcppdfeeloaa
