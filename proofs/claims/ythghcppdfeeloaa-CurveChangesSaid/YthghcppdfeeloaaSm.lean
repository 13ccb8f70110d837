/- The contract of curve.Simplify. -/
import Derived.Test.YthghcppdfeeloaaDl
namespace Go.Proofs.Ythghcppdfeeloaa
open Go.RowKit

/-- knots left out, one after another, until none can be -/
def simpF : Nat → List (Int × Int) → List (Int × Int)
  | 0, ks => ks
  | f + 1, ks => match firstN ks with | some i => simpF f (ks.eraseIdx i) | none => ks
def simpL (ks : List (Int × Int)) : List (Int × Int) := simpF ks.length ks
def simpR (ks : List (Int × Int)) : List (Int × Int) := if checkL ks = 0 then simpL ks else []
theorem firstN_lt {ks : List (Int × Int)} {i : Nat} (h : firstN ks = some i) : i < ks.length := by
  unfold firstN at h
  exact List.mem_range.1 (List.mem_of_find?_eq_some h)
theorem firstN_two {ks : List (Int × Int)} {i : Nat} (h : firstN ks = some i) : 1 < ks.length := by
  have hl := firstN_lt h
  unfold firstN at h
  have hp := List.find?_some h
  rcases (by omega : ks.length = 1 ∨ 1 < ks.length) with h1 | h1
  · simp only [needB, if_pos h1] at hp; cases hp
  · exact h1
theorem len_erase {ks : List (Int × Int)} {i : Nat} (h : i < ks.length) : (ks.eraseIdx i).length = ks.length - 1 := by rw [List.length_eraseIdx, if_pos h]
theorem fit_erase {ks : List (Int × Int)} (h : fitL ks ks.length = true) (i : Nat) (hi : i < ks.length) : fitL (ks.eraseIdx i) (ks.eraseIdx i).length = true := by
  unfold fitL at h ⊢
  rw [List.all_eq_true] at h ⊢
  intro j hj
  have hj := List.mem_range.1 hj
  rw [len_erase hi] at hj
  rw [kx_erase, ky_erase]
  split
  · exact h j (List.mem_range.2 (by omega))
  · exact h (j + 1) (List.mem_range.2 (by omega))
theorem simpF_none {ks : List (Int × Int)} (h : firstN ks = none) (f : Nat) : simpF f ks = ks := by
  cases f with
  | zero => rfl
  | succ f => show (match firstN ks with | some i => simpF f (ks.eraseIdx i) | none => ks) = ks; rw [h]
theorem simpL_none {ks : List (Int × Int)} (h : firstN ks = none) : simpL ks = ks := simpF_none h _
theorem simpL_some {ks : List (Int × Int)} {i : Nat} (h : firstN ks = some i) : simpL ks = simpL (ks.eraseIdx i) := by
  have hl := firstN_lt h
  unfold simpL
  rw [len_erase hl]
  obtain ⟨f, hf⟩ : ∃ f, ks.length = f + 1 := ⟨ks.length - 1, by omega⟩
  rw [hf, Nat.add_sub_cancel]
  show (match firstN ks with | some i => simpF f (ks.eraseIdx i) | none => ks) = _
  rw [h]

theorem own_row {w : World} {B : Nat} {v : Value} {ks : List (Int × Int)} (h : OwnK w B v ks) (h0 : 0 < ks.length) :
    ∃ g cap, v = .slice (some ⟨g, 0, none⟩) ks.length cap ∧ B ≤ g ∧ RowK w g cap ks := by
  obtain ⟨_, ⟨_, h1⟩ | ⟨g, cap, cur, rfl, hg, hb, hn, hm, hs, ht⟩⟩ := h
  · omega
  · refine ⟨g, cap, rfl, hg, ?_⟩
    have hlt : g < w.heap.size := by
      rcases Nat.lt_or_ge g w.heap.size with h | h
      · exact h
      · rw [Array.getElem?_eq_none h] at hb; cases hb
    have hcell : ∀ j, w.cell? ⟨g, j, none⟩ = cur[j]? := fun j => by simp [World.cell?, hb]
    refine ⟨fun i hi => ?_, hn, fun j hj => ?_, fun j => ?_, hlt⟩
    · have c0 := (cellsK_at ks i hi).1
      have c1 := (cellsK_at ks i hi).2
      rw [← ht, List.getElem?_take, if_pos (by omega), Array.getElem?_toList] at c0 c1
      rw [hcell, hcell, Nat.zero_add]
      exact ⟨c0, c1⟩
    · rw [hcell, Array.getElem?_eq_getElem (by omega)]; rfl
    · simp [World.frozen?, hb]

theorem row_known {w : World} {g cap : Nat} {ks : List (Int × Int)} (h : RowK w g cap ks) (h32 : ks.length ≤ 32) : IsKnots w (some ⟨g, 0, none⟩) ks.length ks :=
  .inr ⟨g, 0, rfl, h.lt, rfl, by omega, h.kn⟩

set_option maxHeartbeats 2000000 in
set_option maxRecDepth 100000 in
theorem simplify_ok (b off cap : Nat) (ks : List (Int × Int)) (w : World) (h0 : 0 < ks.length) (h32 : ks.length ≤ 32) (he : checkL ks = 0) (hb : b < w.heap.size) (hc : Knots w b off ks) :
    Calls Try.prog 24 #[.slice (some ⟨b, off, none⟩) ks.length cap] w fun e w' => (∃ a c, e = .returned (.tuple #[.slice a (simpL ks).length c, .int .i64 0]) ∧ IsKnots w' a (simpL ks).length (simpL ks)) ∧ Below w.heap.size w w' := by
  have hk := check_any (some ⟨b, off, none⟩) ks.length cap ks w (.inr ⟨b, off, rfl, hb, rfl, by omega, hc⟩)
  rw [he] at hk
  have hfit := (check_zero ks he).2.2.1
  have HK := Lib.hid hk
  have HCl := Lib.hid fun w' (hw : Below w.heap.size w w') => clone_some b off cap ks w' h0 h32 (Nat.lt_of_lt_of_le hb hw.size) (hc.at hb hw)
  have HO := Lib.hid fun w' B v (h : OwnK w' B v ks) => own_row h h0
  obtain ⟨n, hn⟩ : ∃ n, n = ks.length := ⟨_, rfl⟩
  rw [← hn] at HK HCl ⊢
  have H3 := Lib.hid (show ks.length ≤ 32 from h32)
  have HF := Lib.hid hfit
  clear hk hc he hfit h32 h0 hn
  go_enter Try.func24, Try.ntmps24
  go_wp2_with fail
  refine HK.out.mono ?_
  rintro e w1 ⟨rfl, hb1⟩
  have B1 := Lib.hid hb1
  clear hb1
  go_wp2_with fail
  refine (HCl.out _ B1.out).mono ?_
  rintro e w2 ⟨v, rfl, hv, hb2⟩
  obtain ⟨g, c, rfl, hg, hrow⟩ := HO.out _ _ _ hv
  have HG := Lib.hid (Nat.le_trans B1.out.size hg)
  have B2 := Lib.hid (B1.out.trans (hb2.mono B1.out.size))
  have HRow := Lib.hid hrow
  clear hb2 hv hg hrow
  go_wp2_with fail
  refine (first_any g 0 c ks w2 H3.out HF.out HRow.out.lt HRow.out.kn).mono ?_
  rintro e w3 ⟨rfl, hb3⟩
  have R3 := Lib.hid (HRow.out.keep hb3)
  have B3 := Lib.hid (B2.out.trans (hb3.mono B2.out.size))
  clear hb3
  obtain ⟨z, hz⟩ : ∃ z, z = firstI ks := ⟨_, rfl⟩
  have HZ := Lib.hid hz
  rw [← hz]
  obtain ⟨n2, hn2⟩ : ∃ n2, n2 = ks.length := ⟨_, rfl⟩
  have HN := Lib.hid hn2
  rw [← hn2]
  clear hz hn2
  go_wp2_with fail
  go_loopw [5, 6] (fun l i wr => ∃ ls, l = .slice (some ⟨g, 0, none⟩) ls.length c ∧ i = .int .i64 (firstI ls) ∧ ls.length ≤ 32 ∧ fitL ls ls.length = true ∧ simpL ls = simpL ks ∧ RowK wr g c ls ∧ Below w.heap.size w wr) (fun l _ _ => match l with | .slice _ m _ => m | _ => 0)
  case atStart => exact ⟨ks, by rw [HN.out], by rw [HZ.out], H3.out, HF.out, rfl, R3.out, B3.out⟩
  case round =>
    obtain ⟨ls, rfl, rfl, l32, lfit, leq, lrow, lbel⟩ := hrel
    have LB := Lib.hid lbel
    have LR := Lib.hid lrow
    have LE := Lib.hid leq
    have LF := Lib.hid lfit
    have L3 := Lib.hid (show ls.length ≤ 32 from l32)
    clear lbel lrow leq lfit l32
    cases hfn : firstN ls with
    | none =>
      have hi : firstI ls = -1 := by unfold firstI; rw [hfn]
      have hs := Lib.hid (show simpL ls = ls from simpL_none hfn)
      rw [hi]
      clear hfn hi
      go_wp2_with fail
      go_ret2
      have e : simpL ks = ls := LE.out.symm.trans hs.out
      rw [e]
      exact ⟨⟨_, _, rfl, row_known LR.out L3.out⟩, LB.out⟩
    | some i =>
      have hi : firstI ls = i := by unfold firstI; rw [hfn]
      have hlt := firstN_lt hfn
      have h2 := firstN_two hfn
      obtain ⟨j, hj⟩ : ∃ j, j = i + 1 := ⟨_, rfl⟩
      have hj2 : IntKind.i64.wrap ((i : Int) + 1) = (j : Int) := by
        have := L3.out
        have hw := wrap_small ((i : Int) + 1) (by omega) (by omega)
        omega
      have HD := Lib.hid (delete_any g c i j ls wr LR.out hj hlt)
      have HE := Lib.hid (show simpL (ls.eraseIdx i) = simpL ks from (simpL_some hfn).symm.trans LE.out)
      have HL := Lib.hid (len_erase hlt)
      have HF2 := Lib.hid (fit_erase LF.out i hlt)
      obtain ⟨m, hm⟩ : ∃ m, m = ls.length := ⟨_, rfl⟩
      have HM := Lib.hid hm
      have H2 := Lib.hid h2
      rw [← hm] at HD ⊢
      rw [hi]
      clear hfn hi hlt h2 hm hj
      go_wp2_with fail
      refine HD.out.mono ?_
      rintro e w4 ⟨rfl, hr4, hb4⟩
      have R4 := Lib.hid hr4
      have B4 := Lib.hid (LB.out.trans (hb4.mono HG.out))
      clear hr4 hb4
      have e4 : m - 1 = (ls.eraseIdx i).length := by rw [HL.out, HM.out]
      have F4 := Lib.hid (first_any g 0 c (ls.eraseIdx i) w4 (by have := L3.out; rw [HL.out]; omega) HF2.out R4.out.lt R4.out.kn)
      rw [e4]
      obtain ⟨ls2, hls2⟩ : ∃ ls2, ls2 = ls.eraseIdx i := ⟨_, rfl⟩
      rw [← hls2] at F4 HF2 HL HE R4 ⊢
      obtain ⟨z2, hz2⟩ : ∃ z2, z2 = firstI ls2 := ⟨_, rfl⟩
      have HZ2 := Lib.hid hz2
      rw [← hz2] at F4
      obtain ⟨m2, hm2⟩ : ∃ m2, m2 = ls2.length := ⟨_, rfl⟩
      have HM2 := Lib.hid hm2
      rw [← hm2] at F4 ⊢
      clear e4 hls2 hz2 hm2
      go_wp2_with fail
      refine F4.out.mono ?_
      rintro e w5 ⟨rfl, hb5⟩
      have R5 := Lib.hid (R4.out.keep hb5)
      have B5 := Lib.hid (B4.out.trans (hb5.mono B4.out.size))
      clear hb5
      go_wp2_with fail
      go_roundw
      case rel => exact ⟨ls2, by rw [HM2.out], by rw [HZ2.out], by have := L3.out; have := HL.out; omega, HF2.out, HE.out, R5.out, B5.out⟩
      case measure => have := HL.out; have := HM2.out; have := HM.out; have := H2.out; simp; omega

theorem simplify_any (a : Option Addr) (n cap : Nat) (ks : List (Int × Int)) (w : World) (h : IsKnots w a n ks) :
    Calls Try.prog 24 #[.slice a n cap] w fun e w' => (∃ a' c, e = .returned (.tuple #[.slice a' (simpR ks).length c, .int .i64 (checkL ks)]) ∧ IsKnots w' a' (simpR ks).length (simpR ks)) ∧ Below w.heap.size w w' := by
  by_cases he : checkL ks = 0
  · obtain ⟨h0, h32, _, _⟩ := check_zero ks he
    obtain ⟨b, off, rfl, hb, rfl, hc⟩ := h.some h0
    rw [he, show simpR ks = simpL ks from if_pos he]
    exact simplify_ok b off cap ks w h0 h32 he hb hc
  · have hk := check_any a n cap ks w h
    rw [show simpR ks = [] from if_neg he]
    obtain ⟨E, hE⟩ : ∃ E, E = checkL ks := ⟨_, rfl⟩
    rw [← hE] at hk he ⊢
    have HK := Lib.hid hk
    have t0 : (E != 0) = true := by rw [bne_iff_ne]; exact he
    clear hk he h hE
    go_enter Try.func24, Try.ntmps24
    go_wp2_with fail
    refine HK.out.mono ?_
    rintro e w1 ⟨rfl, hb1⟩
    have B1 := Lib.hid hb1
    clear hb1
    go_wp2_with fail
    go_ret2
    exact ⟨⟨_, _, rfl, .inl ⟨rfl, rfl⟩⟩, B1.out⟩
end Go.Proofs.Ythghcppdfeeloaa
