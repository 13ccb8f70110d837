/- Contract of areIncreasing. -/
import Derived.Test.YtojbhbifbennfaaCd
namespace Go.Proofs.Ytojbhbifbennfaa
open Go.RowKit Go.Shelf

def ltS (a b : ByteArray) : Bool := Op.bytesLess a.toList b.toList
def IncP (gs : List GrD) : Prop := ∀ k x y, gs[k]? = some x → gs[k + 1]? = some y → ltS x.nm y.nm = true
set_option maxHeartbeats 4000000 in
set_option maxRecDepth 100000 in
theorem increasing_any (F : Bool) (a : Option Addr) (cap : Nat) (gs : List GrD) (w : World) (hF : F = true ↔ IncP gs) (h20 : gs.length ≤ 20) (hin : InS w a gs.length 3 (flat grL gs)) : Calls Try.prog 44 #[.slice a gs.length cap] w fun e w' => e = .returned (.bool F) ∧ Below w.heap.size w w' := by
  obtain ⟨N, hN⟩ : ∃ N, N = gs.length := ⟨_, rfl⟩
  have HN := Lib.hid hN
  have HI := Lib.hid hin
  have HF := Lib.hid hF
  have hmx : N ≤ 20 := by omega
  rw [← hN]
  clear hN hin h20 hF
  go_enter Try.func44, Try.ntmps44
  go_wp2_with fail
  go_loopw [3] (fun i wr => ∃ j : Nat, 1 ≤ j ∧ (j ≤ N ∨ j = 1) ∧ i = .int .i64 j ∧ Hid ((∀ k x y, k + 1 < j → gs[k]? = some x → gs[k + 1]? = some y → ltS x.nm y.nm = true) ∧ Below w.heap.size w wr)) (fun i _ => N - (intOf i).toNat)
  case atStart => exact ⟨1, by omega, .inr rfl, rfl, Lib.hid ⟨fun k x y h => by omega, Below.refl _ _⟩⟩
  case round =>
    obtain ⟨j, hj1, hj, rfl, hH⟩ := hrel
    have HQ := Lib.hid hH.out.1
    have HBR := Lib.hid hH.out.2
    clear hH
    by_cases hlt : j < N
    · obtain ⟨q, hq⟩ : ∃ q, q + 1 = j := ⟨j - 1, by omega⟩
      obtain ⟨b, o, rfl, hbl, hcell⟩ := (HI.out.keep HBR.out).at grL_len (by have := HN.out; omega)
      obtain ⟨x, hx⟩ : ∃ x, gs[q]? = some x := ⟨_, List.getElem?_eq_getElem (by rw [← HN.out]; omega)⟩
      obtain ⟨y, hy⟩ : ∃ x, gs[j]? = some x := ⟨_, List.getElem?_eq_getElem (by rw [← HN.out]; exact hlt)⟩
      have c0 : wr.cell? ⟨b, o + q * 3 + 0, none⟩ = some (.string x.nm) := hcell q _ hx 0 _ rfl
      have c1 : wr.cell? ⟨b, o + j * 3 + 0, none⟩ = some (.string y.nm) := hcell j _ hy 0 _ rfl
      rw [Nat.add_zero] at c0 c1
      have w1' : IntKind.i64.wrap ((j : Int) - 1) = (q : Int) := by rw [← hq, IntWalk.i64_in _ ⟨by omega, by omega⟩]; omega
      have k1 : (0 : Int) ≤ (j : Int) := by omega
      have k2 : (j : Int) < (N : Int) := by omega
      have k3 : (0 : Int) ≤ (q : Int) := by omega
      have k4 : (q : Int) < (N : Int) := by omega
      have HX := Lib.hid hx
      have HY := Lib.hid hy
      have HQJ := Lib.hid hq
      clear hcell hbl hx hy hq
      cases t1 : Op.bytesLess x.nm.toList y.nm.toList with
      | false =>
        have HM := Lib.hid (show F = false from by
          cases hf : F with
          | false => rfl
          | true =>
            have h1 := (HF.out.1 hf) q x y HX.out (by rw [HQJ.out]; exact HY.out)
            rw [ltS, t1] at h1; cases h1)
        go_wp2_with fail
        go_region
        go_wp2_with fail
        go_ret
        exact ⟨by rw [HM.out]; (first | done | rfl), HBR.out.drew⟩
      | true =>
        have HM := Lib.hid (show ∀ k x y, k + 1 < j + 1 → gs[k]? = some x → gs[k + 1]? = some y → ltS x.nm y.nm = true from by
          intro k x' y' hk hx' hy'
          by_cases hkq : k + 1 < j
          · exact HQ.out k x' y' hkq hx' hy'
          · have hkq' : k = q := by have := HQJ.out; omega
            subst hkq'
            rw [HX.out] at hx'; rw [HQJ.out, HY.out] at hy'
            cases hx'; cases hy'; exact t1)
        go_wp2_with fail
        go_region
        go_wp2_with fail
        go_roundw
        case rel => exact ⟨j + 1, by omega, .inl (by omega), by go_num, Lib.hid ⟨HM.out, HBR.out.drew⟩⟩
        case measure => (simp [intOf]) <;> omega
    · have HM := Lib.hid (show F = true from HF.out.2 (fun k x y hx hy => HQ.out k x y (by
        have h2 := (List.getElem?_eq_some_iff.1 hy).1
        have := HN.out; omega) hx hy))
      have k2 : ¬ ((j : Int) < (N : Int)) := by omega
      go_wp2_with fail
      go_ret
      exact ⟨by rw [HM.out]; (first | done | rfl), HBR.out⟩
end Go.Proofs.Ytojbhbifbennfaa
