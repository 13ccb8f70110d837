/- The inputs of the rows, split and cut; every row of the timer has a descriptor. -/
import Derived.Test.YtaobbedajgkmiaaDoorBd
namespace Go.Proofs.YtaobbedajgkmiaaDoor
open Go.RowKit Go.Shelf

theorem bel_drN {w : World} (n : Nat) : Below w.heap.size w (w.drewN n) := ⟨rfl, rfl, rfl, Nat.le_refl _, fun _ _ => rfl⟩
theorem split_of (s : ByteArray) (parts : List ByteArray) (hs : s.size < 4294967281) (h1 : Lib.countB s commaB + 1 = parts.length) (h2 : Lib.splitB commaB 0 (Lib.countB s commaB) s = parts) : SplitOk s parts := by
  intro w ⟨m, hm⟩
  have h := Tryd.strings_Split s commaB m w hs hm (by decide)
  rw [h1, h2] at h
  exact h
theorem cut_of (s : ByteArray) (x : PortD) (hs : s.size < 4294967281) (h1 : (⟨(Lib.cut s.data.toList colonB.data.toList).1.toArray⟩ : ByteArray) = x.nm) (h2 : (⟨(Lib.cut s.data.toList colonB.data.toList).2.1.toArray⟩ : ByteArray) = x.ty) (h3 : (Lib.cut s.data.toList colonB.data.toList).2.2 = true) : CutOk s x := by
  intro w ⟨m, hm⟩
  refine (Tryd.strings_Cut s colonB m w hs hm).mono ?_
  rintro e w' ⟨rfl, n, rfl⟩
  exact ⟨by rw [h1, h2, h3], bel_drN n⟩
theorem cut_0 : CutOk ⟨#[97, 58, 32, 85]⟩ ⟨⟨#[97]⟩, ⟨#[85]⟩⟩ := cut_of _ _ (by decide) (by kernel_rfl) (by kernel_rfl) (by kernel_rfl)
theorem cut_1 : CutOk ⟨#[98, 58, 32, 85]⟩ ⟨⟨#[98]⟩, ⟨#[85]⟩⟩ := cut_of _ _ (by decide) (by kernel_rfl) (by kernel_rfl) (by kernel_rfl)
theorem cut_2 : CutOk ⟨#[97, 58, 32, 98, 105, 110, 97, 114, 121]⟩ ⟨⟨#[97]⟩, ⟨#[98, 105, 110, 97, 114, 121]⟩⟩ := cut_of _ _ (by decide) (by kernel_rfl) (by kernel_rfl) (by kernel_rfl)
theorem cut_3 : CutOk ⟨#[98, 58, 32, 98, 105, 110, 97, 114, 121]⟩ ⟨⟨#[98]⟩, ⟨#[98, 105, 110, 97, 114, 121]⟩⟩ := cut_of _ _ (by decide) (by kernel_rfl) (by kernel_rfl) (by kernel_rfl)
theorem cut_4 : CutOk ⟨#[109, 58, 32, 109, 117, 108, 116, 105]⟩ ⟨⟨#[109]⟩, ⟨#[109, 117, 108, 116, 105]⟩⟩ := cut_of _ _ (by decide) (by kernel_rfl) (by kernel_rfl) (by kernel_rfl)
theorem cut_5 : CutOk ⟨#[97, 58, 32, 84]⟩ ⟨⟨#[97]⟩, ⟨#[84]⟩⟩ := cut_of _ _ (by decide) (by kernel_rfl) (by kernel_rfl) (by kernel_rfl)
theorem cut_6 : CutOk ⟨#[114, 101, 115, 101, 116, 58, 32, 98, 105, 110, 97, 114, 121]⟩ ⟨⟨#[114, 101, 115, 101, 116]⟩, ⟨#[98, 105, 110, 97, 114, 121]⟩⟩ := cut_of _ _ (by decide) (by kernel_rfl) (by kernel_rfl) (by kernel_rfl)
theorem cut_7 : CutOk ⟨#[116, 58, 32, 97, 110, 97, 108, 111, 103, 32, 100, 101, 103, 67]⟩ ⟨⟨#[116]⟩, ⟨#[97, 110, 97, 108, 111, 103, 32, 100, 101, 103, 67]⟩⟩ := cut_of _ _ (by decide) (by kernel_rfl) (by kernel_rfl) (by kernel_rfl)
theorem cut_8 : CutOk ⟨#[114, 104, 58, 32, 97, 110, 97, 108, 111, 103, 32, 112, 99, 116]⟩ ⟨⟨#[114, 104]⟩, ⟨#[97, 110, 97, 108, 111, 103, 32, 112, 99, 116]⟩⟩ := cut_of _ _ (by decide) (by kernel_rfl) (by kernel_rfl) (by kernel_rfl)
theorem cut_9 : CutOk ⟨#[98, 58, 32, 86]⟩ ⟨⟨#[98]⟩, ⟨#[86]⟩⟩ := cut_of _ _ (by decide) (by kernel_rfl) (by kernel_rfl) (by kernel_rfl)
theorem cut_10 : CutOk ⟨#[115, 101, 116, 58, 32, 98, 105, 110, 97, 114, 121]⟩ ⟨⟨#[115, 101, 116]⟩, ⟨#[98, 105, 110, 97, 114, 121]⟩⟩ := cut_of _ _ (by decide) (by kernel_rfl) (by kernel_rfl) (by kernel_rfl)
theorem cut_11 : CutOk ⟨#[115, 58, 32, 98, 105, 110, 97, 114, 121]⟩ ⟨⟨#[115]⟩, ⟨#[98, 105, 110, 97, 114, 121]⟩⟩ := cut_of _ _ (by decide) (by kernel_rfl) (by kernel_rfl) (by kernel_rfl)
theorem cut_12 : CutOk ⟨#[98, 58, 32, 84]⟩ ⟨⟨#[98]⟩, ⟨#[84]⟩⟩ := cut_of _ _ (by decide) (by kernel_rfl) (by kernel_rfl) (by kernel_rfl)
theorem cut_13 : CutOk ⟨#[115, 101, 116, 58, 32, 85]⟩ ⟨⟨#[115, 101, 116]⟩, ⟨#[85]⟩⟩ := cut_of _ _ (by decide) (by kernel_rfl) (by kernel_rfl) (by kernel_rfl)
theorem cut_14 : CutOk ⟨#[110, 111, 119, 58, 32, 85]⟩ ⟨⟨#[110, 111, 119]⟩, ⟨#[85]⟩⟩ := cut_of _ _ (by decide) (by kernel_rfl) (by kernel_rfl) (by kernel_rfl)
theorem cut_15 : CutOk ⟨#[101, 110, 97, 98, 108, 101, 58, 32, 98, 105, 110, 97, 114, 121]⟩ ⟨⟨#[101, 110, 97, 98, 108, 101]⟩, ⟨#[98, 105, 110, 97, 114, 121]⟩⟩ := cut_of _ _ (by decide) (by kernel_rfl) (by kernel_rfl) (by kernel_rfl)
theorem cut_16 : CutOk ⟨#[103, 111, 58, 32, 98, 105, 110, 97, 114, 121]⟩ ⟨⟨#[103, 111]⟩, ⟨#[98, 105, 110, 97, 114, 121]⟩⟩ := cut_of _ _ (by decide) (by kernel_rfl) (by kernel_rfl) (by kernel_rfl)
theorem cut_17 : CutOk ⟨#[110, 101, 120, 116, 58, 32, 98, 105, 110, 97, 114, 121]⟩ ⟨⟨#[110, 101, 120, 116]⟩, ⟨#[98, 105, 110, 97, 114, 121]⟩⟩ := cut_of _ _ (by decide) (by kernel_rfl) (by kernel_rfl) (by kernel_rfl)
theorem split_0 : SplitOk ⟨#[97, 58, 32, 85, 44, 32, 98, 58, 32, 85]⟩ [⟨#[97, 58, 32, 85]⟩, ⟨#[98, 58, 32, 85]⟩] := split_of _ _ (by decide) (by kernel_rfl) (by kernel_rfl)
theorem cuts_0 : ∀ (k : Nat) (s : ByteArray) (x : PortD), ([⟨#[97, 58, 32, 85]⟩, ⟨#[98, 58, 32, 85]⟩] : List ByteArray)[k]? = some s → ([⟨⟨#[97]⟩, ⟨#[85]⟩⟩, ⟨⟨#[98]⟩, ⟨#[85]⟩⟩] : List PortD)[k]? = some x → CutOk s x
  | 0, s, x, hs, hx => by
    obtain rfl : ⟨#[97, 58, 32, 85]⟩ = s := by simpa using hs
    obtain rfl : (⟨⟨#[97]⟩, ⟨#[85]⟩⟩ : PortD) = x := by simpa using hx
    exact cut_0
  | 1, s, x, hs, hx => by
    obtain rfl : ⟨#[98, 58, 32, 85]⟩ = s := by simpa using hs
    obtain rfl : (⟨⟨#[98]⟩, ⟨#[85]⟩⟩ : PortD) = x := by simpa using hx
    exact cut_1
  | _ + 2, _, _, hs, _ => by simp at hs
theorem split_1 : SplitOk ⟨#[97, 58, 32, 85]⟩ [⟨#[97, 58, 32, 85]⟩] := split_of _ _ (by decide) (by kernel_rfl) (by kernel_rfl)
theorem cuts_1 : ∀ (k : Nat) (s : ByteArray) (x : PortD), ([⟨#[97, 58, 32, 85]⟩] : List ByteArray)[k]? = some s → ([⟨⟨#[97]⟩, ⟨#[85]⟩⟩] : List PortD)[k]? = some x → CutOk s x
  | 0, s, x, hs, hx => by
    obtain rfl : ⟨#[97, 58, 32, 85]⟩ = s := by simpa using hs
    obtain rfl : (⟨⟨#[97]⟩, ⟨#[85]⟩⟩ : PortD) = x := by simpa using hx
    exact cut_0
  | _ + 1, _, _, hs, _ => by simp at hs
theorem split_2 : SplitOk ⟨#[97, 58, 32, 98, 105, 110, 97, 114, 121, 44, 32, 98, 58, 32, 98, 105, 110, 97, 114, 121]⟩ [⟨#[97, 58, 32, 98, 105, 110, 97, 114, 121]⟩, ⟨#[98, 58, 32, 98, 105, 110, 97, 114, 121]⟩] := split_of _ _ (by decide) (by kernel_rfl) (by kernel_rfl)
theorem cuts_2 : ∀ (k : Nat) (s : ByteArray) (x : PortD), ([⟨#[97, 58, 32, 98, 105, 110, 97, 114, 121]⟩, ⟨#[98, 58, 32, 98, 105, 110, 97, 114, 121]⟩] : List ByteArray)[k]? = some s → ([⟨⟨#[97]⟩, ⟨#[98, 105, 110, 97, 114, 121]⟩⟩, ⟨⟨#[98]⟩, ⟨#[98, 105, 110, 97, 114, 121]⟩⟩] : List PortD)[k]? = some x → CutOk s x
  | 0, s, x, hs, hx => by
    obtain rfl : ⟨#[97, 58, 32, 98, 105, 110, 97, 114, 121]⟩ = s := by simpa using hs
    obtain rfl : (⟨⟨#[97]⟩, ⟨#[98, 105, 110, 97, 114, 121]⟩⟩ : PortD) = x := by simpa using hx
    exact cut_2
  | 1, s, x, hs, hx => by
    obtain rfl : ⟨#[98, 58, 32, 98, 105, 110, 97, 114, 121]⟩ = s := by simpa using hs
    obtain rfl : (⟨⟨#[98]⟩, ⟨#[98, 105, 110, 97, 114, 121]⟩⟩ : PortD) = x := by simpa using hx
    exact cut_3
  | _ + 2, _, _, hs, _ => by simp at hs
theorem split_3 : SplitOk ⟨#[109, 58, 32, 109, 117, 108, 116, 105, 44, 32, 97, 58, 32, 84]⟩ [⟨#[109, 58, 32, 109, 117, 108, 116, 105]⟩, ⟨#[97, 58, 32, 84]⟩] := split_of _ _ (by decide) (by kernel_rfl) (by kernel_rfl)
theorem cuts_3 : ∀ (k : Nat) (s : ByteArray) (x : PortD), ([⟨#[109, 58, 32, 109, 117, 108, 116, 105]⟩, ⟨#[97, 58, 32, 84]⟩] : List ByteArray)[k]? = some s → ([⟨⟨#[109]⟩, ⟨#[109, 117, 108, 116, 105]⟩⟩, ⟨⟨#[97]⟩, ⟨#[84]⟩⟩] : List PortD)[k]? = some x → CutOk s x
  | 0, s, x, hs, hx => by
    obtain rfl : ⟨#[109, 58, 32, 109, 117, 108, 116, 105]⟩ = s := by simpa using hs
    obtain rfl : (⟨⟨#[109]⟩, ⟨#[109, 117, 108, 116, 105]⟩⟩ : PortD) = x := by simpa using hx
    exact cut_4
  | 1, s, x, hs, hx => by
    obtain rfl : ⟨#[97, 58, 32, 84]⟩ = s := by simpa using hs
    obtain rfl : (⟨⟨#[97]⟩, ⟨#[84]⟩⟩ : PortD) = x := by simpa using hx
    exact cut_5
  | _ + 2, _, _, hs, _ => by simp at hs
theorem split_4 : SplitOk ⟨#[97, 58, 32, 98, 105, 110, 97, 114, 121, 44, 32, 114, 101, 115, 101, 116, 58, 32, 98, 105, 110, 97, 114, 121]⟩ [⟨#[97, 58, 32, 98, 105, 110, 97, 114, 121]⟩, ⟨#[114, 101, 115, 101, 116, 58, 32, 98, 105, 110, 97, 114, 121]⟩] := split_of _ _ (by decide) (by kernel_rfl) (by kernel_rfl)
theorem cuts_4 : ∀ (k : Nat) (s : ByteArray) (x : PortD), ([⟨#[97, 58, 32, 98, 105, 110, 97, 114, 121]⟩, ⟨#[114, 101, 115, 101, 116, 58, 32, 98, 105, 110, 97, 114, 121]⟩] : List ByteArray)[k]? = some s → ([⟨⟨#[97]⟩, ⟨#[98, 105, 110, 97, 114, 121]⟩⟩, ⟨⟨#[114, 101, 115, 101, 116]⟩, ⟨#[98, 105, 110, 97, 114, 121]⟩⟩] : List PortD)[k]? = some x → CutOk s x
  | 0, s, x, hs, hx => by
    obtain rfl : ⟨#[97, 58, 32, 98, 105, 110, 97, 114, 121]⟩ = s := by simpa using hs
    obtain rfl : (⟨⟨#[97]⟩, ⟨#[98, 105, 110, 97, 114, 121]⟩⟩ : PortD) = x := by simpa using hx
    exact cut_2
  | 1, s, x, hs, hx => by
    obtain rfl : ⟨#[114, 101, 115, 101, 116, 58, 32, 98, 105, 110, 97, 114, 121]⟩ = s := by simpa using hs
    obtain rfl : (⟨⟨#[114, 101, 115, 101, 116]⟩, ⟨#[98, 105, 110, 97, 114, 121]⟩⟩ : PortD) = x := by simpa using hx
    exact cut_6
  | _ + 2, _, _, hs, _ => by simp at hs
theorem split_5 : SplitOk ⟨#[116, 58, 32, 97, 110, 97, 108, 111, 103, 32, 100, 101, 103, 67, 44, 32, 114, 104, 58, 32, 97, 110, 97, 108, 111, 103, 32, 112, 99, 116]⟩ [⟨#[116, 58, 32, 97, 110, 97, 108, 111, 103, 32, 100, 101, 103, 67]⟩, ⟨#[114, 104, 58, 32, 97, 110, 97, 108, 111, 103, 32, 112, 99, 116]⟩] := split_of _ _ (by decide) (by kernel_rfl) (by kernel_rfl)
theorem cuts_5 : ∀ (k : Nat) (s : ByteArray) (x : PortD), ([⟨#[116, 58, 32, 97, 110, 97, 108, 111, 103, 32, 100, 101, 103, 67]⟩, ⟨#[114, 104, 58, 32, 97, 110, 97, 108, 111, 103, 32, 112, 99, 116]⟩] : List ByteArray)[k]? = some s → ([⟨⟨#[116]⟩, ⟨#[97, 110, 97, 108, 111, 103, 32, 100, 101, 103, 67]⟩⟩, ⟨⟨#[114, 104]⟩, ⟨#[97, 110, 97, 108, 111, 103, 32, 112, 99, 116]⟩⟩] : List PortD)[k]? = some x → CutOk s x
  | 0, s, x, hs, hx => by
    obtain rfl : ⟨#[116, 58, 32, 97, 110, 97, 108, 111, 103, 32, 100, 101, 103, 67]⟩ = s := by simpa using hs
    obtain rfl : (⟨⟨#[116]⟩, ⟨#[97, 110, 97, 108, 111, 103, 32, 100, 101, 103, 67]⟩⟩ : PortD) = x := by simpa using hx
    exact cut_7
  | 1, s, x, hs, hx => by
    obtain rfl : ⟨#[114, 104, 58, 32, 97, 110, 97, 108, 111, 103, 32, 112, 99, 116]⟩ = s := by simpa using hs
    obtain rfl : (⟨⟨#[114, 104]⟩, ⟨#[97, 110, 97, 108, 111, 103, 32, 112, 99, 116]⟩⟩ : PortD) = x := by simpa using hx
    exact cut_8
  | _ + 2, _, _, hs, _ => by simp at hs
theorem split_6 : SplitOk ⟨#[97, 58, 32, 85, 44, 32, 98, 58, 32, 86]⟩ [⟨#[97, 58, 32, 85]⟩, ⟨#[98, 58, 32, 86]⟩] := split_of _ _ (by decide) (by kernel_rfl) (by kernel_rfl)
theorem cuts_6 : ∀ (k : Nat) (s : ByteArray) (x : PortD), ([⟨#[97, 58, 32, 85]⟩, ⟨#[98, 58, 32, 86]⟩] : List ByteArray)[k]? = some s → ([⟨⟨#[97]⟩, ⟨#[85]⟩⟩, ⟨⟨#[98]⟩, ⟨#[86]⟩⟩] : List PortD)[k]? = some x → CutOk s x
  | 0, s, x, hs, hx => by
    obtain rfl : ⟨#[97, 58, 32, 85]⟩ = s := by simpa using hs
    obtain rfl : (⟨⟨#[97]⟩, ⟨#[85]⟩⟩ : PortD) = x := by simpa using hx
    exact cut_0
  | 1, s, x, hs, hx => by
    obtain rfl : ⟨#[98, 58, 32, 86]⟩ = s := by simpa using hs
    obtain rfl : (⟨⟨#[98]⟩, ⟨#[86]⟩⟩ : PortD) = x := by simpa using hx
    exact cut_9
  | _ + 2, _, _, hs, _ => by simp at hs
theorem split_7 : SplitOk ⟨#[97, 58, 32, 98, 105, 110, 97, 114, 121]⟩ [⟨#[97, 58, 32, 98, 105, 110, 97, 114, 121]⟩] := split_of _ _ (by decide) (by kernel_rfl) (by kernel_rfl)
theorem cuts_7 : ∀ (k : Nat) (s : ByteArray) (x : PortD), ([⟨#[97, 58, 32, 98, 105, 110, 97, 114, 121]⟩] : List ByteArray)[k]? = some s → ([⟨⟨#[97]⟩, ⟨#[98, 105, 110, 97, 114, 121]⟩⟩] : List PortD)[k]? = some x → CutOk s x
  | 0, s, x, hs, hx => by
    obtain rfl : ⟨#[97, 58, 32, 98, 105, 110, 97, 114, 121]⟩ = s := by simpa using hs
    obtain rfl : (⟨⟨#[97]⟩, ⟨#[98, 105, 110, 97, 114, 121]⟩⟩ : PortD) = x := by simpa using hx
    exact cut_2
  | _ + 1, _, _, hs, _ => by simp at hs
theorem split_8 : SplitOk ⟨#[115, 101, 116, 58, 32, 98, 105, 110, 97, 114, 121, 44, 32, 114, 101, 115, 101, 116, 58, 32, 98, 105, 110, 97, 114, 121]⟩ [⟨#[115, 101, 116, 58, 32, 98, 105, 110, 97, 114, 121]⟩, ⟨#[114, 101, 115, 101, 116, 58, 32, 98, 105, 110, 97, 114, 121]⟩] := split_of _ _ (by decide) (by kernel_rfl) (by kernel_rfl)
theorem cuts_8 : ∀ (k : Nat) (s : ByteArray) (x : PortD), ([⟨#[115, 101, 116, 58, 32, 98, 105, 110, 97, 114, 121]⟩, ⟨#[114, 101, 115, 101, 116, 58, 32, 98, 105, 110, 97, 114, 121]⟩] : List ByteArray)[k]? = some s → ([⟨⟨#[115, 101, 116]⟩, ⟨#[98, 105, 110, 97, 114, 121]⟩⟩, ⟨⟨#[114, 101, 115, 101, 116]⟩, ⟨#[98, 105, 110, 97, 114, 121]⟩⟩] : List PortD)[k]? = some x → CutOk s x
  | 0, s, x, hs, hx => by
    obtain rfl : ⟨#[115, 101, 116, 58, 32, 98, 105, 110, 97, 114, 121]⟩ = s := by simpa using hs
    obtain rfl : (⟨⟨#[115, 101, 116]⟩, ⟨#[98, 105, 110, 97, 114, 121]⟩⟩ : PortD) = x := by simpa using hx
    exact cut_10
  | 1, s, x, hs, hx => by
    obtain rfl : ⟨#[114, 101, 115, 101, 116, 58, 32, 98, 105, 110, 97, 114, 121]⟩ = s := by simpa using hs
    obtain rfl : (⟨⟨#[114, 101, 115, 101, 116]⟩, ⟨#[98, 105, 110, 97, 114, 121]⟩⟩ : PortD) = x := by simpa using hx
    exact cut_6
  | _ + 2, _, _, hs, _ => by simp at hs
theorem split_9 : SplitOk ⟨#[115, 58, 32, 98, 105, 110, 97, 114, 121, 44, 32, 97, 58, 32, 84, 44, 32, 98, 58, 32, 84]⟩ [⟨#[115, 58, 32, 98, 105, 110, 97, 114, 121]⟩, ⟨#[97, 58, 32, 84]⟩, ⟨#[98, 58, 32, 84]⟩] := split_of _ _ (by decide) (by kernel_rfl) (by kernel_rfl)
theorem cuts_9 : ∀ (k : Nat) (s : ByteArray) (x : PortD), ([⟨#[115, 58, 32, 98, 105, 110, 97, 114, 121]⟩, ⟨#[97, 58, 32, 84]⟩, ⟨#[98, 58, 32, 84]⟩] : List ByteArray)[k]? = some s → ([⟨⟨#[115]⟩, ⟨#[98, 105, 110, 97, 114, 121]⟩⟩, ⟨⟨#[97]⟩, ⟨#[84]⟩⟩, ⟨⟨#[98]⟩, ⟨#[84]⟩⟩] : List PortD)[k]? = some x → CutOk s x
  | 0, s, x, hs, hx => by
    obtain rfl : ⟨#[115, 58, 32, 98, 105, 110, 97, 114, 121]⟩ = s := by simpa using hs
    obtain rfl : (⟨⟨#[115]⟩, ⟨#[98, 105, 110, 97, 114, 121]⟩⟩ : PortD) = x := by simpa using hx
    exact cut_11
  | 1, s, x, hs, hx => by
    obtain rfl : ⟨#[97, 58, 32, 84]⟩ = s := by simpa using hs
    obtain rfl : (⟨⟨#[97]⟩, ⟨#[84]⟩⟩ : PortD) = x := by simpa using hx
    exact cut_5
  | 2, s, x, hs, hx => by
    obtain rfl : ⟨#[98, 58, 32, 84]⟩ = s := by simpa using hs
    obtain rfl : (⟨⟨#[98]⟩, ⟨#[84]⟩⟩ : PortD) = x := by simpa using hx
    exact cut_12
  | _ + 3, _, _, hs, _ => by simp at hs
theorem split_10 : SplitOk ⟨#[115, 101, 116, 58, 32, 85, 44, 32, 110, 111, 119, 58, 32, 85, 44, 32, 101, 110, 97, 98, 108, 101, 58, 32, 98, 105, 110, 97, 114, 121]⟩ [⟨#[115, 101, 116, 58, 32, 85]⟩, ⟨#[110, 111, 119, 58, 32, 85]⟩, ⟨#[101, 110, 97, 98, 108, 101, 58, 32, 98, 105, 110, 97, 114, 121]⟩] := split_of _ _ (by decide) (by kernel_rfl) (by kernel_rfl)
theorem cuts_10 : ∀ (k : Nat) (s : ByteArray) (x : PortD), ([⟨#[115, 101, 116, 58, 32, 85]⟩, ⟨#[110, 111, 119, 58, 32, 85]⟩, ⟨#[101, 110, 97, 98, 108, 101, 58, 32, 98, 105, 110, 97, 114, 121]⟩] : List ByteArray)[k]? = some s → ([⟨⟨#[115, 101, 116]⟩, ⟨#[85]⟩⟩, ⟨⟨#[110, 111, 119]⟩, ⟨#[85]⟩⟩, ⟨⟨#[101, 110, 97, 98, 108, 101]⟩, ⟨#[98, 105, 110, 97, 114, 121]⟩⟩] : List PortD)[k]? = some x → CutOk s x
  | 0, s, x, hs, hx => by
    obtain rfl : ⟨#[115, 101, 116, 58, 32, 85]⟩ = s := by simpa using hs
    obtain rfl : (⟨⟨#[115, 101, 116]⟩, ⟨#[85]⟩⟩ : PortD) = x := by simpa using hx
    exact cut_13
  | 1, s, x, hs, hx => by
    obtain rfl : ⟨#[110, 111, 119, 58, 32, 85]⟩ = s := by simpa using hs
    obtain rfl : (⟨⟨#[110, 111, 119]⟩, ⟨#[85]⟩⟩ : PortD) = x := by simpa using hx
    exact cut_14
  | 2, s, x, hs, hx => by
    obtain rfl : ⟨#[101, 110, 97, 98, 108, 101, 58, 32, 98, 105, 110, 97, 114, 121]⟩ = s := by simpa using hs
    obtain rfl : (⟨⟨#[101, 110, 97, 98, 108, 101]⟩, ⟨#[98, 105, 110, 97, 114, 121]⟩⟩ : PortD) = x := by simpa using hx
    exact cut_15
  | _ + 3, _, _, hs, _ => by simp at hs
theorem split_11 : SplitOk ⟨#[103, 111, 58, 32, 98, 105, 110, 97, 114, 121, 44, 32, 110, 101, 120, 116, 58, 32, 98, 105, 110, 97, 114, 121]⟩ [⟨#[103, 111, 58, 32, 98, 105, 110, 97, 114, 121]⟩, ⟨#[110, 101, 120, 116, 58, 32, 98, 105, 110, 97, 114, 121]⟩] := split_of _ _ (by decide) (by kernel_rfl) (by kernel_rfl)
theorem cuts_11 : ∀ (k : Nat) (s : ByteArray) (x : PortD), ([⟨#[103, 111, 58, 32, 98, 105, 110, 97, 114, 121]⟩, ⟨#[110, 101, 120, 116, 58, 32, 98, 105, 110, 97, 114, 121]⟩] : List ByteArray)[k]? = some s → ([⟨⟨#[103, 111]⟩, ⟨#[98, 105, 110, 97, 114, 121]⟩⟩, ⟨⟨#[110, 101, 120, 116]⟩, ⟨#[98, 105, 110, 97, 114, 121]⟩⟩] : List PortD)[k]? = some x → CutOk s x
  | 0, s, x, hs, hx => by
    obtain rfl : ⟨#[103, 111, 58, 32, 98, 105, 110, 97, 114, 121]⟩ = s := by simpa using hs
    obtain rfl : (⟨⟨#[103, 111]⟩, ⟨#[98, 105, 110, 97, 114, 121]⟩⟩ : PortD) = x := by simpa using hx
    exact cut_16
  | 1, s, x, hs, hx => by
    obtain rfl : ⟨#[110, 101, 120, 116, 58, 32, 98, 105, 110, 97, 114, 121]⟩ = s := by simpa using hs
    obtain rfl : (⟨⟨#[110, 101, 120, 116]⟩, ⟨#[98, 105, 110, 97, 114, 121]⟩⟩ : PortD) = x := by simpa using hx
    exact cut_17
  | _ + 2, _, _, hs, _ => by simp at hs
/-- what a descriptor is: the row's cells, its parameters, inputs and output in lists of the call's own -/
def DescOk (B : Nat) (rn ro : ByteArray) (rm rs : Int) (pl : List BndD) (il : List PortD) (D : Value) (w' : World) : Prop := ∃ v1 v2 ob, D = .agg #[.string rn, v1, v2, .slice (some ⟨ob, 0, none⟩) 1 1, .int .i64 rs, .int .i64 rm] ∧ w'.ownsRow B 67 4 v1 pl.length (flat bndL pl) ∧ w'.ownsRow B 65 2 v2 il.length (flat portL il) ∧ w'.ownsRow B 65 2 (.slice (some ⟨ob, 0, none⟩) 1 1) 1 [.string ⟨#[111, 117, 116]⟩, .string ro] ∧ v2.ownBlock ≠ some ob
def RowOk (r : RowB) (pl : List BndD) (il : List PortD) : Prop := ∀ w, MaxAt w → Calls Tryd.prog 28 #[rowV r] w fun e w' => ∃ D, e = .returned D ∧ DescOk w.heap.size r.nm r.out r.most r.st pl il D w' ∧ Below w.heap.size w w'
theorem row_ok (r : RowB) (pl : List BndD) (il : List PortD) (parts : List ByteArray) (hb : BoundsOk r.nm pl) (hs : SplitOk r.ins parts) (hl : il.length = parts.length) (h10 : il.length ≤ 10) (hc : ∀ (k : Nat) (s : ByteArray) (x : PortD), parts[k]? = some s → il[k]? = some x → CutOk s x) : RowOk r pl il := by
  intro w hm
  refine (descriptor_any r.nm r.ins r.out r.most r.st pl il parts hb hs hl h10 hc w hm).mono ?_
  rintro e w' ⟨v1, v2, ob, rfl, h1, h2, h3, h4, h5⟩
  exact ⟨_, rfl, ⟨v1, v2, ob, rfl, h1, h2, h3, h4⟩, h5⟩
theorem row_count : RowOk ⟨⟨#[99, 111, 117, 110, 116]⟩, ⟨#[97, 58, 32, 98, 105, 110, 97, 114, 121, 44, 32, 114, 101, 115, 101, 116, 58, 32, 98, 105, 110, 97, 114, 121]⟩, ⟨#[97, 110, 97, 108, 111, 103]⟩, 1, 2⟩ [] [⟨⟨#[97]⟩, ⟨#[98, 105, 110, 97, 114, 121]⟩⟩, ⟨⟨#[114, 101, 115, 101, 116]⟩, ⟨#[98, 105, 110, 97, 114, 121]⟩⟩] := row_ok _ _ _ _ bounds_count split_4 rfl (by decide) cuts_4
theorem row_edge : RowOk ⟨⟨#[101, 100, 103, 101]⟩, ⟨#[97, 58, 32, 98, 105, 110, 97, 114, 121]⟩, ⟨#[98, 105, 110, 97, 114, 121]⟩, 1, 1⟩ [] [⟨⟨#[97]⟩, ⟨#[98, 105, 110, 97, 114, 121]⟩⟩] := row_ok _ _ _ _ bounds_edge split_7 rfl (by decide) cuts_7
theorem row_hyst : RowOk ⟨⟨#[104, 121, 115, 116]⟩, ⟨#[97, 58, 32, 85]⟩, ⟨#[98, 105, 110, 97, 114, 121]⟩, 1, 1⟩ [⟨⟨#[111, 110]⟩, (-1000000000000), 1000000000000, 1000⟩, ⟨⟨#[111, 102, 102]⟩, (-1000000000000), 1000000000000, 0⟩] [⟨⟨#[97]⟩, ⟨#[85]⟩⟩] := row_ok _ _ _ _ bounds_hyst split_1 rfl (by decide) cuts_1
theorem row_latch : RowOk ⟨⟨#[108, 97, 116, 99, 104]⟩, ⟨#[115, 101, 116, 58, 32, 98, 105, 110, 97, 114, 121, 44, 32, 114, 101, 115, 101, 116, 58, 32, 98, 105, 110, 97, 114, 121]⟩, ⟨#[98, 105, 110, 97, 114, 121]⟩, 1, 1⟩ [] [⟨⟨#[115, 101, 116]⟩, ⟨#[98, 105, 110, 97, 114, 121]⟩⟩, ⟨⟨#[114, 101, 115, 101, 116]⟩, ⟨#[98, 105, 110, 97, 114, 121]⟩⟩] := row_ok _ _ _ _ bounds_latch split_8 rfl (by decide) cuts_8
theorem row_minrun : RowOk ⟨⟨#[109, 105, 110, 114, 117, 110]⟩, ⟨#[97, 58, 32, 98, 105, 110, 97, 114, 121]⟩, ⟨#[98, 105, 110, 97, 114, 121]⟩, 1, 2⟩ [⟨⟨#[111, 110]⟩, 0, 86400, 0⟩, ⟨⟨#[111, 102, 102]⟩, 0, 86400, 0⟩] [⟨⟨#[97]⟩, ⟨#[98, 105, 110, 97, 114, 121]⟩⟩] := row_ok _ _ _ _ bounds_minrun split_7 rfl (by decide) cuts_7
theorem row_offdelay : RowOk ⟨⟨#[111, 102, 102, 100, 101, 108, 97, 121]⟩, ⟨#[97, 58, 32, 98, 105, 110, 97, 114, 121]⟩, ⟨#[98, 105, 110, 97, 114, 121]⟩, 1, 1⟩ [⟨⟨#[116, 105, 109, 101]⟩, 0, 86400, 0⟩] [⟨⟨#[97]⟩, ⟨#[98, 105, 110, 97, 114, 121]⟩⟩] := row_ok _ _ _ _ bounds_offdelay split_7 rfl (by decide) cuts_7
theorem row_ondelay : RowOk ⟨⟨#[111, 110, 100, 101, 108, 97, 121]⟩, ⟨#[97, 58, 32, 98, 105, 110, 97, 114, 121]⟩, ⟨#[98, 105, 110, 97, 114, 121]⟩, 1, 1⟩ [⟨⟨#[116, 105, 109, 101]⟩, 0, 86400, 0⟩] [⟨⟨#[97]⟩, ⟨#[98, 105, 110, 97, 114, 121]⟩⟩] := row_ok _ _ _ _ bounds_ondelay split_7 rfl (by decide) cuts_7
theorem row_pulse : RowOk ⟨⟨#[112, 117, 108, 115, 101]⟩, ⟨#[97, 58, 32, 98, 105, 110, 97, 114, 121]⟩, ⟨#[98, 105, 110, 97, 114, 121]⟩, 1, 2⟩ [⟨⟨#[116, 105, 109, 101]⟩, 0, 86400, 0⟩] [⟨⟨#[97]⟩, ⟨#[98, 105, 110, 97, 114, 121]⟩⟩] := row_ok _ _ _ _ bounds_pulse split_7 rfl (by decide) cuts_7
theorem row_limit : RowOk ⟨⟨#[108, 105, 109, 105, 116]⟩, ⟨#[97, 58, 32, 85]⟩, ⟨#[85]⟩, 1, 0⟩ [⟨⟨#[108, 111, 119]⟩, (-1000000000000), 1000000000000, (-1000000000000)⟩, ⟨⟨#[104, 105, 103, 104]⟩, (-1000000000000), 1000000000000, 1000000000000⟩] [⟨⟨#[97]⟩, ⟨#[85]⟩⟩] := row_ok _ _ _ _ bounds_limit split_1 rfl (by decide) cuts_1
end Go.Proofs.YtaobbedajgkmiaaDoor
