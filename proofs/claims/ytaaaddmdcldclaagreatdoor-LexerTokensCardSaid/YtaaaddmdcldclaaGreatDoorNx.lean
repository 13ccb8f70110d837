/- The contract of strings.Cut at a sign of one byte (as XUx of tplun): no bound, no variable. -/
import Derived.Test.YtaaaddmdcldclaaGreatDoorNd
import Derived.Test.YtaaaddmdcldclaaGreatDoorShelf
import Derived.Lib.IndexLaws
import Derived.Lib.CutLaws
import Derived.Lib.SplitLaws
namespace Go.Proofs.YtaaaddmdcldclaaGreatDoor
open Go.RowKit Go.Shelf

theorem lex_drewN (m : Nat) (w : World) (n : Nat) : Below m w (w.drewN n) := ⟨rfl, rfl, rfl, Nat.le_refl _, fun _ _ => rfl⟩

set_option maxHeartbeats 2000000 in
set_option maxRecDepth 100000 in
theorem slcut_one (s : ByteArray) (d : UInt8) (w : World) (hs : s.size ≤ 1000) :
    Calls Tryz.prog 68 #[.string s, .string ⟨#[d]⟩] w fun e w' => e = .returned (.tuple #[.string ⟨(Lib.cut s.data.toList [d]).1.toArray⟩, .string ⟨(Lib.cut s.data.toList [d]).2.1.toArray⟩, .bool (Lib.cut s.data.toList [d]).2.2]) ∧ Below w.heap.size w w' := by
  have hI := Tryz.stringslite_Index_one s d w
  rw [← Lib.index_one] at hI
  have hI : Calls Tryz.prog 84 #[.string s, .string ⟨#[d]⟩] w fun e w' => e = .returned (.int .i64 (Lib.indexB s ⟨#[d]⟩)) ∧ w' = w := hI
  have hsz : (⟨#[d]⟩ : ByteArray).size = 1 := rfl
  rcases Lib.indexB_cases s ⟨#[d]⟩ with hix | ⟨i, hix, hroom⟩
  · obtain ⟨e1, e2, e3⟩ := Lib.cutB_miss s ⟨#[d]⟩ hix
    have e1 : (⟨(Lib.cut s.data.toList [d]).1.toArray⟩ : ByteArray) = _ := e1
    have e2 : (⟨(Lib.cut s.data.toList [d]).2.1.toArray⟩ : ByteArray) = _ := e2
    have e3 : (Lib.cut s.data.toList [d]).2.2 = _ := e3
    rw [e1, e2, e3]
    rw [hix] at hI
    have HI := Lib.hid hI
    clear e1 e2 e3 hI hix hsz
    go_enter Tryz.func68, Tryz.ntmps68
    go_wp2_with fail
    refine HI.out.mono ?_
    rintro e w' ⟨rfl, rfl⟩
    go_wp2_with fail
    go_ret3
    exact ⟨rfl, Below.refl _ _⟩
  · obtain ⟨e1, e2, e3⟩ := Lib.cutB_hit s ⟨#[d]⟩ i hix
    have e1 : (⟨(Lib.cut s.data.toList [d]).1.toArray⟩ : ByteArray) = _ := e1
    have e2 : (⟨(Lib.cut s.data.toList [d]).2.1.toArray⟩ : ByteArray) = _ := e2
    have e3 : (Lib.cut s.data.toList [d]).2.2 = _ := e3
    rw [e1, e2, e3]
    rw [hix] at hI
    rw [hsz] at hroom
    have HI := Lib.hid hI
    have c1 : (0 : Int) ≤ ↑i := by omega
    have c2 : (↑i : Int) ≤ ↑s.size := by omega
    have c3 : (0 : Int) ≤ ↑i + 1 := by omega
    have c4 : (↑i + 1 : Int) ≤ ↑s.size := by omega
    have c5 : IntKind.i64.wrap ((i : Int) + 1) = ↑i + 1 := IntWalk.i64_in _ ⟨by omega, by omega⟩
    have c6 : ((i : Int) + 1).toNat = i + 1 := by omega
    clear e1 e2 e3 hI hix
    go_enter Tryz.func68, Tryz.ntmps68
    go_wp2_with fail
    refine HI.out.mono ?_
    rintro e w' ⟨rfl, rfl⟩
    go_wp2_with fail
    go_region
    go_wp2_with fail
    go_ret3
    exact ⟨rfl, lex_drewN _ _ 1⟩
theorem cut_one (s : ByteArray) (d : UInt8) (w : World) (hs : s.size ≤ 1000) :
    Calls Tryz.prog 42 #[.string s, .string ⟨#[d]⟩] w fun e w' => e = .returned (.tuple #[.string ⟨(Lib.cut s.data.toList [d]).1.toArray⟩, .string ⟨(Lib.cut s.data.toList [d]).2.1.toArray⟩, .bool (Lib.cut s.data.toList [d]).2.2]) ∧ Below w.heap.size w w' := by
  have hC := slcut_one s d w hs
  obtain ⟨A, hA⟩ : ∃ x, x = (⟨(Lib.cut s.data.toList [d]).1.toArray⟩ : ByteArray) := ⟨_, rfl⟩
  obtain ⟨B, hB⟩ : ∃ x, x = (⟨(Lib.cut s.data.toList [d]).2.1.toArray⟩ : ByteArray) := ⟨_, rfl⟩
  obtain ⟨b, hb⟩ : ∃ x, x = (Lib.cut s.data.toList [d]).2.2 := ⟨_, rfl⟩
  rw [← hA, ← hB, ← hb] at hC ⊢
  have HC := Lib.hid hC
  clear hC hA hB hb
  go_enter Tryz.func42, Tryz.ntmps42
  go_wp2_with fail
  refine HC.out.mono ?_
  rintro e w' ⟨rfl, hb⟩
  have B1 := Lib.hid hb
  clear hb
  go_wp2_with fail
  go_ret3
  exact ⟨rfl, B1.out⟩

def ixB (s : ByteArray) (c : UInt8) : Int := Lib.indexByte s.data.toList c
theorem ix_is (s : ByteArray) (c : UInt8) : Lib.indexB s ⟨#[c]⟩ = ixB s c := Lib.index_one _ _
theorem ix_cases (s : ByteArray) (c : UInt8) : ixB s c = -1 ∨ ∃ i : Nat, ixB s c = i ∧ i < s.size := by
  rw [← ix_is]
  rcases Lib.indexB_cases s ⟨#[c]⟩ with h | ⟨i, h, hr⟩
  · exact Or.inl h
  · have : (⟨#[c]⟩ : ByteArray).size = 1 := rfl
    exact Or.inr ⟨i, h, by omega⟩
theorem at_get {s : ByteArray} {k : Nat} (hk : k < s.size) (c : UInt8) : s.data.toList[k]? = some c ↔ byteI s k = (c.toNat : Int) := by
  have hl : k < s.data.toList.length := by simpa using hk
  rw [byteI_at hk, List.getElem?_eq_getElem hl]
  have e : s.data.toList[k] = s[k] := by simp; rfl
  rw [e]
  constructor
  · intro h; injection h with h; rw [h]
  · intro h
    have h2 : s[k].toNat = c.toNat := by omega
    rw [UInt8.toNat_inj.1 h2]
theorem ix_miss {s : ByteArray} {c : UInt8} (h : ∀ k, k < s.size → byteI s k ≠ (c.toNat : Int)) : ixB s c = -1 := by
  rcases ix_cases s c with h1 | ⟨i, h1, h2⟩
  · exact h1
  · exact absurd ((at_get h2 c).1 (Lib.indexByte_some h1).1) (h i h2)
theorem ix_hit {s : ByteArray} {c : UInt8} {i : Nat} (hi : i < s.size) (h1 : byteI s i = (c.toNat : Int)) (h2 : ∀ k, k < i → byteI s k ≠ (c.toNat : Int)) : ixB s c = i := by
  rcases ix_cases s c with h | ⟨j, h, hj⟩
  · exact absurd ((at_get hi c).2 h1) (Lib.indexByte_none h i)
  · have hs := Lib.indexByte_some h
    rcases Nat.lt_trichotomy i j with hl | hl | hl
    · exact absurd ((at_get hi c).2 h1) (hs.2 i hl)
    · rw [h, hl]
    · exact absurd ((at_get hj c).1 hs.1) (h2 j hl)
theorem ix_none {s : ByteArray} {c : UInt8} (h : ixB s c = -1) (k : Nat) (hk : k < s.size) : byteI s k ≠ (c.toNat : Int) := fun e => Lib.indexByte_none h k ((at_get hk c).2 e)
theorem ix_some {s : ByteArray} {c : UInt8} {i : Nat} (h : ixB s c = i) (hi : i < s.size) : byteI s i = (c.toNat : Int) ∧ ∀ k, k < i → byteI s k ≠ (c.toNat : Int) :=
  ⟨(at_get hi c).1 (Lib.indexByte_some h).1, fun k hk e => (Lib.indexByte_some h).2 k hk ((at_get (by omega) c).2 e)⟩
def befS (s : ByteArray) (d : UInt8) : ByteArray := ⟨(Lib.cut s.data.toList [d]).1.toArray⟩
def aftS (s : ByteArray) (d : UInt8) : ByteArray := ⟨(Lib.cut s.data.toList [d]).2.1.toArray⟩
def hasS (s : ByteArray) (d : UInt8) : Bool := (Lib.cut s.data.toList [d]).2.2
theorem cut_hit {s : ByteArray} {d : UInt8} {i : Nat} (h : ixB s d = i) : befS s d = s.extract 0 i ∧ aftS s d = s.extract (i + 1) s.size ∧ hasS s d = true := Lib.cutB_hit s ⟨#[d]⟩ i ((ix_is s d).trans h)
theorem cut_miss {s : ByteArray} {d : UInt8} (h : ixB s d = -1) : befS s d = s ∧ aftS s d = ⟨#[]⟩ ∧ hasS s d = false := Lib.cutB_miss s ⟨#[d]⟩ ((ix_is s d).trans h)
theorem cut_any (s : ByteArray) (d : UInt8) (w : World) (hs : s.size ≤ 1000) :
    Calls Tryz.prog 42 #[.string s, .string ⟨#[d]⟩] w fun e w' => e = .returned (.tuple #[.string (befS s d), .string (aftS s d), .bool (hasS s d)]) ∧ Below w.heap.size w w' := cut_one s d w hs
end Go.Proofs.YtaaaddmdcldclaaGreatDoor
