/- Plain: the spelling of a token; a text that is one token is scanned as this token. -/
import Derived.Test.YtaaaddmdcldclaaGreatDoorFt
namespace Go.Proofs.YtaaaddmdcldclaaGreatDoor
open Go.RowKit Go.Shelf

/-- how a token would be spelled -/
def spellB (k : Int) (t : ByteArray) (n : Int) : ByteArray :=
  if k = 1 ∨ k = 5 ∨ k = 6 then t
  else if k = 3 then ⟨#[34]⟩ ++ t ++ ⟨#[34]⟩
  else if k = 2 then Fx.textB n
  else if k = 4 then (if 0 ≤ n ∧ n < 1440 then Cv.bs (Cv.clockL n) else ⟨#[]⟩)
  else ⟨#[]⟩
/-- whether a token can stand in a line -/
def tokOk (k : Int) (t : ByteArray) (n : Int) : Prop := 0 < (spellB k t n).size ∧ readR (spellB k t n) = ⟨k, t, n, (spellB k t n).size, 0⟩
theorem read_first {s : ByteArray} (h : (readR s).c = 0) : byteI s 0 ≠ 32 ∧ byteI s 0 ≠ 35 := by
  refine ⟨fun e => ?_, fun e => ?_⟩
  · have h1 : letB (32 : Int) = false := by decide
    have h2 : (digB (32 : Int) || decide ((32 : Int) = 45) || decide ((32 : Int) = 42)) = false := by decide
    unfold readR signR at h
    rw [e, h1, h2, if_neg (by decide), if_neg (by decide), if_neg (by decide), if_neg (by decide)] at h
    exact absurd h (by decide)
  · have h1 : letB (35 : Int) = false := by decide
    have h2 : (digB (35 : Int) || decide ((35 : Int) = 45) || decide ((35 : Int) = 42)) = false := by decide
    unfold readR signR at h
    rw [e, h1, h2, if_neg (by decide), if_neg (by decide), if_neg (by decide), if_neg (by decide)] at h
    exact absurd h (by decide)
theorem blank_stop {s : ByteArray} {p : Nat} (hp : p < s.size) (h : byteI s p ≠ 32) : blankN s p = p :=
  runF_stop hp (by unfold blankB; exact decide_eq_false h)
theorem blank_end (s : ByteArray) : blankN s s.size = s.size := runF_end _ _
theorem ext_all (s : ByteArray) : s.extract 0 s.size = s := by simp
theorem scan_one {s t : ByteArray} {k n : Int} (h0 : 0 < s.size) (hs : s.size ≤ 1000) (hr : readR s = ⟨k, t, n, s.size, 0⟩) (hc : isColon ⟨k, t, n, 1⟩ = false) :
    scanS s = ⟨0, [⟨k, t, n, 1⟩], false, ⟨#[]⟩, 0, 0⟩ := by
  have hf := read_first (s := s) (by rw [hr])
  unfold scanS
  rw [if_neg (by omega), blank_stop h0 hf.1]
  unfold scanF
  rw [if_pos h0, if_neg hf.2, if_neg (by simp [indE]), if_neg (by simp), ext_all, hr, if_neg (by simp)]
  obtain ⟨m, hm⟩ : ∃ m, s.size = m + 1 := ⟨s.size - 1, by omega⟩
  simp only [Nat.zero_add, blank_end]
  rw [hm]
  unfold scanF
  rw [if_neg (by omega)]
  unfold colonS
  simp [hc]
end Go.Proofs.YtaaaddmdcldclaaGreatDoor
