/- The token at the beginning of a text, and what a line is scanned to, in plain terms. -/
import Derived.Test.YtaaaddmdcldclaaGreatDoorNq
import Derived.Test.YtaaaddmdcldclaaGreatDoorSl
namespace Go.Proofs.YtaaaddmdcldclaaGreatDoor
open Go.RowKit Go.Shelf

/-- a token: kind, text, number, column -/
structure TkF where
  k : Int
  t : ByteArray
  n : Int
  a : Int
/-- a token that was read: kind, text, number, its length, an error -/
structure TkR where
  k : Int
  t : ByteArray
  n : Int
  l : Nat
  c : Int
def tkC (x : TkF) : List Value := [.int .i64 x.k, .string x.t, .int .i64 x.n, .int .i64 x.a]
theorem tkC_len (x : TkF) : (tkC x).length = 4 := rfl
def wordR (s : ByteArray) : TkR := if 49 < wordN s then ⟨0, ⟨#[]⟩, 0, 0, 7⟩ else ⟨1, s.extract 0 (wordN s), 0, wordN s, 0⟩
def runR (s : ByteArray) : TkR := ⟨(runT (runS s)).1, (runT (runS s)).2.1, (runT (runS s)).2.2.1, runN s, (runT (runS s)).2.2.2⟩
def textR (s : ByteArray) : TkR := if (hasS (tailS s) 34 && printB (textS s)) = true then (if labelB (textS s) = true then ⟨3, textS s, 0, (textS s).size + 2, 0⟩ else ⟨0, ⟨#[]⟩, 0, 0, 4⟩) else ⟨0, ⟨#[]⟩, 0, 0, 2⟩
def signR (s : ByteArray) : TkR := if 0 ≤ signI (byteI s 0) then ⟨6, s.extract 0 1, 0, 1, 0⟩ else ⟨0, ⟨#[]⟩, 0, 0, 2⟩
def readR (s : ByteArray) : TkR :=
  if letB (byteI s 0) = true then wordR s
  else if (digB (byteI s 0) || decide (byteI s 0 = 45) || decide (byteI s 0 = 42)) = true then runR s
  else if byteI s 0 = 34 then textR s
  else signR s
def rV (r : TkR) : Array Value := #[tokV r.k r.t r.n 0, .int .i64 r.l, .int .i64 r.c]
theorem wordV_is (s : ByteArray) : readWordV s = rV (wordR s) := by
  unfold readWordV wordR; split <;> rfl
theorem textV_is (s : ByteArray) : readTextV s = rV (textR s) := by
  unfold readTextV textR; split
  · split <;> rfl
  · rfl
theorem readV_is (s : ByteArray) : readTokenV s = rV (readR s) := by
  unfold readTokenV readR
  by_cases h1 : letB (byteI s 0) = true
  · rw [if_pos h1, if_pos h1]; exact wordV_is s
  rw [if_neg h1, if_neg h1]
  by_cases h2 : (digB (byteI s 0) || decide (byteI s 0 = 45) || decide (byteI s 0 = 42)) = true
  · rw [if_pos h2, if_pos h2]; rfl
  rw [if_neg h2, if_neg h2]
  by_cases h3 : byteI s 0 = 34
  · rw [if_pos h3, if_pos h3]; exact textV_is s
  rw [if_neg h3, if_neg h3]
  unfold signR; split <;> rfl
theorem text_len {s : ByteArray} (h : hasS (tailS s) 34 = true) : (textS s).size + 2 ≤ s.size := by
  rcases ix_cases (tailS s) 34 with h1 | ⟨i, h1, h2⟩
  · rw [(cut_miss h1).2.2] at h
    exact absurd h (by simp)
  · have e : textS s = (tailS s).extract 0 i := (cut_hit h1).1
    have e2 : (tailS s).size = s.size - 1 := by unfold tailS; rw [ByteArray.size_extract]; omega
    rw [e, ByteArray.size_extract]
    omega
theorem readR_len {s : ByteArray} (h0 : 0 < s.size) (hc : (readR s).c = 0) : 1 ≤ (readR s).l ∧ (readR s).l ≤ s.size := by
  unfold readR at hc ⊢
  by_cases h1 : letB (byteI s 0) = true
  · rw [if_pos h1] at hc ⊢
    have := runF_le (fun k => wordB (byteI s k)) (s.size - 1) 1
    unfold wordR at hc ⊢
    by_cases h : 49 < wordN s
    · rw [if_pos h] at hc; exact absurd hc (by decide)
    · rw [if_neg h]
      show 1 ≤ wordN s ∧ wordN s ≤ s.size
      unfold wordN
      omega
  rw [if_neg h1] at hc ⊢
  by_cases h2 : (digB (byteI s 0) || decide (byteI s 0 = 45) || decide (byteI s 0 = 42)) = true
  · rw [if_pos h2]
    have := runF_le (fun k => runB s k) (s.size - 1) 1
    show 1 ≤ runN s ∧ runN s ≤ s.size
    unfold runN
    omega
  rw [if_neg h2] at hc ⊢
  by_cases h3 : byteI s 0 = 34
  · rw [if_pos h3] at hc ⊢
    unfold textR at hc ⊢
    by_cases h4 : (hasS (tailS s) 34 && printB (textS s)) = true
    · rw [if_pos h4] at hc ⊢
      by_cases h5 : labelB (textS s) = true
      · rw [if_pos h5]
        have := text_len (s := s) (by simp at h4; exact h4.1)
        show 1 ≤ (textS s).size + 2 ∧ (textS s).size + 2 ≤ s.size
        omega
      · rw [if_neg h5] at hc; exact absurd hc (by decide)
    · rw [if_neg h4] at hc; exact absurd hc (by decide)
  rw [if_neg h3] at hc ⊢
  unfold signR at hc ⊢
  by_cases h4 : 0 ≤ signI (byteI s 0)
  · rw [if_pos h4]
    exact ⟨Nat.le_refl _, h0⟩
  · rw [if_neg h4] at hc; exact absurd hc (by decide)
/-- a line that was scanned: indentation, tokens, heading, comment, fault and its column -/
structure ScV where
  ind : Nat
  L : List TkF
  hd : Bool
  cm : ByteArray
  code : Int
  col : Int
def badS (p : Nat) (e : Int) : ScV := ⟨0, [], false, ⟨#[]⟩, e, p + 1⟩
def isColon (x : TkF) : Bool := decide (x.k = 6) && (x.t.toList == ([58] : List UInt8))
def colonS (ind : Nat) (L : List TkF) (cm : ByteArray) : ScV :=
  match L.getLast? with
  | none => ⟨ind, L, false, cm, 0, 0⟩
  | some x => if isColon x = true then (if L.length = 1 then ⟨0, [], false, ⟨#[]⟩, 2, x.a⟩ else ⟨ind, L.take (L.length - 1), true, cm, 0, 0⟩) else ⟨ind, L, false, cm, 0, 0⟩
def scanF : Nat → ByteArray → Nat → List TkF → Nat → ScV
  | 0, _, _, L, ind => colonS ind L ⟨#[]⟩
  | f + 1, s, p, L, ind =>
    if p < s.size then
      if byteI s p = 35 then colonS ind L (s.extract (p + 1) s.size)
      else if L.length = 0 ∧ indE p ≠ 0 then badS p (indE p)
      else if L.length = 64 then badS p 7
      else if (readR (s.extract p s.size)).c ≠ 0 then badS p (readR (s.extract p s.size)).c
      else scanF f s (blankN s (p + (readR (s.extract p s.size)).l)) (L ++ [⟨(readR (s.extract p s.size)).k, (readR (s.extract p s.size)).t, (readR (s.extract p s.size)).n, p + 1⟩]) (if L.length = 0 then p / 2 else ind)
    else colonS ind L ⟨#[]⟩
def scanS (s : ByteArray) : ScV := if 1000 < s.size then badS 1000 7 else scanF (s.size + 1) s (blankN s 0) [] 0
theorem blank_le (s : ByteArray) (p : Nat) (h : p ≤ s.size) : p ≤ blankN s p ∧ blankN s p ≤ s.size := by
  have := runF_le (fun k => blankB (byteI s k)) (s.size - p) p
  unfold blankN
  omega
end Go.Proofs.YtaaaddmdcldclaaGreatDoor
