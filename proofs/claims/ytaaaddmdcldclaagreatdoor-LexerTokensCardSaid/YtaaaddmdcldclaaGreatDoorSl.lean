/- Slices of structs as flat lists of cells: such as came in, such as are the call's own; opening; plain. -/
import Derived.Test.YtaaaddmdcldclaaGreatDoorRo
import Derived.Laws.AppendOwn
import Derived.ProofKit
import Derived.OpenShut
import Derived.Deep.Slices
import Derived.Deep.Fields
import Derived.ChangeSame
namespace Go.Proofs.YtaaaddmdcldclaaGreatDoor
open Go.ChangeShapes Go.WideShapes Go.Deep Go.RowKit

def flat {α : Type} (f : α → List Value) (xs : List α) : List Value := xs.flatMap f
theorem flat_len {α : Type} {f : α → List Value} {sz : Nat} (hf : ∀ x, (f x).length = sz) (xs : List α) : (flat f xs).length = xs.length * sz := by
  induction xs with
  | nil => simp [flat]
  | cons x xs ih =>
    have e : flat f (x :: xs) = f x ++ flat f xs := rfl
    rw [e, List.length_append, ih, hf, List.length_cons, Nat.succ_mul, Nat.add_comm]
theorem flat_append {α : Type} (f : α → List Value) (xs ys : List α) : flat f (xs ++ ys) = flat f xs ++ flat f ys := List.flatMap_append
theorem flat_at {α : Type} {f : α → List Value} {sz : Nat} (hf : ∀ x, (f x).length = sz) (xs : List α) (i : Nat) (x : α) (h : xs[i]? = some x) (j : Nat) (hj : j < sz) : (flat f xs)[i * sz + j]? = (f x)[j]? := by
  induction xs generalizing i with
  | nil => simp at h
  | cons y ys ih =>
    have e : flat f (y :: ys) = f y ++ flat f ys := rfl
    rw [e]
    cases i with
    | zero =>
      obtain rfl : y = x := by simpa using h
      rw [Nat.zero_mul, Nat.zero_add, List.getElem?_append_left (by rw [hf]; exact hj)]
    | succ i =>
      have := ih i (by simpa using h)
      rw [List.getElem?_append_right (by rw [hf, Nat.succ_mul]; omega), hf, ← this]
      congr 1
      rw [Nat.succ_mul]; omega
/-- a slice of n elements of sz cells each, with these cells -/
def InS (w : World) (a : Option Addr) (n sz : Nat) (L : List Value) : Prop :=
  L.length = n * sz ∧ n ≤ 9223372036854775807 ∧ (n = 0 ∨ ∃ b off, a = some ⟨b, off, none⟩ ∧ b < w.heap.size ∧ ∀ j v, L[j]? = some v → w.cell? ⟨b, off + j, none⟩ = some v)
theorem InS.keep {w w' : World} {a : Option Addr} {n sz : Nat} {L : List Value} (h : InS w a n sz L) (hb : Below w.heap.size w w') : InS w' a n sz L := by
  obtain ⟨hl, hn, h0 | ⟨b, off, ha, hlt, hc⟩⟩ := h
  · exact ⟨hl, hn, .inl h0⟩
  · exact ⟨hl, hn, .inr ⟨b, off, ha, Nat.lt_of_lt_of_le hlt hb.size, fun j v hj => (hb.cell (p := ⟨b, off + j, none⟩) hlt).trans (hc j v hj)⟩⟩
theorem InS.at {α : Type} {f : α → List Value} {sz : Nat} {w : World} {a : Option Addr} {xs : List α} (hf : ∀ x, (f x).length = sz) (h : InS w a xs.length sz (flat f xs)) (h0 : 0 < xs.length) :
    ∃ b off, a = some ⟨b, off, none⟩ ∧ b < w.heap.size ∧ ∀ i x, xs[i]? = some x → ∀ j v, (f x)[j]? = some v → w.cell? ⟨b, off + i * sz + j, none⟩ = some v := by
  obtain ⟨_, _, h1 | ⟨b, off, ha, hlt, hc⟩⟩ := h
  · omega
  · refine ⟨b, off, ha, hlt, fun i x hx j v hv => ?_⟩
    have hj : j < sz := by rw [← hf x]; exact (List.getElem?_eq_some_iff.1 hv).1
    have := hc (i * sz + j) v ((flat_at hf xs i x hx j hj).trans hv)
    rwa [← Nat.add_assoc] at this
theorem add_plain (b off j : Nat) : (⟨b, off, none⟩ : Addr).add j = ⟨b, off + j, none⟩ := by unfold Addr.add; split <;> simp_all
theorem ins_own {w : World} {B e sz : Nat} {v : Value} {n : Nat} {L : List Value} (h : w.ownsRow B e sz v n L) : ∃ a c, v = .slice a n c ∧ InS w a n sz L := by
  have hc := fun g hg => h.cells (g := g) hg
  obtain ⟨hl, ⟨rfl, rfl⟩ | ⟨g, cap, cur, rfl, hB, hw, hn, hcap, hs, ht⟩⟩ := h
  · exact ⟨none, 0, rfl, hl, by omega, .inl rfl⟩
  · refine ⟨_, cap, rfl, hl, by unfold maxLen at hcap; omega, .inr ⟨g, 0, rfl, ?_, fun j u hu => ?_⟩⟩
    · exact (Array.getElem?_eq_some_iff.1 hw).1
    · have := hc g rfl j u hu
      rw [add_plain] at this
      exact this
theorem own_keep {w w' : World} {B e sz : Nat} {v : Value} {n : Nat} {xs : List Value} (h : w.ownsRow B e sz v n xs) (hb : Below w.heap.size w w') : w'.ownsRow B e sz v n xs := by
  obtain ⟨hl, hr | ⟨g, cap, cur, hv, hB, hw, hrest⟩⟩ := h
  · exact ⟨hl, .inl hr⟩
  · exact ⟨hl, .inr ⟨g, cap, cur, hv, hB, (hb.block g (Array.getElem?_eq_some_iff.1 hw).1).trans hw, hrest⟩⟩
theorem own_base {w : World} {B B' e sz : Nat} {v : Value} {n : Nat} {xs : List Value} (h : w.ownsRow B e sz v n xs) (hb : B' ≤ B) : w.ownsRow B' e sz v n xs := by
  obtain ⟨hl, hr | ⟨g, cap, cur, hv, hB, hrest⟩⟩ := h
  · exact ⟨hl, .inl hr⟩
  · exact ⟨hl, .inr ⟨g, cap, cur, hv, Nat.le_trans hb hB, hrest⟩⟩
theorem own_empty (w : World) (T sz : Nat) : (w.alloc (Obj.cells #[] T)).ownsRow w.heap.size T sz (.slice (some ⟨w.heap.size, 0, none⟩) 0 0) 0 [] :=
  ⟨by simp, .inr ⟨w.heap.size, 0, #[], rfl, Nat.le_refl _, (by show (w.heap.push (Obj.cells #[] T))[w.heap.size]? = _; simp), Nat.le_refl _, by simp, by simp, by simp⟩⟩
theorem bdrewN {B : Nat} {w0 w : World} (h : Below B w0 w) (n : Nat) : Below B w0 (w.drewN n) := ⟨h.os, h.tape, h.output, h.size, h.block⟩
/-- a block newly made, as a slice of one element -/
theorem ins_fresh (w : World) (A : Array Value) (T sz : Nat) (h : A.size = sz) : InS (w.alloc (Obj.cells A T)) (some ⟨w.heap.size, 0, none⟩) 1 sz A.toList :=
  ⟨by simp [h], by omega, .inr ⟨_, _, rfl, by rw [World.size_alloc]; omega, fun j v hv => by rw [Nat.zero_add, World.cell?_alloc_new]; simpa using hv⟩⟩
theorem drop_cons {α : Type} {xs : List α} {k : Nat} {x : α} (h : xs[k]? = some x) : xs.drop k = x :: xs.drop (k + 1) := by
  obtain ⟨hk, rfl⟩ := List.getElem?_eq_some_iff.1 h
  exact List.drop_eq_getElem_cons hk
theorem list_of {α : Type} (P : Nat → α → Prop) : ∀ n, (∀ i, i < n → ∃ v, P i v) → ∃ l : List α, l.length = n ∧ ∀ i (h : i < l.length), P i l[i]
  | 0, _ => ⟨[], rfl, fun i h => absurd h (Nat.not_lt_zero _)⟩
  | n + 1, h => by
    obtain ⟨l, hl, hp⟩ := list_of P n (fun i hi => h i (by omega))
    obtain ⟨v, hv⟩ := h n (by omega)
    refine ⟨l ++ [v], by simp [hl], fun i hi => ?_⟩
    by_cases hin : i < l.length
    · rw [List.getElem_append_left hin]; exact hp i hin
    · have : i = n := by simp at hi; omega
      subst this
      rw [List.getElem_append_right (by omega)]
      simpa [hl] using hv

section
variable {H : Type} {enc : TypeId × Value → H} {P : Program} {w : World} {base : Nat} {spare : Nat → Bool} {held : Bool}
/-- a slice that came in whose elements open to x with the cells f x, at least one each -/
theorem slice_of {t e : TypeId} {fuel : Nat} {a : Option Addr} {len cap sz : Nat} {x : DataW H × List MemPlace} {α : Type} {f : α → List Value} (G : α → Prop) (ht : P.underlying t = some (.slice e)) (hC : P.cellsOf e = sz) (hsz : 0 < sz) (hf : ∀ x, (f x).length = sz)
    (he : ∀ n cs y, cs.length = sz → DataW.trod enc P w base spare held n e cs = some y → ∃ v, cs = f v ∧ G v)
    (h : DataW.trod enc P w base spare held fuel t [.slice a len cap] = some x) : ∃ xs : List α, xs.length = len ∧ InS w a xs.length sz (flat f xs) ∧ ∀ v ∈ xs, G v := by
  rcases open_slice ht h with ⟨hcs, _⟩ | ⟨ad, l, c, m, n, D, Pl, hcs, hb, hl, hm, hmm, hx, hi⟩
  · injection hcs with hcs _
    injection hcs with h1 h2 h3
    exact ⟨[], h2.symm, ⟨by simp [flat], by simp, .inl rfl⟩, by simp⟩
  · injection hcs with hcs _
    injection hcs with h1 h2 h3
    subst h1 h2 h3
    have hlm : len ≤ m := by rw [hmm]; split <;> omega
    by_cases h0 : len = 0
    · subst h0
      exact ⟨[], rfl, ⟨by simp [flat], by simp, .inl rfl⟩, by simp⟩
    have cell : ∀ i, i < len → ∃ v : α, G v ∧ ∀ j u, (f v)[j]? = some u → w.cell? (ad.add (i * sz + j)) = some u := by
      intro i hil
      obtain ⟨cs', hc, ht'⟩ := hi i (by omega)
      rw [hC] at hc
      obtain ⟨_, hcl, hat⟩ := World.cells?_some hc
      obtain ⟨v, rfl, hG⟩ := he _ _ _ hcl ht'
      refine ⟨v, hG, fun j u hu => ?_⟩
      have hj : j < sz := by rw [← hf v]; exact (List.getElem?_eq_some_iff.1 hu).1
      have := hat j hj
      rw [← Go.Deep.add_add, this]; exact hu
    obtain ⟨vs, hvl, hp⟩ := list_of _ len cell
    obtain ⟨b, off, spot⟩ := ad
    have hin : ∀ i x, vs[i]? = some x → ∀ j u, (f x)[j]? = some u → w.cell? ((⟨b, off, spot⟩ : Addr).add (i * sz + j)) = some u := fun i x hx j u hu => by
      obtain ⟨hi', rfl⟩ := List.getElem?_eq_some_iff.1 hx
      exact (hp i hi').2 j u hu
    have h0' : 0 < vs.length := by omega
    have hx0 : vs[0]? = some vs[0] := List.getElem?_eq_getElem h0'
    have hs0 : 0 < (f vs[0]).length := by rw [hf]; exact hsz
    have hc0 := hin 0 _ hx0 0 _ (List.getElem?_eq_getElem hs0)
    have hspot : spot = none := by simpa [Addr.add] using World.cell?_spot hc0
    subst hspot
    have hbl : b < w.heap.size := by
      have := World.block_lt_of_cell? w _ hc0
      simpa [Addr.add] using this
    unfold maxLen at hm
    refine ⟨vs, hvl, ⟨flat_len hf vs, by omega, .inr ⟨b, off, rfl, hbl, fun j v hj => ?_⟩⟩, fun v hv => ?_⟩
    · have hlt : j < vs.length * sz := by rw [← flat_len hf]; exact (List.getElem?_eq_some_iff.1 hj).1
      have hq : j / sz < vs.length := Nat.div_lt_of_lt_mul (by rw [Nat.mul_comm]; exact hlt)
      have e : j / sz * sz + j % sz = j := by rw [Nat.mul_comm]; exact Nat.div_add_mod j sz
      have hx : vs[j / sz]? = some vs[j / sz] := List.getElem?_eq_getElem hq
      rw [← e, flat_at hf vs _ _ hx _ (Nat.mod_lt _ hsz)] at hj
      have := hin _ _ hx _ _ hj
      rw [e, add_plain] at this
      exact this
    · obtain ⟨i, hi', rfl⟩ := List.mem_iff_getElem.1 hv
      exact (hp i hi').1
end
end Go.Proofs.YtaaaddmdcldclaaGreatDoor
