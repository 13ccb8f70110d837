/- Plain facts of the law Joins; an append as one step of a drawn region. -/
import Derived.Test.YtlmilalibgehpaaU
namespace Go.Proofs.Ytlmilalibgehpaa
open Go.RowKit

def dupW (xs : List WrD) : List WrD := xs.flatMap (fun x => [x, x])
def turW (xs : List WrD) (p : Nat) : List WrD := dupW (xs.drop p).reverse
theorem dup_append (xs ys : List WrD) : dupW (xs ++ ys) = dupW xs ++ dupW ys := List.flatMap_append
theorem tur_end (xs : List WrD) : turW xs xs.length = [] := by unfold turW; rw [List.drop_length]; rfl
theorem tur_step (xs : List WrD) (q : Nat) (x : WrD) (h : xs[q]? = some x) : turW xs q = turW xs (q + 1) ++ [x, x] := by
  unfold turW
  rw [drop_cons h, List.reverse_cons, dup_append]; rfl
theorem dup_len (xs : List WrD) : (dupW xs).length = 2 * xs.length := by
  induction xs with
  | nil => rfl
  | cons x r ih =>
    show ([x, x] ++ dupW r).length = _
    rw [List.length_append, ih, show ([x, x] : List WrD).length = 2 from rfl, show (x :: r).length = r.length + 1 from rfl]; omega
theorem tur_len (xs : List WrD) (p : Nat) : (turW xs p).length ≤ 2 * xs.length := by
  unfold turW; rw [dup_len, List.length_reverse, List.length_drop]; omega
theorem best_turned (xs : List WrD) : bestS (turW xs 0) = bestS xs := best_congr (fun x _ => by
  unfold turW dupW
  rw [List.drop_zero, List.mem_flatMap]
  constructor
  · rintro ⟨a, ha, hx⟩
    rw [List.mem_reverse] at ha
    have : x = a := by simpa using hx
    rw [this]; exact ha
  · intro h
    exact ⟨x, by rw [List.mem_reverse]; exact h, by simp⟩)
theorem of_big (a : Option Addr) (cap : Nat) (xs : List WrD) (w : World) (h6 : xs.length ≤ 120) (hin : InS w a xs.length 4 (flat wrL xs)) (L : List WrD) (hL : writesL (bestS xs) = L) : Calls Try.prog 15 #[.slice a xs.length cap] w fun e w' => ∃ b c, e = .returned (.slice b L.length c) ∧ InS w' b L.length 4 (flat wrL L) ∧ Below w.heap.size w w' := by
  have h := of_any a cap xs w (by omega) hin
  rw [hL] at h
  refine h.mono ?_
  rintro e w1 ⟨v, rfl, ho, hb⟩
  obtain ⟨b, c, rfl, hi⟩ := ins_own ho
  exact ⟨b, c, rfl, hi, hb⟩
theorem join_assoc1 (xs ys zs : List WrD) : bestS (writesL (bestS (xs ++ ys)) ++ zs) = bestS (xs ++ ys ++ zs) := best_join_left _ _
theorem join_assoc2 (xs ys zs : List WrD) : bestS (xs ++ writesL (bestS (ys ++ zs))) = bestS (xs ++ ys ++ zs) := by rw [best_join_right, List.append_assoc]
theorem join_self2 (xs : List WrD) : writesL (bestS (writesL (bestS xs) ++ writesL (bestS xs))) = writesL (bestS xs) := by rw [best_join, best_self]
/-- append to a row of the call's own, as one step of a region that draws its order; the operation may be guarded -/
theorem step_append_own {P : Program} {ops : Array Oper} {o : Oper} {a : Act} {w : World} {K : Act → World → Prop} {Q : Exit → Act → World → Prop} {E : Prop} (hw : Region.wanted o (yielded ops a.tmps) = true) (s x : Operand) (t : TypeId)
    (ho : o.op = .call { callee := .builtin .append, args := #[s, x], argTypes := #[t, t] })
    (base : Nat) (e : TypeId) (i : TypeInfo) (z : Value) (size bytes : Nat) (ht : P.underlying t = some (.slice e)) (hi : P.info? e = some i) (hz : i.zero = some z)
    (hsize : i.size = size) (hby : i.bytes = bytes) (hzs : z.cells.size = size) (hsz : 0 < size)
    (v : Value) (n : Nat) (xs : List Value) (hs : a.eval s = v) (hown : w.ownsRow base e size v n xs)
    (ad : Addr) (m c : Nat) (news : List Value) (hx : a.eval x = .slice (some ad) m c) (hl : news.length = m * size) (hnews : ∀ j u, news[j]? = some u → w.cell? (ad.add j) = some u) (h1 : ∀ u ∈ news, u.oneCell' = true)
    (h63 : n + m ≤ maxLen) (hbytes : (n + m) * bytes ≤ 140737488355328) (hbase : base ≤ w.heap.size)
    (h : ∀ v' w', w'.ownsRow base e size v' (n + m) (xs ++ news) → w.grownBy w' v.ownBlock → (v' = .slice none 0 0 ↔ v = .slice none 0 0 ∧ m = 0) → K (a.put o.dst v') w') :
    if Region.wanted o (yielded ops a.tmps) = true then Oper.wp P o a w K Q else E := by
  rw [if_pos hw]
  exact wp_append_own w s x t ho base e i z size bytes ht hi hz hsize hby hzs hsz v n xs hs hown ad m c news hx hl hnews h1 h63 hbytes hbase h
end Go.Proofs.Ytlmilalibgehpaa
