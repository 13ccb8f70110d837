/- A slice of bytes in a field of a struct of the call's own, to which bytes are appended: what is known of it, and one law for append. Conditions: what each states. -/
import Derived.WalkKit
import Derived.Deep.AppendSrc
import Derived.Deep.Upon
import Derived.Deep.RegionLaw
namespace Go.Proofs.Ytlhgbnjflemiiaa
open Go.RowKit

def u8s (bs : List UInt8) : List Value := bs.map fun b => .int .u8 b.toNat
theorem u8s_length (bs : List UInt8) : (u8s bs).length = bs.length := List.length_map _
theorem u8s_append (a b : List UInt8) : u8s (a ++ b) = u8s a ++ u8s b := List.map_append

/-- v holds the bytes bs, in a block of its own from B on, which is not block A -/
def Own (B A : Nat) (w : World) (v : Value) (bs : List UInt8) : Prop :=
  (v = .slice none 0 0 ∧ bs = []) ∨
  ∃ g cap, v = .slice (some ⟨g, 0, none⟩) bs.length cap ∧ B ≤ g ∧ g ≠ A ∧ g < w.heap.size ∧ bs.length ≤ cap ∧ cap ≤ maxLen ∧
    (∀ j, j < bs.length → w.cell? ⟨g, j, none⟩ = (u8s bs)[j]?) ∧ (∀ j, j < cap → (w.cell? ⟨g, j, none⟩).isSome = true ∧ w.frozen? ⟨g, j, none⟩ = false)

theorem below_setCells (B g : Nat) (hg : B ≤ g) : ∀ (vs : List Value) (o : Nat) (w : World), Below B w (w.setCells g o vs)
  | [], _, _ => Below.refl _ _
  | v :: r, o, w => by
    rw [World.setCells]
    exact ((Below.refl B w).setCell (p := ⟨g, o, none⟩) hg v).trans (below_setCells B g hg r (o + 1) _)
theorem size_setCells (g : Nat) : ∀ (vs : List Value) (o : Nat) (w : World), (w.setCells g o vs).heap.size = w.heap.size
  | [], _, _ => rfl
  | v :: r, o, w => by rw [World.setCells, size_setCells g r (o + 1) _]; simp [World.setCell]

theorem Own.slice {B A : Nat} {w : World} {v : Value} {bs : List UInt8} (h : Own B A w v bs) : ∃ ao c, v = .slice ao bs.length c := by
  rcases h with ⟨rfl, rfl⟩ | ⟨g, cap, rfl, _⟩
  · exact ⟨_, _, rfl⟩
  · exact ⟨_, _, rfl⟩

/-- it stays as long as its block stays -/
theorem Own.kept {B A : Nat} {w w' : World} {v : Value} {bs : List UInt8} (h : Own B A w v bs) (hs : w.heap.size ≤ w'.heap.size)
    (hb : ∀ g, B ≤ g → g ≠ A → g < w.heap.size → w'.heap[g]? = w.heap[g]?) : Own B A w' v bs := by
  rcases h with h | ⟨g, cap, rfl, h1, h2, h3, h4, h5, h6, h7⟩
  · exact .inl h
  · have e := hb g h1 h2 h3
    exact .inr ⟨g, cap, rfl, h1, h2, by omega, h4, h5, fun j hj => (World.cell?_of_block (a := ⟨g, j, none⟩) e).trans (h6 j hj),
      fun j hj => ⟨by rw [World.cell?_of_block (a := ⟨g, j, none⟩) e]; exact (h7 j hj).1, (World.frozen?_of_block (a := ⟨g, j, none⟩) e).trans (h7 j hj).2⟩⟩

/-- what an append leaves -/
structure App (B A : Nat) (w w' : World) (v v' : Value) (bs : List UInt8) : Prop where
  own : Own B A w' v' bs
  below : Below B w w'
  size : w.heap.size ≤ w'.heap.size
  block : ∀ k, k < w.heap.size → v.ownBlock ≠ some k → w'.heap[k]? = w.heap[k]?
  fresh : ∀ k, k < w.heap.size → v.ownBlock ≠ some k → v'.ownBlock ≠ some k

theorem Own.lt {B A : Nat} {w : World} {v : Value} {bs : List UInt8} (h : Own B A w v bs) {k : Nat} (hk : v.ownBlock = some k) : B ≤ k ∧ k ≠ A ∧ k < w.heap.size := by
  rcases h with ⟨rfl, _⟩ | ⟨g, cap, rfl, h1, h2, h3, _⟩
  · simp [Value.ownBlock] at hk
  · simp [Value.ownBlock] at hk; subst hk; exact ⟨h1, h2, h3⟩
theorem App.cell {B A : Nat} {w w' : World} {v v' : Value} {bs : List UInt8} (h : App B A w w' v v' bs) {k o : Nat} (hk : k < w.heap.size) (hne : v.ownBlock ≠ some k) : w'.cell? ⟨k, o, none⟩ = w.cell? ⟨k, o, none⟩ :=
  World.cell?_of_block (a := ⟨k, o, none⟩) (h.block k hk hne)
theorem App.frozen {B A : Nat} {w w' : World} {v v' : Value} {bs : List UInt8} (h : App B A w w' v v' bs) {k o : Nat} (hk : k < w.heap.size) (hne : v.ownBlock ≠ some k) : w'.frozen? ⟨k, o, none⟩ = w.frozen? ⟨k, o, none⟩ :=
  World.frozen?_of_block (a := ⟨k, o, none⟩) (h.block k hk hne)

section
variable {P : Program}

/-- append of bytes out of whatever source -/
theorem run_app (B A : Nat) (w : World) (t tx ty e : TypeId) (i : TypeInfo) (ht : P.underlying t = some (.slice e)) (hi : P.info? e = some i) (hz : i.zero = some (.int .u8 0)) (h1 : i.size = 1) (hby : i.bytes = 1)
    (v : Value) (bs : List UInt8) (hown : Own B A w v bs) (xv : Value) (nb : List UInt8) (hs : Src P 1 tx xv nb.length (u8s nb) w)
    (hfit : bs.length + nb.length ≤ 140737488355328) (hB : B ≤ w.heap.size) (hA : A < w.heap.size) :
    ∃ ao c w', (Builtin.append_ #[t, tx] ty #[v, xv]).run P w = .ok (.slice ao (bs.length + nb.length) c) w' ∧ App B A w w' v (.slice ao (bs.length + nb.length) c) (bs ++ nb) := by
  have hml : (140737488355328 : Nat) ≤ maxLen := by unfold maxLen; omega
  have hlen : (bs ++ nb).length = bs.length + nb.length := List.length_append
  -- a new row
  have grow : ∀ (base : Option Addr) (sc : Nat), v = .slice base bs.length sc → sc < bs.length + nb.length →
      (Builtin.firstCells i.size bs.length (.slice base bs.length sc)).run P w.drew = .ok (u8s bs).toArray w.drew →
      ∃ ao c w', (Builtin.append_ #[t, tx] ty #[v, xv]).run P w = .ok (.slice ao (bs.length + nb.length) c) w' ∧ App B A w w' v (.slice ao (bs.length + nb.length) c) (bs ++ nb) := by
    rintro base sc rfl hg hold
    have hrun := run_append_grow_src (P := P) w t tx ty e i _ ht hi hz base bs.length sc (u8s bs) hold xv nb.length (u8s nb) (by rw [h1]; exact hs) hg (by omega) (growslice_fits hg (by rw [hby]; omega))
    have hge := grownCap_ge w (bs.length + nb.length) sc e
    have hcm := grownCap_le_maxLen w (bs.length + nb.length) sc e (by omega)
    have hsz : ((u8s bs ++ u8s nb).toArray ++ Builtin.zeroCells (Value.int .u8 0).cells (grownCap w (bs.length + nb.length) sc e - (bs.length + nb.length))).size = grownCap w (bs.length + nb.length) sc e := by
      rw [Array.size_append, size_zeroCells, List.size_toArray, List.length_append, u8s_length, u8s_length]
      simp [Value.cells]
      omega
    refine ⟨_, _, _, hrun, .inr ⟨w.heap.size, grownCap w (bs.length + nb.length) sc e, by rw [hlen], hB, by omega, by simp, by omega, hcm, fun j hj => ?_, fun j hj => ⟨?_, ?_⟩⟩, (Below.refl B w).drew.alloc hB _, by simp, fun k hk _ => Below.heap_alloc w.drew _ k hk, fun k hk _ e => by simp [Value.ownBlock] at e; omega⟩
    · have e1 : (w.drew.alloc (.cells ((u8s bs ++ u8s nb).toArray ++ Builtin.zeroCells (Value.int .u8 0).cells (grownCap w (bs.length + nb.length) sc e - (bs.length + nb.length))) e)).cell? ⟨w.heap.size, j, none⟩ = _ := World.cell?_alloc_new w.drew _ _ j
      rw [e1, Array.getElem?_append_left (by rw [List.size_toArray, List.length_append, u8s_length, u8s_length]; omega), u8s_append]
      simp
    · have e1 : (w.drew.alloc (.cells ((u8s bs ++ u8s nb).toArray ++ Builtin.zeroCells (Value.int .u8 0).cells (grownCap w (bs.length + nb.length) sc e - (bs.length + nb.length))) e)).cell? ⟨w.heap.size, j, none⟩ = _ := World.cell?_alloc_new w.drew _ _ j
      rw [e1, Array.getElem?_eq_getElem (by rw [hsz]; exact hj)]
      rfl
    · exact World.frozen?_alloc_new w.drew _ _ j
  rcases hown with ⟨rfl, rfl⟩ | ⟨g, cap, rfl, q1, q2, q3, q4, q5, q6, q7⟩
  · by_cases hn : nb = []
    · subst hn
      exact ⟨none, 0, w, run_append_nothing (P := P) w t tx ty e i ht hi none 0 0 (Nat.le_refl _) xv (by rw [h1]; exact hs), .inl ⟨rfl, rfl⟩, Below.refl _ _, Nat.le_refl _, fun _ _ _ => rfl, fun _ _ h => h⟩
    · have : 0 < nb.length := List.length_pos_iff.2 hn
      exact grow none 0 rfl (by simp; omega) (run_firstCells_none _ _ _ _ _)
  · by_cases hroom : bs.length + nb.length ≤ cap
    · have hsome : ∀ j, j < (u8s nb).length → (w.cell? ⟨g, 0 + bs.length * i.size + j, none⟩).isSome = true := fun j hj => by rw [u8s_length] at hj; rw [h1]; exact (q7 _ (by omega)).1
      have hrun := run_append_room_src (P := P) w t tx ty e i ht hi g 0 bs.length cap xv nb.length (u8s nb) (by rw [h1]; exact hs) hroom hsome (fun j hj => by rw [u8s_length] at hj; rw [h1]; exact (q7 _ (by omega)).2)
      refine ⟨_, _, _, hrun, .inr ⟨g, cap, by rw [hlen], q1, q2, by rw [size_setCells]; exact q3, by omega, q5, fun j hj => ?_, fun j hj => ⟨?_, ?_⟩⟩, below_setCells B g q1 _ _ _, by rw [size_setCells]; exact Nat.le_refl _, fun k hk hne => World.heap_setCells_other w g _ _ hk (fun e => hne (by rw [e]; rfl)), fun _ _ h => h⟩
      · rw [u8s_append]
        by_cases hjo : j < bs.length
        · rw [World.cell?_setCells_out g _ _ _ _ (fun _ _ => Or.inl (by show j < 0 + bs.length * i.size; rw [h1]; omega)), List.getElem?_append_left (by rw [u8s_length]; exact hjo)]
          exact q6 j hjo
        · have ht' : j - bs.length < (u8s nb).length := by rw [u8s_length]; omega
          have := World.cell?_setCells_in g (u8s nb) (0 + bs.length * i.size) w hsome (j - bs.length) ht'
          rw [show 0 + bs.length * i.size + (j - bs.length) = j by rw [h1]; omega] at this
          rw [this, List.getElem?_append_right (by rw [u8s_length]; omega), u8s_length, List.getElem?_eq_getElem ht']
      · by_cases hin : bs.length ≤ j ∧ j < bs.length + nb.length
        · have := World.cell?_setCells_in g (u8s nb) (0 + bs.length * i.size) w hsome (j - bs.length) (by rw [u8s_length]; omega)
          rw [show 0 + bs.length * i.size + (j - bs.length) = j by rw [h1]; omega] at this
          rw [this]; rfl
        · rw [World.cell?_setCells_out g _ _ _ _ (fun _ _ => by show j < 0 + bs.length * i.size ∨ 0 + bs.length * i.size + (u8s nb).length ≤ j; rw [h1, u8s_length]; omega)]
          exact (q7 j hj).1
      · rw [World.frozen?_setCells]; exact (q7 j hj).2
    · refine grow (some ⟨g, 0, none⟩) cap rfl (by omega) ?_
      rw [h1]
      refine run_firstCells_some w.drew 1 bs.length ⟨g, 0, none⟩ bs.length cap (u8s bs) (by rw [u8s_length, Nat.mul_one]) (fun j u hu => ?_)
      have hj : j < bs.length := by
        have := (List.getElem?_eq_some_iff.1 hu).1
        rwa [u8s_length] at this
      rw [Addr.add_lit, Nat.zero_add]
      exact (q6 j hj).trans hu

theorem wpList_app (B A : Nat) (w : World) {ops : Array Oper} {rest : List Oper} {o : Oper} {a : Act} {Q : Exit → Act → World → Prop} (hgd : o.guard = none) (s x : Operand) (t tx : TypeId)
    (ho : o.op = .call { callee := .builtin .append, args := #[s, x], argTypes := #[t, tx] }) (e : TypeId) (i : TypeInfo) (ht : P.underlying t = some (.slice e)) (hi : P.info? e = some i) (hz : i.zero = some (.int .u8 0)) (h1 : i.size = 1) (hby : i.bytes = 1)
    (v : Value) (bs : List UInt8) (hv : a.eval s = v) (hown : Own B A w v bs) (xv : Value) (nb : List UInt8) (hx : a.eval x = xv) (hs : Src P 1 tx xv nb.length (u8s nb) w)
    (hfit : bs.length + nb.length ≤ 140737488355328) (hB : B ≤ w.heap.size) (hA : A < w.heap.size)
    (h : ∀ ao c w', App B A w w' v (.slice ao (bs.length + nb.length) c) (bs ++ nb) →
      wpList P ops Q rest (a.put o.dst (.slice ao (bs.length + nb.length) c)) w') : wpList P ops Q (o :: rest) a w := by
  refine wpList_plain hgd fun K hK' => ?_
  obtain ⟨ao, c, w', hrun, r1⟩ := run_app (P := P) B A w t tx o.type e i ht hi hz h1 hby v bs hown xv nb hs hfit hB hA
  unfold Oper.wp
  simp [execOp, ho, resolve, invoke, builtin, hv, hx, hrun, Result.andThen]
  exact hK' _ _ (h ao c w' r1)

theorem step_app (B A : Nat) (w : World) {ops : Array Oper} {o : Oper} {a : Act} {K : Act → World → Prop} {Q : Exit → Act → World → Prop} {E : Prop}
    (hg : o.guard = none) (s x : Operand) (t tx : TypeId)
    (ho : o.op = .call { callee := .builtin .append, args := #[s, x], argTypes := #[t, tx] }) (e : TypeId) (i : TypeInfo) (ht : P.underlying t = some (.slice e)) (hi : P.info? e = some i) (hz : i.zero = some (.int .u8 0)) (h1 : i.size = 1) (hby : i.bytes = 1)
    (v : Value) (bs : List UInt8) (hv : a.eval s = v) (hown : Own B A w v bs) (xv : Value) (nb : List UInt8) (hx : a.eval x = xv) (hs : Src P 1 tx xv nb.length (u8s nb) w)
    (hfit : bs.length + nb.length ≤ 140737488355328) (hB : B ≤ w.heap.size) (hA : A < w.heap.size)
    (h : ∀ ao c w', App B A w w' v (.slice ao (bs.length + nb.length) c) (bs ++ nb) →
      K (a.put o.dst (.slice ao (bs.length + nb.length) c)) w') :
    if Region.wanted o (yielded ops a.tmps) = true then Oper.wp P o a w K Q else E := by
  have hw : Region.wanted o (yielded ops a.tmps) = true := by simp [Region.wanted, hg]
  rw [if_pos hw]
  obtain ⟨ao, c, w', hrun, r1⟩ := run_app (P := P) B A w t tx o.type e i ht hi hz h1 hby v bs hown xv nb hs hfit hB hA
  unfold Oper.wp
  simp [execOp, ho, resolve, invoke, builtin, hv, hx, hrun, Result.andThen]
  exact h ao c w' r1

end
end Go.Proofs.Ytlhgbnjflemiiaa
