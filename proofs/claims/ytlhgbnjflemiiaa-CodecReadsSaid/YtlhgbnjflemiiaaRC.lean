/- The law CodecReads returns true. -/
import Derived.Test.YtlhgbnjflemiiaaRB
import Derived.Test.YtlhgbnjflemiiaaU
namespace Go.Proofs.Ytlhgbnjflemiiaa
open Go.RowKit

theorem Try.info33 : (Try.prog.info? 33).map (fun i => (i.zero, i.size, i.bytes)) = some (some (.agg #[.int .i64 0, .bool false, .int .u64 0, .int .i64 0, .string ⟨#[]⟩]), 5, 48) := by kernel_rfl

/-- the cells of a value -/
def V.cs (v : V) : List Value := [.int .i64 v.K, .bool v.B, .int .u64 v.U, .int .i64 v.N, .string v.S]
def cellsOf (ws : List V) : List Value := ws.flatMap V.cs
theorem cellsOf_length : ∀ ws : List V, (cellsOf ws).length = ws.length * 5
  | [] => rfl
  | v :: ws => by
    have := cellsOf_length ws
    unfold cellsOf at this ⊢
    rw [List.flatMap_cons, List.length_append, this, List.length_cons]
    show 5 + _ = _
    omega
theorem cellsOf_snoc (ws : List V) (v : V) : cellsOf (ws ++ [v]) = cellsOf ws ++ v.cs := by
  unfold cellsOf
  rw [List.flatMap_append]
  simp
theorem cellsOf_at : ∀ (ws : List V) (i j : Nat) (h : i < ws.length) (hj : j < 5), (cellsOf ws)[i * 5 + j]? = (ws[i]).cs[j]?
  | v :: ws, 0, j, _, hj => by
    unfold cellsOf
    rw [List.flatMap_cons, Nat.zero_mul, Nat.zero_add, List.getElem?_append_left (by show j < 5; exact hj)]
    rfl
  | v :: ws, i + 1, j, h, hj => by
    have := cellsOf_at ws i j (by simpa using h) hj
    unfold cellsOf at this ⊢
    rw [List.flatMap_cons, List.getElem?_append_right (by show 5 ≤ _; omega)]
    show (List.flatMap V.cs ws)[(i + 1) * 5 + j - 5]? = _
    rw [show (i + 1) * 5 + j - 5 = i * 5 + j by omega, this]
    rfl
theorem ownsRow_of_block {w w' : World} {base : Nat} {e : TypeId} {size : Nat} {v : Value} {n : Nat} {xs : List Value} (h : w.ownsRow base e size v n xs) (hb : ∀ r, v.ownBlock = some r → w'.heap[r]? = w.heap[r]?) : w'.ownsRow base e size v n xs := by
  refine ⟨h.1, ?_⟩
  rcases h.2 with h2 | ⟨g, cap, cur, rfl, hg, hh, rest⟩
  · exact .inl h2
  · exact .inr ⟨g, cap, cur, rfl, hg, (hb g rfl).trans hh, rest⟩
/-- a Writer stays as long as its own blocks stay -/
theorem Wr.same_blocks {B A : Nat} {w w' : World} {bs : List UInt8} (h : Wr B w A bs) (hs : w.heap.size ≤ w'.heap.size) (hb : ∀ k, k < w.heap.size → k = A ∨ owns A w k → w'.heap[k]? = w.heap[k]?) : Wr B w' A bs := by
  obtain ⟨ao, c, hv, ho⟩ := h.val
  have hA := hb A h.hi (.inl rfl)
  refine ⟨h.lo, Nat.lt_of_lt_of_le h.hi hs, (World.frozen?_of_block (a := ⟨A, 0, none⟩) hA).trans h.fz, ao, c, (World.cell?_of_block (a := ⟨A, 0, none⟩) hA).trans hv, ?_⟩
  rcases ho with ho | ⟨g, cap, hv2, h1, h2, h3, h4, h5, h6, h7⟩
  · exact .inl ho
  · have e := hb g h3 (.inr ⟨_, hv, by rw [hv2]; rfl⟩)
    exact .inr ⟨g, cap, hv2, h1, h2, by omega, h4, h5, fun j hj => (World.cell?_of_block (a := ⟨g, j, none⟩) e).trans (h6 j hj),
      fun j hj => ⟨by rw [World.cell?_of_block (a := ⟨g, j, none⟩) e]; exact (h7 j hj).1, (World.frozen?_of_block (a := ⟨g, j, none⟩) e).trans (h7 j hj).2⟩⟩

/-- the list of what was written, apart from the Writer's blocks -/
structure Wn (B A : Nat) (w : World) (v : Value) (ws : List V) : Prop where
  row : w.ownsRow B 33 5 v ws.length (cellsOf ws)
  ne : ∀ r, v.ownBlock = some r → r ≠ A ∧ ¬ owns A w r
theorem Wn.keep {B A : Nat} {w w' : World} {v : Value} {ws : List V} (h : Wn B A w v ws) (hk : Keep A w w') : Wn B A w' v ws :=
  ⟨ownsRow_of_block h.row fun r hr => hk.blk r (h.row.lt r hr).2 (h.ne r hr).1 (h.ne r hr).2, fun r hr => ⟨(h.ne r hr).1, hk.own r (h.row.lt r hr).2 (h.ne r hr).2⟩⟩
/-- where a value of the list lies, no Writer writes: its first cell is a number of another kind -/
theorem Wn.of_row {B A : Nat} {w : World} {v : Value} {ws : List V} {bs : List UInt8} (h : w.ownsRow B 33 5 v ws.length (cellsOf ws)) (hw : ws ≠ []) (hwr : Wr B w A bs) (hbs : bs ≠ []) : Wn B A w v ws := by
  refine ⟨h, fun r hr => ?_⟩
  obtain ⟨v0, ws', rfl⟩ : ∃ v0 ws', ws = v0 :: ws' := by
    cases ws with
    | nil => exact absurd rfl hw
    | cons a b => exact ⟨a, b, rfl⟩
  have hc := h.cells hr 0 (.int .i64 v0.K) (by unfold cellsOf; rw [List.flatMap_cons]; rfl)
  rw [Addr.add_lit] at hc
  obtain ⟨ao, c, hv, ho⟩ := hwr.val
  constructor
  · rintro rfl
    rw [Nat.zero_add] at hc
    rw [hv] at hc
    cases hc
  · rintro ⟨x, hx1, hx2⟩
    rw [hv] at hx1
    injection hx1 with hx1
    subst hx1
    rcases ho with ⟨_, hnil⟩ | ⟨g, cap, hv2, _, _, _, _, _, h6, _⟩
    · exact hbs hnil
    · rw [hv2] at hx2
      simp [Value.ownBlock] at hx2
      subst hx2
      have hl : 0 < bs.length := List.length_pos_iff.2 hbs
      have := h6 0 hl
      rw [Nat.zero_add] at hc
      rw [hc] at this
      unfold u8s at this
      rw [List.getElem?_map, List.getElem?_eq_getElem hl] at this
      simp at this

/-- all that was written, one behind the other -/
def enc (ws : List V) : List UInt8 := ws.flatMap encL
theorem enc_snoc (ws : List V) (v : V) : enc (ws ++ [v]) = enc ws ++ encL v := by
  unfold enc
  rw [List.flatMap_append]
  simp
theorem enc_split (ws : List V) (i : Nat) (h : i < ws.length) : enc ws = enc (ws.take i) ++ (encL ws[i] ++ enc (ws.drop (i + 1))) := by
  have e : ws = ws.take i ++ ws[i] :: ws.drop (i + 1) := by rw [← List.drop_eq_getElem_cons h, List.take_append_drop]
  conv => lhs; rw [e]
  unfold enc
  rw [List.flatMap_append, List.flatMap_cons]
end Go.Proofs.Ytlhgbnjflemiiaa
