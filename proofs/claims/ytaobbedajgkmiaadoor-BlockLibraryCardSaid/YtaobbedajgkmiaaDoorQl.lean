/- The specification's library of blocks, as one literal. -/
import Derived.Test.YtaobbedajgkmiaaDoorBb
namespace Go.Proofs.YtaobbedajgkmiaaDoor
open Go.RowKit Go.Shelf

/-- what a slice's literal makes: its element's type and its cells -/
def builtS (P : Program) (t : TypeId) (len : Nat) (parts : List (Nat × Value)) : Option (TypeId × Array Value) :=
  match P.underlying t with
  | some (.slice e) =>
    match P.info? e with
    | some ie =>
      match ie.zero with
      | some z => if len * ie.size = 0 ∨ len * ie.size > 2 ^ 24 then none else (Instr.fill (fun i => some (i * ie.size, ie.size)) ((Array.range (len * ie.size)).map (z.cells[· % z.cells.size]!)) parts).map fun c => (e, c)
      | none => none
    | none => none
  | _ => none
theorem run_builtS {P : Program} (w : World) (t : TypeId) (len : Nat) (parts : Array (Nat × Value)) (e : TypeId) (cells : Array Value) (h : builtS P t len parts.toList = some (e, cells)) : (Instr.buildSlice t len parts).run P w = .ok (.slice (some ⟨w.heap.size, 0, none⟩) len len) (w.alloc (Obj.cells cells e)) := by
  unfold builtS at h
  cases hu : P.underlying t with
  | none => simp [hu] at h
  | some d =>
    cases d <;> try (simp [hu] at h; done)
    case slice e' =>
      cases hi : P.info? e' with
      | none => simp [hu, hi] at h
      | some ie =>
        cases hz : ie.zero with
        | none => simp [hu, hi, hz] at h
        | some z =>
          simp only [hu, hi, hz] at h
          split at h
          · simp at h
          · rename_i hn
            cases hf : Instr.fill (fun i => some (i * ie.size, ie.size)) ((Array.range (len * ie.size)).map (z.cells[· % z.cells.size]!)) parts.toList with
            | none => rw [hf] at h; simp at h
            | some c =>
              rw [hf] at h
              simp only [Option.map_some, Option.some.injEq, Prod.mk.injEq] at h
              obtain ⟨rfl, rfl⟩ := h
              have h1 : ¬ len * ie.size = 0 := fun h => hn (.inl h)
              have h2 : ¬ len * ie.size > 2 ^ 24 := fun h => hn (.inr h)
              simp [Instr.buildSlice, run_underlying hu, sizeOf, typeInfo, zeroValue, hi, hz, h1, h2, hf, newRow]
/-- objects put behind a world's own -/
def allocsL : World → List Obj → World
  | w, [] => w
  | w, o :: os => allocsL (w.alloc o) os
theorem allocsL_snoc : ∀ (os : List Obj) (w : World) (o : Obj), allocsL w (os ++ [o]) = (allocsL w os).alloc o
  | [], _, _ => rfl
  | x :: os, w, o => allocsL_snoc os (w.alloc x) o
theorem allocsL_size : ∀ (os : List Obj) (w : World), (allocsL w os).heap.size = w.heap.size + os.length
  | [], _ => rfl
  | x :: os, w => by
    show (allocsL (w.alloc x) os).heap.size = _
    rw [allocsL_size os, World.size_alloc, List.length_cons]
    omega
theorem allocsL_below : ∀ (os : List Obj) (w : World) (B : Nat), B ≤ w.heap.size → Below B w (allocsL w os)
  | [], w, B, _ => Below.refl B w
  | x :: os, w, B, h => ((Below.refl B w).alloc h x).trans (allocsL_below os (w.alloc x) B (by rw [World.size_alloc]; omega))
theorem heap_alloc_old (w : World) (o : Obj) (k : Nat) (h : k < w.heap.size) : (w.alloc o).heap[k]? = w.heap[k]? := by
  have hb : Below w.heap.size w (w.alloc o) := (Below.refl _ _).alloc (Nat.le_refl _) o
  exact hb.block k h
theorem allocsL_old : ∀ (os : List Obj) (w : World) (k : Nat), k < w.heap.size → (allocsL w os).heap[k]? = w.heap[k]?
  | [], _, _, _ => rfl
  | x :: os, w, k, h => (allocsL_old os (w.alloc x) k (by rw [World.size_alloc]; omega)).trans (heap_alloc_old w x k h)
theorem allocsL_at : ∀ (os : List Obj) (w : World) (j : Nat) (o : Obj), os[j]? = some o → (allocsL w os).heap[w.heap.size + j]? = some o
  | [], _, _, _, h => by simp at h
  | x :: os, w, 0, o, h => by
    simp only [List.getElem?_cons_zero, Option.some.injEq] at h
    subst h
    show (allocsL (w.alloc x) os).heap[_]? = _
    rw [Nat.add_zero, allocsL_old os _ _ (by rw [World.size_alloc]; omega)]
    exact heap_alloc_new _ _
  | x :: os, w, j + 1, o, h => by
    have h2 := allocsL_at os (w.alloc x) j o (by simpa using h)
    rw [World.size_alloc] at h2
    show (allocsL (w.alloc x) os).heap[_]? = _
    rw [← h2]
    congr 1
    omega
/-- what operations of a literal make -/
def litRun (P : Program) (B : Nat) : List Oper → Act → List Obj → Option (Act × List Obj)
  | [], a, os => some (a, os)
  | o :: rest, a, os =>
    match o.guard with
    | some _ => none
    | none =>
      match o.op with
      | .assign x => litRun P B rest (a.put o.dst (a.eval x)) os
      | .build t parts =>
        match P.built t (parts.map fun (i, x) => (i, a.eval x)).toList with
        | some c => litRun P B rest (a.put o.dst (.agg c)) os
        | none => none
      | .buildSlice t len parts =>
        match builtS P t len (parts.map fun (i, x) => (i, a.eval x)).toList with
        | some (e, c) => litRun P B rest (a.put o.dst (.slice (some ⟨B + os.length, 0, none⟩) len len)) (os ++ [Obj.cells c e])
        | none => none
      | _ => none
theorem wp_lits {P : Program} {ops : Array Oper} {Q : Exit → Act → World → Prop} (w : World) : ∀ (l : List Oper) (a : Act) (os : List Obj) (a' : Act) (os' : List Obj), litRun P w.heap.size l a os = some (a', os') → Q .normal a' (allocsL w os') → wpList P ops Q l a (allocsL w os)
  | [], a, os, a', os', h, hq => by
    simp only [litRun, Option.some.injEq, Prod.mk.injEq] at h
    obtain ⟨rfl, rfl⟩ := h
    exact hq
  | o :: rest, a, os, a', os', h, hq => by
    unfold litRun at h
    cases hg : o.guard with
    | some g => simp [hg] at h
    | none =>
      simp only [hg] at h
      refine wpList_plain hg fun K hK => ?_
      unfold Oper.wp execOp
      split at h
      · rename_i x ho
        simp only [ho, Sem.run_pure, Oper.upon]
        exact hK _ _ (wp_lits w rest _ _ a' os' h hq)
      · rename_i t parts ho
        split at h
        · rename_i c hc
          simp only [ho, Sem.run_bind, run_build _ t _ c hc, Result.andThen_ok, Sem.run_pure, Oper.upon]
          exact hK _ _ (wp_lits w rest _ _ a' os' h hq)
        · simp at h
      · rename_i t len parts ho
        split at h
        · rename_i e c hc
          simp only [ho, Sem.run_bind, run_builtS _ t len _ e c hc, Result.andThen_ok, Sem.run_pure, Oper.upon]
          have h2 := wp_lits (ops := ops) w rest _ _ a' os' h hq
          rw [allocsL_snoc] at h2
          rw [allocsL_size]
          exact hK _ _ h2
        · simp at h
      · simp at h
theorem wp_lits0 {P : Program} {ops : Array Oper} {Q : Exit → Act → World → Prop} (w : World) (l : List Oper) (a : Act) (os : List Obj) (v : Value) (n : Nat)
    (h : (litRun P w.heap.size l a []).map (fun x => (x.2, x.1.tmps[0]?, x.1.defers, x.1.tmps.size)) = some (os, some v, [], n)) (hq : ∀ T : Array Value, T.size = n → T[0]? = some v → Q .normal ⟨T, []⟩ (allocsL w os)) : wpList P ops Q l a w := by
  cases hr : litRun P w.heap.size l a [] with
  | none => rw [hr] at h; simp at h
  | some x =>
    obtain ⟨⟨T, D⟩, os'⟩ := x
    rw [hr] at h
    simp only [Option.map_some, Option.some.injEq, Prod.mk.injEq] at h
    obtain ⟨rfl, h1, rfl, h2⟩ := h
    exact wp_lits (ops := ops) w l a [] _ _ hr (hq T h2 h1)
/-- a descriptor of the specification's library: its name, its three lists (how many, and where), state, most -/
structure R18 where
  nm : ByteArray
  np : Nat
  jp : Option Nat
  ni : Nat
  ji : Option Nat
  no : Nat
  jo : Option Nat
  st : Int
  most : Int
def rows18 : List R18 := [⟨⟨#[97, 98, 111, 118, 101]⟩, 0, none, 2, (some 0), 1, (some 1), 0, 1⟩, ⟨⟨#[97, 98, 115]⟩, 0, none, 1, (some 2), 1, (some 3), 0, 1⟩, ⟨⟨#[97, 100, 100]⟩, 0, none, 2, (some 4), 1, (some 5), 0, 1⟩, ⟨⟨#[97, 110, 100]⟩, 0, none, 2, (some 6), 1, (some 7), 0, 7⟩, ⟨⟨#[98, 101, 108, 111, 119]⟩, 0, none, 2, (some 8), 1, (some 9), 0, 1⟩, ⟨⟨#[99, 104, 111, 111, 115, 101]⟩, 0, none, 2, (some 10), 1, (some 11), 0, 7⟩, ⟨⟨#[99, 111, 117, 110, 116]⟩, 0, none, 2, (some 12), 1, (some 13), 2, 1⟩, ⟨⟨#[100, 101, 119, 112, 111, 105, 110, 116]⟩, 0, none, 2, (some 14), 1, (some 15), 0, 1⟩, ⟨⟨#[100, 105, 118]⟩, 0, none, 2, (some 16), 1, (some 17), 0, 1⟩, ⟨⟨#[101, 100, 103, 101]⟩, 0, none, 1, (some 18), 1, (some 19), 1, 1⟩, ⟨⟨#[101, 110, 116, 104, 97, 108, 112, 121]⟩, 0, none, 2, (some 20), 1, (some 21), 0, 1⟩, ⟨⟨#[104, 121, 115, 116]⟩, 2, (some 22), 1, (some 23), 1, (some 24), 1, 1⟩, ⟨⟨#[108, 97, 116, 99, 104]⟩, 0, none, 2, (some 25), 1, (some 26), 1, 1⟩, ⟨⟨#[108, 105, 109, 105, 116]⟩, 2, (some 27), 1, (some 28), 1, (some 29), 0, 1⟩, ⟨⟨#[108, 105, 110, 101]⟩, 4, (some 30), 1, (some 31), 1, (some 32), 0, 1⟩, ⟨⟨#[109, 97, 120]⟩, 0, none, 2, (some 33), 1, (some 34), 0, 1⟩, ⟨⟨#[109, 101, 97, 110]⟩, 0, none, 2, (some 35), 1, (some 36), 0, 7⟩, ⟨⟨#[109, 105, 110]⟩, 0, none, 2, (some 37), 1, (some 38), 0, 1⟩, ⟨⟨#[109, 105, 110, 114, 117, 110]⟩, 2, (some 39), 1, (some 40), 1, (some 41), 2, 1⟩, ⟨⟨#[109, 117, 108]⟩, 0, none, 2, (some 42), 1, (some 43), 0, 1⟩, ⟨⟨#[110, 101, 103]⟩, 0, none, 1, (some 44), 1, (some 45), 0, 1⟩, ⟨⟨#[110, 111, 116]⟩, 0, none, 1, (some 46), 1, (some 47), 0, 1⟩, ⟨⟨#[111, 102, 102, 100, 101, 108, 97, 121]⟩, 1, (some 48), 1, (some 49), 1, (some 50), 1, 1⟩, ⟨⟨#[111, 110, 100, 101, 108, 97, 121]⟩, 1, (some 51), 1, (some 52), 1, (some 53), 1, 1⟩, ⟨⟨#[111, 114]⟩, 0, none, 2, (some 54), 1, (some 55), 0, 7⟩, ⟨⟨#[112, 105, 99, 107]⟩, 0, none, 3, (some 56), 1, (some 57), 0, 1⟩, ⟨⟨#[112, 105, 100]⟩, 5, (some 58), 3, (some 59), 1, (some 60), 3, 1⟩, ⟨⟨#[112, 117, 108, 115, 101]⟩, 1, (some 61), 1, (some 62), 1, (some 63), 2, 1⟩, ⟨⟨#[114, 97, 116, 101]⟩, 2, (some 64), 1, (some 65), 1, (some 66), 2, 1⟩, ⟨⟨#[115, 116, 97, 103, 101]⟩, 5, (some 67), 1, (some 68), 1, (some 69), 2, 1⟩, ⟨⟨#[115, 116, 101, 112, 115]⟩, 2, (some 70), 2, (some 71), 1, (some 72), 2, 1⟩, ⟨⟨#[115, 117, 98]⟩, 0, none, 2, (some 73), 1, (some 74), 0, 1⟩, ⟨⟨#[120, 111, 114]⟩, 0, none, 2, (some 75), 1, (some 76), 0, 1⟩]
def slO (B : Nat) (n : Nat) : Option Nat → Value
  | none => .slice none 0 0
  | some j => .slice (some ⟨B + j, 0, none⟩) n n
def row18L (B : Nat) (r : R18) : List Value := [.string r.nm, slO B r.np r.jp, slO B r.ni r.ji, slO B r.no r.jo, .int .i64 r.st, .int .i64 r.most]
def table18 (B : Nat) : List Value := rows18.flatMap (row18L B)
def objs18 (B : Nat) : List Obj := [Obj.cells #[.string ⟨#[97]⟩, .string ⟨#[85]⟩, .string ⟨#[98]⟩, .string ⟨#[85]⟩] 65, Obj.cells #[.string ⟨#[111, 117, 116]⟩, .string ⟨#[98, 105, 110, 97, 114, 121]⟩] 65, Obj.cells #[.string ⟨#[97]⟩, .string ⟨#[85]⟩] 65, Obj.cells #[.string ⟨#[111, 117, 116]⟩, .string ⟨#[85]⟩] 65, Obj.cells #[.string ⟨#[97]⟩, .string ⟨#[85]⟩, .string ⟨#[98]⟩, .string ⟨#[85]⟩] 65, Obj.cells #[.string ⟨#[111, 117, 116]⟩, .string ⟨#[85]⟩] 65, Obj.cells #[.string ⟨#[97]⟩, .string ⟨#[98, 105, 110, 97, 114, 121]⟩, .string ⟨#[98]⟩, .string ⟨#[98, 105, 110, 97, 114, 121]⟩] 65, Obj.cells #[.string ⟨#[111, 117, 116]⟩, .string ⟨#[98, 105, 110, 97, 114, 121]⟩] 65, Obj.cells #[.string ⟨#[97]⟩, .string ⟨#[85]⟩, .string ⟨#[98]⟩, .string ⟨#[85]⟩] 65, Obj.cells #[.string ⟨#[111, 117, 116]⟩, .string ⟨#[98, 105, 110, 97, 114, 121]⟩] 65, Obj.cells #[.string ⟨#[109]⟩, .string ⟨#[109, 117, 108, 116, 105]⟩, .string ⟨#[97]⟩, .string ⟨#[84]⟩] 65, Obj.cells #[.string ⟨#[111, 117, 116]⟩, .string ⟨#[84]⟩] 65, Obj.cells #[.string ⟨#[97]⟩, .string ⟨#[98, 105, 110, 97, 114, 121]⟩, .string ⟨#[114, 101, 115, 101, 116]⟩, .string ⟨#[98, 105, 110, 97, 114, 121]⟩] 65, Obj.cells #[.string ⟨#[111, 117, 116]⟩, .string ⟨#[97, 110, 97, 108, 111, 103]⟩] 65, Obj.cells #[.string ⟨#[116]⟩, .string ⟨#[97, 110, 97, 108, 111, 103, 32, 100, 101, 103, 67]⟩, .string ⟨#[114, 104]⟩, .string ⟨#[97, 110, 97, 108, 111, 103, 32, 112, 99, 116]⟩] 65, Obj.cells #[.string ⟨#[111, 117, 116]⟩, .string ⟨#[97, 110, 97, 108, 111, 103, 32, 100, 101, 103, 67]⟩] 65, Obj.cells #[.string ⟨#[97]⟩, .string ⟨#[85]⟩, .string ⟨#[98]⟩, .string ⟨#[86]⟩] 65, Obj.cells #[.string ⟨#[111, 117, 116]⟩, .string ⟨#[85, 47, 86]⟩] 65, Obj.cells #[.string ⟨#[97]⟩, .string ⟨#[98, 105, 110, 97, 114, 121]⟩] 65, Obj.cells #[.string ⟨#[111, 117, 116]⟩, .string ⟨#[98, 105, 110, 97, 114, 121]⟩] 65, Obj.cells #[.string ⟨#[116]⟩, .string ⟨#[97, 110, 97, 108, 111, 103, 32, 100, 101, 103, 67]⟩, .string ⟨#[114, 104]⟩, .string ⟨#[97, 110, 97, 108, 111, 103, 32, 112, 99, 116]⟩] 65, Obj.cells #[.string ⟨#[111, 117, 116]⟩, .string ⟨#[97, 110, 97, 108, 111, 103, 32, 107, 74, 47, 107, 103]⟩] 65, Obj.cells #[.string ⟨#[111, 110]⟩, .int .i64 (-1000000000000), .int .i64 1000000000000, .int .i64 1000, .string ⟨#[111, 102, 102]⟩, .int .i64 (-1000000000000), .int .i64 1000000000000, .int .i64 0] 67, Obj.cells #[.string ⟨#[97]⟩, .string ⟨#[85]⟩] 65, Obj.cells #[.string ⟨#[111, 117, 116]⟩, .string ⟨#[98, 105, 110, 97, 114, 121]⟩] 65, Obj.cells #[.string ⟨#[115, 101, 116]⟩, .string ⟨#[98, 105, 110, 97, 114, 121]⟩, .string ⟨#[114, 101, 115, 101, 116]⟩, .string ⟨#[98, 105, 110, 97, 114, 121]⟩] 65, Obj.cells #[.string ⟨#[111, 117, 116]⟩, .string ⟨#[98, 105, 110, 97, 114, 121]⟩] 65, Obj.cells #[.string ⟨#[108, 111, 119]⟩, .int .i64 (-1000000000000), .int .i64 1000000000000, .int .i64 (-1000000000000), .string ⟨#[104, 105, 103, 104]⟩, .int .i64 (-1000000000000), .int .i64 1000000000000, .int .i64 1000000000000] 67, Obj.cells #[.string ⟨#[97]⟩, .string ⟨#[85]⟩] 65, Obj.cells #[.string ⟨#[111, 117, 116]⟩, .string ⟨#[85]⟩] 65, Obj.cells #[.string ⟨#[120, 49]⟩, .int .i64 (-1000000000000), .int .i64 1000000000000, .int .i64 0, .string ⟨#[121, 49]⟩, .int .i64 (-1000000000000), .int .i64 1000000000000, .int .i64 0, .string ⟨#[120, 50]⟩, .int .i64 (-1000000000000), .int .i64 1000000000000, .int .i64 100000, .string ⟨#[121, 50]⟩, .int .i64 (-1000000000000), .int .i64 1000000000000, .int .i64 100000] 67, Obj.cells #[.string ⟨#[97]⟩, .string ⟨#[85]⟩] 65, Obj.cells #[.string ⟨#[111, 117, 116]⟩, .string ⟨#[97, 110, 97, 108, 111, 103]⟩] 65, Obj.cells #[.string ⟨#[97]⟩, .string ⟨#[85]⟩, .string ⟨#[98]⟩, .string ⟨#[85]⟩] 65, Obj.cells #[.string ⟨#[111, 117, 116]⟩, .string ⟨#[85]⟩] 65, Obj.cells #[.string ⟨#[97]⟩, .string ⟨#[85]⟩, .string ⟨#[98]⟩, .string ⟨#[85]⟩] 65, Obj.cells #[.string ⟨#[111, 117, 116]⟩, .string ⟨#[85]⟩] 65, Obj.cells #[.string ⟨#[97]⟩, .string ⟨#[85]⟩, .string ⟨#[98]⟩, .string ⟨#[85]⟩] 65, Obj.cells #[.string ⟨#[111, 117, 116]⟩, .string ⟨#[85]⟩] 65, Obj.cells #[.string ⟨#[111, 110]⟩, .int .i64 0, .int .i64 86400, .int .i64 0, .string ⟨#[111, 102, 102]⟩, .int .i64 0, .int .i64 86400, .int .i64 0] 67, Obj.cells #[.string ⟨#[97]⟩, .string ⟨#[98, 105, 110, 97, 114, 121]⟩] 65, Obj.cells #[.string ⟨#[111, 117, 116]⟩, .string ⟨#[98, 105, 110, 97, 114, 121]⟩] 65, Obj.cells #[.string ⟨#[97]⟩, .string ⟨#[85]⟩, .string ⟨#[98]⟩, .string ⟨#[86]⟩] 65, Obj.cells #[.string ⟨#[111, 117, 116]⟩, .string ⟨#[85, 42, 86]⟩] 65, Obj.cells #[.string ⟨#[97]⟩, .string ⟨#[85]⟩] 65, Obj.cells #[.string ⟨#[111, 117, 116]⟩, .string ⟨#[85]⟩] 65, Obj.cells #[.string ⟨#[97]⟩, .string ⟨#[98, 105, 110, 97, 114, 121]⟩] 65, Obj.cells #[.string ⟨#[111, 117, 116]⟩, .string ⟨#[98, 105, 110, 97, 114, 121]⟩] 65, Obj.cells #[.string ⟨#[116, 105, 109, 101]⟩, .int .i64 0, .int .i64 86400, .int .i64 0] 67, Obj.cells #[.string ⟨#[97]⟩, .string ⟨#[98, 105, 110, 97, 114, 121]⟩] 65, Obj.cells #[.string ⟨#[111, 117, 116]⟩, .string ⟨#[98, 105, 110, 97, 114, 121]⟩] 65, Obj.cells #[.string ⟨#[116, 105, 109, 101]⟩, .int .i64 0, .int .i64 86400, .int .i64 0] 67, Obj.cells #[.string ⟨#[97]⟩, .string ⟨#[98, 105, 110, 97, 114, 121]⟩] 65, Obj.cells #[.string ⟨#[111, 117, 116]⟩, .string ⟨#[98, 105, 110, 97, 114, 121]⟩] 65, Obj.cells #[.string ⟨#[97]⟩, .string ⟨#[98, 105, 110, 97, 114, 121]⟩, .string ⟨#[98]⟩, .string ⟨#[98, 105, 110, 97, 114, 121]⟩] 65, Obj.cells #[.string ⟨#[111, 117, 116]⟩, .string ⟨#[98, 105, 110, 97, 114, 121]⟩] 65, Obj.cells #[.string ⟨#[115]⟩, .string ⟨#[98, 105, 110, 97, 114, 121]⟩, .string ⟨#[97]⟩, .string ⟨#[84]⟩, .string ⟨#[98]⟩, .string ⟨#[84]⟩] 65, Obj.cells #[.string ⟨#[111, 117, 116]⟩, .string ⟨#[84]⟩] 65, Obj.cells #[.string ⟨#[107, 112]⟩, .int .i64 0, .int .i64 1000000000, .int .i64 1000, .string ⟨#[116, 105]⟩, .int .i64 0, .int .i64 86400, .int .i64 0, .string ⟨#[108, 111, 119]⟩, .int .i64 (-1000000000000), .int .i64 1000000000000, .int .i64 0, .string ⟨#[104, 105, 103, 104]⟩, .int .i64 (-1000000000000), .int .i64 1000000000000, .int .i64 100000, .string ⟨#[114, 101, 118, 101, 114, 115, 101]⟩, .int .i64 0, .int .i64 1, .int .i64 0] 67, Obj.cells #[.string ⟨#[115, 101, 116]⟩, .string ⟨#[85]⟩, .string ⟨#[110, 111, 119]⟩, .string ⟨#[85]⟩, .string ⟨#[101, 110, 97, 98, 108, 101]⟩, .string ⟨#[98, 105, 110, 97, 114, 121]⟩] 65, Obj.cells #[.string ⟨#[111, 117, 116]⟩, .string ⟨#[97, 110, 97, 108, 111, 103, 32, 112, 99, 116]⟩] 65, Obj.cells #[.string ⟨#[116, 105, 109, 101]⟩, .int .i64 0, .int .i64 86400, .int .i64 0] 67, Obj.cells #[.string ⟨#[97]⟩, .string ⟨#[98, 105, 110, 97, 114, 121]⟩] 65, Obj.cells #[.string ⟨#[111, 117, 116]⟩, .string ⟨#[98, 105, 110, 97, 114, 121]⟩] 65, Obj.cells #[.string ⟨#[117, 112]⟩, .int .i64 0, .int .i64 1000000000000, .int .i64 1000, .string ⟨#[100, 111, 119, 110]⟩, .int .i64 0, .int .i64 1000000000000, .int .i64 1000] 67, Obj.cells #[.string ⟨#[97]⟩, .string ⟨#[85]⟩] 65, Obj.cells #[.string ⟨#[111, 117, 116]⟩, .string ⟨#[85]⟩] 65, Obj.cells #[.string ⟨#[115, 116, 97, 103, 101, 115]⟩, .int .i64 1, .int .i64 15, .int .i64 1, .string ⟨#[117, 112]⟩, .int .i64 (-1000000000000), .int .i64 1000000000000, .int .i64 0, .string ⟨#[100, 111, 119, 110]⟩, .int .i64 (-1000000000000), .int .i64 1000000000000, .int .i64 0, .string ⟨#[117, 112, 100, 101, 108, 97, 121]⟩, .int .i64 0, .int .i64 86400, .int .i64 0, .string ⟨#[100, 111, 119, 110, 100, 101, 108, 97, 121]⟩, .int .i64 0, .int .i64 86400, .int .i64 0] 67, Obj.cells #[.string ⟨#[97]⟩, .string ⟨#[85]⟩] 65, Obj.cells #[.string ⟨#[111, 117, 116]⟩, .string ⟨#[109, 117, 108, 116, 105]⟩] 65, Obj.cells #[.string ⟨#[99, 111, 117, 110, 116]⟩, .int .i64 1, .int .i64 15, .int .i64 1, .string ⟨#[108, 101, 97, 115, 116]⟩, .int .i64 0, .int .i64 86400, .int .i64 0] 67, Obj.cells #[.string ⟨#[103, 111]⟩, .string ⟨#[98, 105, 110, 97, 114, 121]⟩, .string ⟨#[110, 101, 120, 116]⟩, .string ⟨#[98, 105, 110, 97, 114, 121]⟩] 65, Obj.cells #[.string ⟨#[111, 117, 116]⟩, .string ⟨#[109, 117, 108, 116, 105]⟩] 65, Obj.cells #[.string ⟨#[97]⟩, .string ⟨#[85]⟩, .string ⟨#[98]⟩, .string ⟨#[85]⟩] 65, Obj.cells #[.string ⟨#[111, 117, 116]⟩, .string ⟨#[85]⟩] 65, Obj.cells #[.string ⟨#[97]⟩, .string ⟨#[98, 105, 110, 97, 114, 121]⟩, .string ⟨#[98]⟩, .string ⟨#[98, 105, 110, 97, 114, 121]⟩] 65, Obj.cells #[.string ⟨#[111, 117, 116]⟩, .string ⟨#[98, 105, 110, 97, 114, 121]⟩] 65, Obj.cells (table18 B).toArray 30]
set_option maxRecDepth 200000 in
set_option maxHeartbeats 8000000 in
theorem library18 (w : World) : Calls Tryd.prog 11 #[] w fun e w' => e = .returned (.slice (some ⟨w.heap.size + 77, 0, none⟩) 33 33) ∧ w' = allocsL w (objs18 w.heap.size) := by
  go_enter Tryd.func11, Tryd.ntmps11
  go_upto_region 1 with fail
  refine wp_region_list ?_
  refine wp_lits0 w _ _ (objs18 w.heap.size) (.slice (some ⟨w.heap.size + 77, 0, none⟩) 33 33) 227 (by kernel_rfl) ?_
  intro T hs h0
  have e0 : (⟨T, []⟩ : Act).eval (.tmp 0) = .slice (some ⟨w.heap.size + 77, 0, none⟩) 33 33 := by
    show T.getD 0 undef = _
    rw [Array.getD_eq_getD_getElem?, h0]; rfl
  rename_i Q K hK
  show K _ _
  refine hK _ _ ?_
  go_wp2_with fail
  go_ret
  exact ⟨congrArg Ending.returned e0, rfl⟩
end Go.Proofs.YtaobbedajgkmiaaDoor
