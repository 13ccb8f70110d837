/- Plain: as many keys as names just when no two names are one, just when Find gives each point's own place. -/
import Derived.Test.YtojbhbifbennfaaCj
namespace Go.Proofs.Ytojbhbifbennfaa
open Go.RowKit Go.Shelf Go.Maps Go.WideMaps

theorem sameKey_str (a b : ByteArray) : (keyB a).sameKey (keyB b) = decide (a = b) := by
  by_cases h : a = b
  · subst h; rw [decide_eq_true rfl]; simp [keyB, Lit.sameKey]
  · rw [decide_eq_false h]
    exact sameKey_ne (fun e => h (keyB_inj e))
theorem any_key (acc : List ByteArray) (x : ByteArray) : ((acc.map keyB).any fun y => y.sameKey (keyB x)) = true ↔ x ∈ acc := by
  rw [List.any_eq_true]
  constructor
  · rintro ⟨y, hy, he⟩
    obtain ⟨a, ha, rfl⟩ := List.mem_map.1 hy
    rw [sameKey_str, decide_eq_true_iff] at he
    exact he ▸ ha
  · intro h
    exact ⟨keyB x, List.mem_map.2 ⟨x, h, rfl⟩, by rw [sameKey_str]; exact decide_eq_true rfl⟩
theorem addKey_len (xs : List ByteArray) : ∀ acc : List ByteArray, ((xs.map keyB).foldl addKey (acc.map keyB)).length ≤ acc.length + xs.length ∧ (((xs.map keyB).foldl addKey (acc.map keyB)).length = acc.length + xs.length ↔ xs.Nodup ∧ ∀ x ∈ xs, x ∉ acc) := by
  induction xs with
  | nil => intro acc; simp
  | cons x r ih =>
    intro acc
    rw [List.map_cons, List.foldl_cons]
    by_cases h : x ∈ acc
    · rw [show addKey (acc.map keyB) (keyB x) = acc.map keyB from if_pos ((any_key acc x).2 h)]
      have hi := ih acc
      refine ⟨by rw [List.length_cons]; omega, ?_⟩
      constructor
      · intro he; rw [List.length_cons] at he; omega
      · intro he; exact absurd h (he.2 x (List.mem_cons_self))
    · rw [show addKey (acc.map keyB) (keyB x) = (acc ++ [x]).map keyB from (if_neg (fun e => h ((any_key acc x).1 e))).trans (by simp)]
      have hi := ih (acc ++ [x])
      rw [List.length_append, List.length_singleton] at hi
      refine ⟨by rw [List.length_cons]; omega, ?_⟩
      rw [List.length_cons, show acc.length + (r.length + 1) = acc.length + 1 + r.length from by omega, hi.2, List.nodup_cons]
      constructor
      · rintro ⟨h1, h2⟩
        refine ⟨⟨fun hx => h2 x hx (by simp), h1⟩, fun y hy => ?_⟩
        rcases List.mem_cons.1 hy with rfl | hy
        · exact h
        · exact fun ha => h2 y hy (by simp [ha])
      · rintro ⟨⟨h1, h2⟩, h3⟩
        refine ⟨h2, fun y hy ha => ?_⟩
        rcases List.mem_append.1 ha with ha | ha
        · exact h3 y (List.mem_cons_of_mem _ hy) ha
        · rw [List.mem_singleton] at ha; subst ha; exact h1 hy
theorem distB_nodup (ss : List ByteArray) : distB ss = true ↔ ss.Nodup := by
  unfold distB Sn
  have hk : keysS ss ss.length = ss.map keyB := by unfold keysS keyB; rw [List.take_length]
  rw [hk, size_setOf _ _ (by intro x hx; obtain ⟨y, _, rfl⟩ := List.mem_map.1 hx; exact keyB_key y)]
  have h := (addKey_len ss []).2
  rw [List.map_nil, List.length_nil, Nat.zero_add] at h
  rw [decide_eq_true_iff, h]
  simp
theorem first_mem {s : ByteArray} (ns : List ByteArray) : ∀ i : Nat, (firstS (fun x => decide (x = s)) ns i = -1 ∧ s ∉ ns) ∨ ∃ k : Nat, firstS (fun x => decide (x = s)) ns i = ((i + k : Nat) : Int) ∧ ns[k]? = some s := by
  induction ns with
  | nil => intro i; exact .inl ⟨rfl, by simp⟩
  | cons y r ih =>
    intro i
    by_cases h : y = s
    · exact .inr ⟨0, by unfold firstS; rw [if_pos (decide_eq_true h)]; rfl, by simp [h]⟩
    · have h3 : firstS (fun x => decide (x = s)) (y :: r) i = firstS (fun x => decide (x = s)) r (i + 1) := by rw [firstS, if_neg (by simp [h])]
      rw [h3]
      rcases ih (i + 1) with ⟨h1, h2⟩ | ⟨k, h1, h2⟩
      · exact .inl ⟨h1, by simp [h2]; exact fun e => h e.symm⟩
      · exact .inr ⟨k + 1, by rw [h1]; congr 1; omega, by simpa using h2⟩
theorem index_no {s : ByteArray} {ns : List ByteArray} (h : s ∉ ns) : ¬ 0 ≤ indexS s ns := by
  unfold indexS
  rcases first_mem (s := s) ns 0 with ⟨h1, _⟩ | ⟨k, _, h2⟩
  · rw [h1]; omega
  · exact absurd (List.mem_of_getElem? h2) h
theorem index_yes {s : ByteArray} {ns : List ByteArray} (h : s ∈ ns) : ∃ k : Nat, indexS s ns = (k : Int) ∧ ns[k]? = some s := by
  unfold indexS
  rcases first_mem (s := s) ns 0 with ⟨_, h2⟩ | ⟨k, h1, h2⟩
  · exact absurd h h2
  · exact ⟨k, by rw [h1, Nat.zero_add], h2⟩
theorem nodup_at {ns : List ByteArray} (h : ns.Nodup) {i k : Nat} {s : ByteArray} (hi : ns[i]? = some s) (hk : ns[k]? = some s) : i = k := by
  obtain ⟨h1, e1⟩ := List.getElem?_eq_some_iff.1 hi
  obtain ⟨h2, e2⟩ := List.getElem?_eq_some_iff.1 hk
  exact (List.getElem_inj h).1 (e1.trans e2.symm)
theorem find_of_nodup (gs : List GrD) : ∀ off : Nat, (memS gs).Nodup → ∀ (i : Nat) (x : GrD) (k : Nat) (s : ByteArray), gs[i]? = some x → x.ns[k]? = some s → (findG s gs off).1 = ((off + i : Nat) : Int) ∧ (findG s gs off).2.1 = (k : Int) := by
  induction gs with
  | nil => intro off _ i x k s hx; simp at hx
  | cons y r ih =>
    intro off hn i x k s hx hs
    have hm : memS (y :: r) = y.ns ++ memS r := by simp [memS]
    rw [hm, List.nodup_append] at hn
    obtain ⟨n1, n2, n3⟩ := hn
    cases i with
    | zero =>
      obtain rfl : y = x := by simpa using hx
      obtain ⟨k', hk', hs'⟩ := index_yes (List.mem_of_getElem? hs)
      obtain rfl := nodup_at n1 hs hs'
      unfold findG
      rw [hk', if_pos (by omega)]
      exact ⟨rfl, rfl⟩
    | succ i =>
      have hx' : r[i]? = some x := by simpa using hx
      have hno : s ∉ y.ns := fun hy => n3 s hy s (mem_memS hx' hs) rfl
      unfold findG
      rw [if_neg (index_no hno)]
      have h := ih (off + 1) n2 i x k s hx' hs
      rw [show off + (i + 1) = off + 1 + i from by omega]
      exact h
theorem nodup_of_find (gs : List GrD) : ∀ off : Nat, (∀ (i : Nat) (x : GrD) (k : Nat) (s : ByteArray), gs[i]? = some x → x.ns[k]? = some s → (findG s gs off).1 = ((off + i : Nat) : Int) ∧ (findG s gs off).2.1 = (k : Int)) → (memS gs).Nodup := by
  induction gs with
  | nil => intro off _; simp [memS]
  | cons y r ih =>
    intro off h
    have hm : memS (y :: r) = y.ns ++ memS r := by simp [memS]
    have hout : ∀ (i : Nat) (x : GrD) (k : Nat) (s : ByteArray), r[i]? = some x → x.ns[k]? = some s → s ∉ y.ns := by
      intro i x k s hx hs hy
      obtain ⟨k', hk', hs'⟩ := index_yes hy
      have h1 := (h (i + 1) x k s (by simpa using hx) hs).1
      unfold findG at h1
      rw [hk', if_pos (by omega)] at h1
      have h2 : (off : Int) = ((off + (i + 1) : Nat) : Int) := h1
      omega
    rw [hm, List.nodup_append]
    refine ⟨?_, ?_, ?_⟩
    · rw [List.nodup_iff_pairwise_ne, List.pairwise_iff_getElem]
      intro i k hi hk hik he
      have e1 : y.ns[i]? = some y.ns[i] := List.getElem?_eq_getElem hi
      have e2 : y.ns[k]? = some y.ns[i] := by rw [List.getElem?_eq_getElem hk, he]
      have h1 := (h 0 y i y.ns[i] rfl e1).2
      have h2 := (h 0 y k y.ns[i] rfl e2).2
      rw [h1] at h2
      omega
    · refine ih (off + 1) (fun i x k s hx hs => ?_)
      have h1 := h (i + 1) x k s (by simpa using hx) hs
      unfold findG at h1
      rw [if_neg (index_no (hout i x k s hx hs))] at h1
      rw [show off + 1 + i = off + (i + 1) from by omega]
      exact h1
    · intro s hs t ht e
      subst e
      obtain ⟨x, hx, hs2⟩ := List.mem_flatMap.1 ht
      obtain ⟨i, hi⟩ := List.getElem?_of_mem hx
      obtain ⟨k, hk⟩ := List.getElem?_of_mem hs2
      exact hout i x k s hi hk hs
theorem dist_iff (gs : List GrD) : distB (memS gs) = true ↔ DistP gs := by
  rw [distB_nodup]
  constructor
  · intro h i x k s hx hs
    have h1 := find_of_nodup gs 0 h i x k s hx hs
    rw [Nat.zero_add] at h1
    exact h1
  · intro h
    refine nodup_of_find gs 0 (fun i x k s hx hs => ?_)
    rw [Nat.zero_add]
    exact h i x k s hx hs
end Go.Proofs.Ytojbhbifbennfaa
