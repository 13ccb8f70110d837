/- The contract of slices.Delete of one knot: the walk. -/
import Derived.Test.YthghcppdfeeloaaDe
import Derived.Shelf.RegionOpenPlain
import Derived.Deep.RegionLaw
import Derived.WalkKit
namespace Go.Proofs.Ythghcppdfeeloaa
open Go.RowKit

theorem RowK.drew {w : World} {g cap : Nat} {ks : List (Int × Int)} (h : RowK w g cap ks) : RowK w.drew g cap ks :=
  ⟨fun i hi => h.kn i hi, h.le, fun j hj => h.some j hj, fun j => h.fz j, h.lt⟩

set_option maxHeartbeats 4000000 in
set_option maxRecDepth 1000000 in
theorem delete_any (g cap i j : Nat) (ks : List (Int × Int)) (w : World) (h : RowK w g cap ks) (hj : j = i + 1) (hi : i < ks.length) :
    Calls Try.prog 37 #[.slice (some ⟨g, 0, none⟩) ks.length cap, .int .i64 i, .int .i64 j] w fun e w' => e = .returned (.slice (some ⟨g, 0, none⟩) (ks.length - 1) cap) ∧ RowK w' g cap (ks.eraseIdx i) ∧ Below g w w' := by
  obtain ⟨i0, hi0, hz0, hz1, hz2⟩ := info_parts infoKnot
  have hD := h.drew
  have hle := h.le
  obtain ⟨n, hn⟩ : ∃ n, n = ks.length := ⟨_, rfl⟩
  obtain ⟨news, hnews⟩ : ∃ news, news = cellsK (ks.drop j) := ⟨_, rfl⟩
  have hlen : news.length = (n - j) * 2 := by rw [hnews, cellsK_len, List.length_drop, hn]
  obtain ⟨A, hA, hsrc⟩ : ∃ A : Addr, (if cap = j then some (⟨g, 0, none⟩ : Addr) else some ⟨g, j * 2, none⟩) = some A ∧ Hid (∀ t u, news[t]? = some u → w.drew.cell? (A.add t) = some u) := by
    by_cases hc : cap = j
    · refine ⟨⟨g, 0, none⟩, by simp [hc], fun t u hu => ?_⟩
      have h0 : news.length = 0 := by rw [hlen]; omega
      rw [List.length_eq_zero_iff.1 h0] at hu
      simp at hu
    · refine ⟨⟨g, j * 2, none⟩, by simp [hc], fun t u hu => ?_⟩
      have ht : t < (n - j) * 2 := by
        have := (List.getElem?_eq_some_iff.1 hu).1
        rwa [hlen] at this
      rw [add_plain]
      obtain ⟨q, rfl | rfl⟩ : ∃ q, t = q * 2 ∨ t = q * 2 + 1 := ⟨t / 2, by omega⟩
      · rw [hnews, (cellsK_at _ q (by rw [List.length_drop]; omega)).1, kx_drop] at hu
        have := (hD.kn (j + q) (by omega)).1
        rw [← hu, ← this]; congr 2; omega
      · rw [hnews, (cellsK_at _ q (by rw [List.length_drop]; omega)).2, ky_drop] at hu
        have := (hD.kn (j + q) (by omega)).2
        rw [← hu, ← this]; congr 2; omega
  have s1 : Hid (news.length = (n - j) * 2) := hlen
  have s2 : Hid (∀ u ∈ news, u.oneCell' = true) := by
    intro u hu
    rw [hnews] at hu
    unfold cellsK at hu
    rw [List.mem_flatMap] at hu
    obtain ⟨k, _, hk⟩ := hu
    simp at hk
    rcases hk with rfl | rfl <;> rfl
  have s3 : Hid (∀ t, t < news.length → (w.drew.cell? ⟨g, 0 + i * 2 + t, none⟩).isSome = true ∧ w.drew.frozen? ⟨g, 0 + i * 2 + t, none⟩ = false) := by
    intro t ht
    rw [hlen] at ht
    exact ⟨hD.some _ (by omega), hD.fz _⟩
  obtain ⟨W1, hW1⟩ : ∃ W1, W1 = w.drew.setCells g (0 + i * 2) news := ⟨_, rfl⟩
  have hR : RowK (W1.setCells g ((n - 1) * 2) [.int .i64 0, .int .i64 0]) g cap (ks.eraseIdx i) := by
    have := row_deleted hD hi
    rw [hW1, hnews, hj, hn, Nat.zero_add]; exact this
  have hB : Below g w (W1.setCells g ((n - 1) * 2) [.int .i64 0, .int .i64 0]) := by
    rw [hW1]
    exact ((Below.drew (Below.refl g w)).trans (Lib.below_setCells_w (Nat.le_refl g) _ _ _)).trans (Lib.below_setCells_w (Nat.le_refl g) _ _ _)
  have hcl : ∀ ty c, (Builtin.clear_ #[22] ty #[.slice (some ⟨g, (n - 1) * 2, none⟩) 1 c]).run Try.prog W1 = .ok (.tuple #[]) (W1.setCells g ((n - 1) * 2) [.int .i64 0, .int .i64 0]) :=
    fun ty c => run_clear_knot W1 ty g _ c (fun t ht => by rw [hW1]; exact Lib.isSome_setCells g _ _ _ _ (hD.some _ (by omega))) (fun t ht => by rw [hW1, World.frozen?_setCells]; exact hD.fz _)
  have e1 : i + (n - j) = n - 1 := by omega
  have e2 : n - (i + (n - j)) = 1 := by omega
  have hcl2 : ∀ ty, (Builtin.clear_ #[22] ty #[.slice (some ⟨g, (i + (n - j)) * 2, none⟩) (n - (i + (n - j))) (cap - (i + (n - j)))]).run Try.prog W1 = .ok (.tuple #[]) (W1.setCells g ((n - 1) * 2) [.int .i64 0, .int .i64 0]) := fun ty => by
    rw [e2, e1]; exact hcl ty _
  have E1 := Lib.hid e1
  have HR := Lib.hid hR
  have HB := Lib.hid hB
  have hW : Hid (W1 = w.drew.setCells g (0 + i * 2) news) := hW1
  have hic : i ≤ cap := by omega
  have hjc : j ≤ cap := by omega
  have hlt : i < j := by omega
  have hne : i ≠ j := by omega
  have hjn : j ≤ n := by omega
  have hJ := Lib.hid hj
  have HI := Lib.hid hi
  rw [← hn] at hle ⊢
  clear hW1 hR hB hnews hlen h hD hj hi hn hcl e1 e2
  go_enter Try.func37, Try.ntmps37
  go_wp2_with fail
  go_region_law (refine step_append_room rfl (.tmp 22) (.tmp 25) 22 rfl 50 i0 2 Try.underlying22 hi0 hz1 g 0 i cap (by simp [Act.eval, Act.put]) A (n - j) (cap - j) news (by simp [Act.eval, Act.put]) s1.out hsrc.out s2.out (by omega) s3.out ?_; rw [← hW.out])
  go_wp2
  go_ret
  exact ⟨by rw [← E1.out]; rfl, HR.out, HB.out⟩
end Go.Proofs.Ythghcppdfeeloaa
