/- The contract of the specification's Simplify. -/
import Derived.Test.YthghcppdfeeloaaRu
import Derived.Test.YthghcppdfeeloaaRs
import Derived.Deep.RegionLaw
namespace Go.Proofs.Ythghcppdfeeloaa
open Go.RowKit

theorem cells_at {w : World} {b off : Nat} {ks : List (Int × Int)} (hc : Knots w b off ks) (lo m : Nat) (hm : lo + m ≤ ks.length) : ∀ (j : Nat) u, (cellsK ((ks.drop lo).take m))[j]? = some u → w.cell? ⟨b, off + lo * 2 + j, none⟩ = some u := fun j u hu => by
  have hl : ((ks.drop lo).take m).length = m := by rw [List.length_take, List.length_drop]; omega
  have hj : j < (cellsK ((ks.drop lo).take m)).length := (List.getElem?_eq_some_iff.1 hu).1
  rw [cellsK_len, hl] at hj
  have hx : ∀ q, q < m → kx ((ks.drop lo).take m) q = kx ks (lo + q) := fun q hq => by
    unfold kx; simp only [List.getD, List.getElem?_take, if_pos hq, List.getElem?_drop]
  have hy : ∀ q, q < m → ky ((ks.drop lo).take m) q = ky ks (lo + q) := fun q hq => by
    unfold ky; simp only [List.getD, List.getElem?_take, if_pos hq, List.getElem?_drop]
  obtain ⟨q, rfl | rfl⟩ : ∃ q, j = q * 2 ∨ j = q * 2 + 1 := ⟨j / 2, by omega⟩
  · rw [(cellsK_at _ q (by rw [hl]; omega)).1, hx q (by omega)] at hu
    have := (hc (lo + q) (by omega)).1
    rw [← hu, ← this]; congr 2; omega
  · rw [(cellsK_at _ q (by rw [hl]; omega)).2, hy q (by omega)] at hu
    have := (hc (lo + q) (by omega)).2
    rw [← hu, ← this]; congr 2; omega
theorem erase_split (ks : List (Int × Int)) (i : Nat) : cellsK ((ks.drop 0).take i) ++ cellsK ((ks.drop (i + 1)).take (ks.length - (i + 1))) = cellsK (ks.eraseIdx i) := by
  have e : (ks.drop (i + 1)).take (ks.length - (i + 1)) = ks.drop (i + 1) := List.take_of_length_le (by rw [List.length_drop]; exact Nat.le_refl _)
  rw [e, ← cellsK_append, List.drop_zero, List.eraseIdx_eq_take_drop_succ]

set_option maxRecDepth 100000 in
set_option maxHeartbeats 8000000 in
theorem rsimplify_any : ∀ (m : Nat) (ks : List (Int × Int)) (b off cap : Nat) (w : World), ks.length = m → checkL ks = 0 → b < w.heap.size → Knots w b off ks → ks.length ≤ cap →
    Calls Try.prog 27 #[.slice (some ⟨b, off, none⟩) ks.length cap] w fun e w' => (∃ a' c', e = .returned (.slice a' (simpL ks).length c') ∧ IsKnots w' a' (simpL ks).length (simpL ks)) ∧ Below w.heap.size w w' := by
  intro m
  induction m with
  | zero =>
    intro ks b off cap w hm he
    have := (check_zero ks he).1
    omega
  | succ m ih =>
    intro ks b off cap w hm he hb hc hcap
    obtain ⟨h0, h32, hf, hr⟩ := check_zero ks he
    obtain ⟨i0, hi, hz0, hz1, hz2⟩ := info_parts infoKnot
    have HU := Lib.hid fun i (hi : i < ks.length) w' (hw : Below w.heap.size w w') => useless_any b off cap i ks w' hi he (Nat.lt_of_lt_of_le hb hw.size) (hc.at hb hw)
    have HNone := Lib.hid fun (hl : ∀ j, j < ks.length → needB ks j = false) => simpL_none (firstN_none hl)
    have HSome := Lib.hid fun i (hi : i < ks.length) (h : needB ks i = true) (hl : ∀ j, j < i → needB ks j = false) => simpL_some (firstN_some hi h hl)
    have HIh := Lib.hid fun i (hi : i < ks.length) (h : needB ks i = true) (g c : Nat) (w' : World) (hg : g < w'.heap.size) (hk : Knots w' g 0 (ks.eraseIdx i)) (hcc : (ks.eraseIdx i).length ≤ c) =>
      ih (ks.eraseIdx i) g 0 c w' (by rw [len_erase hi]; omega) (check_erase he hi (need_cases h hi).1) hg hk hcc
    have HSp := Lib.hid fun i => erase_split ks i
    have HLe := Lib.hid fun i (hi : i < ks.length) => len_erase hi
    have HCe := Lib.hid fun w' (hw : Below w.heap.size w w') lo m hm => cells_at (hc.at hb hw) lo m hm
    have HTk := Lib.hid fun lo m (hm : lo + m ≤ ks.length) => (show ((ks.drop lo).take m).length = m by rw [List.length_take, List.length_drop]; omega)
    have HAll := Lib.hid (show (ks.drop 0).take ks.length = ks by rw [List.drop_zero, List.take_of_length_le (Nat.le_refl _)])
    have HTwo := Lib.hid fun i (hi : i < ks.length) (h : needB ks i = true) => (need_cases h hi).1
    obtain ⟨n, hn⟩ : ∃ n, n = ks.length := ⟨_, rfl⟩
    rw [← hn] at HU HNone HSome HIh HSp HLe HCe HTk HAll HTwo h0 h32 hcap ⊢
    obtain ⟨R, hR⟩ : ∃ R, R = simpL ks := ⟨_, rfl⟩
    rw [← hR] at HNone HSome ⊢
    have HN := Lib.hid hn
    clear ih hm he hf hr hc hn hR
    go_enter Try.func27, Try.ntmps27
    go_wp2_with fail
    go_loopw [3] (fun i wr => ∃ k : Nat, k ≤ n ∧ i = .int .i64 k ∧ Hid (∀ j, j < k → needB ks j = false) ∧ Below w.heap.size w wr) (fun i _ => n - (intOf i).toNat)
    case atStart => exact ⟨0, by omega, rfl, fun j hj => absurd hj (by omega), Below.refl _ _⟩
    case round =>
      obtain ⟨k, hk, rfl, hall, hbel⟩ := hrel
      have BR := Lib.hid hbel
      by_cases hlt : k < n
      · have HK := Lib.hid (HU.out k hlt wr hbel)
        clear hbel
        cases hnd : needB ks k
        · rw [hnd] at HK
          have HA2 := Lib.hid (show ∀ j, j < k + 1 → needB ks j = false from fun j hj => by
            rcases (by omega : j < k ∨ j = k) with h | rfl
            · exact hall.out j h
            · exact hnd)
          clear hnd
          go_wp2_with fail
          refine HK.out.mono ?_
          rintro e w2 ⟨rfl, hb2⟩
          have B2 := Lib.hid (BR.out.trans (hb2.mono BR.out.size))
          clear hb2
          go_wp2_with fail
          go_roundw
          case rel => exact ⟨k + 1, by omega, by go_num, HA2, B2.out⟩
          case measure => simp [intOf]; omega
        · rw [hnd] at HK
          have HRe := Lib.hid (HSome.out k hlt hnd hall.out)
          have HIk := Lib.hid (HIh.out k hlt hnd)
          have HL := Lib.hid (HLe.out k hlt)
          have h2 := HTwo.out k hlt hnd
          have HSk := Lib.hid (HSp.out k)
          clear hnd
          go_wp2_with fail
          refine HK.out.mono ?_
          rintro e w2 ⟨rfl, hb2⟩
          have B2 := Lib.hid (BR.out.trans (hb2.mono BR.out.size))
          clear hb2
          go_wp2_with fail
          obtain ⟨j, hj⟩ : ∃ j, j = k + 1 := ⟨_, rfl⟩
          obtain ⟨A, hA, hsrc⟩ : ∃ A : Addr, (if cap = j then some (⟨b, off, none⟩ : Addr) else some ⟨b, off + j * 2, none⟩) = some A ∧ Hid (∀ w' : World, Below w.heap.size w w' → ∀ (t : Nat) u, (cellsK ((ks.drop j).take (n - j)))[t]? = some u → w'.cell? (A.add t) = some u) := by
            by_cases hcj : cap = j
            · refine ⟨⟨b, off, none⟩, by simp [hcj], fun w' hw t u hu => ?_⟩
              have h0 : (cellsK ((ks.drop j).take (n - j))).length = 0 := by rw [cellsK_len, HTk.out j (n - j) (by omega)]; omega
              rw [List.length_eq_zero_iff.1 h0] at hu
              simp at hu
            · refine ⟨⟨b, off + j * 2, none⟩, by simp [hcj], fun w' hw t u hu => ?_⟩
              rw [add_plain]
              exact HCe.out w' hw j (n - j) (by omega) t u hu
          have hsr0 : Hid (∀ w' : World, Below w.heap.size w w' → ∀ (t : Nat) u, (cellsK ((ks.drop 0).take k))[t]? = some u → w'.cell? ((⟨b, off, none⟩ : Addr).add t) = some u) := fun w' hw t u hu => by
            rw [add_plain]
            have := HCe.out w' hw 0 k (by omega) t u hu
            simpa using this
          have HO1 := Lib.hid (show (w2.drew.alloc (Obj.cells #[] 50)).ownsRow w.heap.size 50 2 (.slice (some ⟨w2.heap.size, 0, none⟩) 0 0) 0 [] from
            ⟨rfl, .inr ⟨w2.heap.size, 0, #[], rfl, B2.out.size, (by show (w2.heap.push (Obj.cells #[] 50))[w2.heap.size]? = _; simp), Nat.le_refl _, by simp, rfl, rfl⟩⟩)
          have B3 := Lib.hid (B2.out.drew.alloc B2.out.size (Obj.cells #[] 50))
          have HOr := Lib.hid fun (w' : World) (v : Value) (h : w'.ownsRow w.heap.size 50 2 v (k + (n - j)) (cellsK ((ks.drop 0).take k) ++ cellsK ((ks.drop j).take (n - j)))) => (show ∃ g c, v = .slice (some ⟨g, 0, none⟩) (ks.eraseIdx k).length c ∧ RowK w' g c (ks.eraseIdx k) by
            have e1 : k + (n - j) = (ks.eraseIdx k).length := by rw [HL.out]; omega
            rw [hj, HSk.out, ← hj, e1] at h
            obtain ⟨g, c, hv, _, hr⟩ := own_row (ks := ks.eraseIdx k) (B := w.heap.size) h (by rw [HL.out]; omega)
            exact ⟨g, c, hv, hr⟩)
          have l0 := HTk.out 0 k (by omega)
          have l1 := HTk.out j (n - j) (by omega)
          have c1l := Lib.hid (show (cellsK ((ks.drop 0).take k)).length = k * 2 by rw [cellsK_len, l0])
          have c2l := Lib.hid (show (cellsK ((ks.drop j).take (n - j))).length = (n - j) * 2 by rw [cellsK_len, l1])
          have j1 : IntKind.i64.wrap ((k : Int) + 1) = (j : Int) := by
            have := wrap_small ((k : Int) + 1) (by omega) (by omega)
            omega
          have j2 : j ≤ cap := by omega
          have j3 : j ≤ n := by omega
          have j4 : k ≤ cap := by omega
          have j5 : k ≤ n := by omega
          have HJ := Lib.hid hj
          have hB2 := Lib.hid (show w2.drew.heap.size = w2.heap.size from rfl)
          clear l0 l1 hj
          go_region_law (first | (refine step_append_own rfl (.tmp 13) (.tmp 16) 22 rfl w.heap.size 50 i0 (.agg #[.int .i64 0, .int .i64 0]) 2 16 Try.underlying22 hi hz0 hz1 hz2 rfl (by decide) _ 0 [] (by simp [Act.eval]) HO1.out ⟨b, off, none⟩ k cap (cellsK ((ks.drop 0).take k)) (by simp [Act.eval]) c1l.out (hsr0.out _ B3.out) (cellsK_one _) (by unfold maxLen; omega) (by omega) B3.out.size ?_; intro v1 w3 hown1 hgrow1 _; rw [Nat.zero_add, List.nil_append] at hown1; have HOw1 := Lib.hid hown1; have B4 := Lib.hid (B3.out.grown hgrow1 B3.out.size (fun k hk => (HO1.out.lt k hk).1)); clear hown1 hgrow1) | (refine step_append_own rfl (.tmp 17) (.tmp 21) 22 rfl w.heap.size 50 i0 (.agg #[.int .i64 0, .int .i64 0]) 2 16 Try.underlying22 hi hz0 hz1 hz2 rfl (by decide) _ k _ (by simp [Act.eval]) HOw1.out A (n - j) (cap - j) (cellsK ((ks.drop j).take (n - j))) (by simp [Act.eval]) c2l.out (hsrc.out _ B4.out) (cellsK_one _) (by unfold maxLen; omega) (by omega) B4.out.size ?_; intro v2 w4 hown2 hgrow2 _; obtain ⟨g2, k2, rfl, hrow2⟩ := HOr.out _ _ hown2; have HRow := Lib.hid hrow2; have B5 := Lib.hid (B4.out.grown hgrow2 B4.out.size (fun k hk => (HOw1.out.lt k hk).1)); clear hown2 hgrow2 hrow2) | (go_simp; go_at_call 27; refine (HIk.out g2 k2 _ HRow.out.lt HRow.out.kn HRow.out.le).mono ?_; rintro e w5 ⟨⟨a5, c5, rfl, hS⟩, hb5⟩; have HS5 := Lib.hid hS; have B6 := Lib.hid (B5.out.trans (hb5.mono B5.out.size)); clear hS hb5; go_simp))
          go_wp2_with fail
          go_ret
          rw [HRe.out]
          exact ⟨⟨a5, c5, rfl, HS5.out⟩, B6.out⟩
      · obtain rfl : k = n := by omega
        have HRe := Lib.hid (HNone.out hall.out)
        have HO1 := Lib.hid (show (wr.alloc (Obj.cells #[] 50)).ownsRow w.heap.size 50 2 (.slice (some ⟨wr.heap.size, 0, none⟩) 0 0) 0 [] from
          ⟨rfl, .inr ⟨wr.heap.size, 0, #[], rfl, hbel.size, (by show (wr.heap.push (Obj.cells #[] 50))[wr.heap.size]? = _; simp), Nat.le_refl _, by simp, rfl, rfl⟩⟩)
        have B3 := Lib.hid (hbel.alloc hbel.size (Obj.cells #[] 50))
        have hln := Lib.hid (show (cellsK ks).length = k * 2 by rw [cellsK_len, ← HN.out])
        have HNw := Lib.hid (show ∀ (j : Nat) u, (cellsK ks)[j]? = some u → (wr.alloc (Obj.cells #[] 50)).cell? ((⟨b, off, none⟩ : Addr).add j) = some u from fun j u hu => by
          rw [add_plain]
          have := HCe.out _ B3.out 0 k (by omega) j u (by rw [HAll.out]; exact hu)
          simpa using this)
        have HLt := HO1.out.lt
        have HLl := Lib.hid HLt
        clear hbel HLt
        go_wp2_with (at_builtin; refine wpList_append_own _ rfl _ _ 22 rfl w.heap.size 50 i0 (.agg #[.int .i64 0, .int .i64 0]) 2 16 Try.underlying22 hi hz0 hz1 hz2 rfl (by decide) _ _ _ rfl HO1.out ⟨b, off, none⟩ k cap (cellsK ks) rfl hln.out ?c1 ?c2 ?c3 ?c4 ?c5 ?_)
        case c1 => exact HNw.out
        case c2 => exact cellsK_one ks
        case c3 => unfold maxLen; omega
        case c4 => omega
        case c5 => have := B3.out.size; simpa using this
        intro v' w3 hown hgrow _
        have B4 := Lib.hid (B3.out.grown hgrow B3.out.size (fun k hk => (HLl.out k hk).1))
        have hO2 : OwnK w3 w.heap.size v' ks := by
          unfold OwnK
          rw [← HN.out]
          simpa using hown
        obtain ⟨a', c', rfl, hkn, _⟩ := own_knots hO2 (by rw [← HN.out]; exact h32)
        have HKn := Lib.hid hkn
        have hr := HRe.out
        subst hr
        clear hown hgrow hO2 hkn
        go_wp2_with fail
        go_ret
        exact ⟨⟨a', ⟨c', rfl⟩, HKn.out⟩, B4.out⟩
end Go.Proofs.Ythghcppdfeeloaa
