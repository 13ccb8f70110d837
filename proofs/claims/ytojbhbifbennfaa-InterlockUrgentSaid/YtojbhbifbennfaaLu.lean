/- The law InterlockUrgent. -/
import Derived.Test.YtojbhbifbennfaaRn
namespace Go.Proofs.Ytojbhbifbennfaa
open Go.RowKit Go.Shelf Go.Deep

theorem infoIn : (Try.prog.info? 3).map (fun i => (i.zero, i.size, i.bytes)) = some (some (.int .i64 0), 1, 8) := by kernel_rfl
theorem infoSi : (Try.prog.info? 64).map (fun i => (i.zero, i.size, i.bytes)) = some (some (.slice none 0 0), 1, 24) := by kernel_rfl
theorem flat_iL (l : List Int) : flat iL l = l.map (Value.int .i64) := by
  induction l with
  | nil => rfl
  | cons x r ih => show iL x ++ flat iL r = _; rw [ih]; rfl
theorem int_all (l : List Int) : ∀ u ∈ flat iL l, u.oneCell' = true := by
  rw [flat_iL]; intro u hu; obtain ⟨x, _, rfl⟩ := List.mem_map.1 hu; rfl
theorem own_put {w : World} {B e n g cap : Nat} {L : List Value} (h : w.ownsRow B e 1 (.slice (some ⟨g, 0, none⟩) n cap) n L) (i : Nat) (u : Value) : (w.setCell ⟨g, i, none⟩ u).ownsRow B e 1 (.slice (some ⟨g, 0, none⟩) n cap) n (L.set i u) := by
  obtain ⟨hl, ⟨h1, _⟩ | ⟨g', cap', cur, hv, hB, hw, hn, hc, hs, ht⟩⟩ := h
  · cases h1
  · injection hv with h1 h2 h3
    injection h1 with h1
    injection h1 with h1
    subst h1 h3
    refine ⟨by rw [List.length_set]; exact hl, .inr ⟨g, cap, cur.setIfInBounds i u, rfl, hB, ?_, hn, hc, by simpa using hs, ?_⟩⟩
    · simp [World.setCell, Array.getElem?_modify, hw]
    · rw [Array.toList_setIfInBounds, List.take_set, ht]
theorem own_some {w : World} {B e sz n : Nat} {v : Value} {L : List Value} (h : w.ownsRow B e sz v n L) (hn : 0 < n) : ∃ g c, v = .slice (some ⟨g, 0, none⟩) n c ∧ B ≤ g := by
  rcases h.2 with ⟨_, h0⟩ | ⟨g, cap, cur, rfl, hB, _⟩
  · omega
  · exact ⟨g, cap, rfl, hB⟩
theorem own_free {w : World} {B e sz n g cap : Nat} {L : List Value} (h : w.ownsRow B e sz (.slice (some ⟨g, 0, none⟩) n cap) n L) (o : Nat) : w.frozen? ⟨g, o, none⟩ = false := by
  obtain ⟨_, ⟨h1, _⟩ | ⟨g', cap', cur, hv, _, hw, _⟩⟩ := h
  · cases h1
  · injection hv with h1
    injection h1 with h1
    injection h1 with h1
    subst h1
    simp [World.frozen?, hw]
def mixR (who : Nat) (a : List Int) (k : Nat) : List Int := (turnR who a).take k ++ a.drop k
theorem mix_zero (who : Nat) (a : List Int) : mixR who a 0 = a := rfl
theorem mix_end (who : Nat) (a : List Int) : mixR who a a.length = turnR who a := by
  unfold mixR; rw [List.drop_length, List.append_nil, List.take_of_length_le (by rw [turnR_len]; exact Nat.le_refl _)]
theorem mix_at {who : Nat} {a : List Int} {k : Nat} {l : Int} (h : a[k]? = some l) : (mixR who a k)[k]? = some l := by
  have hk := (List.getElem?_eq_some_iff.1 h).1
  have hl : ((turnR who a).take k).length = k := by rw [List.length_take, turnR_len]; omega
  unfold mixR
  rw [List.getElem?_append_right (by omega), hl, Nat.sub_self, List.getElem?_drop, Nat.add_zero, h]
theorem mix_set {who : Nat} {a : List Int} {k : Nat} {l : Int} (h : a[k]? = some l) : (mixR who a k).set k (turnX who k l) = mixR who a (k + 1) := by
  have hk := (List.getElem?_eq_some_iff.1 h).1
  have hl : ((turnR who a).take k).length = k := by rw [List.length_take, turnR_len]; omega
  unfold mixR
  rw [List.set_append_right _ _ (by omega), hl, Nat.sub_self, drop_cons h, List.take_add_one, turnR_at who a h]
  simp
theorem mix_same {who : Nat} {a : List Int} {k : Nat} {l : Int} (h : a[k]? = some l) (h2 : turnX who k l = l) : mixR who a (k + 1) = mixR who a k := by
  rw [← mix_set h, h2]
  obtain ⟨hk, he⟩ := List.getElem?_eq_some_iff.1 (mix_at (who := who) h)
  conv => lhs; rw [← he]
  exact List.set_getElem_self hk
theorem mix_len (who : Nat) (a : List Int) (k : Nat) (h : k ≤ a.length) : (mixR who a k).length = a.length := by
  unfold mixR; rw [List.length_append, List.length_take, List.length_drop, turnR_len]; omega
def RowsO (w : World) (B : Nat) (xs : List SlD) (rs : List (List Int)) : Prop := rs.length = xs.length ∧ ∀ (i : Nat) (x : SlD) (a : List Int), xs[i]? = some x → rs[i]? = some a → a.length = x.n ∧ w.ownsRow B 3 1 (.slice x.a x.n x.c) x.n (flat iL a)
theorem RowsO.keep {w w' : World} {B : Nat} {xs : List SlD} {rs : List (List Int)} (h : RowsO w B xs rs) (hb : Below w.heap.size w w') : RowsO w' B xs rs := ⟨h.1, fun i x a hx ha => ⟨(h.2 i x a hx ha).1, own_keep (h.2 i x a hx ha).2 hb⟩⟩
theorem RowsO.kept {w w' : World} {B : Nat} {xs : List SlD} {rs : List (List Int)} {v : Value} {B2 sz n : Nat} {L : List Value} (h : RowsO w B xs rs) (hv : w.ownsRow B2 64 sz v n L) (hg : w.grownBy w' v.ownBlock) : RowsO w' B xs rs := ⟨h.1, fun i x a hx ha => ⟨(h.2 i x a hx ha).1, (h.2 i x a hx ha).2.kept hg (own_diff (h.2 i x a hx ha).2 hv (by decide))⟩⟩
theorem RowsO.add {w : World} {B : Nat} {xs : List SlD} {rs : List (List Int)} (h : RowsO w B xs rs) (x : SlD) (a : List Int) (h1 : a.length = x.n) (h2 : w.ownsRow B 3 1 (.slice x.a x.n x.c) x.n (flat iL a)) : RowsO w B (xs ++ [x]) (rs ++ [a]) := by
  refine ⟨by simp [h.1], fun i y b hy hb => ?_⟩
  by_cases hi : i < xs.length
  · rw [List.getElem?_append_left hi] at hy
    rw [List.getElem?_append_left (by rw [h.1]; exact hi)] at hb
    exact h.2 i y b hy hb
  · have hlt := (List.getElem?_eq_some_iff.1 hy).1
    have : i = xs.length := by simp at hlt; omega
    subst this
    rw [List.getElem?_append_right (Nat.le_refl _), Nat.sub_self] at hy
    rw [← h.1, List.getElem?_append_right (Nat.le_refl _), Nat.sub_self] at hb
    obtain rfl : x = y := by simpa using hy
    obtain rfl : a = b := by simpa using hb
    exact ⟨h1, h2⟩
theorem RowsO.toIn {w : World} {B : Nat} {xs : List SlD} {rs : List (List Int)} (h : RowsO w B xs rs) : RowsIn w xs rs := ⟨h.1, fun i x a hx ha => ⟨(h.2 i x a hx ha).1, by
  obtain ⟨b, c, e, hi⟩ := ins_own (h.2 i x a hx ha).2
  injection e with e1 e2 e3
  rw [e1]
  exact hi⟩⟩
theorem turnA_take (frm who : Nat) (rs : List (List Int)) {j : Nat} {a : List Int} (h : rs[j]? = some a) : (turnA frm who rs).take (j + 1) = (turnA frm who rs).take j ++ [if frm ≤ j then turnR who a else a] := by
  have hj := (List.getElem?_eq_some_iff.1 h).1
  have : (turnA frm who rs)[j]? = some (if frm ≤ j then turnR who a else a) := by
    unfold turnA
    rw [List.getElem?_map, List.getElem?_range hj]
    show some (if frm ≤ j then turnR who (rowA rs j) else rowA rs j) = _
    rw [show rowA rs j = a by unfold rowA; rw [h]; rfl]
  rw [List.take_add_one, this]; rfl

set_option maxHeartbeats 8000000 in
set_option maxRecDepth 100000 in
theorem urgent_law (nm : Value) (pa : Option Addr) (P pc : Nat) (dd : Int) (now : Int) (a : Option Addr) (cap : Nat) (xs : List SlD) (rs : List (List Int)) (frm who : Int) (w : World) (hin : InS w a xs.length 1 (flat slL xs)) (hrw : RowsIn w xs rs) : Calls Try.prog 8 #[.agg #[nm, .slice pa P pc, .int .i64 dd], .int .i64 now, .slice a xs.length cap, .int .i64 frm, .int .i64 who] w fun e w' => e = .returned (.bool true) ∧ Below w.heap.size w w' := by
  have HFI := Lib.hid (fun (W' : World) (hb : Below w.heap.size w W') => fits_any nm pa P pc dd now a cap xs rs W' (hin.keep hb) (hrw.keep hb))
  have HAW := Lib.hid awake_yes
  obtain ⟨N, hN⟩ : ∃ N, N = xs.length := ⟨_, rfl⟩
  rw [← hN] at HFI ⊢
  have HN := Lib.hid hN
  have HI := Lib.hid hin
  have HRW := Lib.hid hrw
  clear hN hin hrw
  obtain ⟨W, g, hW, hg, R1, B, sz⟩ := box1 w #[nm, .slice pa P pc, .int .i64 dd] 33
  have HG := Lib.hid R1
  have HB := Lib.hid B
  clear R1 B sz
  go_enter Try.func8, Try.ntmps8
  go_wp2_with fail
  rw [← hW]
  try rw [← hg]
  clear hW hg
  refine (HAW.out _).mono ?_
  rintro e w1 ⟨rfl, hb⟩
  have HG1 := Lib.hid (HG.out.keep hb)
  have HB1 := Lib.hid (HB.out.trans (hb.mono HB.out.size))
  clear hb HG HB HAW
  have g_0 := HG1.out.c 0 _ rfl
  have g_1 := HG1.out.c 1 _ rfl
  have g_2 := HG1.out.c 2 _ rfl
  go_wp2_with fail
  refine (HFI.out _ HB1.out).mono ?_
  rintro e w2 ⟨hf, hb⟩
  have HG2 := Lib.hid (HG1.out.keep hb)
  have HB2 := Lib.hid (HB1.out.trans (hb.mono HB1.out.size))
  clear hb HG1 HB1 HFI g_0 g_1 g_2
  rcases hf with ⟨rfl, hF, hP20⟩ | rfl
  rotate_left
  · go_wp2_with fail
    go_ret
    exact ⟨rfl, HB2.out⟩
  have HF := Lib.hid hF
  obtain ⟨ii, hifi, hzi0, hzi1, hzi2⟩ := info_parts infoIn
  obtain ⟨is, hifs, hzs0, hzs1, hzs2⟩ := info_parts infoSi
  have g_0 := HG2.out.c 0 _ rfl
  have g_1 := HG2.out.c 1 _ rfl
  have g_2 := HG2.out.c 2 _ rfl
  by_cases h1 : frm < 0
  · go_wp2_with fail
    go_ret
    exact ⟨rfl, HB2.out⟩
  by_cases h2 : (N : Int) ≤ frm
  · go_wp2_with fail
    go_ret
    exact ⟨rfl, HB2.out⟩
  by_cases h3 : who < 0
  · go_wp2_with fail
    go_ret
    exact ⟨rfl, HB2.out⟩
  by_cases h4 : (P : Int) ≤ who
  · go_wp2_with fail
    go_ret
    exact ⟨rfl, HB2.out⟩
  have e1 : decide (frm < 0) = false := decide_eq_false h1
  have e2 : decide ((N : Int) ≤ frm) = false := decide_eq_false h2
  have e3 : decide (who < 0) = false := decide_eq_false h3
  have e4 : decide ((P : Int) ≤ who) = false := decide_eq_false h4
  have HH4 := Lib.hid (show 0 ≤ frm ∧ frm < N ∧ 0 ≤ who ∧ who < P by omega)
  clear h1 h2 h3 h4
  have HOE := Lib.hid (own_empty w2 64 1)
  have HBE := Lib.hid (bel_new (w := w2) (Obj.cells #[] 64))
  go_wp2_with fail
  clear g_0 g_1 g_2
  obtain ⟨f, rfl⟩ : ∃ f : Nat, frm = (f : Int) := ⟨frm.toNat, by have := HH4.out; omega⟩
  obtain ⟨h, rfl⟩ : ∃ h : Nat, who = (h : Int) := ⟨who.toNat, by have := HH4.out; omega⟩
  have HFN := Lib.hid (show f < N by have := HH4.out; omega)
  have HHP := Lib.hid (show h < P by have := HH4.out; omega)
  have HNR : Hid (rs.length = N) := Lib.hid (by rw [HRW.out.1, HN.out])
  have hmx : N ≤ 40 := by have h := hF.len; have := HNR.out; omega
  clear hF e1 e2 e3 e4
  go_loopw [11, 12] (fun v i wr => ∃ (j : Nat) (ys : List SlD), j ≤ N ∧ i = .int .i64 j ∧ Hid (ys.length = j ∧ wr.ownsRow w2.heap.size 64 1 v j (flat slL ys) ∧ RowsO wr w2.heap.size ys ((turnA f h rs).take j) ∧ Below w2.heap.size w2 wr)) (fun _ i _ => N - (intOf i).toNat)
  case atStart => exact ⟨0, [], by omega, rfl, Lib.hid ⟨rfl, HOE.out, ⟨rfl, fun i x a hx _ => by simp at hx⟩, HBE.out⟩⟩
  case round =>
    obtain ⟨j, ys, hj, rfl, hH⟩ := hrel
    obtain ⟨wo, rfl⟩ : ∃ x : World, x = wr := ⟨_, rfl⟩
    have HBR := Lib.hid hH.out.2.2.2
    have HB5 := Lib.hid (HB2.out.trans (HBR.out.mono HB2.out.size))
    have HO := Lib.hid hH.out.2.1
    have HRO := Lib.hid hH.out.2.2.1
    have HYL := Lib.hid hH.out.1
    clear hH
    by_cases hlt : j < N
    · have hjr : j < rs.length := by rw [HNR.out]; exact hlt
      obtain ⟨x, hx⟩ : ∃ x, xs[j]? = some x := ⟨_, List.getElem?_eq_getElem (by rw [← HN.out]; exact hlt)⟩
      obtain ⟨a', ha⟩ : ∃ a, rs[j]? = some a := ⟨_, List.getElem?_eq_getElem hjr⟩
      obtain ⟨xa, xn, xc⟩ := x
      have HRA := Lib.hid (show a'.length = xn ∧ InS w xa xn 1 (flat iL a') from HRW.out.2 j _ a' hx ha)
      have hxP : xn = P := by rw [← HRA.out.1]; exact (HF.out.row a' (List.mem_of_getElem? ha)).1
      have hx0 : 0 < xn := by have := HHP.out; omega
      have hx20 : xn ≤ 20 := by omega
      obtain ⟨b, of, rfl, hbl, hcell⟩ := HI.out.at slL_len (by have := HN.out; omega)
      have d0 := hcell j _ hx 0 _ rfl
      rw [Nat.add_zero, Nat.mul_one] at d0
      have c0 : wo.cell? ⟨b, of + j, none⟩ = some (.slice xa xn xc) := (HB5.out.cell (p := ⟨b, of + j, none⟩) hbl).trans d0
      obtain ⟨b2, o2, rfl, hb2, hc2⟩ := InS.at (f := iL) (xs := a') iL_len (by rw [HRA.out.1]; exact HRA.out.2) (by rw [HRA.out.1]; exact hx0)
      have HC2 := Lib.hid (show ∀ k u, (flat iL a')[k]? = some u → (wo.alloc (Obj.cells #[] 3)).cell? ⟨b2, o2 + k, none⟩ = some u from fun k u hu => by
        have h1 := ins_news HRA.out.2 k u hu
        rw [add_plain] at h1
        exact ((bel_new (w := wo) (Obj.cells #[] 3)).cell (p := ⟨b2, o2 + k, none⟩) (Nat.lt_of_lt_of_le hb2 HB5.out.size)).trans ((HB5.out.cell (p := ⟨b2, o2 + k, none⟩) hb2).trans h1))
      have HA := Lib.hid ha
      have k1 : (0 : Int) ≤ (j : Int) := by omega
      have k2 : (j : Int) < (N : Int) := by omega
      have HOW := Lib.hid (own_empty wo 3 1)
      have c1 := ((bel_new (w := wo) (Obj.cells #[] 3)).cell (p := ⟨b, of + j, none⟩) (Nat.lt_of_lt_of_le hbl HB5.out.size)).trans c0
      have HXN := Lib.hid hx0
      clear hx ha hcell hbl d0 hjr hb2 hc2 hxP hx0
      go_wp2_with (at_builtin; refine wpList_append_own _ rfl _ _ 64 rfl wo.heap.size 3 ii (.int .i64 0) 1 8 Try.underlying64 hifi hzi0 hzi1 hzi2 rfl (by decide) _ _ _ rfl HOW.out ⟨b2, o2, none⟩ xn xc (flat iL a') rfl ?d1 ?d2 ?d3 ?d4 ?d5 ?d6 ?_)
      case d1 => rw [flat_len iL_len, HRA.out.1]
      case d2 => exact fun k u hu => by rw [add_plain]; exact HC2.out k u hu
      case d3 => exact int_all _
      case d4 => unfold maxLen; omega
      case d5 => omega
      case d6 => simp
      intro v5 w5 hown5 hgrow5 _
      have hown5' : w5.ownsRow wo.heap.size 3 1 v5 xn (flat iL a') := by first | exact hown5 | (rw [Nat.zero_add] at hown5; exact hown5)
      obtain ⟨rb, rc, rfl, hrb⟩ := own_some hown5' HXN.out
      have HW5 := Lib.hid (show w5.ownsRow wo.heap.size 3 1 (.slice (some ⟨rb, 0, none⟩) xn rc) xn (flat iL a') from hown5')
      have HB6 := Lib.hid (show Below wo.heap.size wo w5 from ((Below.refl wo.heap.size wo).alloc (Nat.le_refl _) (Obj.cells #[] 3)).grown hgrow5 (by simp) (fun k hk => by have := (HOW.out.lt k hk).1; exact this))
      have HRB := Lib.hid hrb
      clear hown5 hown5' hgrow5 HOW c0 c1 HC2 hrb
      go_wp2_with fail
      by_cases hfj : f ≤ j
      · have t0 : (f : Int) ≤ (j : Int) := by omega
        go_loopw [14] (fun k wr => ∃ m : Nat, m ≤ xn ∧ k = .int .i64 m ∧ Hid (wr.ownsRow wo.heap.size 3 1 (.slice (some ⟨rb, 0, none⟩) xn rc) xn (flat iL (mixR h a' m)) ∧ Below wo.heap.size wo wr)) (fun k _ => xn - (intOf k).toNat)
        case atStart => exact ⟨0, by omega, rfl, Lib.hid ⟨HW5.out, HB6.out⟩⟩
        case round =>
          obtain ⟨m, hm, rfl, hK⟩ := hrel
          have HWm := Lib.hid hK.out.1
          have HBm := Lib.hid hK.out.2
          clear hK
          by_cases hml : m < xn
          · obtain ⟨l, hl⟩ : ∃ l, a'[m]? = some l := ⟨_, List.getElem?_eq_getElem (by rw [HRA.out.1]; exact hml)⟩
            have HL := Lib.hid hl
            have n0 : wr.cell? ⟨rb, m, none⟩ = some (.int .i64 l) := by
              have hz := HWm.out.cells (g := rb) rfl m (.int .i64 l) (by rw [flat_iL, List.getElem?_map, mix_at hl]; rfl)
              rw [add_plain, Nat.zero_add] at hz
              exact hz
            have nz : ∀ o, wr.frozen? ⟨rb, o, none⟩ = false := fun o => own_free HWm.out o
            have k3 : (0 : Int) ≤ (m : Int) := by omega
            have k4 : (m : Int) < (xn : Int) := by omega
            clear hl
            by_cases hl1 : l = 1
            · have t1 : (l == 1) = true := by simpa using hl1
              have n1 : (wr.setCell ⟨rb, m, none⟩ (.int .i64 3)).cell? ⟨rb, m, none⟩ = some (.int .i64 3) := World.cell?_setCell_same _ _ _ n0
              have nz1 : ∀ o, (wr.setCell ⟨rb, m, none⟩ (.int .i64 3)).frozen? ⟨rb, o, none⟩ = false := fun o => by rw [World.frozen?_setCell]; exact nz o
              by_cases hmh : m = h
              · have t2 : ((m : Int) == (h : Int)) = true := by rw [beq_iff_eq]; omega
                have HWF := Lib.hid (show ((wr.setCell ⟨rb, m, none⟩ (.int .i64 3)).setCell ⟨rb, m, none⟩ (.int .i64 1)).ownsRow wo.heap.size 3 1 (.slice (some ⟨rb, 0, none⟩) xn rc) xn (flat iL (mixR h a' (m + 1))) from by
                  have hx := own_put (own_put HWm.out m (.int .i64 3)) m (.int .i64 1)
                  have he : turnX h m l = 1 := if_pos hmh
                  have hm2 := mix_set (who := h) HL.out
                  rw [he] at hm2
                  rw [← hm2, flat_iL, List.map_set, ← flat_iL]
                  rw [List.set_set] at hx; exact hx)
                have HBF := Lib.hid (show Below wo.heap.size wo ((wr.setCell ⟨rb, m, none⟩ (.int .i64 3)).setCell ⟨rb, m, none⟩ (.int .i64 1)) from (HBm.out.setCell (p := ⟨rb, m, none⟩) HRB.out (.int .i64 3)).setCell (p := ⟨rb, m, none⟩) HRB.out (.int .i64 1))
                clear hl1 hmh
                go_wp2_with fail
                go_roundw
                case rel => exact ⟨m + 1, by omega, by go_num, Lib.hid ⟨HWF.out, HBF.out⟩⟩
                case measure => (simp [intOf]) <;> omega
              · have t2 : ((m : Int) == (h : Int)) = false := by rw [beq_eq_false_iff_ne]; omega
                have HWF := Lib.hid (show (wr.setCell ⟨rb, m, none⟩ (.int .i64 3)).ownsRow wo.heap.size 3 1 (.slice (some ⟨rb, 0, none⟩) xn rc) xn (flat iL (mixR h a' (m + 1))) from by
                  have hx := own_put HWm.out m (.int .i64 3)
                  have he : turnX h m l = 3 := by unfold turnX; rw [if_neg hmh, if_pos hl1]
                  have hm2 := mix_set (who := h) HL.out
                  rw [he] at hm2
                  rw [← hm2, flat_iL, List.map_set, ← flat_iL]
                  exact hx)
                have HBF := Lib.hid (show Below wo.heap.size wo (wr.setCell ⟨rb, m, none⟩ (.int .i64 3)) from HBm.out.setCell (p := ⟨rb, m, none⟩) HRB.out (.int .i64 3))
                clear hl1 hmh
                go_wp2_with fail
                go_roundw
                case rel => exact ⟨m + 1, by omega, by go_num, Lib.hid ⟨HWF.out, HBF.out⟩⟩
                case measure => (simp [intOf]) <;> omega
            · have t1 : (l == 1) = false := by rw [beq_eq_false_iff_ne]; exact hl1
              by_cases hmh : m = h
              · have t2 : ((m : Int) == (h : Int)) = true := by rw [beq_iff_eq]; omega
                have HWF := Lib.hid (show (wr.setCell ⟨rb, m, none⟩ (.int .i64 1)).ownsRow wo.heap.size 3 1 (.slice (some ⟨rb, 0, none⟩) xn rc) xn (flat iL (mixR h a' (m + 1))) from by
                  have hx := own_put HWm.out m (.int .i64 1)
                  have he : turnX h m l = 1 := if_pos hmh
                  have hm2 := mix_set (who := h) HL.out
                  rw [he] at hm2
                  rw [← hm2, flat_iL, List.map_set, ← flat_iL]
                  exact hx)
                have HBF := Lib.hid (show Below wo.heap.size wo (wr.setCell ⟨rb, m, none⟩ (.int .i64 1)) from HBm.out.setCell (p := ⟨rb, m, none⟩) HRB.out (.int .i64 1))
                clear hl1 hmh
                go_wp2_with fail
                go_roundw
                case rel => exact ⟨m + 1, by omega, by go_num, Lib.hid ⟨HWF.out, HBF.out⟩⟩
                case measure => (simp [intOf]) <;> omega
              · have t2 : ((m : Int) == (h : Int)) = false := by rw [beq_eq_false_iff_ne]; omega
                have HWF := Lib.hid (show wr.ownsRow wo.heap.size 3 1 (.slice (some ⟨rb, 0, none⟩) xn rc) xn (flat iL (mixR h a' (m + 1))) by
                  rw [mix_same HL.out (by unfold turnX; rw [if_neg hmh, if_neg hl1])]; exact HWm.out)
                have HBF := HBm
                clear hl1 hmh
                go_wp2_with fail
                go_roundw
                case rel => exact ⟨m + 1, by omega, by go_num, Lib.hid ⟨HWF.out, HBF.out⟩⟩
                case measure => (simp [intOf]) <;> omega
          · obtain rfl : m = xn := by omega
            have HT := Lib.hid (show (turnA f h rs).take (j + 1) = (turnA f h rs).take j ++ [turnR h a'] from (turnA_take f h rs HA.out).trans (by rw [if_pos hfj]))
            have HOq := Lib.hid (own_keep HO.out HBm.out)
            have HRq := Lib.hid ((HRO.out.keep HBm.out).add ⟨some ⟨rb, 0, none⟩, m, rc⟩ (turnR h a') (by rw [turnR_len]; exact HRA.out.1) (own_base (show wr.ownsRow wo.heap.size 3 1 (.slice (some ⟨rb, 0, none⟩) m rc) m (flat iL (turnR h a')) by rw [← mix_end, HRA.out.1]; exact HWm.out) HBR.out.size))
            have HBq := Lib.hid (HBR.out.trans (HBm.out.mono HBR.out.size))
            have NW := Lib.hid (row_fresh wr #[.slice (some ⟨rb, 0, none⟩) m rc] 64)
            go_wp2_with (at_builtin; refine wpList_append_own _ rfl _ _ 70 rfl w2.heap.size 64 is (.slice none 0 0) 1 24 Try.underlying70 hifs hzs0 hzs1 hzs2 rfl (by decide) _ _ _ rfl (own_new HOq.out _) ⟨wr.heap.size, 0, none⟩ 1 1 [.slice (some ⟨rb, 0, none⟩) m rc] rfl rfl ?e1 ?e2 ?e3 ?e4 ?e5 ?_)
            try (case e1 => exact fun j u hu => by rw [add_plain, Nat.zero_add]; exact NW.out.c j u hu)
            case e2 => first | exact (fun u hu => by simp at hu; subst hu; rfl) | rfl | exact ⟨rfl, trivial⟩ | simp [Value.oneCell']
            case e3 => unfold maxLen; omega
            case e4 => omega
            case e5 => have := HBq.out.size; simp; omega
            intro v7 w7 hown7 hgrow7 _
            have HO7 := Lib.hid (show w7.ownsRow w2.heap.size 64 1 v7 (j + 1) (flat slL (ys ++ [⟨some ⟨rb, 0, none⟩, m, rc⟩])) by rw [flat_append]; exact hown7)
            have HR7 := Lib.hid (show RowsO w7 w2.heap.size (ys ++ [⟨some ⟨rb, 0, none⟩, m, rc⟩]) ((turnA f h rs).take (j + 1)) by
              rw [HT.out]
              exact (HRq.out.keep (bel_new _)).kept (own_new HOq.out _) hgrow7)
            have HB7 := Lib.hid (grown_low (HBq.out.alloc HBq.out.size _) (own_new HOq.out _) (by have := HBq.out.size; simp; omega) hgrow7)
            clear hown7 hgrow7
            go_wp2_with fail
            go_roundw
            case rel => exact ⟨j + 1, ys ++ [⟨some ⟨rb, 0, none⟩, m, rc⟩], by omega, by go_num, Lib.hid ⟨by simp [HYL.out], HO7.out, HR7.out, HB7.out⟩⟩
            case measure => (simp [intOf]) <;> omega
      · have t0 : ¬ (f : Int) ≤ (j : Int) := by omega
        have t5 : (0 : Int) < (xn : Int) := by have := HXN.out; omega
        have t6 : 0 < xn := HXN.out
        go_loopw [14] (fun k wr => k = .int .i64 0 ∧ wr = w5) (fun k _ => 0)
        case atStart => exact ⟨rfl, rfl⟩
        case round =>
          obtain ⟨rfl, rfl⟩ := hrel
          have HT := Lib.hid (show (turnA f h rs).take (j + 1) = (turnA f h rs).take j ++ [a'] from (turnA_take f h rs HA.out).trans (by rw [if_neg hfj]))
          have HOq := Lib.hid (own_keep HO.out HB6.out)
          have HRq := Lib.hid ((HRO.out.keep HB6.out).add ⟨some ⟨rb, 0, none⟩, xn, rc⟩ (a') (by exact HRA.out.1) (own_base HW5.out HBR.out.size))
          have HBq := Lib.hid (HBR.out.trans (HB6.out.mono HBR.out.size))
          have NW := Lib.hid (row_fresh wr #[.slice (some ⟨rb, 0, none⟩) xn rc] 64)
          go_wp2_with (at_builtin; refine wpList_append_own _ rfl _ _ 70 rfl w2.heap.size 64 is (.slice none 0 0) 1 24 Try.underlying70 hifs hzs0 hzs1 hzs2 rfl (by decide) _ _ _ rfl (own_new HOq.out _) ⟨wr.heap.size, 0, none⟩ 1 1 [.slice (some ⟨rb, 0, none⟩) xn rc] rfl rfl ?z1 ?z2 ?z3 ?z4 ?z5 ?_)
          try (case z1 => exact fun j u hu => by rw [add_plain, Nat.zero_add]; exact NW.out.c j u hu)
          case z2 => first | exact (fun u hu => by simp at hu; subst hu; rfl) | rfl | exact ⟨rfl, trivial⟩ | simp [Value.oneCell']
          case z3 => unfold maxLen; omega
          case z4 => omega
          case z5 => have := HBq.out.size; simp; omega
          intro v7 w7 hown7 hgrow7 _
          have HO7 := Lib.hid (show w7.ownsRow w2.heap.size 64 1 v7 (j + 1) (flat slL (ys ++ [⟨some ⟨rb, 0, none⟩, xn, rc⟩])) by rw [flat_append]; exact hown7)
          have HR7 := Lib.hid (show RowsO w7 w2.heap.size (ys ++ [⟨some ⟨rb, 0, none⟩, xn, rc⟩]) ((turnA f h rs).take (j + 1)) by
            rw [HT.out]
            exact (HRq.out.keep (bel_new _)).kept (own_new HOq.out _) hgrow7)
          have HB7 := Lib.hid (grown_low (HBq.out.alloc HBq.out.size _) (own_new HOq.out _) (by have := HBq.out.size; simp; omega) hgrow7)
          clear hown7 hgrow7
          go_wp2_with fail
          go_roundw
          case rel => exact ⟨j + 1, ys ++ [⟨some ⟨rb, 0, none⟩, xn, rc⟩], by omega, by go_num, Lib.hid ⟨by simp [HYL.out], HO7.out, HR7.out, HB7.out⟩⟩
          case measure => (simp [intOf]) <;> omega
    · obtain rfl : j = N := by omega
      obtain ⟨ta, tc, htv, hti⟩ := ins_own HO.out
      subst htv
      have hfull : (turnA f h rs).take j = turnA f h rs := List.take_of_length_le (by rw [turnA_len, HNR.out]; exact Nat.le_refl _)
      have HFT := Lib.hid (turnA_fits (frm := f) (who := h) HF.out)
      have hrun := run_any nm pa P pc dd now ta tc ys (turnA f h rs) wo (by rw [HYL.out]; exact hti) (by rw [← hfull]; exact HRO.out.toIn) HFT hP20
      rw [HYL.out] at hrun
      have HRUN := Lib.hid hrun
      have HG5 := Lib.hid (HG2.out.keep HBR.out)
      have HURG := Lib.hid (show ∀ i, f ≤ i → i < j → _ from fun i hi hij => urgent_end (frm := f) HF.out HHP.out (i := i) (by rw [HNR.out]; exact hij) hi)
      clear hfull hrun hti HO HRO
      have g_0 := HG5.out.c 0 _ rfl
      have g_1 := HG5.out.c 1 _ rfl
      have g_2 := HG5.out.c 2 _ rfl
      go_wp2_with fail
      refine HRUN.out.mono ?_
      rintro e w3 ⟨v3, rfl, ho, hb⟩
      have HG3 := Lib.hid (HG5.out.keep hb)
      have HB3 := Lib.hid (HB5.out.trans (hb.mono HB5.out.size))
      obtain ⟨b3, c3, rfl, hi⟩ := ins_own ho
      obtain ⟨L, hL⟩ : ∃ L, L = runL dd now (turnA f h rs) j := ⟨_, rfl⟩
      have hLl : L.length = j := by rw [hL]; exact runL_len _ _ _ _
      rw [← hL] at hi
      have HI3 := Lib.hid (show InS w3 b3 L.length 2 (flat sL L) by rw [hLl]; exact hi)
      have HLAT := Lib.hid (show ∀ k, k < j → L[k]? = some (stN dd now (turnA f h rs) (k + 1)) from fun k hk => by rw [hL]; exact runL_at dd now _ hk)
      have HLL := Lib.hid hLl
      have HFJ : f ≤ j := by have := HFN.out; omega
      clear hb hi ho hL hLl HG5 g_0 g_1 g_2 HRUN
      go_wp2_with fail
      go_loopw [17] (fun i wr => ∃ m : Nat, f ≤ m ∧ m ≤ j ∧ i = .int .i64 m ∧ Hid (Below w3.heap.size w3 wr)) (fun i _ => j - (intOf i).toNat)
      case atStart => exact ⟨f, Nat.le_refl _, HFJ, rfl, Lib.hid (Below.refl _ _)⟩
      case round =>
        obtain ⟨m, hfm, hm, rfl, hK⟩ := hrel
        have HB9 := Lib.hid (HB3.out.trans (hK.out.mono HB3.out.size))
        have HG9 := Lib.hid (HG3.out.keep hK.out)
        have HBK := Lib.hid hK.out
        clear hK
        by_cases hml : m < j
        · obtain ⟨bl, ol, rfl, hbl, hcell⟩ := (HI3.out.keep HBK.out).at sL_len (by rw [HLL.out]; omega)
          obtain ⟨⟨o1, l1⟩, hst⟩ : ∃ x, x = stN dd now (turnA f h rs) (m + 1) := ⟨_, rfl⟩
          have hlj := HLAT.out m hml
          rw [← hst] at hlj
          have d1 : wr.cell? ⟨bl, ol + m * 2 + 0, none⟩ = some (.int .i64 o1) := hcell m _ hlj 0 _ rfl
          rw [Nat.add_zero] at d1
          have hu := HURG.out m hfm hml
          rw [← hst] at hu
          have hu1 : o1 = -1 ∨ o1 = h := hu.1
          have hu2 : o1 ≠ h → max 1 dd ≤ (m : Int) - f → ¬ dd ≤ now + m - now := by
            intro q1 q2 q3
            have h7 := hu.2 q1 q2
            omega
          have k1 : (0 : Int) ≤ (m : Int) := by omega
          have k2 : (m : Int) < (j : Int) := by omega
          have hn0 := HF.out.n0
          have hn1 := HF.out.n1
          have w1' : IntKind.i64.wrap ((m : Int) - (f : Int)) = (m : Int) - (f : Int) := IntWalk.i64_in _ ⟨by omega, by omega⟩
          have w2' : IntKind.i64.wrap (now + (m : Int)) = now + (m : Int) := IntWalk.i64_in _ ⟨by omega, by omega⟩
          have w3' : IntKind.i64.wrap (now + (m : Int) - now) = (m : Int) := by rw [show now + (m : Int) - now = (m : Int) by omega]; exact IntWalk.i64_in _ ⟨by omega, by omega⟩
          clear hcell hbl hlj hst hu hn0 hn1
          have hjm : j ≤ 40 := hmx
          by_cases ho : o1 = (h : Int)
          · have t1 : (o1 != (h : Int)) = false := by simp [ho]
            have t2 : (0 : Int) ≤ o1 := by omega
            clear ho hu1 hu2
            have g_0 := HG9.out.c 0 _ rfl
            have g_1 := HG9.out.c 1 _ rfl
            have g_2 := HG9.out.c 2 _ rfl
            go_wp2_with fail
            go_roundw
            case rel => exact ⟨m + 1, by omega, by omega, by go_num, Lib.hid HBK.out⟩
            case measure => (simp [intOf]) <;> omega
          · have he : o1 = -1 := hu1.resolve_right ho
            subst he
            have t1 : ((-1 : Int) != (h : Int)) = true := by (simp) <;> omega
            have hz := hu2 ho
            clear hu1 hu2 ho
            obtain ⟨M, hM⟩ : ∃ M, max 1 dd = M := ⟨_, rfl⟩
            rw [hM] at hz
            by_cases hq0 : M ≤ (m : Int) - (f : Int)
            · have hz2 : decide (dd ≤ (m : Int)) = false := decide_eq_false (by have := hz hq0; omega)
              have hq : decide (M ≤ (m : Int) - (f : Int)) = true := decide_eq_true hq0
              clear hz hq0
              have g_0 := HG9.out.c 0 _ rfl
              have g_1 := HG9.out.c 1 _ rfl
              have g_2 := HG9.out.c 2 _ rfl
              go_wp2_with fail
              go_roundw
              case rel => exact ⟨m + 1, by omega, by omega, by go_num, Lib.hid HBK.out⟩
              case measure => (simp [intOf]) <;> omega
            · have hq : decide (M ≤ (m : Int) - (f : Int)) = false := decide_eq_false hq0
              clear hz hq0
              have g_0 := HG9.out.c 0 _ rfl
              have g_1 := HG9.out.c 1 _ rfl
              have g_2 := HG9.out.c 2 _ rfl
              go_wp2_with fail
              go_roundw
              case rel => exact ⟨m + 1, by omega, by omega, by go_num, Lib.hid HBK.out⟩
              case measure => (simp [intOf]) <;> omega
        · go_wp2_with fail
          go_ret
          exact ⟨rfl, HB9.out⟩
end Go.Proofs.Ytojbhbifbennfaa
