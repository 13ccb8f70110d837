/- The law MinimumKept. -/
import Derived.Test.YtlmcdnfihgimjaaL
namespace Go.Proofs.Ytlmcdnfihgimjaa
open Go.RowKit Go.Deep

/-- append to a row of the call's own, as one step of a region that draws its order; the operation may be guarded -/
theorem step_append_own {P : Program} {ops : Array Oper} {o : Oper} {a : Act} {w : World} {K : Act → World → Prop} {Q : Exit → Act → World → Prop} {E : Prop} (hw : Region.wanted o (yielded ops a.tmps) = true) (s x : Operand) (t : TypeId)
    (ho : o.op = .call { callee := .builtin .append, args := #[s, x], argTypes := #[t, t] })
    (base : Nat) (e : TypeId) (i : TypeInfo) (z : Value) (size bytes : Nat) (ht : P.underlying t = some (.slice e)) (hi : P.info? e = some i) (hz : i.zero = some z)
    (hsize : i.size = size) (hby : i.bytes = bytes) (hzs : z.cells.size = size) (hsz : 0 < size)
    (v : Value) (n : Nat) (xs : List Value) (hs : a.eval s = v) (hown : w.ownsRow base e size v n xs)
    (ad : Addr) (m c : Nat) (news : List Value) (hx : a.eval x = .slice (some ad) m c) (hl : news.length = m * size) (hnews : ∀ j u, news[j]? = some u → w.cell? (ad.add j) = some u) (h1 : ∀ u ∈ news, u.oneCell' = true)
    (h63 : n + m ≤ maxLen) (hbytes : (n + m) * bytes ≤ 140737488355328) (hbase : base ≤ w.heap.size)
    (h : ∀ v' w', w'.ownsRow base e size v' (n + m) (xs ++ news) → w.grownBy w' v.ownBlock → (v' = .slice none 0 0 ↔ v = .slice none 0 0 ∧ m = 0) → K (a.put o.dst v') w') :
    if Region.wanted o (yielded ops a.tmps) = true then Oper.wp P o a w K Q else E := by
  rw [if_pos hw]
  exact wp_append_own w s x t ho base e i z size bytes ht hi hz hsize hby hzs hsz v n xs hs hown ad m c news hx hl hnews h1 h63 hbytes hbase h
theorem drL_one (ds : List DrD) : ∀ u ∈ flat drL ds, u.oneCell' = true := by
  intro u hu
  unfold flat at hu
  rw [List.mem_flatMap] at hu
  obtain ⟨k, _, hk⟩ := hu
  simp [drL] at hk
  rcases hk with rfl | rfl | rfl <;> rfl
theorem own_one (w : World) (A : Array Value) (T sz : Nat) (h : A.size = sz) (B : Nat) (hB : B ≤ w.heap.size) : (w.alloc (Obj.cells A T)).ownsRow B T sz (.slice (some ⟨w.heap.size, 0, none⟩) 1 1) 1 A.toList :=
  ⟨by simp [h], .inr ⟨w.heap.size, 1, A, rfl, hB, (by show (w.heap.push (Obj.cells A T))[w.heap.size]? = _; simp), Nat.le_refl _, by unfold maxLen; omega, by simp [h], by rw [Nat.one_mul, ← h, ← Array.length_toList]; exact List.take_length⟩⟩
theorem own_drew {w : World} {B e sz : Nat} {v : Value} {n : Nat} {xs : List Value} (h : w.ownsRow B e sz v n xs) : w.drew.ownsRow B e sz v n xs := h
theorem own_none {w : World} {B e sz n c : Nat} {a : Option Addr} {L : List Value} (h : w.ownsRow B e sz (.slice a n c) n L) : (a = none ∧ n = 0 ∧ c = 0) ∨ ∃ ad, a = some ad := by
  obtain ⟨_, ⟨hv, _⟩ | ⟨g, cap, cur, hv, _⟩⟩ := h
  · injection hv with h1 h2 h3; exact .inl ⟨h1, h2, h3⟩
  · injection hv with h1 h2 h3; exact .inr ⟨_, h1⟩
theorem ins_news {w : World} {ad : Addr} {n sz : Nat} {L : List Value} (h : InS w (some ad) n sz L) : ∀ j u, L[j]? = some u → w.cell? (ad.add j) = some u := by
  obtain ⟨hl, _, h0 | ⟨b, off, ha, _, hc⟩⟩ := h
  · intro j u hu
    have := (List.getElem?_eq_some_iff.1 hu).1
    rw [hl, h0, Nat.zero_mul] at this
    omega
  · injection ha with ha
    subst ha
    intro j u hu
    rw [add_plain]
    exact hc j u hu
theorem kept_step (p : Pt) (s : DrD) (a : AskD) (h6 : 6 ≤ a.lv) : keepsB p s (nextO p s a) := by
  unfold nextO
  by_cases hv : valR p s.k s.n s.c a.lv a.k a.n a.t = (s.k, s.n)
  · left
    unfold nextR
    rw [if_pos hv]
    exact ⟨rfl, rfl⟩
  · right
    have hh : heldP p s.k s.n s.c a.t = false := by
      cases h : heldP p s.k s.n s.c a.t
      · rfl
      · exact absurd (if_pos ⟨by omega, h⟩ : valR p s.k s.n s.c a.lv a.k a.n a.t = (s.k, s.n)) hv
    unfold nextR
    rw [if_neg hv]
    unfold heldP at hh
    exact of_decide_eq_false hh
theorem kept_all (p : Pt) (qs : List AskD) : ∀ s : DrD, (∀ a ∈ qs, 6 ≤ a.lv) → ∀ i x y, (s :: statesO p s qs)[i]? = some x → (s :: statesO p s qs)[i + 1]? = some y → keepsB p x y := by
  induction qs with
  | nil => intro s _ i x y hx hy; simp [statesO] at hy
  | cons a r ih =>
    intro s hall i x y hx hy
    cases i with
    | zero =>
      simp [statesO] at hx hy
      subst hx hy
      exact kept_step p s a (hall a (by simp))
    | succ i =>
      exact ih (nextO p s a) (fun b hb => hall b (by simp [hb])) i x y (by simpa [statesO] using hx) (by simpa [statesO] using hy)

set_option maxHeartbeats 8000000 in
set_option maxRecDepth 100000 in
theorem kept_law (p : Pt) (k n c : Int) (a : Option Addr) (cap : Nat) (qs : List AskD) (w : World) (hin : InS w a qs.length 4 (flat askL qs)) : Calls Try.prog 5 #[ptV p, .agg #[.int .i64 k, .int .i64 n, .int .i64 c], .slice a qs.length cap] w fun e w' => e = .returned (.bool true) ∧ Below w.heap.size w w' := by
  obtain ⟨nm, kd, rl, un, lo, hi, st, ss, dk, dn, on, off⟩ := p
  obtain ⟨L, hL⟩ : ∃ L, L = replayL ⟨nm, kd, rl, un, lo, hi, st, ss, dk, dn, on, off⟩ ⟨k, n, c⟩ qs := ⟨_, rfl⟩
  obtain ⟨E, hE⟩ : ∃ E, E = firstE ⟨nm, kd, rl, un, lo, hi, st, ss, dk, dn, on, off⟩ ⟨k, n, c⟩ qs := ⟨_, rfl⟩
  have hr := fun a cap w h6 hin => replay_any ⟨nm, kd, rl, un, lo, hi, st, ss, dk, dn, on, off⟩ ⟨k, n, c⟩ a cap qs w h6 hin
  have HLE := Lib.hid (show E = 0 → L = statesO ⟨nm, kd, rl, un, lo, hi, st, ss, dk, dn, on, off⟩ ⟨k, n, c⟩ qs from fun h => hL.trans (if_pos (hE ▸ h)))
  rw [← hL, ← hE] at hr
  have HR := Lib.hid hr
  clear hL hE hr
  obtain ⟨W, g, h, hW, hg, hh, RP, RO, B, sz⟩ := box2 w #[nm, .int .i64 kd, .int .i64 rl, un, lo, hi, st, ss, dk, dn, .int .i64 on, .int .i64 off] 26 #[.int .i64 k, .int .i64 n, .int .i64 c] 28
  have HAW := Lib.hid awake_yes
  have HI := Lib.hid hin
  obtain ⟨Z, hZ⟩ : ∃ Z, Z = fitsB ⟨nm, kd, rl, un, lo, hi, st, ss, dk, dn, on, off⟩ c qs := ⟨_, rfl⟩
  have hft := fun w h => fits_any ⟨nm, kd, rl, un, lo, hi, st, ss, dk, dn, on, off⟩ k n c a cap qs w h
  rw [← hZ] at hft
  have HFT := Lib.hid hft
  have HZ := Lib.hid hZ
  clear hft hZ hin
  go_enter Try.func5, Try.ntmps5
  go_wp2_with fail
  rw [← hW]
  try rw [← hh]
  try rw [← hg]
  have HP0 := Lib.hid RP
  have HO0 := Lib.hid RO
  have HB0 := Lib.hid B
  clear hW hg hh sz B RP RO
  refine (HAW.out _).mono ?_
  rintro e w1 ⟨rfl, hb⟩
  have HP1 := Lib.hid (HP0.out.keep hb)
  have HO1 := Lib.hid (HO0.out.keep hb)
  have HB1 := Lib.hid (HB0.out.trans (hb.mono HB0.out.size))
  clear hb HP0 HO0 HB0 HAW
  have p_0 := HP1.out.c 0 _ rfl
  have p_1 := HP1.out.c 1 _ rfl
  have p_2 := HP1.out.c 2 _ rfl
  have p_3 := HP1.out.c 3 _ rfl
  have p_4 := HP1.out.c 4 _ rfl
  have p_5 := HP1.out.c 5 _ rfl
  have p_6 := HP1.out.c 6 _ rfl
  have p_7 := HP1.out.c 7 _ rfl
  have p_8 := HP1.out.c 8 _ rfl
  have p_9 := HP1.out.c 9 _ rfl
  have p_10 := HP1.out.c 10 _ rfl
  have p_11 := HP1.out.c 11 _ rfl
  have p_z := HP1.out.fz
  have o_0 := HO1.out.c 0 _ rfl
  have o_1 := HO1.out.c 1 _ rfl
  have o_2 := HO1.out.c 2 _ rfl
  have o_z := HO1.out.fz
  go_wp2_with fail
  refine (HFT.out _ (HI.out.keep HB1.out)).mono ?_
  rintro e w2 ⟨rfl, hb⟩
  clear p_0 p_1 p_2 p_3 p_4 p_5 p_6 p_7 p_8 p_9 p_10 p_11 p_z
  clear o_0 o_1 o_2 o_z
  have HP2 := Lib.hid (HP1.out.keep hb)
  have HO2 := Lib.hid (HO1.out.keep hb)
  have HB2 := Lib.hid (HB1.out.trans (hb.mono HB1.out.size))
  clear hb HP1 HO1 HB1
  clear HFT
  cases Z
  · have p_0 := HP2.out.c 0 _ rfl
    have p_1 := HP2.out.c 1 _ rfl
    have p_2 := HP2.out.c 2 _ rfl
    have p_3 := HP2.out.c 3 _ rfl
    have p_4 := HP2.out.c 4 _ rfl
    have p_5 := HP2.out.c 5 _ rfl
    have p_6 := HP2.out.c 6 _ rfl
    have p_7 := HP2.out.c 7 _ rfl
    have p_8 := HP2.out.c 8 _ rfl
    have p_9 := HP2.out.c 9 _ rfl
    have p_10 := HP2.out.c 10 _ rfl
    have p_11 := HP2.out.c 11 _ rfl
    have p_z := HP2.out.fz
    have o_0 := HO2.out.c 0 _ rfl
    have o_1 := HO2.out.c 1 _ rfl
    have o_2 := HO2.out.c 2 _ rfl
    have o_z := HO2.out.fz
    go_wp2_with fail
    go_ret
    exact ⟨rfl, HB2.out⟩
  · have h60 := fits_60 HZ.out
    have HRP := Lib.hid (fun a cap w hin => HR.out a cap w h60 hin)
    have HOU := Lib.hid (fun w hin => ours_any a cap qs w h60 hin)
    have H60 := Lib.hid h60
    obtain ⟨N, hN⟩ : ∃ N, N = qs.length := ⟨_, rfl⟩
    have HN := Lib.hid hN
    rw [← hN] at HOU HRP ⊢
    clear h60 HR HZ hN
    have p0 := HP2.out.c 0 _ rfl
    have p1 := HP2.out.c 1 _ rfl
    have p2 := HP2.out.c 2 _ rfl
    have p3 := HP2.out.c 3 _ rfl
    have p4 := HP2.out.c 4 _ rfl
    have p5 := HP2.out.c 5 _ rfl
    have p6 := HP2.out.c 6 _ rfl
    have p7 := HP2.out.c 7 _ rfl
    have p8 := HP2.out.c 8 _ rfl
    have p9 := HP2.out.c 9 _ rfl
    have p10 := HP2.out.c 10 _ rfl
    have p11 := HP2.out.c 11 _ rfl
    have o0 := HO2.out.c 0 _ rfl
    have o1 := HO2.out.c 1 _ rfl
    have o2 := HO2.out.c 2 _ rfl
    go_wp2_with fail
    go_loopw [7] (fun i wr => ∃ j : Nat, j ≤ N ∧ i = .int .i64 j ∧ Hid ((qs.take j).all (fun a => decide (6 ≤ a.lv)) = true ∧ RowAt wr g [nm, .int .i64 kd, .int .i64 rl, un, lo, hi, st, ss, dk, dn, .int .i64 on, .int .i64 off] ∧ RowAt wr h [.int .i64 k, .int .i64 n, .int .i64 c] ∧ Below w.heap.size w wr)) (fun i _ => N - (intOf i).toNat)
    case atStart => exact ⟨0, by omega, rfl, Lib.hid ⟨rfl, HP2.out, HO2.out, HB2.out⟩⟩
    case round =>
      obtain ⟨j, hj, rfl, hH⟩ := hrel
      clear p0 p1 p2 p3 p4 p5 p6 p7 p8 p9 p10 p11
      clear o0 o1 o2
      clear HP2 HO2
      by_cases hlt : j < N
      · have hjl : j < qs.length := by rw [← HN.out]; exact hlt
        obtain ⟨b, o, rfl, hbl, hcell⟩ := (HI.out.keep hH.out.2.2.2).at askL_len (by omega)
        obtain ⟨x, hx⟩ : ∃ x, qs[j]? = some x := ⟨_, List.getElem?_eq_getElem hjl⟩
        have HX := Lib.hid hx
        have q1 := hcell j x hx 1 _ rfl
        have k1 : (0 : Int) ≤ (j : Int) := by omega
        have k2 : (j : Int) < (N : Int) := by omega
        have k3 : N ≤ 60 := by have := H60.out; have := HN.out; omega
        obtain ⟨xl, hxl⟩ : ∃ y, y = x.lv := ⟨_, rfl⟩
        rw [← hxl] at q1
        have HXL := Lib.hid hxl
        clear hx hcell hjl hbl hxl
        by_cases h6 : xl < 6
        · go_wp2_with fail
          go_ret
          exact ⟨rfl, hH.out.2.2.2⟩
        · have HA := Lib.hid (show (qs.take (j + 1)).all (fun a => decide (6 ≤ a.lv)) = true by
            rw [all_take _ qs j x HX.out, hH.out.1, ← HXL.out, decide_eq_true (show 6 ≤ xl by omega)]; rfl)
          go_wp2_with fail
          go_roundw
          case rel => exact ⟨j + 1, by omega, by go_num, Lib.hid ⟨HA.out, hH.out.2⟩⟩
          case measure => simp [intOf]; omega
      · obtain rfl : j = N := by omega
        have HALL := Lib.hid (show ∀ a ∈ qs, 6 ≤ a.lv from fun a ha => by
          have h := hH.out.1
          rw [HN.out, List.take_length, List.all_eq_true] at h
          simpa using h a ha)
        have HP9 := Lib.hid hH.out.2.1
        have HO9 := Lib.hid hH.out.2.2.1
        have HB9 := Lib.hid hH.out.2.2.2
        have HIK := Lib.hid (show InS wr a j 4 (flat askL qs) by rw [HN.out]; exact HI.out.keep HB9.out)
        have HIKD := Lib.hid (HIK.out.keep (Below.refl _ _).drew)
        obtain ⟨wb, rfl⟩ : ∃ x, x = wr := ⟨_, rfl⟩
        clear hH hlt
        have HC := Lib.hid (show GS wb g h nm kd rl un lo hi st ss dk dn on off k n c wb from ⟨HP9.out.c 0 _ rfl, HP9.out.c 1 _ rfl, HP9.out.c 2 _ rfl, HP9.out.c 3 _ rfl, HP9.out.c 4 _ rfl, HP9.out.c 5 _ rfl, HP9.out.c 6 _ rfl, HP9.out.c 7 _ rfl, HP9.out.c 8 _ rfl, HP9.out.c 9 _ rfl, HP9.out.c 10 _ rfl, HP9.out.c 11 _ rfl, HO9.out.c 0 _ rfl, HO9.out.c 1 _ rfl, HO9.out.c 2 _ rfl, Below.refl _ _⟩)
        have HCD := Lib.hid (gs_drew HC.out HC.out)
        have p0 := HP9.out.c 0 _ rfl
        have p1 := HP9.out.c 1 _ rfl
        have p2 := HP9.out.c 2 _ rfl
        have p3 := HP9.out.c 3 _ rfl
        have p4 := HP9.out.c 4 _ rfl
        have p5 := HP9.out.c 5 _ rfl
        have p6 := HP9.out.c 6 _ rfl
        have p7 := HP9.out.c 7 _ rfl
        have p8 := HP9.out.c 8 _ rfl
        have p9 := HP9.out.c 9 _ rfl
        have p10 := HP9.out.c 10 _ rfl
        have p11 := HP9.out.c 11 _ rfl
        have o0 := HO9.out.c 0 _ rfl
        have o1 := HO9.out.c 1 _ rfl
        have o2 := HO9.out.c 2 _ rfl
        go_wp2_with fail
        go_region_held3 (fun w' => w'.cell? ⟨g, 0, none⟩ = some (nm) ∧ w'.cell? ⟨g, 1, none⟩ = some (.int .i64 kd) ∧ w'.cell? ⟨g, 2, none⟩ = some (.int .i64 rl) ∧ w'.cell? ⟨g, 3, none⟩ = some (un) ∧ w'.cell? ⟨g, 4, none⟩ = some (lo) ∧ w'.cell? ⟨g, 5, none⟩ = some (hi) ∧ w'.cell? ⟨g, 6, none⟩ = some (st) ∧ w'.cell? ⟨g, 7, none⟩ = some (ss) ∧ w'.cell? ⟨g, 8, none⟩ = some (dk) ∧ w'.cell? ⟨g, 9, none⟩ = some (dn) ∧ w'.cell? ⟨g, 10, none⟩ = some (.int .i64 on) ∧ w'.cell? ⟨g, 11, none⟩ = some (.int .i64 off) ∧ w'.cell? ⟨h, 0, none⟩ = some (.int .i64 k) ∧ w'.cell? ⟨h, 1, none⟩ = some (.int .i64 n) ∧ w'.cell? ⟨h, 2, none⟩ = some (.int .i64 c) ∧ Below wb.heap.size wb w')
          (first | (with_reducible exact HC.out) | (with_reducible exact HCD.out) | (with_reducible exact gs_keep HC.out hb2 (by assumption)) | (with_reducible exact gs_drew HC.out (by assumption)) | go_keep)
          (first | (go_at_call 13; refine (HOU.out _ (by first | exact HIK.out | exact HIKD.out)).mono ?_; rintro e x1 ⟨v, rfl, how, hb2⟩; obtain ⟨a1, c1, rfl, hi1⟩ := ins_own how; have HS1 : Hid (GS wb g h nm kd rl un lo hi st ss dk dn on off k n c x1) := gs_keep HC.out hb2 (by assumption)) | (go_at_call 12; refine (HRP.out _ _ _ (by assumption)).mono ?_; rintro e x2 ⟨v2, rfl, how2, hb2⟩; obtain ⟨a2, c2, rfl, hi2⟩ := ins_own how2; have HS2 : Hid (GS wb g h nm kd rl un lo hi st ss dk dn on off k n c x2) := gs_keep HC.out hb2 (by assumption)))
        all_goals
          rename_i hHeld
          clear hHeld
          have hG := gs_bel HS2.out
          have HP3 := Lib.hid (HP9.out.keep hG)
          have HO3 := Lib.hid (HO9.out.keep hG)
          have HB3 := Lib.hid (HB9.out.trans (hG.mono HB9.out.size))
          have HL3 := Lib.hid hi2
          have hnone := own_none how2
          clear hG hi2 how2 hi1 how HP9 HO9 HB9 HC HCD HS1 HS2 HOU HRP HIK HIKD
          clear p0 p1 p2 p3 p4 p5 p6 p7 p8 p9 p10 p11
          clear o0 o1 o2
          have p0 := HP3.out.c 0 _ rfl
          have p1 := HP3.out.c 1 _ rfl
          have p2 := HP3.out.c 2 _ rfl
          have p3 := HP3.out.c 3 _ rfl
          have p4 := HP3.out.c 4 _ rfl
          have p5 := HP3.out.c 5 _ rfl
          have p6 := HP3.out.c 6 _ rfl
          have p7 := HP3.out.c 7 _ rfl
          have p8 := HP3.out.c 8 _ rfl
          have p9 := HP3.out.c 9 _ rfl
          have p10 := HP3.out.c 10 _ rfl
          have p11 := HP3.out.c 11 _ rfl
          have o0 := HO3.out.c 0 _ rfl
          have o1 := HO3.out.c 1 _ rfl
          have o2 := HO3.out.c 2 _ rfl
          by_cases hE : E = 0
          · subst hE
            have HLS := Lib.hid (HLE.out rfl)
            have hL60 : L.length ≤ 60 := by rw [HLS.out, states_len]; exact H60.out
            have HBR := Lib.hid (show ∀ w a cap, InS w a (L.length + 1) 3 (flat drL (⟨k, n, c⟩ :: L)) → Calls Try.prog 16 #[.agg #[nm, .int .i64 kd, .int .i64 rl, un, lo, hi, st, ss, dk, dn, .int .i64 on, .int .i64 off], .slice a (L.length + 1) cap] w fun e w' => e = .returned (.int .i64 (-1)) ∧ Below w.heap.size w w' from fun w a cap hin => breaks_any ⟨nm, kd, rl, un, lo, hi, st, ss, dk, dn, on, off⟩ a cap (⟨k, n, c⟩ :: L) w (by show L.length + 1 ≤ 61; omega) hin (by rw [HLS.out]; exact kept_all ⟨nm, kd, rl, un, lo, hi, st, ss, dk, dn, on, off⟩ qs ⟨k, n, c⟩ HALL.out))
            have HC2 := Lib.hid (show GS x2 g h nm kd rl un lo hi st ss dk dn on off k n c x2 from ⟨HP3.out.c 0 _ rfl, HP3.out.c 1 _ rfl, HP3.out.c 2 _ rfl, HP3.out.c 3 _ rfl, HP3.out.c 4 _ rfl, HP3.out.c 5 _ rfl, HP3.out.c 6 _ rfl, HP3.out.c 7 _ rfl, HP3.out.c 8 _ rfl, HP3.out.c 9 _ rfl, HP3.out.c 10 _ rfl, HP3.out.c 11 _ rfl, HO3.out.c 0 _ rfl, HO3.out.c 1 _ rfl, HO3.out.c 2 _ rfl, Below.refl _ _⟩)
            have HCD2 := Lib.hid (gs_drew HC2.out HC2.out)
            have HOA := Lib.hid (own_drew (own_one x2 #[.int .i64 k, .int .i64 n, .int .i64 c] 28 3 rfl x2.heap.size (Nat.le_refl _)))
            have KA := Lib.hid ((Below.refl x2.heap.size x2).alloc (Nat.le_refl _) (Obj.cells #[.int .i64 k, .int .i64 n, .int .i64 c] 28)).drew
            have HSZ := Lib.hid (show x2.heap.size ≤ (x2.alloc (Obj.cells #[.int .i64 k, .int .i64 n, .int .i64 c] 28)).drew.heap.size from KA.out.size)
            obtain ⟨i0, hif, hz0, hz1, hz2⟩ := info_parts infoDr
            clear HLE HLS
            rcases hnone with ⟨rfl, h0, rfl⟩ | ⟨ad, rfl⟩
            · obtain rfl : L = [] := List.length_eq_zero_iff.1 h0
              have HI3 := Lib.hid (show InS (x2.alloc (Obj.cells #[.int .i64 k, .int .i64 n, .int .i64 c] 28)).drew (some ⟨x2.heap.size, 0, none⟩) (([] : List DrD).length + 1) 3 (flat drL [⟨k, n, c⟩]) from (ins_fresh x2 #[.int .i64 k, .int .i64 n, .int .i64 c] 28 3 rfl).keep (Below.refl _ _).drew)
              go_wp2_with fail
              go_region_held3 (fun w' => w'.cell? ⟨g, 0, none⟩ = some (nm) ∧ w'.cell? ⟨g, 1, none⟩ = some (.int .i64 kd) ∧ w'.cell? ⟨g, 2, none⟩ = some (.int .i64 rl) ∧ w'.cell? ⟨g, 3, none⟩ = some (un) ∧ w'.cell? ⟨g, 4, none⟩ = some (lo) ∧ w'.cell? ⟨g, 5, none⟩ = some (hi) ∧ w'.cell? ⟨g, 6, none⟩ = some (st) ∧ w'.cell? ⟨g, 7, none⟩ = some (ss) ∧ w'.cell? ⟨g, 8, none⟩ = some (dk) ∧ w'.cell? ⟨g, 9, none⟩ = some (dn) ∧ w'.cell? ⟨g, 10, none⟩ = some (.int .i64 on) ∧ w'.cell? ⟨g, 11, none⟩ = some (.int .i64 off) ∧ w'.cell? ⟨h, 0, none⟩ = some (.int .i64 k) ∧ w'.cell? ⟨h, 1, none⟩ = some (.int .i64 n) ∧ w'.cell? ⟨h, 2, none⟩ = some (.int .i64 c) ∧ Below x2.heap.size x2 w')
                (first | (with_reducible exact HC2.out) | (with_reducible exact HCD2.out) | (with_reducible exact gs_alloc HC2.out _ HC2.out) | (with_reducible exact gs_drew HC2.out (gs_alloc HC2.out _ HC2.out)) | (with_reducible exact gs_keep HC2.out hb2 (by assumption)) | go_keep)
                (first | (go_at_call 16; refine (HBR.out _ _ _ HI3.out).mono ?_; rintro e x4 ⟨rfl, hb2⟩; have HS4 : Hid (GS x2 g h nm kd rl un lo hi st ss dk dn on off k n c x4) := gs_keep HC2.out hb2 (by assumption)))
              rename_i hHeld
              have hG := gs_bel HS4.out
              have hB := HB3.out.trans (hG.mono HB3.out.size)
              clear hHeld hG
              go_wp2_with fail
              go_ret
              exact ⟨rfl, hB⟩
            · have HNWS := Lib.hid (ins_news (HL3.out.keep KA.out))
              have HFL := Lib.hid (flat_len drL_len L)
              have HON := Lib.hid (drL_one L)
              go_wp2_with fail
              go_region_held3 (fun w' => w'.cell? ⟨g, 0, none⟩ = some (nm) ∧ w'.cell? ⟨g, 1, none⟩ = some (.int .i64 kd) ∧ w'.cell? ⟨g, 2, none⟩ = some (.int .i64 rl) ∧ w'.cell? ⟨g, 3, none⟩ = some (un) ∧ w'.cell? ⟨g, 4, none⟩ = some (lo) ∧ w'.cell? ⟨g, 5, none⟩ = some (hi) ∧ w'.cell? ⟨g, 6, none⟩ = some (st) ∧ w'.cell? ⟨g, 7, none⟩ = some (ss) ∧ w'.cell? ⟨g, 8, none⟩ = some (dk) ∧ w'.cell? ⟨g, 9, none⟩ = some (dn) ∧ w'.cell? ⟨g, 10, none⟩ = some (.int .i64 on) ∧ w'.cell? ⟨g, 11, none⟩ = some (.int .i64 off) ∧ w'.cell? ⟨h, 0, none⟩ = some (.int .i64 k) ∧ w'.cell? ⟨h, 1, none⟩ = some (.int .i64 n) ∧ w'.cell? ⟨h, 2, none⟩ = some (.int .i64 c) ∧ Below x2.heap.size x2 w')
                (first | (with_reducible exact HC2.out) | (with_reducible exact HCD2.out) | (with_reducible exact HS3.out) | (with_reducible exact gs_alloc HC2.out _ HC2.out) | (with_reducible exact gs_drew HC2.out (gs_alloc HC2.out _ HC2.out)) | (with_reducible exact gs_keep HC2.out hb2 (by assumption)) | go_keep)
                (first | (refine step_append_own (by rfl) (.tmp 43) (.tmp 44) 42 rfl x2.heap.size 28 i0 (.agg #[.int .i64 0, .int .i64 0, .int .i64 0]) 3 24 Try.underlying42 hif hz0 hz1 hz2 rfl (by decide) _ 1 _ (by simp [Act.eval]) HOA.out ad L.length c2 (flat drL L) (by simp [Act.eval]) HFL.out HNWS.out HON.out (by unfold maxLen; omega) (by omega) HSZ.out ?_; intro v3 w3 hown3 hgrow3 _; have HS3 : Hid (GS x2 g h nm kd rl un lo hi st ss dk dn on off k n c w3) := gs_of HC2.out (KA.out.grown hgrow3 HSZ.out (fun k hk => (HOA.out.lt k hk).1)); rw [Nat.add_comm] at hown3; obtain ⟨a3, c3, rfl, hi3⟩ := ins_own hown3; have HI3 := Lib.hid hi3; clear hown3 hgrow3 hi3) | (go_at_call 16; refine (HBR.out _ _ _ HI3.out).mono ?_; rintro e x4 ⟨rfl, hb2⟩; have HS4 : Hid (GS x2 g h nm kd rl un lo hi st ss dk dn on off k n c x4) := gs_keep HC2.out hb2 (by assumption)))
              rename_i hHeld
              have hG := gs_bel HS4.out
              have hB := HB3.out.trans (hG.mono HB3.out.size)
              clear hHeld hG
              go_wp2_with fail
              go_ret
              exact ⟨rfl, hB⟩
          · have h1 : (E != 0) = true := by simpa using hE
            clear hE HLE
            go_wp2_with fail
            go_quiet (fail)
            go_wp2_with fail
            go_ret
            exact ⟨rfl, bdrewN HB3.out _⟩
end Go.Proofs.Ytlmcdnfihgimjaa
