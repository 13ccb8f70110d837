/- The law Rest of timer. Asked: MaxLen's cell holds some number. -/
import Derived.Test.YtfgkgokmniocjaaDoorCi
namespace Go.Proofs.YtfgkgokmniocjaaDoor
open Go.RowKit Go.Shelf

set_option linter.unusedVariables false
theorem outs_in {w : World} {va : Option Addr} {M i : Nat} {ko : Int} {Ov : Nat → Int} (h : InS w va M 2 (flat valL (outsV ko Ov M))) (hi : i < M) : ∃ b o, va = some ⟨b, o, none⟩ ∧ b < w.heap.size ∧ w.cell? ⟨b, o + i * 2, none⟩ = some (.int .i64 ko) ∧ w.cell? ⟨b, o + i * 2 + 1, none⟩ = some (.int .i64 (Ov i)) := by
  have e : (outsV ko Ov M)[i]? = some ⟨ko, Ov i⟩ := by unfold outsV; rw [List.getElem?_map, List.getElem?_range hi]; rfl
  have hl : (outsV ko Ov M).length = M := outsV_len ko Ov M
  obtain ⟨b, o, rfl, hb, hc⟩ := (show InS w va (outsV ko Ov M).length 2 (flat valL (outsV ko Ov M)) by rw [hl]; exact h).at valL_len (by omega)
  exact ⟨b, o, rfl, hb, by have := hc i _ e 0 _ rfl; rw [Nat.add_zero] at this; exact this, hc i _ e 1 _ rfl⟩
theorem bit_cases (b : Bool) : bitN b = 0 ∨ bitN b = 1 := by cases b; exact .inl rfl; exact .inr rfl
theorem stMinrun_bit (t1 t0 dt : Int) (xs : List Int) (hx : ∀ k, xs.getD k 0 = 0 ∨ xs.getD k 0 = 1) : ∀ k, (stMinrun t1 t0 dt xs k).1 = 0 ∨ (stMinrun t1 t0 dt xs k).1 = 1
  | 0 => .inl rfl
  | k + 1 => by
    have h := stMinrun_bit t1 t0 dt xs hx k
    have h2 := hx k
    show mrS0 t1 t0 (xs.getD k 0) (stMinrun t1 t0 dt xs k).1 (stMinrun t1 t0 dt xs k).2 dt = 0 ∨ mrS0 t1 t0 (xs.getD k 0) (stMinrun t1 t0 dt xs k).1 (stMinrun t1 t0 dt xs k).2 dt = 1
    unfold mrS0
    split
    · exact h
    · split
      · exact h
      · exact h2
/-- when the output last changed, and how long the time runs -/
def RestR (t1 t0 x y c k : Int) : Prop := (c = -1 ∧ y = 0) ∨ (0 ≤ c ∧ c < k ∧ y = if k - c ≤ leastN t1 t0 x then k - c else 0)
theorem rest_free (t1 t0 a x y c k : Int) (hr : RestR t1 t0 x y c k) (hf : c < 0 ∨ leastN t1 t0 x ≤ k - c) : mrS0 t1 t0 a x y 1 = a := by
  unfold mrS0
  unfold RestR at hr
  generalize leastN t1 t0 x = L at *
  rcases hr with ⟨h1, h2⟩ | ⟨h1, h2, h3⟩
  · subst h2; split
    · omega
    · rw [if_neg (by omega)]
  · split
    · omega
    · split at h3 <;> (rw [if_neg (by omega)])
theorem rest_held (t1 t0 a x y c k : Int) (hr : RestR t1 t0 x y c k) (hf : ¬ (c < 0 ∨ leastN t1 t0 x ≤ k - c)) : mrS0 t1 t0 a x y 1 = x := by
  unfold mrS0
  unfold RestR at hr
  generalize leastN t1 t0 x = L at *
  rcases hr with ⟨h1, h2⟩ | ⟨h1, h2, h3⟩
  · omega
  · split
    · rfl
    · split at h3
      · rw [if_pos (by omega)]
      · omega
theorem rest_same (t1 t0 a x y c k : Int) (h1 : 0 ≤ t1) (h0 : 0 ≤ t0) (hr : RestR t1 t0 x y c k) (hV : mrS0 t1 t0 a x y 1 = x) : RestR t1 t0 x (mrS1 t1 t0 a x y 1) c (k + 1) := by
  have hL : 0 ≤ leastN t1 t0 x := by unfold leastN; split <;> omega
  unfold mrS0 at hV
  unfold RestR mrS1 lastsN
  unfold RestR at hr
  generalize leastN t1 t0 x = L at *
  rcases hr with ⟨e1, e2⟩ | ⟨e1, e2, e3⟩
  · subst e2
    left
    refine ⟨e1, ?_⟩
    split at hV
    · rw [if_pos (by omega), if_pos rfl]
    · rw [if_neg (by omega)] at hV
      exact absurd hV (by assumption)
  · right
    refine ⟨e1, by omega, ?_⟩
    split at hV
    · rw [if_pos (by omega)]
      (repeat' split at e3) <;> (repeat' split) <;> omega
    · split at hV
      · rw [if_pos (by omega)]
        (repeat' split at e3) <;> (repeat' split) <;> omega
      · exact absurd hV (by assumption)
theorem rest_turn (t1 t0 a x y c k : Int) (hr : RestR t1 t0 x y c k) (hk : 0 ≤ k) (hV : ¬ mrS0 t1 t0 a x y 1 = x) : mrS0 t1 t0 a x y 1 = a ∧ RestR t1 t0 (mrS0 t1 t0 a x y 1) (mrS1 t1 t0 a x y 1) k (k + 1) := by
  have ha : mrS0 t1 t0 a x y 1 = a := by
    unfold mrS0 at hV ⊢
    split
    · rename_i h; rw [if_pos h] at hV; exact absurd rfl hV
    · split
      · rename_i h h2; rw [if_neg h, if_pos h2] at hV; exact absurd rfl hV
      · rfl
  refine ⟨ha, ?_⟩
  rw [ha] at hV ⊢
  unfold mrS0 at ha
  right
  refine ⟨hk, by omega, ?_⟩
  unfold mrS1 lastsN
  generalize leastN t1 t0 a = A at *
  generalize leastN t1 t0 x = L at *
  rw [if_neg hV] at ha
  split at ha
  · exact absurd ha.symm hV
  · rename_i h2
    rw [if_neg (by intro h; rcases h with h | h; exact hV h; exact h2 h)]
    (repeat' split) <;> omega
set_option maxHeartbeats 16000000 in
set_option maxRecDepth 100000 in
theorem rest_law (up down : Int) (a : Option Addr) (c : Nat) (bs : List Bool) (w : World) (hm : MaxAt w) (hin : InS w a bs.length 1 (flat boolL bs)) :
    Calls Tryd.prog 7 #[.int .i64 up, .int .i64 down, .slice a bs.length c] w fun e w' => e = .returned (.bool true) ∧ Below w.heap.size w w' := by
  have KAW := Lib.hid (awake_yes w hm)
  have HM := Lib.hid hm
  have HIN := Lib.hid hin
  obtain ⟨M, hM⟩ : ∃ M, M = bs.length := ⟨_, rfl⟩
  have HML := Lib.hid hM
  have m63 : M ≤ 9223372036854775807 := by rw [hM]; exact hin.2.1
  rw [← hM]
  clear hm hin hM
  by_cases hearly : (80 < M) ∨ (¬ 80 < M ∧ up < 0) ∨ (¬ 80 < M ∧ ¬ up < 0 ∧ 100 < up) ∨ (¬ 80 < M ∧ ¬ up < 0 ∧ ¬ 100 < up ∧ down < 0) ∨ (¬ 80 < M ∧ ¬ up < 0 ∧ ¬ 100 < up ∧ ¬ down < 0 ∧ 100 < down)
  · rcases hearly with x0 | ⟨x0, x1⟩ | ⟨x0, x1, x2⟩ | ⟨x0, x1, x2, x3⟩ | ⟨x0, x1, x2, x3, x4⟩
    all_goals
      go_enter Tryd.func7, Tryd.ntmps7
      go_wp2_with fail
      refine KAW.out.mono ?_
      rintro e w1 ⟨rfl, hb⟩
      have HB1 := Lib.hid hb
      clear hb
      go_wp2_with fail
      go_ret
      exact ⟨rfl, HB1.out⟩
  · have m80 : M ≤ 80 := by omega
    have u1 : 0 ≤ up := by omega
    have u2 : up ≤ 100 := by omega
    have w1 : 0 ≤ down := by omega
    have w2 : down ≤ 100 := by omega
    clear hearly m63
    go_enter Tryd.func7, Tryd.ntmps7
    go_wp2_with fail
    refine KAW.out.mono ?_
    rintro e wa ⟨rfl, hb⟩
    have HB1 := Lib.hid hb
    clear hb KAW
    obtain ⟨V0, p0, hW, hp, RP, B, sz⟩ := box1 wa #[.int .i64 up, .int .i64 down] 2
    have HP := Lib.hid RP
    have HBa := Lib.hid (HB1.out.trans (B.mono HB1.out.size))
    clear RP B sz
    go_wp2_with fail
    rw [← hW]
    try rw [← hp]
    clear hW hp
    have ko := on_any a c bs V0 (by have := HML.out; omega) (HIN.out.keep HBa.out)
    rw [← HML.out] at ko
    have KO := Lib.hid ko
    clear ko
    refine KO.out.mono ?_
    rintro e y0 ⟨v, rfl, hll, hb⟩
    rw [HML.out] at hll
    obtain ⟨oa, rs, oc, rfl, hrl, hio⟩ := ll_run hll
    have HBb := Lib.hid (HBa.out.trans (hb.mono HBa.out.size))
    have HPb := Lib.hid (HP.out.keep hb)
    have kr := runMinrun up down 1 (bs.map bitN) ⟨u1, by omega⟩ ⟨w1, by omega⟩ (by decide) (by decide) (bits_ok _) (by rw [List.length_map]; have := HML.out; omega) (some ⟨p0, 0, none⟩) 2 oa oc rs y0 (HM.out.keep HBb.out) ⟨rfl, (show 2 ≤ 9223372036854775807 by decide), .inr ⟨p0, 0, rfl, HPb.out.lt, fun q u hu => by rw [Nat.zero_add]; exact HPb.out.c q u hu⟩⟩ hio
    rw [hrl, ← HML.out] at kr
    rw [hrl, ← HML.out]
    have KR := Lib.hid kr
    clear kr hll hrl hio hb KO HP HPb
    go_wp2_with fail
    refine KR.out.mono ?_
    rintro e z0 ⟨v, rfl, ho, hb⟩
    obtain ⟨va0, vc0, rfl, hins⟩ := ins_own ho
    have HO0 := Lib.hid hins
    have HZ0 := Lib.hid (HBb.out.trans (hb.mono HBb.out.size))
    clear hb ho hins KR HBa HBb
    obtain ⟨as', has⟩ : ∃ l, l = bs.map bitN := ⟨_, rfl⟩
    have HAS := Lib.hid has
    have HBIT := Lib.hid (stMinrun_bit up down 1 (bs.map bitN) (fun k => by rw [List.getD_eq_getElem?_getD, List.getElem?_map]; cases bs[k]? with | none => exact .inl rfl | some b => exact bit_cases b))
    rw [← has] at HO0 HBIT
    clear has
    go_wp2_with fail
    go_loopw [9, 10, 11] (fun l h i wr => ∃ (k : Nat) (q : Int), k ≤ M ∧ l = .int .i64 (stMinrun up down 1 as' k).1 ∧ h = .int .i64 q ∧ i = .int .i64 k ∧ Hid (RestR up down (stMinrun up down 1 as' k).1 (stMinrun up down 1 as' k).2 q k ∧ Below z0.heap.size z0 wr)) (fun _ _ i _ => M - (intOf i).toNat)
    case atStart => exact ⟨0, -1, Nat.zero_le _, rfl, rfl, rfl, Lib.hid ⟨.inl ⟨rfl, rfl⟩, Below.refl _ _⟩⟩
    case round =>
      obtain ⟨k, q, hk, rfl, rfl, rfl, hH⟩ := hrel
      have HRR := Lib.hid hH.out.1
      have HBR := Lib.hid hH.out.2
      clear hH
      by_cases hlt2 : k < M
      · obtain ⟨lb, lo, rfl, hll, hlc⟩ := (show InS wr a bs.length 1 (flat boolL bs) from (HIN.out.keep HZ0.out).keep HBR.out).at boolL_len (by have := HML.out; omega)
        obtain ⟨b, hx⟩ : ∃ x, bs[k]? = some x := ⟨_, List.getElem?_eq_getElem (by have := HML.out; omega)⟩
        have l0 := hlc k _ hx 0 _ rfl
        simp only [Nat.mul_one, Nat.add_zero] at l0
        have hxd : as'.getD k 0 = bitN b := by rw [HAS.out, List.getD_eq_getElem?_getD, List.getElem?_map, hx]; rfl
        obtain ⟨g, go, rfl, lg, o0, o1⟩ := outs_in (HO0.out.keep HBR.out) hlt2
        have hov : ovMinrun up down 1 as' k = mrS0 up down (bitN b) (stMinrun up down 1 as' k).1 (stMinrun up down 1 as' k).2 1 := by unfold ovMinrun; rw [hxd]
        have hn1 : (stMinrun up down 1 as' (k + 1)).1 = ovMinrun up down 1 as' k := rfl
        have hn2 : (stMinrun up down 1 as' (k + 1)).2 = mrS1 up down (bitN b) (stMinrun up down 1 as' k).1 (stMinrun up down 1 as' k).2 1 := by rw [← hxd]; rfl
        have hbx := HBIT.out k
        have hrr := HRR.out
        obtain ⟨V, hV⟩ : ∃ v, v = ovMinrun up down 1 as' k := ⟨_, rfl⟩
        rw [← hV] at hov o1 hn1
        obtain ⟨⟨x, y⟩, hs⟩ : ∃ p, p = stMinrun up down 1 as' k := ⟨_, rfl⟩
        rw [← hs] at hov hn2 hbx hrr ⊢
        have k1 : (0 : Int) ≤ (k : Int) := by omega
        have k2 : (k : Int) < (M : Int) := by omega
        have HN1 := Lib.hid hn1
        have HN2 := Lib.hid hn2
        have HOV := Lib.hid hov
        have HR9 := Lib.hid hrr
        have hq : -1 ≤ q ∧ q < k := by unfold RestR at hrr; omega
        obtain ⟨q1, q2⟩ := hq
        have HC := Lib.hid (And.intro o0 (And.intro o1 l0))
        clear hx hxd hlc hov hn1 hn2 hV hs hrr HRR HBIT
        rcases hbx with hbx | hbx
        · have hbx2 : x = 0 := hbx
          clear hbx
          subst hbx2
          have hL : leastN up down 0 = down := if_neg (by decide)
          by_cases hf : q < 0 ∨ down ≤ (k : Int) - q
          · have hVb : V = bitN b := by rw [HOV.out]; exact rest_free up down (bitN b) 0 y q k HR9.out (by rw [hL]; exact hf)
            clear hL
            subst hVb
            have KX := Lib.hid (lbit_any b)
            rcases (by omega : q < 0 ∨ (¬ q < 0 ∧ down ≤ (k : Int) - q)) with f1 | ⟨f1, f2⟩
            · clear hf
              go_wp2_with fail
              go_cut [80] from 71 to 80 (fun z wx => z = .bool false ∧ Hid (Below wr.heap.size wr wx))
              case first =>
                go_region_held3 (fun w' => w'.cell? ⟨g, go + k * 2, none⟩ = some (.int .i64 2) ∧ w'.cell? ⟨g, go + k * 2 + 1, none⟩ = some (.int .i64 (bitN b)) ∧ w'.cell? ⟨lb, lo + k, none⟩ = some (.bool b))
                  (first | (with_reducible exact ⟨q3, q4, q5⟩) | (with_reducible exact HC.out) | go_keep)
                  ((refine (KX.out _).mono ?_; rintro e x1 ⟨rfl, hb2⟩; have q3 := (hb2.cell (p := ⟨g, go + k * 2, none⟩) lg).trans HC.out.1; have q4 := (hb2.cell (p := ⟨g, go + k * 2 + 1, none⟩) lg).trans HC.out.2.1; have q5 := (hb2.cell (p := ⟨lb, lo + k, none⟩) hll).trans HC.out.2.2))
                all_goals
                  rename_i hHeld
                  clear hHeld
                  go_wp2_with fail
                  go_meet
                all_goals first
                  | exact ⟨rfl, Lib.hid (((Below.refl wr.heap.size wr).drew.trans hb2).drew)⟩
                  | exact ⟨rfl, Lib.hid ((Below.refl wr.heap.size wr).drew.trans hb2)⟩
                  | exact ⟨rfl, Lib.hid hb2.drew⟩
                  | exact ⟨rfl, Lib.hid hb2⟩
              case rest =>
                obtain ⟨rfl, hcc⟩ := hcut
                have hb9 := hcc.out
                have o1 := (hb9.cell (p := ⟨g, go + k * 2 + 1, none⟩) lg).trans HC.out.2.1
                have HBN := Lib.hid (HBR.out.trans (hb9.mono HBR.out.size))
                clear hcc hb9
                by_cases hsame : bitN b = 0
                · have e1 : (bitN b == 0) = true := beq_iff_eq.2 hsame
                  have e2 : (bitN b != 0) = false := by simp [bne, hsame]
                  have HSM := Lib.hid hsame
                  clear hsame
                  go_wp2_with fail
                  all_goals
                    go_roundw
                    case rel => exact ⟨k + 1, q, by omega, by rw [HN1.out, HSM.out], rfl, by go_num, Lib.hid ⟨by rw [HN1.out, HN2.out]; exact (by have h := rest_same up down (bitN b) 0 y q k u1 w1 HR9.out (by rw [← HOV.out]; exact HSM.out); rw [HSM.out] at h ⊢; exact h), HBN.out⟩⟩
                    case measure => (simp [intOf]) <;> omega
                · have e1 : (bitN b == 0) = false := beq_eq_false_iff_ne.2 hsame
                  have e2 : (bitN b != 0) = true := bne_iff_ne.2 hsame
                  have HSM := Lib.hid hsame
                  clear hsame
                  go_wp2_with fail
                  all_goals
                    go_roundw
                    case rel => exact ⟨k + 1, k, by omega, by rw [HN1.out], rfl, by go_num, Lib.hid ⟨by rw [HN1.out, HN2.out]; exact (by have h := (rest_turn up down (bitN b) 0 y q k HR9.out (by omega) (by rw [← HOV.out]; exact HSM.out)).2; rw [← HOV.out] at h; exact h), HBN.out⟩⟩
                    case measure => (simp [intOf]) <;> omega
            · clear hf
              go_wp2_with fail
              go_cut [80] from 71 to 80 (fun z wx => z = .bool false ∧ Hid (Below wr.heap.size wr wx))
              case first =>
                go_region_held3 (fun w' => w'.cell? ⟨g, go + k * 2, none⟩ = some (.int .i64 2) ∧ w'.cell? ⟨g, go + k * 2 + 1, none⟩ = some (.int .i64 (bitN b)) ∧ w'.cell? ⟨lb, lo + k, none⟩ = some (.bool b))
                  (first | (with_reducible exact ⟨q3, q4, q5⟩) | (with_reducible exact HC.out) | go_keep)
                  ((refine (KX.out _).mono ?_; rintro e x1 ⟨rfl, hb2⟩; have q3 := (hb2.cell (p := ⟨g, go + k * 2, none⟩) lg).trans HC.out.1; have q4 := (hb2.cell (p := ⟨g, go + k * 2 + 1, none⟩) lg).trans HC.out.2.1; have q5 := (hb2.cell (p := ⟨lb, lo + k, none⟩) hll).trans HC.out.2.2))
                all_goals
                  rename_i hHeld
                  clear hHeld
                  go_wp2_with fail
                  go_meet
                all_goals first
                  | exact ⟨rfl, Lib.hid (((Below.refl wr.heap.size wr).drew.trans hb2).drew)⟩
                  | exact ⟨rfl, Lib.hid ((Below.refl wr.heap.size wr).drew.trans hb2)⟩
                  | exact ⟨rfl, Lib.hid hb2.drew⟩
                  | exact ⟨rfl, Lib.hid hb2⟩
              case rest =>
                obtain ⟨rfl, hcc⟩ := hcut
                have hb9 := hcc.out
                have o1 := (hb9.cell (p := ⟨g, go + k * 2 + 1, none⟩) lg).trans HC.out.2.1
                have HBN := Lib.hid (HBR.out.trans (hb9.mono HBR.out.size))
                clear hcc hb9
                by_cases hsame : bitN b = 0
                · have e1 : (bitN b == 0) = true := beq_iff_eq.2 hsame
                  have e2 : (bitN b != 0) = false := by simp [bne, hsame]
                  have HSM := Lib.hid hsame
                  clear hsame
                  go_wp2_with fail
                  all_goals
                    go_roundw
                    case rel => exact ⟨k + 1, q, by omega, by rw [HN1.out, HSM.out], rfl, by go_num, Lib.hid ⟨by rw [HN1.out, HN2.out]; exact (by have h := rest_same up down (bitN b) 0 y q k u1 w1 HR9.out (by rw [← HOV.out]; exact HSM.out); rw [HSM.out] at h ⊢; exact h), HBN.out⟩⟩
                    case measure => (simp [intOf]) <;> omega
                · have e1 : (bitN b == 0) = false := beq_eq_false_iff_ne.2 hsame
                  have e2 : (bitN b != 0) = true := bne_iff_ne.2 hsame
                  have HSM := Lib.hid hsame
                  clear hsame
                  go_wp2_with fail
                  all_goals
                    go_roundw
                    case rel => exact ⟨k + 1, k, by omega, by rw [HN1.out], rfl, by go_num, Lib.hid ⟨by rw [HN1.out, HN2.out]; exact (by have h := (rest_turn up down (bitN b) 0 y q k HR9.out (by omega) (by rw [← HOV.out]; exact HSM.out)).2; rw [← HOV.out] at h; exact h), HBN.out⟩⟩
                    case measure => (simp [intOf]) <;> omega
          · have hVb : V = 0 := by rw [HOV.out]; exact rest_held up down (bitN b) 0 y q k HR9.out (by rw [hL]; exact hf)
            clear hL
            subst hVb
            have f1 : ¬ q < 0 := by omega
            have f2 : ¬ down ≤ (k : Int) - q := by omega
            clear hf
            go_wp2_with fail
            all_goals
              go_roundw
              case rel => exact ⟨k + 1, q, by omega, by rw [HN1.out], rfl, by go_num, Lib.hid ⟨by rw [HN1.out, HN2.out]; exact rest_same up down (bitN b) 0 y q k u1 w1 HR9.out HOV.out.symm, HBR.out⟩⟩
              case measure => (simp [intOf]) <;> omega
        · have hbx2 : x = 1 := hbx
          clear hbx
          subst hbx2
          have hL : leastN up down 1 = up := if_pos rfl
          by_cases hf : q < 0 ∨ up ≤ (k : Int) - q
          · have hVb : V = bitN b := by rw [HOV.out]; exact rest_free up down (bitN b) 1 y q k HR9.out (by rw [hL]; exact hf)
            clear hL
            subst hVb
            have KX := Lib.hid (lbit_any b)
            rcases (by omega : q < 0 ∨ (¬ q < 0 ∧ up ≤ (k : Int) - q)) with f1 | ⟨f1, f2⟩
            · clear hf
              go_wp2_with fail
              go_cut [80] from 71 to 80 (fun z wx => z = .bool false ∧ Hid (Below wr.heap.size wr wx))
              case first =>
                go_region_held3 (fun w' => w'.cell? ⟨g, go + k * 2, none⟩ = some (.int .i64 2) ∧ w'.cell? ⟨g, go + k * 2 + 1, none⟩ = some (.int .i64 (bitN b)) ∧ w'.cell? ⟨lb, lo + k, none⟩ = some (.bool b))
                  (first | (with_reducible exact ⟨q3, q4, q5⟩) | (with_reducible exact HC.out) | go_keep)
                  ((refine (KX.out _).mono ?_; rintro e x1 ⟨rfl, hb2⟩; have q3 := (hb2.cell (p := ⟨g, go + k * 2, none⟩) lg).trans HC.out.1; have q4 := (hb2.cell (p := ⟨g, go + k * 2 + 1, none⟩) lg).trans HC.out.2.1; have q5 := (hb2.cell (p := ⟨lb, lo + k, none⟩) hll).trans HC.out.2.2))
                all_goals
                  rename_i hHeld
                  clear hHeld
                  go_wp2_with fail
                  go_meet
                all_goals first
                  | exact ⟨rfl, Lib.hid (((Below.refl wr.heap.size wr).drew.trans hb2).drew)⟩
                  | exact ⟨rfl, Lib.hid ((Below.refl wr.heap.size wr).drew.trans hb2)⟩
                  | exact ⟨rfl, Lib.hid hb2.drew⟩
                  | exact ⟨rfl, Lib.hid hb2⟩
              case rest =>
                obtain ⟨rfl, hcc⟩ := hcut
                have hb9 := hcc.out
                have o1 := (hb9.cell (p := ⟨g, go + k * 2 + 1, none⟩) lg).trans HC.out.2.1
                have HBN := Lib.hid (HBR.out.trans (hb9.mono HBR.out.size))
                clear hcc hb9
                by_cases hsame : bitN b = 1
                · have e1 : (bitN b == 1) = true := beq_iff_eq.2 hsame
                  have e2 : (bitN b != 1) = false := by simp [bne, hsame]
                  have HSM := Lib.hid hsame
                  clear hsame
                  go_wp2_with fail
                  all_goals
                    go_roundw
                    case rel => exact ⟨k + 1, q, by omega, by rw [HN1.out, HSM.out], rfl, by go_num, Lib.hid ⟨by rw [HN1.out, HN2.out]; exact (by have h := rest_same up down (bitN b) 1 y q k u1 w1 HR9.out (by rw [← HOV.out]; exact HSM.out); rw [HSM.out] at h ⊢; exact h), HBN.out⟩⟩
                    case measure => (simp [intOf]) <;> omega
                · have e1 : (bitN b == 1) = false := beq_eq_false_iff_ne.2 hsame
                  have e2 : (bitN b != 1) = true := bne_iff_ne.2 hsame
                  have HSM := Lib.hid hsame
                  clear hsame
                  go_wp2_with fail
                  all_goals
                    go_roundw
                    case rel => exact ⟨k + 1, k, by omega, by rw [HN1.out], rfl, by go_num, Lib.hid ⟨by rw [HN1.out, HN2.out]; exact (by have h := (rest_turn up down (bitN b) 1 y q k HR9.out (by omega) (by rw [← HOV.out]; exact HSM.out)).2; rw [← HOV.out] at h; exact h), HBN.out⟩⟩
                    case measure => (simp [intOf]) <;> omega
            · clear hf
              go_wp2_with fail
              go_cut [80] from 71 to 80 (fun z wx => z = .bool false ∧ Hid (Below wr.heap.size wr wx))
              case first =>
                go_region_held3 (fun w' => w'.cell? ⟨g, go + k * 2, none⟩ = some (.int .i64 2) ∧ w'.cell? ⟨g, go + k * 2 + 1, none⟩ = some (.int .i64 (bitN b)) ∧ w'.cell? ⟨lb, lo + k, none⟩ = some (.bool b))
                  (first | (with_reducible exact ⟨q3, q4, q5⟩) | (with_reducible exact HC.out) | go_keep)
                  ((refine (KX.out _).mono ?_; rintro e x1 ⟨rfl, hb2⟩; have q3 := (hb2.cell (p := ⟨g, go + k * 2, none⟩) lg).trans HC.out.1; have q4 := (hb2.cell (p := ⟨g, go + k * 2 + 1, none⟩) lg).trans HC.out.2.1; have q5 := (hb2.cell (p := ⟨lb, lo + k, none⟩) hll).trans HC.out.2.2))
                all_goals
                  rename_i hHeld
                  clear hHeld
                  go_wp2_with fail
                  go_meet
                all_goals first
                  | exact ⟨rfl, Lib.hid (((Below.refl wr.heap.size wr).drew.trans hb2).drew)⟩
                  | exact ⟨rfl, Lib.hid ((Below.refl wr.heap.size wr).drew.trans hb2)⟩
                  | exact ⟨rfl, Lib.hid hb2.drew⟩
                  | exact ⟨rfl, Lib.hid hb2⟩
              case rest =>
                obtain ⟨rfl, hcc⟩ := hcut
                have hb9 := hcc.out
                have o1 := (hb9.cell (p := ⟨g, go + k * 2 + 1, none⟩) lg).trans HC.out.2.1
                have HBN := Lib.hid (HBR.out.trans (hb9.mono HBR.out.size))
                clear hcc hb9
                by_cases hsame : bitN b = 1
                · have e1 : (bitN b == 1) = true := beq_iff_eq.2 hsame
                  have e2 : (bitN b != 1) = false := by simp [bne, hsame]
                  have HSM := Lib.hid hsame
                  clear hsame
                  go_wp2_with fail
                  all_goals
                    go_roundw
                    case rel => exact ⟨k + 1, q, by omega, by rw [HN1.out, HSM.out], rfl, by go_num, Lib.hid ⟨by rw [HN1.out, HN2.out]; exact (by have h := rest_same up down (bitN b) 1 y q k u1 w1 HR9.out (by rw [← HOV.out]; exact HSM.out); rw [HSM.out] at h ⊢; exact h), HBN.out⟩⟩
                    case measure => (simp [intOf]) <;> omega
                · have e1 : (bitN b == 1) = false := beq_eq_false_iff_ne.2 hsame
                  have e2 : (bitN b != 1) = true := bne_iff_ne.2 hsame
                  have HSM := Lib.hid hsame
                  clear hsame
                  go_wp2_with fail
                  all_goals
                    go_roundw
                    case rel => exact ⟨k + 1, k, by omega, by rw [HN1.out], rfl, by go_num, Lib.hid ⟨by rw [HN1.out, HN2.out]; exact (by have h := (rest_turn up down (bitN b) 1 y q k HR9.out (by omega) (by rw [← HOV.out]; exact HSM.out)).2; rw [← HOV.out] at h; exact h), HBN.out⟩⟩
                    case measure => (simp [intOf]) <;> omega
          · have hVb : V = 1 := by rw [HOV.out]; exact rest_held up down (bitN b) 1 y q k HR9.out (by rw [hL]; exact hf)
            clear hL
            subst hVb
            have f1 : ¬ q < 0 := by omega
            have f2 : ¬ up ≤ (k : Int) - q := by omega
            clear hf
            go_wp2_with fail
            all_goals
              go_roundw
              case rel => exact ⟨k + 1, q, by omega, by rw [HN1.out], rfl, by go_num, Lib.hid ⟨by rw [HN1.out, HN2.out]; exact rest_same up down (bitN b) 1 y q k u1 w1 HR9.out HOV.out.symm, HBR.out⟩⟩
              case measure => (simp [intOf]) <;> omega
      · obtain rfl : k = M := by omega
        go_wp2_with fail
        go_ret
        exact ⟨rfl, HZ0.out.trans (HBR.out.mono HZ0.out.size)⟩
end Go.Proofs.YtfgkgokmniocjaaDoor
