/- The law PriorityJoins. -/
import Derived.Test.YtlmilalibgehpaaPj
import Derived.Test.YtlmilalibgehpaaT
namespace Go.Proofs.Ytlmilalibgehpaa
open Go.RowKit

abbrev JC (B : Nat) (wb : World) (d o q : Nat) (xl xq xk xn : Int) (w' : World) : Prop := w'.cell? ⟨d, o + q * 4, none⟩ = some (.int .i64 xl) ∧ w'.cell? ⟨d, o + q * 4 + 1, none⟩ = some (.int .i64 xq) ∧ w'.cell? ⟨d, o + q * 4 + 2, none⟩ = some (.int .i64 xk) ∧ w'.cell? ⟨d, o + q * 4 + 3, none⟩ = some (.int .i64 xn) ∧ Below B wb w'
theorem jc_of {B : Nat} {wb w' : World} {d o q : Nat} {xl xq xk xn : Int} (hd : d < B) (s : JC B wb d o q xl xq xk xn wb) (hb : Below B wb w') : JC B wb d o q xl xq xk xn w' := by
  obtain ⟨s0, s1, s2, s3, _⟩ := s
  exact ⟨(hb.cell (p := ⟨d, o + q * 4, none⟩) hd).trans s0, (hb.cell (p := ⟨d, o + q * 4 + 1, none⟩) hd).trans s1, (hb.cell (p := ⟨d, o + q * 4 + 2, none⟩) hd).trans s2, (hb.cell (p := ⟨d, o + q * 4 + 3, none⟩) hd).trans s3, hb⟩
theorem jc_alloc {B : Nat} {wb w1 : World} {d o q : Nat} {xl xq xk xn : Int} (hd : d < B) (hB : B ≤ wb.heap.size) (c : JC B wb d o q xl xq xk xn wb) (ob : Obj) (s : JC B wb d o q xl xq xk xn w1) : JC B wb d o q xl xq xk xn (w1.alloc ob) := jc_of hd c (s.2.2.2.2.alloc (Nat.le_trans hB s.2.2.2.2.size) ob)
theorem jc_drew {B : Nat} {wb w1 : World} {d o q : Nat} {xl xq xk xn : Int} (hd : d < B) (c : JC B wb d o q xl xq xk xn wb) (s : JC B wb d o q xl xq xk xn w1) : JC B wb d o q xl xq xk xn w1.drew := jc_of hd c s.2.2.2.2.drew

set_option maxHeartbeats 8000000 in
set_option maxRecDepth 100000 in
theorem joins_law (a a2 a3 : Option Addr) (cap cap2 cap3 : Nat) (xs ys zs : List WrD) (w : World) (hin : InS w a xs.length 4 (flat wrL xs)) (hin2 : InS w a2 ys.length 4 (flat wrL ys)) (hin3 : InS w a3 zs.length 4 (flat wrL zs)) : Calls Try.prog 6 #[.slice a xs.length cap, .slice a2 ys.length cap2, .slice a3 zs.length cap3] w fun e w' => e = .returned (.bool true) ∧ Below w.heap.size w w' := by
  obtain ⟨i0, hif, hz0, hz1, hz2⟩ := info_parts infoWr
  obtain ⟨LX, hLX⟩ : ∃ L, writesL (bestS (xs ++ ys)) = L := ⟨_, rfl⟩
  obtain ⟨LB, hLB⟩ : ∃ L, writesL (bestS (ys ++ zs)) = L := ⟨_, rfl⟩
  obtain ⟨LM, hLM⟩ : ∃ L, writesL (bestS (xs ++ ys ++ zs)) = L := ⟨_, rfl⟩
  obtain ⟨LA, hLA⟩ : ∃ L, writesL (bestS xs) = L := ⟨_, rfl⟩
  have b1 : LX.length ≤ 60 := by rw [← hLX]; exact Nat.le_trans (writes_len _) (by decide)
  have b2 : LB.length ≤ 60 := by rw [← hLB]; exact Nat.le_trans (writes_len _) (by decide)
  obtain ⟨N, hN⟩ : ∃ N, N = xs.length := ⟨_, rfl⟩
  obtain ⟨K, hK⟩ : ∃ N, N = ys.length := ⟨_, rfl⟩
  obtain ⟨M, hM⟩ : ∃ N, N = zs.length := ⟨_, rfl⟩
  obtain ⟨Z, hZ⟩ : ∃ Z, decide (N ≤ 60) = Z := ⟨_, rfl⟩
  obtain ⟨Y, hY⟩ : ∃ Z, decide (K ≤ 60) = Z := ⟨_, rfl⟩
  obtain ⟨V, hV⟩ : ∃ Z, decide (M ≤ 60) = Z := ⟨_, rfl⟩
  have HF := Lib.hid (few_ins a N cap Z hZ)
  have HF2 := Lib.hid (few_ins a2 K cap2 Y hY)
  have HF3 := Lib.hid (few_ins a3 M cap3 V hV)
  have HJJ1 := Lib.hid (fun w1 (hb : Below w.heap.size w w1) h6 h7 => join_ins a a2 cap cap2 N K xs ys hN hK w1 h6 h7 (hin.keep hb) (hin2.keep hb) LX hLX)
  have HJJ2 := Lib.hid (fun w1 (hb : Below w.heap.size w w1) h6 h7 => join_ins a2 a cap2 cap K N ys xs hK hN w1 h6 h7 (hin2.keep hb) (hin.keep hb) LX (by rw [best_comm]; exact hLX))
  have HJJ3 := Lib.hid (fun b c w1 (hb : Below w.heap.size w w1) h8 hi => join_ins b a3 c cap3 LX.length M LX zs rfl hM w1 b1 h8 hi (hin3.keep hb) LM (by rw [← hLX, join_assoc1]; exact hLM))
  have HJJ4 := Lib.hid (fun w1 (hb : Below w.heap.size w w1) h7 h8 => join_ins a2 a3 cap2 cap3 K M ys zs hK hM w1 h7 h8 (hin2.keep hb) (hin3.keep hb) LB hLB)
  have HJJ5 := Lib.hid (fun b c w1 (hb : Below w.heap.size w w1) h6 hi => join_ins a b cap c N LB.length xs LB hN rfl w1 h6 b2 (hin.keep hb) hi LM (by rw [← hLB, join_assoc2]; exact hLM))
  have HJJ6 := Lib.hid (fun b c w1 hi => join_ins b b c c LX.length LX.length LX LX rfl rfl w1 b1 b1 hi hi LX (by rw [← hLX, join_self2]))
  have HOO1 := Lib.hid (fun b c w1 hi => of_ins b c LX.length LX rfl w1 b1 hi LX (by rw [← hLX, best_writes]))
  have HOO2 := Lib.hid (fun b c w1 h9 hi => of_big b c (turW xs 0) w1 h9 hi LA (by rw [best_turned]; exact hLA))
  have HOO3 := Lib.hid (fun w1 (hb : Below w.heap.size w w1) h6 => of_ins a cap N xs hN w1 h6 (hin.keep hb) LA hLA)
  have HI := Lib.hid hin
  have HN := Lib.hid hN
  have HZ := Lib.hid hZ
  have HY := Lib.hid hY
  have HV := Lib.hid hV
  rw [← hN, ← hK, ← hM]
  clear hLX hLB hLM hLA b1 b2 hN hK hM hZ hY hV hin hin2 hin3
  have HAW := Lib.hid awake_yes
  have HB := Lib.hid (Below.refl w.heap.size w)
  go_enter Try.func6, Try.ntmps6
  go_wp2_with fail
  refine (HAW.out _).mono ?_
  rintro e w1 ⟨rfl, hb⟩
  have HB1 := Lib.hid (HB.out.trans (hb.mono HB.out.size))
  clear hb HAW HB 
  go_wp2_with fail
  refine (HF.out _).mono ?_
  rintro e w2 ⟨rfl, hb⟩
  have HB2 := Lib.hid (HB1.out.trans (hb.mono HB1.out.size))
  clear hb  HB1
  clear HF
  cases Z
  · go_wp2_with fail
    go_ret
    exact ⟨rfl, HB2.out⟩
  · have H6 := Lib.hid (show N ≤ 60 from of_decide_eq_true HZ.out)
    go_wp2_with fail
    refine (HF2.out _).mono ?_
    rintro e w3 ⟨rfl, hb⟩
    have HB3 := Lib.hid (HB2.out.trans (hb.mono HB2.out.size))
    clear hb  HB2
    clear HF2
    cases Y
    · go_wp2_with fail
      go_ret
      exact ⟨rfl, HB3.out⟩
    · have H7 := Lib.hid (show K ≤ 60 from of_decide_eq_true HY.out)
      go_wp2_with fail
      refine (HF3.out _).mono ?_
      rintro e w4 ⟨rfl, hb⟩
      have HB4 := Lib.hid (HB3.out.trans (hb.mono HB3.out.size))
      clear hb  HB3
      clear HF3
      cases V
      · go_wp2_with fail
        go_ret
        exact ⟨rfl, HB4.out⟩
      · have H8 := Lib.hid (show M ≤ 60 from of_decide_eq_true HV.out)
        obtain ⟨wA, hwA⟩ : ∃ x, x = w4 := ⟨_, rfl⟩
        rw [← hwA] at HB4 ⊢
        clear hwA
        have h60 : N ≤ 60 := H6.out
        have w1' : IntKind.i64.wrap ((N : Int) - 1) = (N : Int) - 1 := IntWalk.i64_in _ ⟨by omega, by omega⟩
        have HT0 := Lib.hid (show turW xs N = [] by rw [HN.out]; exact tur_end xs)
        go_wp2_with fail
        go_loopw [7, 8] (fun v i wr => ∃ p : Nat, p ≤ N ∧ i = .int .i64 ((p : Int) - 1) ∧ Hid (wr.ownsRow wA.heap.size 25 4 v (turW xs p).length (flat wrL (turW xs p)) ∧ Below wA.heap.size wA wr)) (fun _ i _ => (intOf i + 1).toNat)
        case atStart => exact ⟨N, by omega, rfl, Lib.hid ⟨by rw [HT0.out]; exact World.ownsRow_nil _ _ _ _, Below.refl _ _⟩⟩
        case round =>
          obtain ⟨p, hp, rfl, hH⟩ := hrel
          obtain ⟨v7, rfl⟩ : ∃ v : Value, v = u7 := ⟨_, rfl⟩
          cases p with
          | succ q =>
            have e1 : ((q + 1 : Nat) : Int) - 1 = (q : Int) := by omega
            rw [e1]
            have hqx : q < xs.length := by rw [← HN.out]; omega
            have HBR := Lib.hid (HB4.out.trans (hH.out.2.mono HB4.out.size))
            obtain ⟨d, o, hdo, hbl, hcell⟩ := HI.out.at wrL_len (by omega)
            have hbA : d < wA.heap.size := Nat.lt_of_lt_of_le hbl HB4.out.size
            have HD := Lib.hid hbA
            have HSZ := Lib.hid hH.out.2.size
            subst hdo
            obtain ⟨x, hx⟩ : ∃ x, xs[q]? = some x := ⟨_, List.getElem?_eq_getElem hqx⟩
            have HST := Lib.hid (tur_step xs q x hx)
            obtain ⟨L, hL⟩ : ∃ L, turW xs (q + 1) = L := ⟨_, rfl⟩
            have hL1 : L.length ≤ 120 := by rw [← hL]; have := tur_len xs (q + 1); have := HN.out; omega
            have HOW := Lib.hid (show wr.ownsRow wA.heap.size 25 4 v7 L.length (flat wrL L) by rw [← hL]; exact hH.out.1)
            have HBW := Lib.hid hH.out.2
            rw [hL] at HST
            obtain ⟨xl, xq, xk, xn⟩ := x
            have q0 := (HBR.out.cell (p := ⟨d, o + q * 4 + 0, none⟩) hbl).trans (hcell q _ hx 0 _ rfl)
            have q1 := (HBR.out.cell (p := ⟨d, o + q * 4 + 1, none⟩) hbl).trans (hcell q _ hx 1 _ rfl)
            have q2 := (HBR.out.cell (p := ⟨d, o + q * 4 + 2, none⟩) hbl).trans (hcell q _ hx 2 _ rfl)
            have q3 := (HBR.out.cell (p := ⟨d, o + q * 4 + 3, none⟩) hbl).trans (hcell q _ hx 3 _ rfl)
            rw [Nat.add_zero] at q0
            have HC := Lib.hid (show JC wA.heap.size wr d o q xl xq xk xn wr from ⟨q0, q1, q2, q3, Below.refl _ _⟩)
            have HCD := Lib.hid (jc_drew HD.out HC.out HC.out)
            have HLl := Lib.hid HOW.out.lt
            have HL1 := Lib.hid hL1
            have HOA := Lib.hid (HOW.out.alloc (Obj.cells #[.int .i64 xl, .int .i64 xq, .int .i64 xk, .int .i64 xn, .int .i64 xl, .int .i64 xq, .int .i64 xk, .int .i64 xn] 25))
            have HOD := Lib.hid (own_keep HOA.out (Below.refl _ _).drew)
            have HR1 := Lib.hid (row_fresh wr #[.int .i64 xl, .int .i64 xq, .int .i64 xk, .int .i64 xn, .int .i64 xl, .int .i64 xq, .int .i64 xk, .int .i64 xn] 25)
            have HR2 := Lib.hid HR1.out.drew
            have k1 : (0 : Int) ≤ (q : Int) := by omega
            have k2 : (q : Int) < (N : Int) := by omega
            have w2' : IntKind.i64.wrap ((q : Int) - 1) = (q : Int) - 1 := IntWalk.i64_in _ ⟨by omega, by omega⟩
            clear hH hcell hx hqx hL hbl hbA hL1
            go_wp2_with fail
            go_region_held3 (fun w' => w'.cell? ⟨d, o + q * 4, none⟩ = some (.int .i64 xl) ∧ w'.cell? ⟨d, o + q * 4 + 1, none⟩ = some (.int .i64 xq) ∧ w'.cell? ⟨d, o + q * 4 + 2, none⟩ = some (.int .i64 xk) ∧ w'.cell? ⟨d, o + q * 4 + 3, none⟩ = some (.int .i64 xn) ∧ Below wA.heap.size wr w')
              (first | (with_reducible exact HC.out) | (with_reducible exact HCD.out) | (with_reducible exact jc_alloc HD.out HSZ.out HC.out _ HC.out) | (with_reducible exact jc_drew HD.out HC.out (jc_alloc HD.out HSZ.out HC.out _ HC.out)) | (with_reducible exact jc_alloc HD.out HSZ.out HC.out _ HCD.out) | (with_reducible exact HS5.out) | go_keep)
              (first | (refine step_append_own (by rfl) (.tmp 32) (.tmp 41) 26 rfl wA.heap.size 25 i0 (.agg #[.int .i64 0, .int .i64 0, .int .i64 0, .int .i64 0]) 4 32 Try.underlying26 hif hz0 hz1 hz2 rfl (by decide) v7 L.length (flat wrL L) (by simp [Act.eval]) (by first | exact HOA.out | exact HOD.out) ⟨wr.heap.size, 0, none⟩ 2 2 #[.int .i64 xl, .int .i64 xq, .int .i64 xk, .int .i64 xn, .int .i64 xl, .int .i64 xq, .int .i64 xk, .int .i64 xn].toList (by simp [Act.eval]) rfl (fun j u hu => by rw [add_plain, Nat.zero_add]; first | exact HR1.out.c j u hu | exact HR2.out.c j u hu) (by simp [Value.oneCell']) (by have := HL1.out; unfold maxLen; omega) (by have := HL1.out; omega) (by have := HBW.out.size; simp; omega) ?_; intro v3 w5 hown5 hgrow5 _; have KB5 : Hid (Below wA.heap.size wr w5) := (by first | exact ((Below.refl wA.heap.size wr).alloc HSZ.out _).grown hgrow5 (by first | exact HSZ.out | exact Nat.le_trans HSZ.out (by simp)) (fun k hk => (HLl.out k hk).1) | exact ((Below.refl wA.heap.size wr).alloc HSZ.out _).drew.grown hgrow5 (by first | exact HSZ.out | exact Nat.le_trans HSZ.out (by simp)) (fun k hk => (HLl.out k hk).1) | exact ((Below.refl wA.heap.size wr).drew.alloc HSZ.out _).grown hgrow5 (by first | exact HSZ.out | exact Nat.le_trans HSZ.out (by simp)) (fun k hk => (HLl.out k hk).1)); have HS5 : Hid (JC wA.heap.size wr d o q xl xq xk xn w5) := jc_of HD.out HC.out KB5.out; have HO5 := Lib.hid hown5; clear hown5 hgrow5))
            all_goals
              rename_i hHeld
              clear hHeld q0 q1 q2 q3
              have HT5 := Lib.hid (show w5.ownsRow wA.heap.size 25 4 v3 (turW xs q).length (flat wrL (turW xs q)) by
                rw [HST.out, flat_append, List.length_append]; exact HO5.out)
              have HB5 := Lib.hid (HBW.out.trans KB5.out)
              go_wp2_with fail
              go_roundw
              case rel => exact ⟨q, by omega, by go_num, Lib.hid ⟨HT5.out, HB5.out⟩⟩
              case measure => simp [intOf]
          | zero =>
            have HBE := Lib.hid (HB4.out.trans (hH.out.2.mono HB4.out.size))
            obtain ⟨a7, c7, hv7, hi7⟩ := ins_own hH.out.1
            subst hv7
            have HT20 := Lib.hid hi7
            have H9 := Lib.hid (show (turW xs 0).length ≤ 120 by have := tur_len xs 0; have := HN.out; omega)
            have hneg : ((0 : Nat) : Int) - 1 = -1 := rfl
            rw [hneg]
            have HB20 := HBE
            clear hH hi7 hneg
            go_wp2_with fail
            refine (HJJ1.out _ HB20.out H6.out H7.out).mono ?_
            rintro e w21 ⟨b21, c21, rfl, hi, hb⟩
            have HT21 := Lib.hid (HT20.out.keep hb)
            have HX21 := Lib.hid hi
            have HB21 := Lib.hid (HB20.out.trans (hb.mono HB20.out.size))
            clear hb hi HT20 HB20
            go_wp2_with fail
            refine (HJJ2.out _ HB21.out H7.out H6.out).mono ?_
            rintro e w22 ⟨b22, c22, rfl, hi, hb⟩
            have HT22 := Lib.hid (HT21.out.keep hb)
            have HX22 := Lib.hid (HX21.out.keep hb)
            have HY22 := Lib.hid hi
            have HB22 := Lib.hid (HB21.out.trans (hb.mono HB21.out.size))
            clear hb hi HT21 HX21 HB21
            go_wp2_with fail
            refine (same_ins _ _ _ _ LX _ HX22.out HY22.out).mono ?_
            rintro e w23 ⟨rfl, hb⟩
            have HT23 := Lib.hid (HT22.out.keep hb)
            have HX23 := Lib.hid (HX22.out.keep hb)
            have HB23 := Lib.hid (HB22.out.trans (hb.mono HB22.out.size))
            clear hb HT22 HX22 HY22 HB22
            go_wp2_with fail
            refine (HJJ3.out _ _ _ HB23.out H8.out HX23.out).mono ?_
            rintro e w24 ⟨b24, c24, rfl, hi, hb⟩
            have HT24 := Lib.hid (HT23.out.keep hb)
            have HX24 := Lib.hid (HX23.out.keep hb)
            have HP24 := Lib.hid hi
            have HB24 := Lib.hid (HB23.out.trans (hb.mono HB23.out.size))
            clear hb hi HT23 HX23 HB23
            go_wp2_with fail
            refine (HJJ4.out _ HB24.out H7.out H8.out).mono ?_
            rintro e w25 ⟨b25, c25, rfl, hi, hb⟩
            have HT25 := Lib.hid (HT24.out.keep hb)
            have HX25 := Lib.hid (HX24.out.keep hb)
            have HP25 := Lib.hid (HP24.out.keep hb)
            have HQ25 := Lib.hid hi
            have HB25 := Lib.hid (HB24.out.trans (hb.mono HB24.out.size))
            clear hb hi HT24 HX24 HP24 HB24
            go_wp2_with fail
            refine (HJJ5.out _ _ _ HB25.out H6.out HQ25.out).mono ?_
            rintro e w26 ⟨b26, c26, rfl, hi, hb⟩
            have HT26 := Lib.hid (HT25.out.keep hb)
            have HX26 := Lib.hid (HX25.out.keep hb)
            have HP26 := Lib.hid (HP25.out.keep hb)
            have HR26 := Lib.hid hi
            have HB26 := Lib.hid (HB25.out.trans (hb.mono HB25.out.size))
            clear hb hi HT25 HX25 HP25 HQ25 HB25
            go_wp2_with fail
            refine (same_ins _ _ _ _ LM _ HP26.out HR26.out).mono ?_
            rintro e w27 ⟨rfl, hb⟩
            have HT27 := Lib.hid (HT26.out.keep hb)
            have HX27 := Lib.hid (HX26.out.keep hb)
            have HB27 := Lib.hid (HB26.out.trans (hb.mono HB26.out.size))
            clear hb HT26 HX26 HP26 HR26 HB26
            go_wp2_with fail
            refine (HJJ6.out _ _ _ HX27.out).mono ?_
            rintro e w28 ⟨b28, c28, rfl, hi, hb⟩
            have HT28 := Lib.hid (HT27.out.keep hb)
            have HX28 := Lib.hid (HX27.out.keep hb)
            have HP28 := Lib.hid hi
            have HB28 := Lib.hid (HB27.out.trans (hb.mono HB27.out.size))
            clear hb hi HT27 HX27 HB27
            go_wp2_with fail
            refine (same_ins _ _ _ _ LX _ HP28.out HX28.out).mono ?_
            rintro e w29 ⟨rfl, hb⟩
            have HT29 := Lib.hid (HT28.out.keep hb)
            have HX29 := Lib.hid (HX28.out.keep hb)
            have HB29 := Lib.hid (HB28.out.trans (hb.mono HB28.out.size))
            clear hb HT28 HX28 HP28 HB28
            go_wp2_with fail
            refine (HOO1.out _ _ _ HX29.out).mono ?_
            rintro e w30 ⟨b30, c30, rfl, hi, hb⟩
            have HT30 := Lib.hid (HT29.out.keep hb)
            have HX30 := Lib.hid (HX29.out.keep hb)
            have HP30 := Lib.hid hi
            have HB30 := Lib.hid (HB29.out.trans (hb.mono HB29.out.size))
            clear hb hi HT29 HX29 HB29
            go_wp2_with fail
            refine (same_ins _ _ _ _ LX _ HP30.out HX30.out).mono ?_
            rintro e w31 ⟨rfl, hb⟩
            have HT31 := Lib.hid (HT30.out.keep hb)
            have HB31 := Lib.hid (HB30.out.trans (hb.mono HB30.out.size))
            clear hb HT30 HX30 HP30 HB30
            go_wp2_with fail
            refine (HOO2.out _ _ _ H9.out HT31.out).mono ?_
            rintro e w32 ⟨b32, c32, rfl, hi, hb⟩
            have HP32 := Lib.hid hi
            have HB32 := Lib.hid (HB31.out.trans (hb.mono HB31.out.size))
            clear hb hi HT31 HB31
            go_wp2_with fail
            refine (HOO3.out _ HB32.out H6.out).mono ?_
            rintro e w33 ⟨b33, c33, rfl, hi, hb⟩
            have HP33 := Lib.hid (HP32.out.keep hb)
            have HQ33 := Lib.hid hi
            have HB33 := Lib.hid (HB32.out.trans (hb.mono HB32.out.size))
            clear hb hi HP32 HB32
            go_wp2_with fail
            refine (same_ins _ _ _ _ LA _ HP33.out HQ33.out).mono ?_
            rintro e w34 ⟨rfl, hb⟩
            have HB34 := Lib.hid (HB33.out.trans (hb.mono HB33.out.size))
            clear hb HP33 HQ33 HB33
            go_wp2_with fail
            go_ret
            exact ⟨rfl, HB34.out⟩
end Go.Proofs.Ytlmilalibgehpaa
