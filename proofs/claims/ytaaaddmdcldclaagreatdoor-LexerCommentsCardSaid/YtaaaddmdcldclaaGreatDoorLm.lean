/- The law LexerComments. -/
import Derived.Test.YtaaaddmdcldclaaGreatDoorNy
import Derived.Test.YtaaaddmdcldclaaGreatDoorPd
import Derived.Test.YtaaaddmdcldclaaGreatDoorRs
namespace Go.Proofs.YtaaaddmdcldclaaGreatDoor
open Go.RowKit Go.Shelf
set_option linter.unusedVariables false
set_option linter.unusedSimpArgs false

theorem pad_succ (s : ByteArray) (k : Nat) : padS s (k + 1) = padS s k ++ ⟨#[32]⟩ := rfl

set_option maxHeartbeats 40000000 in
set_option maxRecDepth 100000 in
theorem comments_law (s cm : ByteArray) (b : Int) (w : World) (ht : Tab w) : Calls Tryz.prog 9 #[.string s, .string cm, .int .i64 b] w fun e w' => e = .returned (.bool true) ∧ Below w.heap.size w w' := by
  have HAW := Lib.hid (awake_yes w ht)
  by_cases e1 : 600 < s.size
  · have k1 : (600 : Int) < (s.size : Int) := by omega
    clear ht
    go_enter Tryz.func9, Tryz.ntmps9
    go_wp2_with fail
    refine HAW.out.mono ?_
    rintro e w1 ⟨rfl, hb⟩
    have HB := Lib.hid hb
    clear hb HAW
    go_wp2_with fail
    go_ret
    exact ⟨rfl, HB.out⟩
  by_cases e2 : 200 < cm.size
  · have k1 : ¬ (600 : Int) < (s.size : Int) := by omega
    have k2 : (200 : Int) < (cm.size : Int) := by omega
    clear ht
    go_enter Tryz.func9, Tryz.ntmps9
    go_wp2_with fail
    refine HAW.out.mono ?_
    rintro e w1 ⟨rfl, hb⟩
    have HB := Lib.hid hb
    clear hb HAW
    go_wp2_with fail
    go_ret
    exact ⟨rfl, HB.out⟩
  by_cases e3 : b < 0
  · have k1 : ¬ (600 : Int) < (s.size : Int) := by omega
    have k2 : ¬ (200 : Int) < (cm.size : Int) := by omega
    have k3 : b < 0 := e3
    clear ht
    go_enter Tryz.func9, Tryz.ntmps9
    go_wp2_with fail
    refine HAW.out.mono ?_
    rintro e w1 ⟨rfl, hb⟩
    have HB := Lib.hid hb
    clear hb HAW
    go_wp2_with fail
    go_ret
    exact ⟨rfl, HB.out⟩
  by_cases e4 : 20 < b
  · have k1 : ¬ (600 : Int) < (s.size : Int) := by omega
    have k2 : ¬ (200 : Int) < (cm.size : Int) := by omega
    have k3 : ¬ b < 0 := e3
    have k4 : 20 < b := e4
    clear ht
    go_enter Tryz.func9, Tryz.ntmps9
    go_wp2_with fail
    refine HAW.out.mono ?_
    rintro e w1 ⟨rfl, hb⟩
    have HB := Lib.hid hb
    clear hb HAW
    go_wp2_with fail
    go_ret
    exact ⟨rfl, HB.out⟩
  have k1 : ¬ (600 : Int) < (s.size : Int) := by omega
  have k2 : ¬ (200 : Int) < (cm.size : Int) := by omega
  have k3 : ¬ b < 0 := e3
  have k4 : ¬ 20 < b := e4
  obtain ⟨B, rfl⟩ := Int.eq_ofNat_of_zero_le (show 0 ≤ b by omega)
  have HSZ := Lib.hid (show s.size ≤ 600 ∧ cm.size ≤ 200 ∧ B ≤ 20 by omega)
  clear e1 e2 e3 e4
  have hgood := scanS_good s (by omega)
  have hlen := scanS_len s
  have hlk2 := fun h => pad_like (s := s) B (by omega) h
  have hlk3 := fun h => comment_like (s := s) (cm := cm) B (by omega) h
  obtain ⟨S, hS⟩ : ∃ S, S = scanS s := ⟨_, rfl⟩
  rw [← hS] at hgood hlen hlk2 hlk3
  have hS2 := hS.symm
  clear hS
  obtain ⟨si, L, sh, sm1, sc, so⟩ := S
  obtain ⟨N, hN⟩ : ∃ N, N = L.length := ⟨_, rfl⟩
  have HN := Lib.hid hN
  have HMX := Lib.hid (show N ≤ 64 by rw [hN]; exact hlen)
  have HGD := Lib.hid (show GoodL 0 L from hgood)
  have HS1 := Lib.hid (show ∀ x, Calls Tryz.prog 11 #[.string s] x fun e w' => (∃ a c, e = .returned (.tuple #[.agg #[.int .i64 si, .slice a N c, .bool sh, .string sm1], .agg #[.int .i64 sc, .int .i64 0, .int .i64 so]]) ∧ InS w' a N 4 (flat tkC L)) ∧ Below x.heap.size x w' from fun x => by
    refine (scan_any s x).mono ?_
    rintro e w' ⟨⟨a, c, rfl, hi⟩, hb⟩
    rw [hS2] at hi ⊢
    dsimp only at hi ⊢
    rw [← hN] at hi ⊢
    exact ⟨⟨a, c, rfl, hi⟩, hb⟩)
  have HS2 := Lib.hid hlk2
  have HS3 := Lib.hid hlk3
  have HTB := Lib.hid (fun (x : World) (hb : Below w.heap.size w x) => ht.below hb)
  clear hgood hlen hlk2 hlk3 hS2 hN ht
  go_enter Tryz.func9, Tryz.ntmps9
  go_wp2_with fail
  refine HAW.out.mono ?_
  rintro e w1 ⟨rfl, hb⟩
  have HB := Lib.hid hb
  clear hb HAW
  go_wp2_with fail
  refine (HS1.out _).mono ?_
  rintro e w2 ⟨⟨a1, c1, rfl, hi⟩, hb⟩
  have HI1 := Lib.hid hi
  have HB := Lib.hid (HB.out.trans (hb.mono HB.out.size))
  clear hb hi HS1
  obtain ⟨V1, s1, f1, hV, hs, hf, RA, RF, BB, sz⟩ := box2 w2 #[.int .i64 si, .slice a1 N c1, .bool sh, .string sm1] 25 #[.int .i64 sc, .int .i64 0, .int .i64 so] 28
  have HR1 := Lib.hid RA
  have HF1 := Lib.hid RF
  have HI1 := Lib.hid (HI1.out.keep BB)
  have HB := Lib.hid (HB.out.trans (BB.mono HB.out.size))
  go_wp2_with fail
  rw [← hV]
  try rw [← hf]
  try rw [← hs]
  clear hV hs hf RA RF BB sz
  go_loopw [9, 10] (fun lv iv wr => ∃ (i : Nat) (la : Int), i ≤ N ∧ lv = .int .i64 la ∧ iv = .int .i64 i ∧ Hid (GoodL la (L.drop i) ∧ Below V1.heap.size V1 wr)) (fun _ iv _ => N - (intOf iv).toNat)
  case atStart => exact ⟨0, 0, Nat.zero_le _, rfl, rfl, Lib.hid ⟨HGD.out, Below.refl _ _⟩⟩
  case round =>
    obtain ⟨i, la, hi, rfl, rfl, hH⟩ := hrel
    have HG := Lib.hid hH.out.1
    have HBr := Lib.hid hH.out.2
    clear hH
    by_cases hlt : i < N
    · obtain ⟨⟨k, t, m, c⟩, hx⟩ : ∃ x, L[i]? = some x := ⟨_, List.getElem?_eq_getElem (by rw [← HN.out]; exact hlt)⟩
      have hgo : GoodL la (⟨k, t, m, c⟩ :: L.drop (i + 1)) := by rw [← drop_cons hx]; exact HG.out
      obtain ⟨hok, hla, hts, hgr⟩ := hgo
      replace hok : tokOk k t m := hok
      replace hla : la < c := hla
      replace hgr : GoodL c (L.drop (i + 1)) := hgr
      replace hts : t.size ≤ 900 := hts
      obtain ⟨b1, o1, rfl, hl1, p0, p1, p2, p3⟩ := ins_tok_at HN.out HI1.out i k m c t hx
      have HVA := Lib.hid (fun (x : World) (hb : Below w.heap.size w x) => (by have h := valid_any k t m c hts x (HTB.out x hb); rw [(spell_yes hok).2] at h; exact h : Calls Tryz.prog 18 #[.agg #[.int .i64 k, .string t, .int .i64 m, .int .i64 c]] x fun e w' => e = .returned (.bool true) ∧ Below x.heap.size x w'))
      have HP := Lib.hid (And.intro p0 (And.intro p1 (And.intro p2 p3)))
      have HL1 := Lib.hid hl1
      have HGR := Lib.hid hgr
      have hla2 : ¬ c ≤ la := by omega
      have i1 : (0 : Int) ≤ (i : Int) := by omega
      have i2 : (i : Int) < (N : Int) := by omega
      have i3 : IntKind.i64.wrap ((i : Int) + 1) = (i : Int) + 1 := IntWalk.i64_in _ (by have := HMX.out; omega)
      clear hok hla hts hgr p0 p1 p2 p3 hx hl1
      have HR := Lib.hid (HR1.out.keep HBr.out)
      have r_0 := HR.out.c 0 _ rfl
      have r_1 := HR.out.c 1 _ rfl
      have r_2 := HR.out.c 2 _ rfl
      have r_3 := HR.out.c 3 _ rfl
      have q0 : wr.cell? ⟨b1, o1 + i * 4, none⟩ = some (.int .i64 k) := (HBr.out.cell (p := ⟨b1, o1 + i * 4, none⟩) HL1.out).trans HP.out.1
      have q1 : wr.cell? ⟨b1, o1 + i * 4 + 1, none⟩ = some (.string t) := (HBr.out.cell (p := ⟨b1, o1 + i * 4 + 1, none⟩) HL1.out).trans HP.out.2.1
      have q2 : wr.cell? ⟨b1, o1 + i * 4 + 2, none⟩ = some (.int .i64 m) := (HBr.out.cell (p := ⟨b1, o1 + i * 4 + 2, none⟩) HL1.out).trans HP.out.2.2.1
      have q3 : wr.cell? ⟨b1, o1 + i * 4 + 3, none⟩ = some (.int .i64 c) := (HBr.out.cell (p := ⟨b1, o1 + i * 4 + 3, none⟩) HL1.out).trans HP.out.2.2.2
      go_wp2_with fail
      refine (HVA.out _ (HB.out.trans (HBr.out.mono HB.out.size))).mono ?_
      rintro e w3 ⟨rfl, hb⟩
      have HBs := Lib.hid (HBr.out.trans (hb.mono HBr.out.size))
      clear hb r_0 r_1 r_2 r_3 q0 q1 q2 q3 HR
      have HR := Lib.hid (HR1.out.keep HBs.out)
      have r_0 := HR.out.c 0 _ rfl
      have r_1 := HR.out.c 1 _ rfl
      have r_2 := HR.out.c 2 _ rfl
      have r_3 := HR.out.c 3 _ rfl
      have q3 : w3.cell? ⟨b1, o1 + i * 4 + 3, none⟩ = some (.int .i64 c) := (HBs.out.cell (p := ⟨b1, o1 + i * 4 + 3, none⟩) HL1.out).trans HP.out.2.2.2
      go_wp2_with fail
      go_roundw
      case rel => exact ⟨i + 1, c, by omega, rfl, by go_num, Lib.hid ⟨HGR.out, HBs.out⟩⟩
      case measure => (simp [intOf]) <;> omega
    · obtain rfl : N = i := by omega
      have HR := Lib.hid (HR1.out.keep HBr.out)
      have r_0 := HR.out.c 0 _ rfl
      have r_1 := HR.out.c 1 _ rfl
      have r_2 := HR.out.c 2 _ rfl
      have r_3 := HR.out.c 3 _ rfl
      go_wp2_with fail
      clear r_0 r_1 r_2 r_3 HR
      go_loopw [11] (fun jv wr2 => ∃ j : Nat, j ≤ s.size ∧ jv = .int .i64 j ∧ Hid ((∀ k, k < j → byteI s k ≠ 35 ∧ byteI s k ≠ 34) ∧ Below V1.heap.size V1 wr2)) (fun jv _ => s.size - (intOf jv).toNat)
      case atStart => exact ⟨0, Nat.zero_le _, rfl, Lib.hid ⟨fun k h => by omega, HBr.out⟩⟩
      case round =>
        obtain ⟨j, hj, rfl, hH⟩ := hrel
        have HNO := Lib.hid hH.out.1
        have HB2 := Lib.hid hH.out.2
        have HBw := Lib.hid (HB.out.trans (HB2.out.mono HB.out.size))
        clear hH
        by_cases hjl : j < s.size
        · obtain ⟨x, hx⟩ : ∃ x : Int, x = (s[j].toNat : Int) := ⟨_, rfl⟩
          have HXB := Lib.hid (show byteI s j = x from (byteI_at hjl).trans hx.symm)
          have hx2 : (s[j].toNat : Int) = x := hx.symm
          have j1 : (0 : Int) ≤ (j : Int) := by omega
          have j2 : (j : Int) < (s.size : Int) := by omega
          have j3 : IntKind.i64.wrap ((j : Int) + 1) = (j : Int) + 1 := IntWalk.i64_in _ (by have := HSZ.out; omega)
          clear hx
          by_cases h35 : x = 35
          · have t35 : (x == 35) = true := by simpa using h35
            clear h35
            go_wp2_with fail
            go_ret
            exact ⟨rfl, HBw.out⟩
          have t35 : (x == 35) = false := by simpa using h35
          by_cases h34 : x = 34
          · have t34 : (x == 34) = true := by simpa using h34
            clear h34 h35
            go_wp2_with fail
            go_ret
            exact ⟨rfl, HBw.out⟩
          have t34 : (x == 34) = false := by simpa using h34
          have HX2 := Lib.hid (show byteI s j ≠ 35 ∧ byteI s j ≠ 34 by rw [HXB.out]; exact ⟨h35, h34⟩)
          clear h34 h35
          go_wp2_with fail
          go_roundw
          case rel => exact ⟨j + 1, by omega, by go_num, Lib.hid ⟨fun k h => by (by_cases hk : k = j; rw [hk]; exact HX2.out; exact HNO.out k (by omega)), HB2.out⟩⟩
          case measure => (simp [intOf]) <;> omega
        · obtain rfl : j = s.size := by omega
          have hk2 := HS2.out HNO.out
          have hk3 := HS3.out HNO.out
          clear HS2 HS3
          obtain ⟨P, hP⟩ : ∃ P, P = padS s B := ⟨_, rfl⟩
          obtain ⟨Q, hQ⟩ : ∃ Q, Q = P ++ ⟨#[35]⟩ ++ cm := ⟨_, rfl⟩
          rw [← hP, ← hQ] at hk3
          rw [← hP] at hk2
          have HPP := Lib.hid hP
          have HQQ := Lib.hid hQ
          clear hP hQ
          obtain ⟨V2, hV2⟩ : ∃ V, V = scanS P := ⟨_, rfl⟩
          obtain ⟨V3, hV3⟩ : ∃ V, V = scanS Q := ⟨_, rfl⟩
          rw [← hV2] at hk2
          rw [← hV3] at hk3
          obtain ⟨i2, L2, h2, sm2, c2', o2'⟩ := V2
          obtain ⟨i3, L3, h3, sm3, c3', o3'⟩ := V3
          obtain ⟨l1, l2, l3, l4, l5, l6⟩ := hk2
          obtain ⟨m1, m2, m3, m4, m5, m6⟩ := hk3
          dsimp only at l1 l2 l3 l4 l5 m1 m2 m3 m4 m5 m6
          replace l1 := l1.symm
          replace l2 := l2.symm
          replace l3 := l3.symm
          replace l4 := l4.symm
          replace l5 := l5.symm
          replace m1 := m1.symm
          replace m2 := m2.symm
          replace m3 := m3.symm
          replace m4 := m4.symm
          replace m5 := m5.symm
          subst l1 l2 l3 l4 l5 m1 m2 m3 m4 m5
          have hW2 := hV2.symm
          have hW3 := hV3.symm
          clear hV2 hV3 l6
          have hNn := HN.out
          have HC2 := Lib.hid (show ∀ x, Calls Tryz.prog 11 #[.string P] x fun e w' => (∃ a c, e = .returned (.tuple #[.agg #[.int .i64 si, .slice a N c, .bool sh, .string sm2], .agg #[.int .i64 sc, .int .i64 0, .int .i64 so]]) ∧ InS w' a N 4 (flat tkC L)) ∧ Below x.heap.size x w' from fun x => by
            refine (scan_any P x).mono ?_
            rintro e w' ⟨⟨a, c, rfl, hi⟩, hb⟩
            rw [hW2] at hi ⊢
            dsimp only at hi ⊢
            rw [← hNn] at hi ⊢
            exact ⟨⟨a, c, rfl, hi⟩, hb⟩)
          have HC3 := Lib.hid (show ∀ x, Calls Tryz.prog 11 #[.string Q] x fun e w' => (∃ a c, e = .returned (.tuple #[.agg #[.int .i64 si, .slice a N c, .bool sh, .string sm3], .agg #[.int .i64 sc, .int .i64 0, .int .i64 so]]) ∧ InS w' a N 4 (flat tkC L)) ∧ Below x.heap.size x w' from fun x => by
            refine (scan_any Q x).mono ?_
            rintro e w' ⟨⟨a, c, rfl, hi⟩, hb⟩
            rw [hW3] at hi ⊢
            dsimp only at hi ⊢
            rw [← hNn] at hi ⊢
            exact ⟨⟨a, c, rfl, hi⟩, hb⟩)
          have HM6 := Lib.hid (show sc = 0 → sm3 = cm from m6)
          clear hW2 hW3 hNn m6
          go_wp2_with fail
          go_loopw [0, 12] (fun lv jv wr3 => ∃ j : Nat, j ≤ B ∧ lv = .string (padS s j) ∧ jv = .int .i64 j ∧ Hid (Below V1.heap.size V1 wr3)) (fun _ jv _ => B - (intOf jv).toNat)
          case atStart => exact ⟨0, Nat.zero_le _, rfl, rfl, Lib.hid HB2.out⟩
          case round =>
            obtain ⟨j, hjB, rfl, rfl, hH⟩ := hrel
            have HB3 := Lib.hid hH.out
            clear hH
            have hps := pad_size s j
            have hz20 := HSZ.out
            by_cases hjl2 : j < B
            · have j2 : (j : Int) < (B : Int) := by omega
              have j3 : IntKind.i64.wrap ((j : Int) + 1) = (j : Int) + 1 := IntWalk.i64_in _ (by omega)
              have j4 : ¬ 9223372036854775807 < (padS s j).size + 1 := by omega
              clear hps hz20
              go_wp2_with fail
              go_roundw
              case rel => exact ⟨j + 1, by omega, rfl, by go_num, Lib.hid HB3.out⟩
              case measure => (simp [intOf]) <;> omega
            · obtain rfl : j = B := by omega
              have j4 : ¬ 9223372036854775807 < (padS s j).size + 1 := by omega
              have j5 : ¬ 9223372036854775807 < (padS s j).size + 1 + cm.size := by omega
              have hP := HPP.out.symm
              rw [hP] at j4 j5 ⊢
              have hQ := HQQ.out.symm
              clear hps hz20 hP HPP HQQ
              go_wp2_with fail
              refine (HC2.out _).mono ?_
              rintro e w4 ⟨⟨a2, c2, rfl, hi⟩, hb⟩
              have HI2 := Lib.hid hi
              have HB4 := Lib.hid (HB3.out.trans (hb.mono HB3.out.size))
              clear hb hi HC2
              obtain ⟨V2, s2, f2, hV, hs, hf, RA, RF, BB, sz⟩ := box2 w4 #[.int .i64 si, .slice a2 N c2, .bool sh, .string sm2] 25 #[.int .i64 sc, .int .i64 0, .int .i64 so] 28
              have HR2 := Lib.hid RA
              have HF2 := Lib.hid RF
              have HI2 := Lib.hid (HI2.out.keep BB)
              have HB4 := Lib.hid (HB4.out.trans (BB.mono HB4.out.size))
              go_wp2_with fail
              rw [← hV]
              try rw [← hf]
              try rw [← hs]
              clear hV hs hf RA RF BB sz
              try rw [hQ]
              clear hQ
              refine (HC3.out _).mono ?_
              rintro e w5 ⟨⟨a3, c3, rfl, hi⟩, hb⟩
              have HI3 := Lib.hid hi
              have HI2 := Lib.hid (HI2.out.keep hb)
              have HR2 := Lib.hid (HR2.out.keep hb)
              have HF2 := Lib.hid (HF2.out.keep hb)
              have HB5 := Lib.hid (HB4.out.trans (hb.mono HB4.out.size))
              clear hb hi HC3
              obtain ⟨V3, s3, f3, hV, hs, hf, RA, RF, BB, sz⟩ := box2 w5 #[.int .i64 si, .slice a3 N c3, .bool sh, .string sm3] 25 #[.int .i64 sc, .int .i64 0, .int .i64 so] 28
              have HR3 := Lib.hid RA
              have HF3 := Lib.hid RF
              have HI3 := Lib.hid (HI3.out.keep BB)
              have HI2 := Lib.hid (HI2.out.keep BB)
              have HR2 := Lib.hid (HR2.out.keep BB)
              have HF2 := Lib.hid (HF2.out.keep BB)
              have HB6 := Lib.hid (HB5.out.trans (BB.mono HB5.out.size))
              have HR1 := Lib.hid (HR1.out.keep HB6.out)
              have HF1 := Lib.hid (HF1.out.keep HB6.out)
              have HI1 := Lib.hid (HI1.out.keep HB6.out)
              have HBw := Lib.hid (HB.out.trans (HB6.out.mono HB.out.size))
              have HSM := Lib.hid (fun (x : World) (hb : Below V3.heap.size V3 x) (a : Option Addr) (c : Nat) (ha : InS V3 a N 4 (flat tkC L)) => same_list L N c1 c a1 a HN.out (by have := HMX.out; omega) x (HI1.out.keep hb) (ha.keep hb))
              go_upto_region 24 with fail
              rw [← hV]
              try rw [← hf]
              try rw [← hs]
              clear hV hs hf RA RF BB sz
              have f_0 := HF1.out.c 0 _ rfl
              have f_1 := HF1.out.c 1 _ rfl
              have f_2 := HF1.out.c 2 _ rfl
              have g_0 := HF2.out.c 0 _ rfl
              have g_1 := HF2.out.c 1 _ rfl
              have g_2 := HF2.out.c 2 _ rfl
              have h_0 := HF3.out.c 0 _ rfl
              have h_1 := HF3.out.c 1 _ rfl
              have h_2 := HF3.out.c 2 _ rfl
              have r_0 := HR1.out.c 0 _ rfl
              have r_1 := HR1.out.c 1 _ rfl
              have r_2 := HR1.out.c 2 _ rfl
              have r_3 := HR1.out.c 3 _ rfl
              have s_0 := HR2.out.c 0 _ rfl
              have s_1 := HR2.out.c 1 _ rfl
              have s_2 := HR2.out.c 2 _ rfl
              have s_3 := HR2.out.c 3 _ rfl
              have t_0 := HR3.out.c 0 _ rfl
              have t_1 := HR3.out.c 1 _ rfl
              have t_2 := HR3.out.c 2 _ rfl
              have t_3 := HR3.out.c 3 _ rfl
              go_wp2_with fail
              refine (HSM.out _ (Below.refl _ _) a2 c2 HI2.out).mono ?_
              rintro e w6 ⟨rfl, hb⟩
              have HF1 := Lib.hid (HF1.out.keep hb)
              have HF2 := Lib.hid (HF2.out.keep hb)
              have HF3 := Lib.hid (HF3.out.keep hb)
              have HR1 := Lib.hid (HR1.out.keep hb)
              have HR2 := Lib.hid (HR2.out.keep hb)
              have HR3 := Lib.hid (HR3.out.keep hb)
              have HBx := Lib.hid hb
              have HBw := Lib.hid (HBw.out.trans (hb.mono HBw.out.size))
              clear hb f_0 f_1 f_2 g_0 g_1 g_2 h_0 h_1 h_2 r_0 r_1 r_2 r_3 s_0 s_1 s_2 s_3 t_0 t_1 t_2 t_3
              have f_0 := HF1.out.c 0 _ rfl
              have f_1 := HF1.out.c 1 _ rfl
              have f_2 := HF1.out.c 2 _ rfl
              have g_0 := HF2.out.c 0 _ rfl
              have g_1 := HF2.out.c 1 _ rfl
              have g_2 := HF2.out.c 2 _ rfl
              have h_0 := HF3.out.c 0 _ rfl
              have h_1 := HF3.out.c 1 _ rfl
              have h_2 := HF3.out.c 2 _ rfl
              have r_0 := HR1.out.c 0 _ rfl
              have r_1 := HR1.out.c 1 _ rfl
              have r_2 := HR1.out.c 2 _ rfl
              have r_3 := HR1.out.c 3 _ rfl
              have s_0 := HR2.out.c 0 _ rfl
              have s_1 := HR2.out.c 1 _ rfl
              have s_2 := HR2.out.c 2 _ rfl
              have s_3 := HR2.out.c 3 _ rfl
              have t_0 := HR3.out.c 0 _ rfl
              have t_1 := HR3.out.c 1 _ rfl
              have t_2 := HR3.out.c 2 _ rfl
              have t_3 := HR3.out.c 3 _ rfl
              go_wp2_with fail
              refine (HSM.out _ HBx.out a3 c3 HI3.out).mono ?_
              rintro e w7 ⟨rfl, hb⟩
              have HF1 := Lib.hid (HF1.out.keep hb)
              have HF2 := Lib.hid (HF2.out.keep hb)
              have HF3 := Lib.hid (HF3.out.keep hb)
              have HR1 := Lib.hid (HR1.out.keep hb)
              have HR2 := Lib.hid (HR2.out.keep hb)
              have HR3 := Lib.hid (HR3.out.keep hb)
              have HBw := Lib.hid (HBw.out.trans (hb.mono HBw.out.size))
              clear hb f_0 f_1 f_2 g_0 g_1 g_2 h_0 h_1 h_2 r_0 r_1 r_2 r_3 s_0 s_1 s_2 s_3 t_0 t_1 t_2 t_3 HBx HSM HI1 HI2 HI3
              have f_0 := HF1.out.c 0 _ rfl
              have f_1 := HF1.out.c 1 _ rfl
              have f_2 := HF1.out.c 2 _ rfl
              have g_0 := HF2.out.c 0 _ rfl
              have g_1 := HF2.out.c 1 _ rfl
              have g_2 := HF2.out.c 2 _ rfl
              have h_0 := HF3.out.c 0 _ rfl
              have h_1 := HF3.out.c 1 _ rfl
              have h_2 := HF3.out.c 2 _ rfl
              have r_0 := HR1.out.c 0 _ rfl
              have r_1 := HR1.out.c 1 _ rfl
              have r_2 := HR1.out.c 2 _ rfl
              have r_3 := HR1.out.c 3 _ rfl
              have s_0 := HR2.out.c 0 _ rfl
              have s_1 := HR2.out.c 1 _ rfl
              have s_2 := HR2.out.c 2 _ rfl
              have s_3 := HR2.out.c 3 _ rfl
              have t_0 := HR3.out.c 0 _ rfl
              have t_1 := HR3.out.c 1 _ rfl
              have t_2 := HR3.out.c 2 _ rfl
              have t_3 := HR3.out.c 3 _ rfl
              by_cases hsc : sc = 0
              · have hs3 := (HM6.out hsc).symm
                subst hs3
                subst hsc
                go_wp2_with fail
                go_ret
                exact ⟨(by first | done | rfl | simp), HBw.out⟩
              · have tsc : (sc != 0) = true := by simpa using hsc
                clear hsc HM6
                go_wp2_with fail
                go_ret
                exact ⟨(by first | done | rfl | simp), HBw.out⟩
end Go.Proofs.YtaaaddmdcldclaaGreatDoor
