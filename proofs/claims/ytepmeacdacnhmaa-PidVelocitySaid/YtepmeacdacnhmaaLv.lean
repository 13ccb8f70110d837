/- The law Velocity: with an integral part the output after each scan is the one before it, the change of the proportional part and the gain of the integral, limited. -/
import Derived.Test.YtepmeacdacnhmaaPx
import Derived.Test.YtepmeacdacnhmaaOp
namespace Go.Proofs.Ytepmeacdacnhmaa
open Go.RowKit

theorem row_at {w : World} {b g : Nat} {L : List Value} (t : RowAt w b L) (hne : g ≠ b) (o : Nat) (v : Value) : RowAt (w.setCell ⟨g, o, none⟩ v) b L :=
  ⟨fun i u h => (World.cell?_setCell_other _ _ _ _ (fun e => hne (congrArg Addr.block e))).trans (t.c i u h), fun o' => by rw [World.frozen?_setCell]; exact t.fz o', by rw [World.size_setCell]; exact t.lt⟩
theorem row_two {w : World} {b : Nat} {c0 c1 c2 : Value} (t : RowAt w b [c0, c1, c2]) (v : Value) : RowAt (w.setCell ⟨b, 2, none⟩ v) b [c0, c1, v] := by
  refine ⟨fun i u hu => ?_, fun o => by rw [World.frozen?_setCell]; exact t.fz o, by rw [World.size_setCell]; exact t.lt⟩
  by_cases h : i = 2
  · subst h
    obtain rfl : v = u := by simpa using hu
    exact World.cell?_setCell_same _ _ _ (t.c 2 c2 rfl)
  · refine (World.cell?_setCell_other _ _ _ _ (fun e => h (congrArg Addr.off e).symm)).trans (t.c i u ?_)
    match i, h with
    | 0, _ => exact hu
    | 1, _ => exact hu
    | i + 3, _ => simp at hu
abbrev V7 (w : World) (g sb so mb mo k : Nat) (kp ti lo hi : Int) (rv : Bool) (a b : Int) (w' : World) : Prop := w'.cell? ⟨g, 0, none⟩ = some (.int .i64 kp) ∧ w'.cell? ⟨g, 1, none⟩ = some (.int .i64 ti) ∧ w'.cell? ⟨g, 2, none⟩ = some (.int .i64 lo) ∧ w'.cell? ⟨g, 3, none⟩ = some (.int .i64 hi) ∧ w'.cell? ⟨g, 4, none⟩ = some (.bool rv) ∧ w'.cell? ⟨sb, so + k, none⟩ = some (.int .i64 a) ∧ w'.cell? ⟨mb, mo + k, none⟩ = some (.int .i64 b) ∧ Below w.heap.size w w'
theorem v7_of {w : World} {g sb so mb mo k : Nat} {kp ti lo hi : Int} {rv : Bool} {a b : Int} {w' : World} (s : V7 w g sb so mb mo k kp ti lo hi rv a b w) (hb : Below w.heap.size w w') : V7 w g sb so mb mo k kp ti lo hi rv a b w' := by
  obtain ⟨s0, s1, s2, s3, s4, s5, s6, _⟩ := s
  have h_g : g < w.heap.size := World.block_lt_of_cell? _ _ s0
  have h_sb : sb < w.heap.size := World.block_lt_of_cell? _ _ s5
  have h_mb : mb < w.heap.size := World.block_lt_of_cell? _ _ s6
  exact ⟨(hb.cell (p := ⟨g, 0, none⟩) h_g).trans s0, (hb.cell (p := ⟨g, 1, none⟩) h_g).trans s1, (hb.cell (p := ⟨g, 2, none⟩) h_g).trans s2, (hb.cell (p := ⟨g, 3, none⟩) h_g).trans s3, (hb.cell (p := ⟨g, 4, none⟩) h_g).trans s4, (hb.cell (p := ⟨sb, so + k, none⟩) h_sb).trans s5, (hb.cell (p := ⟨mb, mo + k, none⟩) h_mb).trans s6, hb⟩
theorem v7_bel {w : World} {g sb so mb mo k : Nat} {kp ti lo hi : Int} {rv : Bool} {a b : Int} {w' : World} (s : V7 w g sb so mb mo k kp ti lo hi rv a b w') : Below w.heap.size w w' := s.2.2.2.2.2.2.2
theorem v7_keep {w : World} {g sb so mb mo k : Nat} {kp ti lo hi : Int} {rv : Bool} {a b : Int} {w1 w2 : World} (c : V7 w g sb so mb mo k kp ti lo hi rv a b w) (hb : Below w1.heap.size w1 w2) (s : V7 w g sb so mb mo k kp ti lo hi rv a b w1) : V7 w g sb so mb mo k kp ti lo hi rv a b w2 := v7_of c ((v7_bel s).trans (hb.mono (v7_bel s).size))
theorem v7_alloc {w : World} {g sb so mb mo k : Nat} {kp ti lo hi : Int} {rv : Bool} {a b : Int} {w1 : World} (c : V7 w g sb so mb mo k kp ti lo hi rv a b w) (o : Obj) (s : V7 w g sb so mb mo k kp ti lo hi rv a b w1) : V7 w g sb so mb mo k kp ti lo hi rv a b (w1.alloc o) := v7_of c ((v7_bel s).alloc (v7_bel s).size o)
theorem v7_drew {w : World} {g sb so mb mo k : Nat} {kp ti lo hi : Int} {rv : Bool} {a b : Int} {w1 : World} (c : V7 w g sb so mb mo k kp ti lo hi rv a b w) (s : V7 w g sb so mb mo k kp ti lo hi rv a b w1) : V7 w g sb so mb mo k kp ti lo hi rv a b w1.drew := v7_of c (v7_bel s).drew
abbrev V10 (w : World) (g x sb so mb mo k : Nat) (kp ti lo hi : Int) (rv rd : Bool) (sm rs a b : Int) (w' : World) : Prop := w'.cell? ⟨g, 0, none⟩ = some (.int .i64 kp) ∧ w'.cell? ⟨g, 1, none⟩ = some (.int .i64 ti) ∧ w'.cell? ⟨g, 2, none⟩ = some (.int .i64 lo) ∧ w'.cell? ⟨g, 3, none⟩ = some (.int .i64 hi) ∧ w'.cell? ⟨g, 4, none⟩ = some (.bool rv) ∧ w'.cell? ⟨x, 0, none⟩ = some (.bool rd) ∧ w'.cell? ⟨x, 1, none⟩ = some (.int .i64 sm) ∧ w'.cell? ⟨x, 2, none⟩ = some (.int .i64 rs) ∧ w'.cell? ⟨sb, so + k, none⟩ = some (.int .i64 a) ∧ w'.cell? ⟨mb, mo + k, none⟩ = some (.int .i64 b) ∧ Below w.heap.size w w'
theorem v10_of {w : World} {g x sb so mb mo k : Nat} {kp ti lo hi : Int} {rv rd : Bool} {sm rs a b : Int} {w' : World} (s : V10 w g x sb so mb mo k kp ti lo hi rv rd sm rs a b w) (hb : Below w.heap.size w w') : V10 w g x sb so mb mo k kp ti lo hi rv rd sm rs a b w' := by
  obtain ⟨s0, s1, s2, s3, s4, s5, s6, s7, s8, s9, _⟩ := s
  have h_g : g < w.heap.size := World.block_lt_of_cell? _ _ s0
  have h_x : x < w.heap.size := World.block_lt_of_cell? _ _ s5
  have h_sb : sb < w.heap.size := World.block_lt_of_cell? _ _ s8
  have h_mb : mb < w.heap.size := World.block_lt_of_cell? _ _ s9
  exact ⟨(hb.cell (p := ⟨g, 0, none⟩) h_g).trans s0, (hb.cell (p := ⟨g, 1, none⟩) h_g).trans s1, (hb.cell (p := ⟨g, 2, none⟩) h_g).trans s2, (hb.cell (p := ⟨g, 3, none⟩) h_g).trans s3, (hb.cell (p := ⟨g, 4, none⟩) h_g).trans s4, (hb.cell (p := ⟨x, 0, none⟩) h_x).trans s5, (hb.cell (p := ⟨x, 1, none⟩) h_x).trans s6, (hb.cell (p := ⟨x, 2, none⟩) h_x).trans s7, (hb.cell (p := ⟨sb, so + k, none⟩) h_sb).trans s8, (hb.cell (p := ⟨mb, mo + k, none⟩) h_mb).trans s9, hb⟩
theorem v10_bel {w : World} {g x sb so mb mo k : Nat} {kp ti lo hi : Int} {rv rd : Bool} {sm rs a b : Int} {w' : World} (s : V10 w g x sb so mb mo k kp ti lo hi rv rd sm rs a b w') : Below w.heap.size w w' := s.2.2.2.2.2.2.2.2.2.2
theorem v10_keep {w : World} {g x sb so mb mo k : Nat} {kp ti lo hi : Int} {rv rd : Bool} {sm rs a b : Int} {w1 w2 : World} (c : V10 w g x sb so mb mo k kp ti lo hi rv rd sm rs a b w) (hb : Below w1.heap.size w1 w2) (s : V10 w g x sb so mb mo k kp ti lo hi rv rd sm rs a b w1) : V10 w g x sb so mb mo k kp ti lo hi rv rd sm rs a b w2 := v10_of c ((v10_bel s).trans (hb.mono (v10_bel s).size))
theorem v10_alloc {w : World} {g x sb so mb mo k : Nat} {kp ti lo hi : Int} {rv rd : Bool} {sm rs a b : Int} {w1 : World} (c : V10 w g x sb so mb mo k kp ti lo hi rv rd sm rs a b w) (o : Obj) (s : V10 w g x sb so mb mo k kp ti lo hi rv rd sm rs a b w1) : V10 w g x sb so mb mo k kp ti lo hi rv rd sm rs a b (w1.alloc o) := v10_of c ((v10_bel s).alloc (v10_bel s).size o)
theorem v10_drew {w : World} {g x sb so mb mo k : Nat} {kp ti lo hi : Int} {rv rd : Bool} {sm rs a b : Int} {w1 : World} (c : V10 w g x sb so mb mo k kp ti lo hi rv rd sm rs a b w) (s : V10 w g x sb so mb mo k kp ti lo hi rv rd sm rs a b w1) : V10 w g x sb so mb mo k kp ti lo hi rv rd sm rs a b w1.drew := v10_of c (v10_bel s).drew
/-- what holds between two scans -/
structure Vel (w : World) (f g x : Nat) (kp ti lo hi : Int) (rv : Bool) (k : Nat) (L B : Int) (rd : Bool) (sm rs : Int) (wr : World) : Prop where
  rf : RowAt wr f [.int .i64 kp, .int .i64 ti, .int .i64 lo, .int .i64 hi, .bool rv]
  rg : RowAt wr g [.int .i64 kp, .int .i64 ti, .int .i64 lo, .int .i64 hi, .bool rv]
  rx : RowAt wr x [.bool rd, .int .i64 sm, .int .i64 rs]
  bel : Below w.heap.size w wr
  inv : (k = 0 ∧ rd = false ∧ sm = 0 ∧ rs = 0) ∨ (0 < k ∧ rd = true ∧ posB sm rs = true ∧ L = B + sm ∧ lo ≤ L ∧ L ≤ hi ∧ -1000000000000 ≤ B ∧ B ≤ 1000000000000)
theorem posB_of {sm rs : Int} (h0 : -2000000000000 ≤ sm) (h1 : sm ≤ 2000000000000) (r0 : -86400 ≤ rs) (r1 : rs ≤ 86400) : posB sm rs = true := by unfold posB fromB; simp; omega
theorem out_range (ti lo hi sm rs p n : Int) (h : lo ≤ hi) : lo ≤ p + newS ti lo hi sm rs p n ∧ p + newS ti lo hi sm rs p n ≤ hi := by
  have := limI_range (sumI ti sm rs p n) (lo - p) (hi - p) (by omega)
  unfold newS; omega
set_option maxHeartbeats 8000000 in
set_option maxRecDepth 100000 in
theorem velocity_law (kp ti lo hi : Int) (rv : Bool) (aA : Option Addr) (cA : Nat) (lsA : List Int) (aB : Option Addr) (cB : Nat) (lsB : List Int) (d : Int) (w : World) (hA : InS w aA lsA.length 1 (flat iL lsA)) (hB : InS w aB lsB.length 1 (flat iL lsB)) :
    Calls Try.prog 3 #[.agg #[.int .i64 kp, .int .i64 ti, .int .i64 lo, .int .i64 hi, .bool rv], .slice aA lsA.length cA, .slice aB lsB.length cB, .int .i64 d] w fun e w' => e = .returned (.bool true) ∧ Below w.heap.size w w' := by
  have HAW := Lib.hid awake_yes
  obtain ⟨N, hN⟩ : ∃ N, N = lsA.length := ⟨_, rfl⟩
  obtain ⟨M, hM⟩ : ∃ M, M = lsB.length := ⟨_, rfl⟩
  have HN := Lib.hid hN
  have HM := Lib.hid hM
  have HIA := Lib.hid hA
  have HIB := Lib.hid hB
  rw [← hN, ← hM]
  have nN : N ≤ 9223372036854775807 := by rw [hN]; exact hA.2.1
  have nM : M ≤ 9223372036854775807 := by rw [hM]; exact hB.2.1
  clear hN hM hA hB
  obtain ⟨W0, f, hW, hf, RF, B0, sz⟩ := box1 w #[.int .i64 kp, .int .i64 ti, .int .i64 lo, .int .i64 hi, .bool rv] 23
  have HF0 := Lib.hid RF
  have HB0 := Lib.hid B0
  have HFW := Lib.hid (show w.heap.size ≤ f by omega)
  go_enter Try.func3, Try.ntmps3
  go_upto_region 1 with fail
  rw [← hW]
  try rw [← hf]
  clear hW hf sz RF B0
  by_cases h1 : 40 < N
  · have f_0 := HF0.out.c 0 _ rfl
    have f_1 := HF0.out.c 1 _ rfl
    have f_2 := HF0.out.c 2 _ rfl
    have f_3 := HF0.out.c 3 _ rfl
    have f_4 := HF0.out.c 4 _ rfl
    go_wp2_with fail
    refine (HAW.out _).mono ?_
    rintro e wz ⟨rfl, hb⟩
    go_wp2_with fail
    go_ret
    exact ⟨rfl, HB0.out.trans (hb.mono HB0.out.size)⟩
  · have HK := Lib.hid (show N ≤ 40 by omega)
    by_cases h2 : M = N
    · subst h2
      by_cases h3 : ti = 0
      · have f_0 := HF0.out.c 0 _ rfl
        have f_1 := HF0.out.c 1 _ rfl
        have f_2 := HF0.out.c 2 _ rfl
        have f_3 := HF0.out.c 3 _ rfl
        have f_4 := HF0.out.c 4 _ rfl
        go_wp2_with fail
        refine (HAW.out _).mono ?_
        rintro e wz ⟨rfl, hb⟩
        go_wp2_with fail
        go_ret
        exact ⟨rfl, HB0.out.trans (hb.mono HB0.out.size)⟩
      · have HT := Lib.hid h3
        obtain ⟨W, g, x, hW, hg, hx, RG, RX, B, sz⟩ := box2 W0 #[.int .i64 kp, .int .i64 ti, .int .i64 lo, .int .i64 hi, .bool rv] 26 #[.bool false, .int .i64 0, .int .i64 0] 28
        have HF := Lib.hid (HF0.out.keep B)
        have HG := Lib.hid RG
        have HX := Lib.hid RX
        have HB := Lib.hid (HB0.out.trans (B.mono HB0.out.size))
        have HXW := Lib.hid (show w.heap.size ≤ x by have := HB0.out.size; omega)
        have HXG := Lib.hid (show x ≠ g by omega)
        have HXF := Lib.hid (show x ≠ f by have := HF0.out.lt; omega)
        have hki : (M : Int) ≤ 40 := by have := HK.out; omega
        have hkj : ¬ (40 : Int) < (M : Int) := by omega
        have f_0 := HF0.out.c 0 _ rfl
        have f_1 := HF0.out.c 1 _ rfl
        have f_2 := HF0.out.c 2 _ rfl
        have f_3 := HF0.out.c 3 _ rfl
        have f_4 := HF0.out.c 4 _ rfl
        go_upto_region 5 with fail
        rw [← hW]
        try rw [← hx]
        try rw [← hg]
        clear hW hx hg RG RX B sz h3 h1 hki hkj f_0 f_1 f_2 f_3 f_4 HF0 HB0
        by_cases hok : (setB kp ti lo hi && timeB d) = true
        · have hs : setB kp ti lo hi = true := (Bool.and_eq_true _ _ ▸ hok).1
          have htm : timeB d = true := (Bool.and_eq_true _ _ ▸ hok).2
          have HS := Lib.hid hs
          have HTM := Lib.hid htm
          clear hok hs htm
          go_wp2_with fail
          go_loopw [11, 12, 13] (fun l b i wr => ∃ (k : Nat) (L B : Int) (rd : Bool) (sm rs : Int), l = .int .i64 L ∧ b = .int .i64 B ∧ i = .int .i64 k ∧ k ≤ M ∧ Hid (Vel w f g x kp ti lo hi rv k L B rd sm rs wr)) (fun _ _ i _ => M - (intOf i).toNat)
          case atStart => exact ⟨0, 0, 0, false, 0, 0, rfl, rfl, rfl, by omega, Lib.hid ⟨HF.out, HG.out, HX.out, HB.out, .inl ⟨rfl, rfl, rfl, rfl⟩⟩⟩
          case round =>
            obtain ⟨k, L, B, rd, sm, rs, rfl, rfl, rfl, hk, hH⟩ := hrel
            by_cases hlt : k < M
            · obtain ⟨sb, so, rfl, hsl, hsc⟩ := (HIA.out.keep hH.out.bel).at iL_len (by have := HN.out; omega)
              obtain ⟨mb, mo, rfl, hml, hmc⟩ := (HIB.out.keep hH.out.bel).at iL_len (by have := HM.out; omega)
              obtain ⟨a, ha⟩ : ∃ x, lsA[k]? = some x := ⟨_, List.getElem?_eq_getElem (by have := HN.out; omega)⟩
              obtain ⟨b, hbb⟩ : ∃ x, lsB[k]? = some x := ⟨_, List.getElem?_eq_getElem (by have := HM.out; omega)⟩
              have s0 := hsc k _ ha 0 _ rfl
              have m0 := hmc k _ hbb 0 _ rfl
              rw [Nat.add_zero, Nat.mul_one] at s0 m0
              clear hsl hsc hml hmc ha hbb
              have k1 : (0 : Int) ≤ (k : Int) := by omega
              have k2 : (k : Int) < (M : Int) := by omega
              have k3 : M ≤ 40 := HK.out
              have g_0 := hH.out.rg.c 0 _ rfl
              have g_1 := hH.out.rg.c 1 _ rfl
              have g_2 := hH.out.rg.c 2 _ rfl
              have g_3 := hH.out.rg.c 3 _ rfl
              have g_4 := hH.out.rg.c 4 _ rfl
              have HC := Lib.hid (show V7 wr g sb so mb mo k kp ti lo hi rv a b wr from ⟨g_0, g_1, g_2, g_3, g_4, s0, m0, Below.refl _ _⟩)
              have HCD := Lib.hid (v7_drew HC.out HC.out)
              obtain ⟨p, hp⟩ : ∃ p, p = propI kp rv a b := ⟨_, rfl⟩
              have KP := Lib.hid (fun w => show Calls Try.prog 8 #[.agg #[.int .i64 kp, .int .i64 ti, .int .i64 lo, .int .i64 hi, .bool rv], .int .i64 a, .int .i64 b] w fun e w' => e = .returned (.int .i64 p) ∧ Below w.heap.size w w' by rw [hp]; exact prop_any kp ti lo hi rv a b w)
              have HP := Lib.hid hp
              clear hp
              have HFr := Lib.hid hH.out.rf
              have HGr := Lib.hid hH.out.rg
              have HXr := Lib.hid hH.out.rx
              have HBr := Lib.hid hH.out.bel
              have HINV := Lib.hid hH.out.inv
              clear hH
              go_upto_region 8 with fail
              go_region_held3 (fun w' => w'.cell? ⟨g, 0, none⟩ = some (.int .i64 kp) ∧ w'.cell? ⟨g, 1, none⟩ = some (.int .i64 ti) ∧ w'.cell? ⟨g, 2, none⟩ = some (.int .i64 lo) ∧ w'.cell? ⟨g, 3, none⟩ = some (.int .i64 hi) ∧ w'.cell? ⟨g, 4, none⟩ = some (.bool rv) ∧ w'.cell? ⟨sb, so + k, none⟩ = some (.int .i64 a) ∧ w'.cell? ⟨mb, mo + k, none⟩ = some (.int .i64 b) ∧ Below wr.heap.size wr w')
                (first | (with_reducible exact HC.out) | (with_reducible exact HCD.out) | (with_reducible exact HS1.out) | (with_reducible exact v7_drew HC.out HS1.out) | go_keep)
                (first | (go_at_call 8; refine (KP.out _).mono ?_; rintro e x1 ⟨rfl, hb2⟩; have HS1 : Hid (V7 wr g sb so mb mo k kp ti lo hi rv a b x1) := v7_keep HC.out hb2 (by first | assumption | exact HC.out | exact HCD.out)) | (fail))
              rename_i hHeld
              clear hHeld
              have hbx := v7_bel HS1.out
              have HF1 := Lib.hid (HFr.out.keep hbx)
              have HG1 := Lib.hid (HGr.out.keep hbx)
              have HX1 := Lib.hid (HXr.out.keep hbx)
              have HB1 := Lib.hid (HBr.out.trans (hbx.mono HBr.out.size))
              have hS1 := HS1.out
              obtain ⟨_, _, _, _, _, s1, m1, _⟩ := hS1
              clear hbx HC HCD HFr HGr HXr HBr g_0 g_1 g_2 g_3 g_4 s0 m0 HS1 KP
              have HPR := Lib.hid (show -1000000000000 ≤ p ∧ p ≤ 1000000000000 by rw [HP.out]; exact propI_range _ _ _ _)
              have hpos : posB sm rs = true := by rcases HINV.out with ⟨_, _, h, h'⟩ | ⟨_, _, h, _⟩; rw [h, h']; rfl; exact h
              obtain ⟨NS, hNS⟩ : ∃ v, v = newS ti lo hi (begS rd lo p sm) (begR rd rs) p d := ⟨_, rfl⟩
              obtain ⟨NR, hNR⟩ : ∃ v, v = newR ti lo hi (begS rd lo p sm) (begR rd rs) p d := ⟨_, rfl⟩
              have hsc := scan_of (rd := rd) p HS.out hpos HTM.out HT.out HPR.out.1 HPR.out.2
              have hnx := hsc.next
              have hwk := hsc.walk
              rw [← hNS, ← hNR] at hnx
              have KC := Lib.hid (fun w => show Calls Try.prog 9 #[.agg #[.int .i64 kp, .int .i64 ti, .int .i64 lo, .int .i64 hi, .bool rv], .agg #[.bool rd, .int .i64 sm, .int .i64 rs], .int .i64 a, .int .i64 b, .int .i64 d] w fun e w' => e = .returned (.tuple #[.agg #[.bool true, .int .i64 NS, .int .i64 NR], .int .i64 (p + NS), .int .i64 0]) ∧ Below w.heap.size w w' by
                have h := control_yes kp ti lo hi rv rd sm rs a b d w HS.out hpos HTM.out HT.out
                unfold ctlV at h
                rw [← HP.out, ← hNS, ← hNR] at h
                exact h)
              have HNS := Lib.hid hNS
              have HNX := Lib.hid hnx
              have HWK := Lib.hid hwk
              clear hNS hNR hsc hnx hwk hpos
              have g_0 := HG1.out.c 0 _ rfl
              have g_1 := HG1.out.c 1 _ rfl
              have g_2 := HG1.out.c 2 _ rfl
              have g_3 := HG1.out.c 3 _ rfl
              have g_4 := HG1.out.c 4 _ rfl
              have x_0 := HX1.out.c 0 _ rfl
              have x_1 := HX1.out.c 1 _ rfl
              have x_2 := HX1.out.c 2 _ rfl
              have HC := Lib.hid (show V10 x1 g x sb so mb mo k kp ti lo hi rv rd sm rs a b x1 from ⟨g_0, g_1, g_2, g_3, g_4, x_0, x_1, x_2, s1, m1, Below.refl _ _⟩)
              have HCD := Lib.hid (v10_drew HC.out HC.out)
              go_upto_region 9 with fail
              go_cut [15, 16, 17] from 54 to 68 (fun q oo ee wx => ∃ NB : Nat, q = .pointer (some ⟨NB, 0, none⟩) ∧ oo = .int .i64 (p + NS) ∧ ee = .int .i64 0 ∧ Hid (x1.heap.size ≤ NB ∧ RowAt wx NB [.bool true, .int .i64 NS, .int .i64 NR] ∧ Below x1.heap.size x1 wx))
              case first =>
                go_region_held3 (fun w' => w'.cell? ⟨g, 0, none⟩ = some (.int .i64 kp) ∧ w'.cell? ⟨g, 1, none⟩ = some (.int .i64 ti) ∧ w'.cell? ⟨g, 2, none⟩ = some (.int .i64 lo) ∧ w'.cell? ⟨g, 3, none⟩ = some (.int .i64 hi) ∧ w'.cell? ⟨g, 4, none⟩ = some (.bool rv) ∧ w'.cell? ⟨x, 0, none⟩ = some (.bool rd) ∧ w'.cell? ⟨x, 1, none⟩ = some (.int .i64 sm) ∧ w'.cell? ⟨x, 2, none⟩ = some (.int .i64 rs) ∧ w'.cell? ⟨sb, so + k, none⟩ = some (.int .i64 a) ∧ w'.cell? ⟨mb, mo + k, none⟩ = some (.int .i64 b) ∧ Below x1.heap.size x1 w')
                  (first | (with_reducible exact HC.out) | (with_reducible exact HCD.out) | (with_reducible exact HS1.out) | (with_reducible exact v10_alloc HC.out _ HC.out) | (with_reducible exact v10_drew HC.out (v10_alloc HC.out _ HC.out)) | (with_reducible exact v10_alloc HC.out _ HS1.out) | (with_reducible exact v10_drew HC.out HS1.out) | (with_reducible exact v10_drew HC.out (v10_alloc HC.out _ HS1.out)) | (exact v10_of HC.out (set_below (v10_bel HS1.out) (Nat.le_refl _) [.bool true, .int .i64 NS, .int .i64 NR])) | (go_keep))
                  (first | (go_at_call 9; refine (KC.out _).mono ?_; rintro e x2 ⟨rfl, hb2⟩; have HS1 : Hid (V10 x1 g x sb so mb mo k kp ti lo hi rv rd sm rs a b x2) := v10_keep HC.out hb2 (by first | assumption | exact HC.out | exact HCD.out | exact v10_alloc HC.out _ HC.out | exact v10_drew HC.out (v10_alloc HC.out _ HC.out) | exact v10_alloc HC.out _ (by assumption) | exact v10_drew HC.out (by assumption)); (first | (with_reducible have nn := rf_kept (A := #[.bool false, .int .i64 0, .int .i64 0]) hb2) | (with_reducible have nn := rf_kept_drew (A := #[.bool false, .int .i64 0, .int .i64 0]) hb2) | (have nn := nn.keep hb2) | (have nn := row_keep_drew nn hb2) | skip); (try rw [World.size_alloc] at nn); (try (have n0 := nn.c 0 _ rfl; have n1 := nn.c 1 _ rfl; have n2 := nn.c 2 _ rfl; have nz := nn.fz))) | (fail))
                all_goals
                  rename_i hHeld
                  clear hHeld
                  go_wp2_with fail
                  go_meet
                all_goals first | exact ⟨_, rfl, rfl, rfl, Lib.hid ⟨(v10_bel HS1.out).size, row_fresh _ _ _, (v10_bel HS1.out).alloc (v10_bel HS1.out).size _⟩⟩ | exact ⟨_, rfl, rfl, rfl, Lib.hid ⟨Nat.le_refl _, nn.setRow [.bool true, .int .i64 NS, .int .i64 NR] rfl, set_below (v10_bel HS1.out) (Nat.le_refl _) [.bool true, .int .i64 NS, .int .i64 NR]⟩⟩
              case rest =>
                obtain ⟨y, rfl, rfl, rfl, hcc⟩ := hcut
                have HYL := Lib.hid hcc.out.1
                have HX1L := Lib.hid HX1.out.lt
                have HY2 := Lib.hid hcc.out.2.1
                have hbx := hcc.out.2.2
                have HF2 := Lib.hid (HF1.out.keep hbx)
                have HG2 := Lib.hid (HG1.out.keep hbx)
                have HX2 := Lib.hid (HX1.out.keep hbx)
                have HB2 := Lib.hid (HB1.out.trans (hbx.mono HB1.out.size))
                clear hcc hbx HC HCD g_0 g_1 g_2 g_3 g_4 x_0 x_1 x_2 s1 m1 HF1 HG1 HX1 HB1
                have HXY := Lib.hid (show x ≠ y from fun e => by have h1 := HX1L.out; have h2 := HYL.out; omega)
                rcases HINV.out with hinv | hinv
                · obtain ⟨rfl, rfl, rfl, rfl⟩ := hinv

                  have hwk := HWK.out
                  have hpr := HPR.out
                  have hnx := HNX.out
                  have hse := set_of HS.out
                  obtain ⟨Q, hQ⟩ : ∃ v, v = (totI (0) p d).tdiv ti := ⟨_, rfl⟩
                  have hv : p + NS = max lo (min hi (lo + p - p + Q)) := by rw [HNS.out, hQ]; exact velocity ti lo hi (lo - p) (0) p (p) d (lo) hse.2.2 (by omega)
                  obtain ⟨⟨a0, a1⟩, ⟨b0, b1⟩, ⟨c0, c1⟩, _, _⟩ := hwk
                  have c0 : -86400000000100000 ≤ Q := by rw [hQ]; exact c0
                  have c1 : Q ≤ 86400000000100000 := by rw [hQ]; exact c1
                  have b0 : -86400000000100000 ≤ p * d + 0 := b0
                  have b1 : p * d + 0 ≤ 86400000000100000 := b1
                  have hq : (p * d).tdiv ti = Q := by rw [hQ]; unfold totI; (first | rfl | rw [Int.add_zero])
                  have hor := out_range ti lo hi (lo - p) (0) p d hse.2.2
                  have hos : lo ≤ p + NS ∧ p + NS ≤ hi := by rw [HNS.out]; exact hor
                  obtain ⟨hp0, hp1⟩ := hpr
                  obtain ⟨⟨n0, n1⟩, r0, r1⟩ := hnx
                  obtain ⟨e0, e1, e2⟩ := hse
                  obtain ⟨o0, o1⟩ := hos
                  have w1 : IntKind.i64.wrap (p * d) = p * d := IntWalk.i64_in _ (by omega)
                  have w2 : IntKind.i64.wrap (p * d + 0) = p * d + 0 := IntWalk.i64_in _ (by omega)
                  have w3 : IntKind.i64.wrap (p + NS) = p + NS := IntWalk.i64_in _ (by omega)
                  have w4 : IntKind.i64.wrap (lo + p) = lo + p := IntWalk.i64_in _ (by omega)
                  have w5 : IntKind.i64.wrap (lo + p - p) = lo + p - p := IntWalk.i64_in _ (by omega)
                  have w6 : IntKind.i64.wrap (lo + p - p + Q) = lo + p - p + Q := IntWalk.i64_in _ (by omega)
                  have hvv := hv.symm
                  have tti : (ti == 0) = false := by rw [beq_eq_false_iff_ne]; exact HT.out
                  have hti : ¬ ti = 0 := HT.out
                  have HPOS := Lib.hid (posB_of (sm := NS) (rs := NR) n0 n1 r0 r1)
                  have HOO := Lib.hid (And.intro o0 o1)
                  clear hQ hv hor
                  have hv2 : max lo (min hi (lo + Q)) = p + NS := by rw [← hvv]; congr 2; omega
                  have hf := HF2.out
                  have hx := HX2.out
                  have hy := HY2.out
                  have f_0 := hf.c 0 _ rfl
                  have f_1 := hf.c 1 _ rfl
                  have f_2 := hf.c 2 _ rfl
                  have f_3 := hf.c 3 _ rfl
                  have f_4 := hf.c 4 _ rfl
                  have x_0 := hx.c 0 _ rfl
                  have x_1 := hx.c 1 _ rfl
                  have x_2 := hx.c 2 _ rfl
                  have x_z := hx.fz
                  have y_0 := hy.c 0 _ rfl
                  have y_1 := hy.c 1 _ rfl
                  have y_2 := hy.c 2 _ rfl
                  clear hf hx hy
                  go_upto_region 14 with fail
                  obtain ⟨W3, hW3⟩ : ∃ v, v = wc.setCell ⟨x, 2, none⟩ (.int .i64 0) := ⟨_, rfl⟩
                  have HF3 := Lib.hid (show RowAt W3 f [.int .i64 kp, .int .i64 ti, .int .i64 lo, .int .i64 hi, .bool rv] by rw [hW3]; exact row_at HF2.out HXF.out _ _)
                  have HG3 := Lib.hid (show RowAt W3 g [.int .i64 kp, .int .i64 ti, .int .i64 lo, .int .i64 hi, .bool rv] by rw [hW3]; exact row_at HG2.out HXG.out _ _)
                  have HX3 := Lib.hid (show RowAt W3 x [.bool false, .int .i64 0, .int .i64 0] by rw [hW3]; exact row_two HX2.out _)
                  have HY3 := Lib.hid (show RowAt W3 y [.bool true, .int .i64 NS, .int .i64 NR] by rw [hW3]; exact row_at HY2.out HXY.out _ _)
                  have HB3 := Lib.hid (show Below w.heap.size w W3 by rw [hW3]; exact set_below HB2.out HXW.out [] |>.setCell (p := ⟨x, 2, none⟩) HXW.out _)
                  rw [← hW3]
                  clear hW3 f_0 f_1 f_2 f_3 f_4 x_0 x_1 x_2 x_z y_0 y_1 y_2
                  have hf := HF3.out
                  have hx := HX3.out
                  have hy := HY3.out
                  have f_0 := hf.c 0 _ rfl
                  have f_1 := hf.c 1 _ rfl
                  have f_2 := hf.c 2 _ rfl
                  have f_3 := hf.c 3 _ rfl
                  have f_4 := hf.c 4 _ rfl
                  have x_0 := hx.c 0 _ rfl
                  have x_1 := hx.c 1 _ rfl
                  have x_2 := hx.c 2 _ rfl
                  have x_z := hx.fz
                  have y_0 := hy.c 0 _ rfl
                  have y_1 := hy.c 1 _ rfl
                  have y_2 := hy.c 2 _ rfl
                  clear hf hx hy
                  go_wp2_with fail
                  go_roundw
                  case rel => exact ⟨0 + 1, p + NS, p, true, NS, NR, rfl, rfl, by go_num, by omega, Lib.hid ⟨HF3.out.other HXF.out [.bool true, .int .i64 NS, .int .i64 NR], HG3.out.other HXG.out [.bool true, .int .i64 NS, .int .i64 NR], HX3.out.setRow [.bool true, .int .i64 NS, .int .i64 NR] rfl, set_below HB3.out HXW.out [.bool true, .int .i64 NS, .int .i64 NR], .inr ⟨by omega, rfl, HPOS.out, rfl, HOO.out.1, HOO.out.2, hp0, hp1⟩⟩⟩
                  case measure => (simp [intOf]) <;> omega
                · obtain ⟨hk0, rfl, hps, hLB, hL0, hL1, hB0, hB1⟩ := hinv
                  have hk0i : ¬ (k : Int) = 0 := by omega
                  have hk0b : ((k : Int) == 0) = false := by rw [beq_eq_false_iff_ne]; exact hk0i
                  have HLB := Lib.hid hLB
                  have hwk := HWK.out
                  have hpr := HPR.out
                  have hnx := HNX.out
                  have hse := set_of HS.out
                  obtain ⟨Q, hQ⟩ : ∃ v, v = (totI (rs) p d).tdiv ti := ⟨_, rfl⟩
                  have hv : p + NS = max lo (min hi (L + p - B + Q)) := by rw [HNS.out, hQ]; exact velocity ti lo hi (sm) (rs) p (B) d (L) hse.2.2 (by omega)
                  obtain ⟨⟨a0, a1⟩, ⟨b0, b1⟩, ⟨c0, c1⟩, _, _⟩ := hwk
                  have c0 : -86400000000100000 ≤ Q := by rw [hQ]; exact c0
                  have c1 : Q ≤ 86400000000100000 := by rw [hQ]; exact c1
                  have b0 : -86400000000100000 ≤ p * d + rs := b0
                  have b1 : p * d + rs ≤ 86400000000100000 := b1
                  have hq : (p * d + rs).tdiv ti = Q := by rw [hQ]; unfold totI; (first | rfl | rw [Int.add_zero])
                  have hor := out_range ti lo hi (sm) (rs) p d hse.2.2
                  have hos : lo ≤ p + NS ∧ p + NS ≤ hi := by rw [HNS.out]; exact hor
                  obtain ⟨hp0, hp1⟩ := hpr
                  obtain ⟨⟨n0, n1⟩, r0, r1⟩ := hnx
                  obtain ⟨e0, e1, e2⟩ := hse
                  obtain ⟨o0, o1⟩ := hos
                  have w1 : IntKind.i64.wrap (p * d) = p * d := IntWalk.i64_in _ (by omega)
                  have w2 : IntKind.i64.wrap (p * d + rs) = p * d + rs := IntWalk.i64_in _ (by omega)
                  have w3 : IntKind.i64.wrap (p + NS) = p + NS := IntWalk.i64_in _ (by omega)
                  have w4 : IntKind.i64.wrap (L + p) = L + p := IntWalk.i64_in _ (by omega)
                  have w5 : IntKind.i64.wrap (L + p - B) = L + p - B := IntWalk.i64_in _ (by omega)
                  have w6 : IntKind.i64.wrap (L + p - B + Q) = L + p - B + Q := IntWalk.i64_in _ (by omega)
                  have hvv := hv.symm
                  have tti : (ti == 0) = false := by rw [beq_eq_false_iff_ne]; exact HT.out
                  have hti : ¬ ti = 0 := HT.out
                  have HPOS := Lib.hid (posB_of (sm := NS) (rs := NR) n0 n1 r0 r1)
                  have HOO := Lib.hid (And.intro o0 o1)
                  clear hQ hv hor hLB
                  have hf := HF2.out
                  have hx := HX2.out
                  have hy := HY2.out
                  have f_0 := hf.c 0 _ rfl
                  have f_1 := hf.c 1 _ rfl
                  have f_2 := hf.c 2 _ rfl
                  have f_3 := hf.c 3 _ rfl
                  have f_4 := hf.c 4 _ rfl
                  have x_0 := hx.c 0 _ rfl
                  have x_1 := hx.c 1 _ rfl
                  have x_2 := hx.c 2 _ rfl
                  have x_z := hx.fz
                  have y_0 := hy.c 0 _ rfl
                  have y_1 := hy.c 1 _ rfl
                  have y_2 := hy.c 2 _ rfl
                  clear hf hx hy
                  go_wp2_with fail
                  go_roundw
                  case rel => exact ⟨k + 1, p + NS, p, true, NS, NR, rfl, rfl, by go_num, by omega, Lib.hid ⟨HF2.out.other HXF.out [.bool true, .int .i64 NS, .int .i64 NR], HG2.out.other HXG.out [.bool true, .int .i64 NS, .int .i64 NR], HX2.out.setRow [.bool true, .int .i64 NS, .int .i64 NR] rfl, set_below HB2.out HXW.out [.bool true, .int .i64 NS, .int .i64 NR], .inr ⟨by omega, rfl, HPOS.out, rfl, HOO.out.1, HOO.out.2, hp0, hp1⟩⟩⟩
                  case measure => (simp [intOf]) <;> omega
            · obtain rfl : k = M := by omega
              have HBr := Lib.hid hH.out.bel
              clear hH
              go_wp2_with fail
              refine (HAW.out _).mono ?_
              rintro e wz ⟨rfl, hb⟩
              go_wp2_with fail
              go_ret
              exact ⟨rfl, HBr.out.trans (hb.mono HBr.out.size)⟩
        · have HOK := Lib.hid hok
          clear hok
          go_wp2_with fail
          go_loopw [11, 12, 13] (fun l b i wr => ∃ k : Nat, i = .int .i64 k ∧ k ≤ M ∧ Hid (k = 0 ∧ Vel w f g x kp ti lo hi rv 0 0 0 false 0 0 wr)) (fun _ _ i _ => M - (intOf i).toNat)
          case atStart => exact ⟨0, rfl, by omega, Lib.hid ⟨rfl, HF.out, HG.out, HX.out, HB.out, .inl ⟨rfl, rfl, rfl, rfl⟩⟩⟩
          case round =>
            obtain ⟨k, rfl, hk, hH0⟩ := hrel
            have hH := Lib.hid hH0.out.2
            have HK0 := Lib.hid hH0.out.1
            clear hH0
            by_cases hlt : k < M
            · obtain ⟨sb, so, rfl, hsl, hsc⟩ := (HIA.out.keep hH.out.bel).at iL_len (by have := HN.out; omega)
              obtain ⟨mb, mo, rfl, hml, hmc⟩ := (HIB.out.keep hH.out.bel).at iL_len (by have := HM.out; omega)
              obtain ⟨a, ha⟩ : ∃ x, lsA[k]? = some x := ⟨_, List.getElem?_eq_getElem (by have := HN.out; omega)⟩
              obtain ⟨b, hbb⟩ : ∃ x, lsB[k]? = some x := ⟨_, List.getElem?_eq_getElem (by have := HM.out; omega)⟩
              have s0 := hsc k _ ha 0 _ rfl
              have m0 := hmc k _ hbb 0 _ rfl
              rw [Nat.add_zero, Nat.mul_one] at s0 m0
              clear hsl hsc hml hmc ha hbb
              have k1 : (0 : Int) ≤ (k : Int) := by omega
              have k2 : (k : Int) < (M : Int) := by omega
              have k3 : M ≤ 40 := HK.out
              have g_0 := hH.out.rg.c 0 _ rfl
              have g_1 := hH.out.rg.c 1 _ rfl
              have g_2 := hH.out.rg.c 2 _ rfl
              have g_3 := hH.out.rg.c 3 _ rfl
              have g_4 := hH.out.rg.c 4 _ rfl
              have HC := Lib.hid (show V7 wr g sb so mb mo k kp ti lo hi rv a b wr from ⟨g_0, g_1, g_2, g_3, g_4, s0, m0, Below.refl _ _⟩)
              have HCD := Lib.hid (v7_drew HC.out HC.out)
              obtain ⟨p, hp⟩ : ∃ p, p = propI kp rv a b := ⟨_, rfl⟩
              have KP := Lib.hid (fun w => show Calls Try.prog 8 #[.agg #[.int .i64 kp, .int .i64 ti, .int .i64 lo, .int .i64 hi, .bool rv], .int .i64 a, .int .i64 b] w fun e w' => e = .returned (.int .i64 p) ∧ Below w.heap.size w w' by rw [hp]; exact prop_any kp ti lo hi rv a b w)
              have HP := Lib.hid hp
              clear hp
              have HFr := Lib.hid hH.out.rf
              have HGr := Lib.hid hH.out.rg
              have HXr := Lib.hid hH.out.rx
              have HBr := Lib.hid hH.out.bel
              have HINV := Lib.hid hH.out.inv
              clear hH
              go_upto_region 8 with fail
              go_region_held3 (fun w' => w'.cell? ⟨g, 0, none⟩ = some (.int .i64 kp) ∧ w'.cell? ⟨g, 1, none⟩ = some (.int .i64 ti) ∧ w'.cell? ⟨g, 2, none⟩ = some (.int .i64 lo) ∧ w'.cell? ⟨g, 3, none⟩ = some (.int .i64 hi) ∧ w'.cell? ⟨g, 4, none⟩ = some (.bool rv) ∧ w'.cell? ⟨sb, so + k, none⟩ = some (.int .i64 a) ∧ w'.cell? ⟨mb, mo + k, none⟩ = some (.int .i64 b) ∧ Below wr.heap.size wr w')
                (first | (with_reducible exact HC.out) | (with_reducible exact HCD.out) | (with_reducible exact HS1.out) | (with_reducible exact v7_drew HC.out HS1.out) | go_keep)
                (first | (go_at_call 8; refine (KP.out _).mono ?_; rintro e x1 ⟨rfl, hb2⟩; have HS1 : Hid (V7 wr g sb so mb mo k kp ti lo hi rv a b x1) := v7_keep HC.out hb2 (by first | assumption | exact HC.out | exact HCD.out)) | (fail))
              rename_i hHeld
              clear hHeld
              have hbx := v7_bel HS1.out
              have HF1 := Lib.hid (HFr.out.keep hbx)
              have HG1 := Lib.hid (HGr.out.keep hbx)
              have HX1 := Lib.hid (HXr.out.keep hbx)
              have HB1 := Lib.hid (HBr.out.trans (hbx.mono HBr.out.size))
              have hS1 := HS1.out
              obtain ⟨_, _, _, _, _, s1, m1, _⟩ := hS1
              clear hbx HC HCD HFr HGr HXr HBr g_0 g_1 g_2 g_3 g_4 s0 m0 HS1 KP
              have KC := Lib.hid (fun w => control_no kp ti lo hi rv false 0 0 a b d w (show okB kp ti lo hi 0 0 d = false by
                have h : (setB kp ti lo hi && timeB d) = false := by cases h : (setB kp ti lo hi && timeB d); rfl; exact absurd h HOK.out
                unfold okB
                rw [show posB 0 0 = true from rfl, Bool.and_true]
                exact h))
              have g_0 := HG1.out.c 0 _ rfl
              have g_1 := HG1.out.c 1 _ rfl
              have g_2 := HG1.out.c 2 _ rfl
              have g_3 := HG1.out.c 3 _ rfl
              have g_4 := HG1.out.c 4 _ rfl
              have x_0 := HX1.out.c 0 _ rfl
              have x_1 := HX1.out.c 1 _ rfl
              have x_2 := HX1.out.c 2 _ rfl
              have HC := Lib.hid (show V10 x1 g x sb so mb mo k kp ti lo hi rv false 0 0 a b x1 from ⟨g_0, g_1, g_2, g_3, g_4, x_0, x_1, x_2, s1, m1, Below.refl _ _⟩)
              have HCD := Lib.hid (v10_drew HC.out HC.out)
              go_upto_region 9 with fail
              go_cut [15, 16, 17] from 54 to 68 (fun q oo ee wx => ∃ NB : Nat, q = .pointer (some ⟨NB, 0, none⟩) ∧ oo = .int .i64 0 ∧ ee = .int .i64 1 ∧ Hid (x1.heap.size ≤ NB ∧ RowAt wx NB [.bool false, .int .i64 0, .int .i64 0] ∧ Below x1.heap.size x1 wx))
              case first =>
                go_region_held3 (fun w' => w'.cell? ⟨g, 0, none⟩ = some (.int .i64 kp) ∧ w'.cell? ⟨g, 1, none⟩ = some (.int .i64 ti) ∧ w'.cell? ⟨g, 2, none⟩ = some (.int .i64 lo) ∧ w'.cell? ⟨g, 3, none⟩ = some (.int .i64 hi) ∧ w'.cell? ⟨g, 4, none⟩ = some (.bool rv) ∧ w'.cell? ⟨x, 0, none⟩ = some (.bool false) ∧ w'.cell? ⟨x, 1, none⟩ = some (.int .i64 0) ∧ w'.cell? ⟨x, 2, none⟩ = some (.int .i64 0) ∧ w'.cell? ⟨sb, so + k, none⟩ = some (.int .i64 a) ∧ w'.cell? ⟨mb, mo + k, none⟩ = some (.int .i64 b) ∧ Below x1.heap.size x1 w')
                  (first | (with_reducible exact HC.out) | (with_reducible exact HCD.out) | (with_reducible exact HS1.out) | (with_reducible exact v10_alloc HC.out _ HC.out) | (with_reducible exact v10_drew HC.out (v10_alloc HC.out _ HC.out)) | (with_reducible exact v10_alloc HC.out _ HS1.out) | (with_reducible exact v10_drew HC.out HS1.out) | (with_reducible exact v10_drew HC.out (v10_alloc HC.out _ HS1.out)) | (exact v10_of HC.out (set_below (v10_bel HS1.out) (Nat.le_refl _) [.bool false, .int .i64 0, .int .i64 0])) | (go_keep))
                  (first | (go_at_call 9; refine (KC.out _).mono ?_; rintro e x2 ⟨rfl, hb2⟩; have HS1 : Hid (V10 x1 g x sb so mb mo k kp ti lo hi rv false 0 0 a b x2) := v10_keep HC.out hb2 (by first | assumption | exact HC.out | exact HCD.out | exact v10_alloc HC.out _ HC.out | exact v10_drew HC.out (v10_alloc HC.out _ HC.out) | exact v10_alloc HC.out _ (by assumption) | exact v10_drew HC.out (by assumption)); (first | (with_reducible have nn := rf_kept (A := #[.bool false, .int .i64 0, .int .i64 0]) hb2) | (with_reducible have nn := rf_kept_drew (A := #[.bool false, .int .i64 0, .int .i64 0]) hb2) | (have nn := nn.keep hb2) | (have nn := row_keep_drew nn hb2) | skip); (try rw [World.size_alloc] at nn); (try (have n0 := nn.c 0 _ rfl; have n1 := nn.c 1 _ rfl; have n2 := nn.c 2 _ rfl; have nz := nn.fz))) | (fail))
                all_goals
                  rename_i hHeld
                  clear hHeld
                  go_wp2_with fail
                  go_meet
                all_goals first | exact ⟨_, rfl, rfl, rfl, Lib.hid ⟨(v10_bel HS1.out).size, row_fresh _ _ _, (v10_bel HS1.out).alloc (v10_bel HS1.out).size _⟩⟩ | exact ⟨_, rfl, rfl, rfl, Lib.hid ⟨Nat.le_refl _, nn.setRow [.bool false, .int .i64 0, .int .i64 0] rfl, set_below (v10_bel HS1.out) (Nat.le_refl _) [.bool false, .int .i64 0, .int .i64 0]⟩⟩
              case rest =>
                obtain ⟨y, rfl, rfl, rfl, hcc⟩ := hcut
                have HYL := Lib.hid hcc.out.1
                have HX1L := Lib.hid HX1.out.lt
                have HY2 := Lib.hid hcc.out.2.1
                have hbx := hcc.out.2.2
                have HF2 := Lib.hid (HF1.out.keep hbx)
                have HG2 := Lib.hid (HG1.out.keep hbx)
                have HX2 := Lib.hid (HX1.out.keep hbx)
                have HB2 := Lib.hid (HB1.out.trans (hbx.mono HB1.out.size))
                clear hcc hbx HC HCD g_0 g_1 g_2 g_3 g_4 x_0 x_1 x_2 s1 m1 HF1 HG1 HX1 HB1
                have tk : ((k : Int) == 0) = true := by rw [HK0.out]; rfl
                go_wp2_with fail
                refine (HAW.out _).mono ?_
                rintro e wz ⟨rfl, hb⟩
                go_wp2_with fail
                go_ret
                exact ⟨rfl, HB2.out.trans (hb.mono HB2.out.size)⟩
            · have HBr := Lib.hid hH.out.bel
              clear hH
              go_wp2_with fail
              refine (HAW.out _).mono ?_
              rintro e wz ⟨rfl, hb⟩
              go_wp2_with fail
              go_ret
              exact ⟨rfl, HBr.out.trans (hb.mono HBr.out.size)⟩
    · have f_0 := HF0.out.c 0 _ rfl
      have f_1 := HF0.out.c 1 _ rfl
      have f_2 := HF0.out.c 2 _ rfl
      have f_3 := HF0.out.c 3 _ rfl
      have f_4 := HF0.out.c 4 _ rfl
      have t2 : (M != N) = true := by simpa using h2
      have t3 : decide ((M : Int) = (N : Int)) = false := by rw [decide_eq_false_iff_not]; omega
      have f_0 := HF0.out.c 0 _ rfl
      have f_1 := HF0.out.c 1 _ rfl
      have f_2 := HF0.out.c 2 _ rfl
      have f_3 := HF0.out.c 3 _ rfl
      have f_4 := HF0.out.c 4 _ rfl
      go_wp2_with fail
      refine (HAW.out _).mono ?_
      rintro e wz ⟨rfl, hb⟩
      go_wp2_with fail
      go_ret
      exact ⟨rfl, HB0.out.trans (hb.mono HB0.out.size)⟩
end Go.Proofs.Ytepmeacdacnhmaa
