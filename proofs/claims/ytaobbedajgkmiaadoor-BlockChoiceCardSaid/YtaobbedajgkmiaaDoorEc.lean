/- block.Params with the list it answers; at a name that is none. -/
import Derived.Test.YtaobbedajgkmiaaDoorEa
import Derived.Test.YtaobbedajgkmiaaDoorEb
import Derived.Test.YtaobbedajgkmiaaDoorBh
namespace Go.Proofs.YtaobbedajgkmiaaDoor
open Go.RowKit Go.Shelf

set_option linter.unusedVariables false
set_option linter.unusedSimpArgs false
/-- the list of Params: nil with an error, else the numbers in the order of the parameters -/
def PrmA (w' : World) (E : Int) (xs : List Int) (v : Value) : Prop := (E ≠ 0 → v = .slice none 0 0) ∧ (E = 0 → ∃ a c, v = .slice a xs.length c ∧ InS w' a xs.length 1 (flat iL xs))
set_option maxHeartbeats 8000000 in
set_option maxRecDepth 100000 in
theorem params_list (s ro : ByteArray) (rm rs : Int) (pl : List BndD) (il : List PortD) (ag : List Int → Bool) (HF : FindOk s ro rm rs pl il) (HA : AgreeOk s pl ag) (la : Option Addr) (lc : Nat) (qs : List PrmD) (h20 : qs.length ≤ 100) (p20 : pl.length ≤ 100) (hsz : ∀ q ∈ qs, q.nm.size ≤ maxLen ∧ (Lit.int .i64 q.v).wf = true) (psz : ∀ x ∈ pl, x.nm.size ≤ maxLen) (w : World) (hm : MaxAt w) (hq : InS w la qs.length 2 (flat prmL qs)) :
    Calls Tryd.prog 16 #[.string s, .slice la qs.length lc] w fun e w' => ∃ v, e = .returned (.tuple #[v, .int .i64 (prmE pl qs ag)]) ∧ PrmA w' (prmE pl qs ag) (numsB pl (mapD qs qs.length)) v ∧ Below w.heap.size w w' := by
  obtain ⟨M, hM⟩ : ∃ M, M = qs.length := ⟨_, rfl⟩
  have HM := Lib.hid hM
  have m100 : M ≤ 100 := by omega
  have HQ := Lib.hid hq
  have KF := Lib.hid HF
  have KA := Lib.hid HA
  have HMX := Lib.hid hm
  have HSZ := Lib.hid hsz
  have PSZ := Lib.hid psz
  obtain ⟨i0, hif, hz0, hz1, hz2⟩ := info_parts infoI64
  have HIF := Lib.hid hif
  have HZ0 := Lib.hid hz0
  have HZ1 := Lib.hid hz1
  have HZ2 := Lib.hid hz2
  rw [← hM]
  have hmm := @run_makeMap Tryd.prog
  clear hM hq HF HA hm hsz psz h20 hif hz0 hz1 hz2
  obtain ⟨N, hN⟩ : ∃ N, N = pl.length := ⟨_, rfl⟩
  have HN := Lib.hid hN
  have n100 : N ≤ 100 := by omega
  clear p20
  go_enter Tryd.func16, Tryd.ntmps16
  go_wp2_with fail
  refine (KF.out _ HMX.out).mono ?_
  rintro e w1 ⟨D, rfl, ⟨v1, v2, ob, rfl, p1, p2, p3, p4⟩, hb⟩
  obtain ⟨a1, c1, rfl, i1⟩ := ins_own p1
  obtain ⟨a2, c2, rfl, i2⟩ := ins_own p2
  obtain ⟨n2, hn2⟩ : ∃ n, n = il.length := ⟨_, rfl⟩
  rw [← hN, ← hn2]
  obtain ⟨W2, g, hW2, hg, RG, B2, sz2⟩ := box1 w1 #[.string s, .slice a1 N c1, .slice a2 n2 c2, .slice (some ⟨ob, 0, none⟩) 1 1, .int .i64 rs, .int .i64 rm] 30
  have HG2 := Lib.hid RG
  have HP2 := Lib.hid (i1.keep B2)
  have HB2 := Lib.hid (hb.trans (B2.mono hb.size))
  clear p1 p2 p3 p4 i1 i2 hN hn2 hb B2 RG sz2
  go_upto_region 4 with fail
  rw [← hW2]
  try rw [← hg]
  clear hW2 hg
  obtain ⟨mb, hmb⟩ : ∃ b, b = W2.heap.size := ⟨_, rfl⟩
  have nal := (Below.refl W2.heap.size W2).alloc (Nat.le_refl _) (Obj.map #[] 0)
  have HO := Lib.hid (show (W2.alloc (Obj.map #[] 0)).ownsMap Tryd.prog 9 (plainElem Tryd.prog 2) mb 0 (mapD qs 0) by rw [mapD_zero, hmb]; exact World.ownsMap_made _ _ _ _)
  have HG3 := Lib.hid (HG2.out.keep nal)
  have HP3 := Lib.hid (HP2.out.keep nal)
  have HB3 := Lib.hid (HB2.out.trans (nal.mono HB2.out.size))
  have HMB := Lib.hid (show w.heap.size ≤ mb by have := HB2.out.size; omega)
  have HGM := Lib.hid (show g ≠ mb by have := HG2.out.lt; omega)
  clear nal HB2 HG2
  go_upto_region 6 with fail
  try rw [← hmb]
  obtain ⟨W3, hW3⟩ : ∃ v, v = W2.alloc (Obj.map #[] 0) := ⟨_, rfl⟩
  rw [← hW3] at HO HG3 HP3 HB3 ⊢
  have HP2L := Lib.hid (fun b off (h : a1 = some ⟨b, off, none⟩) (h0 : 0 < pl.length) => show b ≠ mb by
    obtain ⟨_, _, h1 | ⟨b', o', h1, hlt, _⟩⟩ := HP2.out
    · omega
    · rw [h] at h1; injection h1 with h1; injection h1 with h1 h2; omega)
  clear hmb hW3 HP2 hmm
  go_loopw [27] (fun i wr => ∃ k : Nat, k ≤ M ∧ i = .int .i64 k ∧ Hid (RowAt wr g [.string s, .slice a1 N c1, .slice a2 n2 c2, .slice (some ⟨ob, 0, none⟩) 1 1, .int .i64 rs, .int .i64 rm] ∧ InS wr a1 pl.length 4 (flat bndL pl) ∧ wr.ownsMap Tryd.prog 9 (plainElem Tryd.prog 2) mb k (mapD qs k) ∧ (∀ q ∈ qs.take k, (pl.any fun x => eqS x.nm q.nm) = true) ∧ Below w.heap.size w wr)) (fun i _ => M - (intOf i).toNat)
  case atStart => exact ⟨0, Nat.zero_le _, rfl, Lib.hid ⟨HG3.out, HP3.out, HO.out, fun q h => by simp at h, HB3.out⟩⟩
  case round =>
    obtain ⟨k, hk, rfl, hH⟩ := hrel
    have HG := Lib.hid hH.out.1
    have HP := Lib.hid hH.out.2.1
    have HO := Lib.hid hH.out.2.2.1
    have HK := Lib.hid hH.out.2.2.2.1
    have HB := Lib.hid hH.out.2.2.2.2
    clear hH HG3 HP3 HB3
    by_cases hlt : k < M
    · obtain ⟨lb, lo, rfl, hll, hlc⟩ := (HQ.out.keep HB.out).at prmL_len (by have := HM.out; omega)
      obtain ⟨q, hq⟩ : ∃ x, qs[k]? = some x := ⟨_, List.getElem?_eq_getElem (by have := HM.out; omega)⟩
      have l0 := hlc k _ hq 0 _ rfl
      have l1 := hlc k _ hq 1 _ rfl
      rw [Nat.add_zero] at l0
      have hsz := HSZ.out q (List.mem_of_getElem? hq)
      have HQK := Lib.hid hq
      have HSC := Lib.hid (mapD_succ hq)
      have HTK := Lib.hid (show qs.take (k + 1) = qs.take k ++ [q] by rw [List.take_add_one, hq]; rfl)
      obtain ⟨qn, qv⟩ := q
      have HKEY := Lib.hid (keyB_ok hsz.1)
      have HWF := Lib.hid hsz.2
      have k1 : (0 : Int) ≤ (k : Int) := by omega
      have k2 : (k : Int) < (M : Int) := by omega
      obtain ⟨W4, t, hW4, ht, RT, B4, sz4⟩ := box1 wr #[.string qn, .int .i64 qv] 63
      have HT := Lib.hid RT
      have HG4 := Lib.hid (HG.out.keep B4)
      have HP4 := Lib.hid (HP.out.keep B4)
      have HO4 := Lib.hid (map_keep HO.out B4)
      have HB4 := Lib.hid (HB.out.trans (B4.mono HB.out.size))
      have kc := con_any 30 #[.pointer (some ⟨t, 0, none⟩)] (fun x => eqS x.nm qn) a1 c1 pl W4 (fun _ _ => rfl) (fun W l k n d hb => prm1_any l k n d t qn qv W (HT.out.keep hb)) HP4.out
      rw [← HN.out] at kc
      obtain ⟨F, hF⟩ : ∃ F, F = pl.any (fun x => eqS x.nm qn) := ⟨_, rfl⟩
      rw [← hF] at kc
      have KC := Lib.hid kc
      have HF := Lib.hid hF
      have hmf : ∀ (fn : Fn) (first cap : Array Value) (w : World), (Instr.makeFunc fn first cap).run Tryd.prog w = .ok (.func fn first cap) w := fun _ _ _ _ => rfl
      clear hsz hq hlc hll kc hF RT B4 sz4
      go_upto_region 8 with fail
      rw [← hW4]
      try rw [← ht]
      clear hW4 ht
      have g_0 := HG4.out.c 0 _ rfl
      have g_1 := HG4.out.c 1 _ rfl
      have g_2 := HG4.out.c 2 _ rfl
      have g_3 := HG4.out.c 3 _ rfl
      have g_4 := HG4.out.c 4 _ rfl
      have g_5 := HG4.out.c 5 _ rfl
      go_wp2_with fail
      refine KC.out.mono ?_
      rintro e w5 ⟨rfl, hb⟩
      have HG5 := Lib.hid (HG4.out.keep hb)
      have HP5 := Lib.hid (HP4.out.keep hb)
      have HO5 := Lib.hid (map_keep HO4.out hb)
      have HB5 := Lib.hid (HB4.out.trans (hb.mono HB4.out.size))
      have HT5 := Lib.hid (HT.out.keep hb)
      clear hb g_0 g_1 g_2 g_3 g_4 g_5 HG4 HP4 HO4 HB4 HT
      cases F
      · have HE := Lib.hid (show prmE pl qs ag = 3 from if_pos (known_miss HQK.out HF.out.symm))
        go_wp2_with fail
        go_ret2
        exact ⟨_, (by rw [HE.out]; rfl), ⟨fun _ => rfl, fun h => absurd (HE.out.symm.trans h) (by decide)⟩, HB5.out⟩
      · have t_0 := HT5.out.c 0 _ rfl
        have t_1 := HT5.out.c 1 _ rfl
        go_wp2_with (at_mapUpdate; refine wpList_mapUpdate_own _ rfl _ _ _ 73 rfl 9 2 lawS Tryd.underlying73 (plainElem (H := Unit) Tryd.prog 2) mb k _ rfl HO5.out (by unfold maxLen; omega) _ _ _ rfl rfl HKEY.out _ [] (plainElem_int Tryd.underlying2 HWF.out) ?_; intro w6 hown6 hgrow6)
        have HG6 := Lib.hid (row_grown HG5.out hgrow6 (by simpa using HGM.out))
        have HB6 := Lib.hid (HB5.out.grown hgrow6 HB5.out.size (fun j e => by cases e; exact HMB.out))
        have HP6 := Lib.hid (ins_grown HP5.out hgrow6 HP2L.out)
        have HO6 := Lib.hid (show w6.ownsMap Tryd.prog 9 (plainElem Tryd.prog 2) mb (k + 1) (mapD qs (k + 1)) by rw [HSC.out]; exact hown6)
        have HK6 := Lib.hid (show ∀ q ∈ qs.take (k + 1), (pl.any fun x => eqS x.nm q.nm) = true by
          intro q hq
          rw [HTK.out] at hq
          rcases List.mem_append.1 hq with h | h
          · exact HK.out q h
          · obtain rfl : q = ⟨qn, qv⟩ := by simpa using h
            exact HF.out.symm)
        clear hown6 hgrow6 t_0 t_1 HG5 HP5 HO5 HB5 HT5
        go_wp2_with fail
        go_roundw
        case rel => exact ⟨k + 1, by omega, by go_num, Lib.hid ⟨HG6.out, HP6.out, HO6.out, HK6.out, HB6.out⟩⟩
        case measure => (simp [intOf]) <;> omega
    · obtain rfl : k = M := by omega
      have HALL := Lib.hid (show knownB pl qs = true from known_all (fun q h => HK.out q (by rw [List.take_of_length_le (by rw [← HM.out]; exact Nat.le_refl _)]; exact h)))
      have HLEN := Lib.hid (show mapD qs k = mapD qs qs.length by rw [HM.out])
      obtain ⟨DD, hDD⟩ : ∃ d, d = mapD qs qs.length := ⟨_, rfl⟩
      have HO2 := Lib.hid (show wr.ownsMap Tryd.prog 9 (plainElem Tryd.prog 2) mb k DD by rw [hDD, ← HLEN.out]; exact HO.out)
      have HDD := Lib.hid hDD
      obtain ⟨sz, hsz⟩ : ∃ z, z = Maps.size DD := ⟨_, rfl⟩
      have HSZZ := Lib.hid hsz
      clear hDD hsz HK HO
      by_cases hsm : sz = k
      · obtain ⟨WB, rfl⟩ : ∃ v, v = wr := ⟨_, rfl⟩
        have hks : k = sz := hsm.symm
        subst hks
        have HG0 := Lib.hid HG.out
        have HP0 := Lib.hid HP.out
        have HM0 := Lib.hid HO2.out
        have HBR := Lib.hid HB.out.size
        have h5 : decide ((k : Int) = (k : Int)) = true := by simp
        have h6 : ((k : Int) == (k : Int)) = true := by simp
        have g_0 := HG.out.c 0 _ rfl
        have g_1 := HG.out.c 1 _ rfl
        have g_2 := HG.out.c 2 _ rfl
        have g_3 := HG.out.c 3 _ rfl
        have g_4 := HG.out.c 4 _ rfl
        have g_5 := HG.out.c 5 _ rfl
        go_upto_region 14 with (at_len; refine wpList_len_own _ rfl _ 73 rfl 9 2 Tryd.underlying73 _ mb k _ rfl HO2.out ?_; rw [← HSZZ.out])
        clear h5 h6 hsm
        go_wp2_with fail
        clear g_0 g_1 g_2 g_3 g_4 g_5
        go_loopw [11, 50] (fun v i wr => ∃ j : Nat, j ≤ N ∧ i = .int .i64 j ∧ Hid (RowAt wr g [.string s, .slice a1 N c1, .slice a2 n2 c2, .slice (some ⟨ob, 0, none⟩) 1 1, .int .i64 rs, .int .i64 rm] ∧ InS wr a1 pl.length 4 (flat bndL pl) ∧ wr.ownsMap Tryd.prog 9 (plainElem Tryd.prog 2) mb k DD ∧ wr.ownsRow WB.heap.size 2 1 v j (flat iL ((numsB pl DD).take j)) ∧ Below w.heap.size w wr ∧ WB.heap.size ≤ wr.heap.size)) (fun _ i _ => N - (intOf i).toNat)
        case atStart => exact ⟨0, Nat.zero_le _, rfl, Lib.hid ⟨HG0.out, HP0.out, HM0.out, World.ownsRow_nil _ _ _ _, HB.out, Nat.le_refl _⟩⟩
        case round =>
          clear HG HP HB HO2
          obtain ⟨j, hj, rfl, hH⟩ := hrel
          have HG := Lib.hid hH.out.1
          have HP := Lib.hid hH.out.2.1
          have HO := Lib.hid hH.out.2.2.1
          have HV := Lib.hid hH.out.2.2.2.1
          have HB := Lib.hid hH.out.2.2.2.2.1
          have HS := Lib.hid hH.out.2.2.2.2.2
          clear hH
          by_cases hlt : j < N
          · obtain ⟨lb, lo, rfl, hll, hlc⟩ := HP.out.at bndL_len (by have := HN.out; omega)
            obtain ⟨x, hx⟩ : ∃ x, pl[j]? = some x := ⟨_, List.getElem?_eq_getElem (by have := HN.out; omega)⟩
            have l0 := hlc j _ hx 0 _ rfl
            have l1 := hlc j _ hx 1 _ rfl
            have l2 := hlc j _ hx 2 _ rfl
            have l3 := hlc j _ hx 3 _ rfl
            rw [Nat.add_zero] at l0
            have hkey := keyB_ok (PSZ.out x (List.mem_of_getElem? hx))
            have HNJ := Lib.hid (show (numsB pl DD)[j]? = some (numB DD x) by unfold numsB; rw [List.getElem?_map, hx]; rfl)
            obtain ⟨bn, bl, bh, bd⟩ := x
            have HKEY := Lib.hid (show keyOf Tryd.prog 9 (.string bn) = some (keyB bn) from hkey)
            clear hkey
            have k1 : (0 : Int) ≤ (j : Int) := by omega
            have k2 : (j : Int) < (N : Int) := by omega
            obtain ⟨W4, t, hW4, ht, RT, B4, sz4⟩ := box1 wr #[.string bn, .int .i64 bl, .int .i64 bh, .int .i64 bd] 67
            have HT := Lib.hid RT
            have HG4 := Lib.hid (HG.out.keep B4)
            have HP4 := Lib.hid (HP.out.keep B4)
            have HM4 := Lib.hid (map_keep HO.out B4)
            have HV4 := Lib.hid (own_keep HV.out B4)
            have HB4 := Lib.hid (HB.out.trans (B4.mono HB.out.size))
            have HS4 := Lib.hid (Nat.le_trans HS.out B4.size)
            have hjx := hx
            clear hx hlc hll RT B4 sz4 hjx
            go_upto_region 18 with fail
            rw [← hW4]
            try rw [← ht]
            clear hW4 ht
            have t_0 := HT.out.c 0 _ rfl
            have t_1 := HT.out.c 1 _ rfl
            have t_2 := HT.out.c 2 _ rfl
            have t_3 := HT.out.c 3 _ rfl
            go_upto_region 19 with (at_lookup; refine wpList_lookup_own_ok_int _ rfl _ _ 73 rfl 9 2 .i64 lawS Tryd.underlying73 Tryd.underlying2 (zeroI _) mb k DD rfl HM4.out _ _ rfl HKEY.out ?_; intro c hat _)
            have HAT := Lib.hid hat
            clear hat
            obtain ⟨G, hG⟩ : ∃ z, z = Maps.has DD (keyB bn) := ⟨_, rfl⟩
            rw [← hG]
            have HGG := Lib.hid hG
            clear hG
            cases G
            · have HC := Lib.hid (show numB DD ⟨bn, bl, bh, bd⟩ = bd by unfold numB; rw [if_neg (by rw [← HGG.out]; simp)])
              go_upto_region 21 with fail
              have hif := HIF.out
              have hz0 := HZ0.out
              have hz1 := HZ1.out
              have hz2 := HZ2.out
              have hj100 : j < 100 := by omega
              go_wp2_with (at_builtin; refine wpList_append_own _ rfl _ _ 39 rfl WB.heap.size 2 i0 (.int .i64 0) 1 8 Tryd.underlying39 hif hz0 hz1 hz2 rfl (by decide) _ _ _ rfl (own_at HV4.out _) ⟨W4.heap.size, 0, none⟩ 1 1 [.int .i64 bd] rfl rfl ?d1 ?d2 ?d3 ?d4 ?d5 ?_)
              try
                case d1 =>
                  intro q u hu
                  rw [add_plain, Nat.zero_add]
                  exact (row_fresh W4 #[.int .i64 bd] 2).c q u hu
              try
                case d2 =>
                  first
                    | rfl
                    | (intro u hu; simp at hu; subst hu; rfl)
              case d3 => unfold maxLen; omega
              case d4 => omega
              case d5 => have := HS4.out; (try rw [World.size_alloc]); omega
              intro v5 w5 hown hgrow _
              have nal : Below W4.heap.size W4 (W4.alloc (Obj.cells #[.int .i64 bd] 2)) := (Below.refl _ _).alloc (Nat.le_refl _) _
              have vlt := fun q e => (HV4.out.lt q e).1
              have glt := HG0.out.lt
              have mlt := HM0.out.lt
              have G5 := Lib.hid (row_grown (HG4.out.keep nal) hgrow (fun e => by have := vlt g e.symm; omega))
              have P5 := Lib.hid (ins_grownO (HP4.out.keep nal) (ins_low HP0.out) hgrow vlt)
              have M5 := Lib.hid (map_grown (map_keep HM4.out nal) hgrow (fun e => by have := vlt mb e.symm; omega))
              have B5 := Lib.hid ((HB4.out.trans (nal.mono HB4.out.size)).grown hgrow (by have := HB4.out.size; rw [World.size_alloc]; omega) (fun q e => Nat.le_trans HBR.out (vlt q e)))
              have S5 := Lib.hid (show WB.heap.size ≤ w5.heap.size from Nat.le_trans (by have := HS4.out; rw [World.size_alloc]; omega) hgrow.size)
              have V5 := Lib.hid (show w5.ownsRow WB.heap.size 2 1 v5 (j + 1) (flat iL ((numsB pl DD).take (j + 1))) by rw [flat_iL _ _ _ HNJ.out, HC.out]; exact hown)
              clear hown hgrow nal vlt glt mlt hif hz0 hz1 hz2 t_0 t_1 t_2 t_3
              go_wp2_with fail
              go_roundw
              case rel => exact ⟨j + 1, by omega, by go_num, Lib.hid ⟨G5.out, P5.out, M5.out, V5.out, B5.out, S5.out⟩⟩
              case measure => (simp [intOf]) <;> omega
            · have HC := Lib.hid (show numB DD ⟨bn, bl, bh, bd⟩ = c by unfold numB; rw [if_pos HGG.out.symm, HAT.out])
              go_upto_region 21 with fail
              have hif := HIF.out
              have hz0 := HZ0.out
              have hz1 := HZ1.out
              have hz2 := HZ2.out
              have hj100 : j < 100 := by omega
              go_wp2_with (at_builtin; refine wpList_append_own _ rfl _ _ 39 rfl WB.heap.size 2 i0 (.int .i64 0) 1 8 Tryd.underlying39 hif hz0 hz1 hz2 rfl (by decide) _ _ _ rfl (own_at HV4.out _) ⟨W4.heap.size, 0, none⟩ 1 1 [.int .i64 c] rfl rfl ?e1 ?e2 ?e3 ?e4 ?e5 ?_)
              try
                case e1 =>
                  intro q u hu
                  rw [add_plain, Nat.zero_add]
                  exact (row_fresh W4 #[.int .i64 c] 2).c q u hu
              try
                case e2 =>
                  first
                    | rfl
                    | (intro u hu; simp at hu; subst hu; rfl)
              case e3 => unfold maxLen; omega
              case e4 => omega
              case e5 => have := HS4.out; (try rw [World.size_alloc]); omega
              intro v5 w5 hown hgrow _
              have nal : Below W4.heap.size W4 (W4.alloc (Obj.cells #[.int .i64 c] 2)) := (Below.refl _ _).alloc (Nat.le_refl _) _
              have vlt := fun q e => (HV4.out.lt q e).1
              have glt := HG0.out.lt
              have mlt := HM0.out.lt
              have G5 := Lib.hid (row_grown (HG4.out.keep nal) hgrow (fun e => by have := vlt g e.symm; omega))
              have P5 := Lib.hid (ins_grownO (HP4.out.keep nal) (ins_low HP0.out) hgrow vlt)
              have M5 := Lib.hid (map_grown (map_keep HM4.out nal) hgrow (fun e => by have := vlt mb e.symm; omega))
              have B5 := Lib.hid ((HB4.out.trans (nal.mono HB4.out.size)).grown hgrow (by have := HB4.out.size; rw [World.size_alloc]; omega) (fun q e => Nat.le_trans HBR.out (vlt q e)))
              have S5 := Lib.hid (show WB.heap.size ≤ w5.heap.size from Nat.le_trans (by have := HS4.out; rw [World.size_alloc]; omega) hgrow.size)
              have V5 := Lib.hid (show w5.ownsRow WB.heap.size 2 1 v5 (j + 1) (flat iL ((numsB pl DD).take (j + 1))) by rw [flat_iL _ _ _ HNJ.out, HC.out]; exact hown)
              clear hown hgrow nal vlt glt mlt hif hz0 hz1 hz2 t_0 t_1 t_2 t_3
              go_wp2_with fail
              go_roundw
              case rel => exact ⟨j + 1, by omega, by go_num, Lib.hid ⟨G5.out, P5.out, M5.out, V5.out, B5.out, S5.out⟩⟩
              case measure => (simp [intOf]) <;> omega
          · obtain rfl : j = N := by omega
            have HPS := Lib.hid (show (numsB pl DD).length = j by rw [numsB_len]; exact HN.out.symm)
            obtain ⟨a7, c7, rfl, i7⟩ := ins_own HV.out
            obtain ⟨ps, hps⟩ : ∃ q, q = numsB pl DD := ⟨_, rfl⟩
            have HIN := Lib.hid (show InS wr a7 ps.length 1 (flat iL ps) by
              rw [hps, HPS.out]
              rw [List.take_of_length_le (by rw [HPS.out]; exact Nat.le_refl _)] at i7
              exact i7)
            have HPL := Lib.hid (show ps.length = j by rw [hps]; exact HPS.out)
            have HDP := Lib.hid (show ps = numsB pl (mapD qs qs.length) by rw [hps, HDD.out])
            have ka := allowed_any s a1 c1 a2 n2 c2 (some ⟨ob, 0, none⟩) 1 1 rs rm pl a7 c7 ps wr HP.out HIN.out
            rw [← HN.out, HPL.out] at ka
            obtain ⟨IB, hIB⟩ : ∃ z, z = inB pl ps := ⟨_, rfl⟩
            rw [← hIB] at ka
            have KB := Lib.hid ka
            have HIB := Lib.hid hIB
            clear ka hIB hps i7
            have HE0 := Lib.hid (show prmE pl qs ag = if inB pl ps = false then 6 else if ag ps = false then 10 else 0 by
              unfold prmE
              rw [if_neg (by rw [HALL.out]; simp), if_neg (by rw [← HDD.out, ← HSZZ.out, ← HM.out]; simp), ← HDP.out])
            have g_0 := HG.out.c 0 _ rfl
            have g_1 := HG.out.c 1 _ rfl
            have g_2 := HG.out.c 2 _ rfl
            have g_3 := HG.out.c 3 _ rfl
            have g_4 := HG.out.c 4 _ rfl
            have g_5 := HG.out.c 5 _ rfl
            go_wp2_with fail
            refine KB.out.mono ?_
            rintro e w8 ⟨rfl, hb⟩
            have HB8 := Lib.hid (HB.out.trans (hb.mono HB.out.size))
            have HI8 := Lib.hid (HIN.out.keep hb)
            clear hb g_0 g_1 g_2 g_3 g_4 g_5
            cases IB
            · have HE := Lib.hid (show prmE pl qs ag = 6 by rw [HE0.out, if_pos HIB.out.symm])
              go_wp2_with fail
              go_ret2
              exact ⟨_, (by rw [HE.out]; rfl), ⟨fun _ => rfl, fun h => absurd (HE.out.symm.trans h) (by decide)⟩, HB8.out⟩
            · have kg := KA.out a7 c7 ps w8 HIB.out.symm HI8.out
              rw [HPL.out] at kg
              obtain ⟨AG, hAG⟩ : ∃ z, z = ag ps := ⟨_, rfl⟩
              rw [← hAG] at kg
              have KG := Lib.hid kg
              have HAG := Lib.hid hAG
              clear kg hAG
              go_wp2_with fail
              refine KG.out.mono ?_
              rintro e w9 ⟨rfl, hb⟩
              have HB9 := Lib.hid (HB8.out.trans (hb.mono HB8.out.size))
              have HI9 := Lib.hid (HI8.out.keep hb)
              clear hb
              cases AG
              · have HE := Lib.hid (show prmE pl qs ag = 10 by rw [HE0.out, if_neg (by rw [← HIB.out]; simp), if_pos HAG.out.symm])
                go_wp2_with fail
                go_ret2
                exact ⟨_, (by rw [HE.out]; rfl), ⟨fun _ => rfl, fun h => absurd (HE.out.symm.trans h) (by decide)⟩, HB9.out⟩
              · have HE := Lib.hid (show prmE pl qs ag = 0 by rw [HE0.out, if_neg (by rw [← HIB.out]; simp), if_neg (by rw [← HAG.out]; simp)])
                go_wp2_with fail
                go_ret2
                exact ⟨_, (by rw [HE.out]; rfl), ⟨fun h => absurd HE.out h, fun _ => ⟨a7, c7, by rw [show numsB pl (mapD qs k) = ps by rw [HDP.out, ← HM.out], HPL.out]; rfl, by rw [show numsB pl (mapD qs k) = ps by rw [HDP.out, ← HM.out]]; exact HI9.out⟩⟩, HB9.out⟩
      · have HE := Lib.hid (show prmE pl qs ag = 5 by unfold prmE; rw [if_neg (by rw [HALL.out]; simp), ← HDD.out, ← HSZZ.out, ← HM.out, if_pos hsm])
        have h5 : decide ((sz : Int) = (k : Int)) = false := by rw [decide_eq_false_iff_not]; omega
        have h6 : ((sz : Int) == (k : Int)) = false := by rw [beq_eq_false_iff_ne]; omega
        go_wp2_with (at_len; refine wpList_len_own _ rfl _ 73 rfl 9 2 Tryd.underlying73 _ mb k _ rfl HO2.out ?_; rw [← HSZZ.out])
        go_ret2
        exact ⟨_, (by rw [HE.out]; rfl), ⟨fun _ => rfl, fun h => absurd (HE.out.symm.trans h) (by decide)⟩, HB.out⟩
set_option maxHeartbeats 4000000 in
theorem params_miss (s : ByteArray) (hn : ∀ j, j < 33 → ¬ (rowAt j).nm = s) (u : Value) (w : World) :
    Calls Tryd.prog 16 #[.string s, u] w fun e w' => e = .returned (.tuple #[.slice none 0 0, .int .i64 3]) ∧ Below w.heap.size w w' := by
  have KF := Lib.hid (find_miss s hn w)
  clear hn
  go_enter Tryd.func16, Tryd.ntmps16
  go_wp2_with fail
  refine KF.out.mono ?_
  rintro e w1 ⟨rfl, hb⟩
  obtain ⟨W2, g, hW2, hg, RG, B2, sz2⟩ := box1 w1 #[.string ⟨#[]⟩, .slice none 0 0, .slice none 0 0, .slice none 0 0, .int .i64 0, .int .i64 0] 30
  have HB2 := Lib.hid (hb.trans (B2.mono hb.size))
  clear hb RG B2 sz2
  go_upto_region 2 with fail
  rw [← hW2]
  try rw [← hg]
  clear hW2 hg
  go_wp2_with fail
  go_ret2
  exact ⟨rfl, HB2.out⟩
end Go.Proofs.YtaobbedajgkmiaaDoor
