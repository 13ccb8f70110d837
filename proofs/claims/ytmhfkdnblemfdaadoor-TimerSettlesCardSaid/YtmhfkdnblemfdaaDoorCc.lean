/- Lists of lists of values of the call's own; bit and on of the laws of timer. -/
import Derived.Test.YtmhfkdnblemfdaaDoorCb
namespace Go.Proofs.YtmhfkdnblemfdaaDoor
open Go.RowKit Go.Shelf

theorem own_types {w : World} {B B' e e' sz sz' n n' : Nat} {v v' : Value} {L L' : List Value} (h : w.ownsRow B e sz v n L) (h' : w.ownsRow B' e' sz' v' n' L') (hne : e ≠ e') : v.ownBlock = none ∨ v.ownBlock ≠ v'.ownBlock := by
  rcases h.2 with ⟨rfl, _⟩ | ⟨g, cap, cur, rfl, _, hg, _⟩
  · exact .inl rfl
  · refine .inr ?_
    rcases h'.2 with ⟨rfl, _⟩ | ⟨g', cap', cur', rfl, _, hg', _⟩
    · simp [Value.ownBlock]
    · intro e1
      simp [Value.ownBlock] at e1
      subst e1
      rw [hg] at hg'
      injection hg' with e2
      injection e2 with _ e3
      exact hne e3
theorem infoSV : (Tryd.prog.info? 23).map (fun i => (i.zero, i.size, i.bytes)) = some (some (.slice none 0 0), 1, 24) := by kernel_rfl
/-- a list of lists of the call's own -/
def LL (w : World) (B : Nat) (v : Value) (j : Nat) (xs : List (List ValD)) : Prop :=
  ∃ rs : List SlD, rs.length = j ∧ w.ownsRow B 23 1 v j (flat slL rs) ∧ xs.length = j ∧ ∀ (k : Nat) (r : SlD) (vs : List ValD), rs[k]? = some r → xs[k]? = some vs → r.n = vs.length ∧ w.ownsRow B 26 2 (.slice r.a r.n r.c) r.n (flat valL vs)
theorem LL.keep {w w' : World} {B j : Nat} {v : Value} {xs : List (List ValD)} (h : LL w B v j xs) (hb : Below w.heap.size w w') : LL w' B v j xs := by
  obtain ⟨rs, h1, h2, h3, h4⟩ := h
  exact ⟨rs, h1, own_keep h2 hb, h3, fun k r vs a b => ⟨(h4 k r vs a b).1, own_keep (h4 k r vs a b).2 hb⟩⟩
theorem ll_nil (w : World) (B : Nat) (hB : B ≤ w.heap.size) : LL (w.alloc (Obj.cells #[] 23)) B (.slice (some ⟨w.heap.size, 0, none⟩) 0 0) 0 [] :=
  ⟨[], rfl, own_base (own_empty w 23 1) hB, rfl, fun k r vs h _ => by simp at h⟩
theorem ll_snoc {w : World} {B j n : Nat} {v : Value} {rs : List SlD} {xs : List (List ValD)} {a : Option Addr} {c : Nat} {vs0 : List ValD} (h1 : rs.length = j) (h2 : xs.length = j) (hown : w.ownsRow B 23 1 v (j + 1) (flat slL rs ++ [.slice a n c])) (hk : ∀ (k : Nat) (r : SlD) (vs : List ValD), rs[k]? = some r → xs[k]? = some vs → r.n = vs.length ∧ w.ownsRow B 26 2 (.slice r.a r.n r.c) r.n (flat valL vs))
    (hn : n = vs0.length) (hi : w.ownsRow B 26 2 (.slice a n c) n (flat valL vs0)) : LL w B v (j + 1) (xs ++ [vs0]) := by
  refine ⟨rs ++ [⟨a, n, c⟩], by simp [h1], by rw [flat_append]; exact hown, by simp [h2], fun k r vs e1 e2 => ?_⟩
  by_cases hlt : k < j
  · rw [List.getElem?_append_left (by omega)] at e1 e2
    exact hk k r vs e1 e2
  · have hkl : k < j + 1 := by have := (List.getElem?_eq_some_iff.1 e1).1; simp [h1] at this; omega
    obtain rfl : k = j := by omega
    rw [List.getElem?_append_right (by omega), h1, Nat.sub_self] at e1
    rw [List.getElem?_append_right (by omega), h2, Nat.sub_self] at e2
    obtain rfl : (⟨a, n, c⟩ : SlD) = r := by simpa using e1
    obtain rfl : vs0 = vs := by simpa using e2
    exact ⟨hn, hi⟩
theorem ll_in {w : World} {B j : Nat} {v : Value} {xs : List (List ValD)} (h : LL w B v j xs) : ∃ oa rs oc, v = .slice oa rs.length oc ∧ rs.length = j ∧ InsOk w oa rs xs := by
  obtain ⟨rs, rfl, h2, h3, h4⟩ := h
  obtain ⟨a, c, rfl, hi⟩ := ins_own h2
  refine ⟨a, rs, c, rfl, rfl, hi, h3.symm, fun k r vs e1 e2 => ⟨(h4 k r vs e1 e2).1, ?_⟩⟩
  obtain ⟨t1, t2⟩ := h4 k r vs e1 e2
  obtain ⟨a2, c2, e, hi2⟩ := ins_own t2
  injection e with e3 e4 e5
  subst e3
  rw [← t1]
  exact hi2
def bitN (b : Bool) : Int := if b = true then 1 else 0
set_option maxHeartbeats 1000000 in
theorem lbit_any (b : Bool) (w : World) : Calls Tryd.prog 19 #[.bool b] w fun e w' => e = .returned (.agg #[.int .i64 2, .int .i64 (bitN b)]) ∧ Below w.heap.size w w' := by
  obtain ⟨W, g, hW, hg, s, B, sz⟩ := box1 w #[.int .i64 0, .int .i64 0] 26
  have HB := Lib.hid B
  have HR := Lib.hid s
  have HWG := Lib.hid (show w.heap.size ≤ g by omega)
  clear s B sz
  cases b
  · go_enter Tryd.func19, Tryd.ntmps19
    go_upto_region 1 with fail
    rw [← hW]
    try rw [← hg]
    clear hW hg
    have g_0 := HR.out.c 0 _ rfl
    have g_1 := HR.out.c 1 _ rfl
    have g_z := HR.out.fz
    go_wp2_with fail
    have hs := HR.out.setRow [.int .i64 2, .int .i64 0] rfl
    have y0 : ((W.setCell ⟨g, 0, none⟩ (.int .i64 2)).setCell ⟨g, 1, none⟩ (.int .i64 0)).cell? ⟨g, 0, none⟩ = some (.int .i64 2) := hs.c 0 _ rfl
    have y1 : ((W.setCell ⟨g, 0, none⟩ (.int .i64 2)).setCell ⟨g, 1, none⟩ (.int .i64 0)).cell? ⟨g, 1, none⟩ = some (.int .i64 0) := hs.c 1 _ rfl
    (try simp only [Exit.inBlock, Exit.then])
    refine bodyPost_ret (by simp [results, Tryd.results19, go_sem, y0, y1]; try rfl) rfl ?_
    exact ⟨rfl, set_below HB.out HWG.out [.int .i64 2, .int .i64 0]⟩
  · go_enter Tryd.func19, Tryd.ntmps19
    go_upto_region 1 with fail
    rw [← hW]
    try rw [← hg]
    clear hW hg
    have g_0 := HR.out.c 0 _ rfl
    have g_1 := HR.out.c 1 _ rfl
    have g_z := HR.out.fz
    go_wp2_with fail
    have hs := HR.out.setRow [.int .i64 2, .int .i64 1] rfl
    have y0 : ((W.setCell ⟨g, 0, none⟩ (.int .i64 2)).setCell ⟨g, 1, none⟩ (.int .i64 1)).cell? ⟨g, 0, none⟩ = some (.int .i64 2) := hs.c 0 _ rfl
    have y1 : ((W.setCell ⟨g, 0, none⟩ (.int .i64 2)).setCell ⟨g, 1, none⟩ (.int .i64 1)).cell? ⟨g, 1, none⟩ = some (.int .i64 1) := hs.c 1 _ rfl
    (try simp only [Exit.inBlock, Exit.then])
    refine bodyPost_ret (by simp [results, Tryd.results19, go_sem, y0, y1]; try rfl) rfl ?_
    exact ⟨rfl, set_below HB.out HWG.out [.int .i64 2, .int .i64 1]⟩
def boolL (x : Bool) : List Value := [.bool x]
theorem boolL_len (x : Bool) : (boolL x).length = 1 := rfl
def onesV (bs : List Bool) : List (List ValD) := bs.map fun b => [⟨2, bitN b⟩]
theorem onesV_take (bs : List Bool) (j : Nat) (b : Bool) (h : bs[j]? = some b) : onesV (bs.take (j + 1)) = onesV (bs.take j) ++ [[⟨2, bitN b⟩]] := by
  unfold onesV
  rw [List.take_add_one, h, List.map_append]
  rfl
set_option maxHeartbeats 4000000 in
set_option maxRecDepth 100000 in
theorem on_any (a : Option Addr) (c : Nat) (bs : List Bool) (w : World) (h80 : bs.length ≤ 100) (hin : InS w a bs.length 1 (flat boolL bs)) :
    Calls Tryd.prog 18 #[.slice a bs.length c] w fun e w' => ∃ v, e = .returned v ∧ LL w' w.heap.size v bs.length (onesV bs) ∧ Below w.heap.size w w' := by
  have HIN := Lib.hid hin
  obtain ⟨M, hM⟩ : ∃ M, M = bs.length := ⟨_, rfl⟩
  have HM := Lib.hid hM
  obtain ⟨iv, hif, hz0, hz1, hz2⟩ := info_parts infoSV
  have HIF := Lib.hid hif
  have HZ0 := Lib.hid hz0
  have HZ1 := Lib.hid hz1
  have HZ2 := Lib.hid hz2
  rw [← hM]
  have m100 : M ≤ 100 := by omega
  obtain ⟨BB, hBB⟩ : ∃ b, b = w.heap.size := ⟨_, rfl⟩
  have HWB := Lib.hid (show w.heap.size ≤ BB by omega)
  have hl0 := ll_nil w BB (by omega)
  have HL0 := Lib.hid hl0
  have HBW0 := Lib.hid ((Below.refl w.heap.size w).alloc (Nat.le_refl _) (Obj.cells #[] 23))
  have HBB0 := Lib.hid (show BB ≤ (w.alloc (Obj.cells #[] 23)).heap.size by rw [World.size_alloc]; omega)
  have HBQ := Lib.hid hBB
  rw [← hBB]
  clear hin hM hif hz0 hz1 hz2 h80 hl0 hBB
  go_enter Tryd.func18, Tryd.ntmps18
  go_wp2_with fail
  go_loopw [3, 4] (fun v i wr => ∃ j : Nat, j ≤ M ∧ i = .int .i64 j ∧ Hid (LL wr BB v j (onesV (bs.take j)) ∧ Below w.heap.size w wr ∧ BB ≤ wr.heap.size)) (fun _ i _ => M - (intOf i).toNat)
  case atStart => exact ⟨0, Nat.zero_le _, rfl, Lib.hid ⟨HL0.out, HBW0.out, HBB0.out⟩⟩
  case round =>
    obtain ⟨j, hj, rfl, hH⟩ := hrel
    have HLR := Lib.hid hH.out.1
    have HBR := Lib.hid hH.out.2.1
    have HZR := Lib.hid hH.out.2.2
    clear hH
    by_cases hlt : j < M
    · obtain ⟨lb, lo, rfl, hll, hlc⟩ := (show InS wr a bs.length 1 (flat boolL bs) from HIN.out.keep HBR.out).at boolL_len (by have := HM.out; omega)
      obtain ⟨x, hx⟩ : ∃ x, bs[j]? = some x := ⟨_, List.getElem?_eq_getElem (by have := HM.out; omega)⟩
      have l0 := hlc j _ hx 0 _ rfl
      simp only [Nat.mul_one, Nat.add_zero] at l0
      have HX := Lib.hid (onesV_take bs j x hx)
      have k1 : (0 : Int) ≤ (j : Int) := by omega
      have k2 : (j : Int) < (M : Int) := by omega
      clear hx hlc hll
      go_wp2_with fail
      refine (lbit_any _ _).mono ?_
      rintro e w2 ⟨rfl, hb⟩
      have HL := Lib.hid (HLR.out.keep hb)
      have HBW := Lib.hid (HBR.out.trans (hb.mono HBR.out.size))
      have HBB := Lib.hid (Nat.le_trans HZR.out hb.size)
      clear hb l0 HLR HBR HZR
      have hif := HIF.out
      have hz0 := HZ0.out
      have hz1 := HZ1.out
      have hz2 := HZ2.out
      obtain ⟨rs, hrl, hown0, hxl, hrs⟩ := HL.out
      have nal1 : Below w2.heap.size w2 (w2.alloc (Obj.cells #[.int .i64 2, .int .i64 (bitN x)] 26)) := (Below.refl _ _).alloc (Nat.le_refl _) _
      have hnew : (w2.alloc (Obj.cells #[.int .i64 2, .int .i64 (bitN x)] 26)).ownsRow BB 26 2 (.slice (some ⟨w2.heap.size, 0, none⟩) 1 1) 1 [.int .i64 2, .int .i64 (bitN x)] := World.ownsRow_lit w2 #[.int .i64 2, .int .i64 (bitN x)] 1 HBB.out (by unfold maxLen; omega) rfl
      have HRS := Lib.hid hrs
      have HNEW := Lib.hid hnew
      have HXL := Lib.hid hxl
      have HRL := Lib.hid hrl
      clear hrs hnew hxl hrl
      go_wp2_with (at_builtin; refine wpList_append_own _ rfl _ _ 39 rfl BB 23 iv (.slice none 0 0) 1 24 Tryd.underlying39 hif hz0 hz1 hz2 rfl (by decide) _ _ _ rfl (own_at (own_at hown0 _) _) ⟨w2.heap.size + 1, 0, none⟩ 1 1 [.slice (some ⟨w2.heap.size, 0, none⟩) 1 1] rfl rfl ?d1 ?d2 ?d3 ?d4 ?d5 ?_)
      try
        case d1 =>
          intro q u hu
          rw [add_plain, Nat.zero_add]
          have h := (row_fresh (w2.alloc (Obj.cells #[.int .i64 2, .int .i64 (bitN x)] 26)) #[.slice (some ⟨w2.heap.size, 0, none⟩) 1 1] 23).c q u hu
          rwa [World.size_alloc] at h
      try
        case d2 =>
          first
            | rfl
            | (intro u hu; simp at hu; subst hu; rfl)
      case d3 => unfold maxLen; omega
      case d4 => omega
      case d5 => have := HBB.out; (try rw [World.size_alloc, World.size_alloc]); omega
      intro v5 w7 hown hgrow _
      have nal2 : Below (w2.alloc (Obj.cells #[.int .i64 2, .int .i64 (bitN x)] 26)).heap.size (w2.alloc (Obj.cells #[.int .i64 2, .int .i64 (bitN x)] 26)) ((w2.alloc (Obj.cells #[.int .i64 2, .int .i64 (bitN x)] 26)).alloc (Obj.cells #[.slice (some ⟨w2.heap.size, 0, none⟩) 1 1] 23)) := (Below.refl _ _).alloc (Nat.le_refl _) _
      have nal : Below w2.heap.size w2 ((w2.alloc (Obj.cells #[.int .i64 2, .int .i64 (bitN x)] 26)).alloc (Obj.cells #[.slice (some ⟨w2.heap.size, 0, none⟩) 1 1] 23)) := nal1.trans (nal2.mono nal1.size)
      have hown0' := own_keep hown0 nal
      have vlt := fun q e => (hown0.lt q e).1
      have HLN := Lib.hid (show LL w7 BB v5 (j + 1) (onesV (bs.take j) ++ [[⟨2, bitN x⟩]]) from
        ll_snoc HRL.out HXL.out hown (fun k r vs h1 h2 => let t := HRS.out k r vs h1 h2; ⟨t.1, (own_keep t.2 nal).kept hgrow (own_types (own_keep t.2 nal) hown0' (by decide))⟩) rfl ((own_keep HNEW.out nal2).kept hgrow (own_types (own_keep HNEW.out nal2) hown0' (by decide))))
      have HBB7 := Lib.hid (show BB ≤ w7.heap.size from Nat.le_trans (by have := HBB.out; have := nal.size; omega) hgrow.size)
      have HBN := Lib.hid ((HBW.out.trans (nal.mono HBW.out.size)).grown hgrow (by have := HBW.out.size; have := nal.size; omega) (fun q e => Nat.le_trans HWB.out (vlt q e)))
      clear hown hgrow nal nal1 nal2 vlt hif hz0 hz1 hz2 hown0 hown0'
      have HLM := Lib.hid (show LL w7 BB v5 (j + 1) (onesV (bs.take (j + 1))) by rw [HX.out]; exact HLN.out)
      go_wp2_with fail
      go_roundw
      case rel => exact ⟨j + 1, by omega, by go_num, Lib.hid ⟨HLM.out, HBN.out, HBB7.out⟩⟩
      case measure => (simp [intOf]) <;> omega
    · obtain rfl : j = M := by omega
      have HF := Lib.hid (show LL wr BB _ j (onesV bs) by have h := HLR.out; rw [List.take_of_length_le (by have := HM.out; omega)] at h; exact h)
      go_wp2_with fail
      go_ret
      first
        | exact ⟨_, rfl, HF.out, by rw [HBQ.out]; exact HBR.out⟩
        | exact ⟨HF.out, by rw [HBQ.out]; exact HBR.out⟩
end Go.Proofs.YtmhfkdnblemfdaaDoor
