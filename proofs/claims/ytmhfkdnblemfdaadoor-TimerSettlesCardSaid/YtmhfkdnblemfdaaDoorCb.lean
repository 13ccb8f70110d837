/- Contract of timer.Run at inputs that fit. -/
import Derived.Test.YtmhfkdnblemfdaaDoorCa
namespace Go.Proofs.YtmhfkdnblemfdaaDoor
open Go.RowKit Go.Shelf

theorem infoVal : (Tryd.prog.info? 26).map (fun i => (i.zero, i.size, i.bytes)) = some (some (.agg #[.int .i64 0, .int .i64 0]), 2, 16) := by kernel_rfl
/-- a list of lists of values: the outer row's slices, and each inner row -/
structure SlD where
  a : Option Addr
  n : Nat
  c : Nat
def slL (x : SlD) : List Value := [.slice x.a x.n x.c]
theorem slL_len (x : SlD) : (slL x).length = 1 := rfl
def InsOk (w : World) (oa : Option Addr) (rs : List SlD) (xs : List (List ValD)) : Prop :=
  InS w oa rs.length 1 (flat slL rs) ∧ rs.length = xs.length ∧ ∀ (k : Nat) (r : SlD) (vs : List ValD), rs[k]? = some r → xs[k]? = some vs → r.n = vs.length ∧ InS w r.a vs.length 2 (flat valL vs)
theorem InsOk.keep {w w' : World} {oa : Option Addr} {rs : List SlD} {xs : List (List ValD)} (h : InsOk w oa rs xs) (hb : Below w.heap.size w w') : InsOk w' oa rs xs :=
  ⟨h.1.keep hb, h.2.1, fun k r vs h1 h2 => ⟨(h.2.2 k r vs h1 h2).1, (h.2.2 k r vs h1 h2).2.keep hb⟩⟩
def EvOk (s : ByteArray) (n : Nat) (ps : List Int) (dt : Int) (xs : List (List ValD)) (St : Nat → List Value) (Ov : Nat → Int) : Prop :=
  ∀ (w5 : World) (rb : Nat) (v1 v2 v3 v4 v5 : Value) (pa : Option Addr) (pc : Nat) (k : Nat) (vs : List ValD), w5.heap.size < rb → InS w5 pa ps.length 1 (flat iL ps) → xs[k]? = some vs → ∀ (w : World) (ib io ic' : Nat), Below w5.heap.size w5 w →
    RowAt w rb [.string s, v1, v2, v3, v4, v5, .slice pa ps.length pc, .slice (some ⟨w5.heap.size, 0, none⟩) n n] → RowAt w w5.heap.size (St k) → (∀ i x, vs[i]? = some x → w.cell? ⟨ib, io + i, none⟩ = some (.int .i64 x.n)) → ib ≠ w5.heap.size →
    Calls Tryd.prog 33 #[.pointer (some ⟨rb, 0, none⟩), .slice (some ⟨ib, io, none⟩) vs.length ic', .int .i64 dt] w fun e w' => e = .returned (.int .i64 (Ov k)) ∧ RowAt w' w5.heap.size (St (k + 1)) ∧ w.grownBy w' (some w5.heap.size)
def outsV (ko : Int) (Ov : Nat → Int) (j : Nat) : List ValD := (List.range j).map fun k => ⟨ko, Ov k⟩
theorem outsV_len (ko : Int) (Ov : Nat → Int) (j : Nat) : (outsV ko Ov j).length = j := by unfold outsV; rw [List.length_map, List.length_range]
theorem outsV_succ (ko : Int) (Ov : Nat → Int) (j : Nat) : outsV ko Ov (j + 1) = outsV ko Ov j ++ [⟨ko, Ov j⟩] := by unfold outsV; rw [List.range_succ, List.map_append]; rfl
set_option maxHeartbeats 8000000 in
set_option maxRecDepth 100000 in
theorem run_any (s ro : ByteArray) (rm : Int) (st : Nat) (hst : st = 1 ∨ st = 2) (pl : List BndD) (il : List PortD) (ag : List Int → Bool) (hn : (timerNames.any fun x => eqS x s) = true) (HF : FindOk s ro rm (st : Int) pl il) (HA : AgreeOk s pl ag) (pa : Option Addr) (pc : Nat) (ps : List Int) (p20 : pl.length ≤ 100) (hwf : ∀ v ∈ ps, (Lit.int .i64 v).wf = true) (psz : ∀ x ∈ pl, x.nm.size ≤ maxLen)
    (hval : (decide (ps.length = pl.length) && decide (prmE pl (zipP pl ps) ag = 0)) = true) (K ko : Int) (hk : ∀ p ∈ il, KindOk p.ty K) (hko : KindOk ro ko) (i0 : 0 < il.length) (i10 : il.length ≤ 10)
    (dt : Int) (hd1 : 1 ≤ dt) (hd2 : dt ≤ 86400) (oa : Option Addr) (oc : Nat) (rs : List SlD) (xs : List (List ValD)) (x100 : rs.length ≤ 100) (hxs : ∀ vs ∈ xs, vs.length = il.length ∧ ∀ v ∈ vs, fitsB v.k v.n K = true) (St : Nat → List Value) (Ov : Nat → Int) (hS0 : St 0 = List.replicate st (.int .i64 0)) (HEV : EvOk s st ps dt xs St Ov)
    (w : World) (hm : MaxAt w) (hq : InS w pa ps.length 1 (flat iL ps)) (hin : InsOk w oa rs xs) :
    Calls Tryd.prog 17 #[.string s, .slice pa ps.length pc, .slice oa rs.length oc, .int .i64 dt] w fun e w' => ∃ v, e = .returned (.tuple #[v, .int .i64 0]) ∧ w'.ownsRow w.heap.size 26 2 v rs.length (flat valL (outsV ko Ov rs.length)) ∧ Below w.heap.size w w' := by
  have kb := begin_any s ro rm st hst pl il ag hn HF HA pa pc ps p20 hwf psz w hm hq
  rw [hval] at kb
  have KB := Lib.hid kb
  have HQ := Lib.hid hq
  have HK := Lib.hid hk
  have HKO := Lib.hid hko
  have HXS := Lib.hid hxs
  have HE := Lib.hid HEV
  have HIN := Lib.hid hin
  have HS0 := Lib.hid hS0
  obtain ⟨iv, hif, hz0, hz1, hz2⟩ := info_parts infoVal
  have HIF := Lib.hid hif
  have HZ0 := Lib.hid hz0
  have HZ1 := Lib.hid hz1
  have HZ2 := Lib.hid hz2
  obtain ⟨M, hM⟩ : ∃ M, M = rs.length := ⟨_, rfl⟩
  have HM := Lib.hid hM
  rw [← hM]
  rw [← hM] at x100
  have HI0 := Lib.hid i0
  have HI10 := Lib.hid i10
  clear hst hn HF HA p20 hwf psz hval hk hko hxs HEV hm hq hin hif hz0 hz1 hz2 kb hM hS0 i0 i10
  go_enter Tryd.func17, Tryd.ntmps17
  go_wp2_with fail
  refine KB.out.mono ?_
  rintro e w1 ⟨R, rfl, hrel, hb⟩
  obtain ⟨w5, rb, a1, c1, a2, c2, ob, rfl, hb5, hrb, hR, hS, hI1, hI2, hI3, hb51, _⟩ := hrel (by simp)
  have HB1 := Lib.hid hb
  have HB5 := Lib.hid hb5
  have HRB := Lib.hid hrb
  have HR1 := Lib.hid hR
  have HS1 := Lib.hid (show RowAt w1 w5.heap.size (St 0) by rw [HS0.out]; exact hS)
  have HI2 := Lib.hid hI2
  have HI3 := Lib.hid hI3
  have HB51 := Lib.hid hb51
  have HQ5 := Lib.hid (HQ.out.keep hb5)
  have HIN5 := Lib.hid (HIN.out.keep hb5)
  clear hb hrel hb5 hrb hR hS hI1 hI2 hI3 hb51 KB HQ HIN
  go_wp2_with fail
  go_loopw [12, 28] (fun v i wr => ∃ j : Nat, j ≤ M ∧ i = .int .i64 j ∧ Hid (RowAt wr rb [.string s, .slice a1 pl.length c1, .slice a2 il.length c2, .slice (some ⟨ob, 0, none⟩) 1 1, .int .i64 (st : Int), .int .i64 rm, .slice pa ps.length pc, .slice (some ⟨w5.heap.size, 0, none⟩) st st] ∧ RowAt wr w5.heap.size (St j) ∧ wr.ownsRow w1.heap.size 26 2 v j (flat valL (outsV ko Ov j)) ∧ Below w5.heap.size w5 wr ∧ w1.heap.size ≤ wr.heap.size)) (fun _ i _ => M - (intOf i).toNat)
  case atStart => exact ⟨0, Nat.zero_le _, rfl, Lib.hid ⟨HR1.out, HS1.out, World.ownsRow_nil _ _ _ _, HB51.out, Nat.le_refl _⟩⟩
  case round =>
    obtain ⟨j, hj, rfl, hH⟩ := hrel
    have HR := Lib.hid hH.out.1
    have HS := Lib.hid hH.out.2.1
    have HN := Lib.hid hH.out.2.2.1
    have HB := Lib.hid hH.out.2.2.2.1
    have HSZ := Lib.hid hH.out.2.2.2.2
    clear hH
    by_cases hlt : j < M
    · obtain ⟨lb, lo, hoa, hll, hlc⟩ := (show InS wr oa rs.length 1 (flat slL rs) from HIN5.out.1.keep HB.out).at slL_len (by have := HM.out; omega)
      subst hoa
      obtain ⟨r, hr⟩ : ∃ x, rs[j]? = some x := ⟨_, List.getElem?_eq_getElem (by have := HM.out; omega)⟩
      obtain ⟨vs, hvs⟩ : ∃ x, xs[j]? = some x := ⟨_, List.getElem?_eq_getElem (by have := HM.out; have := HIN5.out.2.1; omega)⟩
      have l0 := hlc j _ hr 0 _ rfl
      have hrv := HIN5.out.2.2 j r vs hr hvs
      have hxv := HXS.out vs (List.mem_of_getElem? hvs)
      obtain ⟨ra, rn, rc⟩ := r
      have KS := Lib.hid (step_any w5 rb s ro a1 pl.length c1 a2 c2 ob rm st st pa ps.length pc il K ko vs ra rc dt (St j) (St (j + 1)) (Ov j) HRB.out hd1 hd2 hxv.1 HI0.out HI10.out HK.out hxv.2 HKO.out HI2.out HI3.out hrv.2
        (fun w ib io ic' h1 h2 h3 h4 h5 => HE.out w5 rb _ _ _ _ _ pa pc j vs HRB.out HQ5.out hvs w ib io ic' h1 h2 h3 h4 h5) wr HB.out HR.out HS.out)
      obtain rfl : rn = vs.length := hrv.1
      simp only [Nat.mul_one, Nat.add_zero] at l0
      have k1 : (0 : Int) ≤ (j : Int) := by omega
      have k2 : (j : Int) < (M : Int) := by omega
      obtain ⟨VN, hVN⟩ : ∃ z, z = vs.length := ⟨_, rfl⟩
      rw [← hVN] at KS l0
      clear hr hvs hrv hxv hlc hll hVN
      go_wp2_with fail
      refine KS.out.mono ?_
      rintro e w6 ⟨rfl, hS, hgr⟩
      have hsz := hgr.size
      have HR6 := Lib.hid (row_grown HR.out hgr (by intro e; injection e with e; have h1 := HRB.out; omega))
      have HS6 := Lib.hid hS
      have HN6 := Lib.hid (HN.out.kept hgr (.inr (by intro e; have h1 := (HN.out.lt _ e).1; have h2 := HS1.out.lt; omega)))
      have HB6 := Lib.hid (HB.out.grown hgr HB.out.size (fun q e => by injection e with e; omega))
      have HSZ6 := Lib.hid (Nat.le_trans HSZ.out hgr.size)
      clear hS hgr hsz KS HR HS HN HB HSZ l0
      obtain ⟨W7, t, hW7, ht, RT, B7, sz7⟩ := box1 w6 #[.int .i64 ko, .int .i64 (Ov j)] 26
      have HT := Lib.hid RT
      have HR7 := Lib.hid (HR6.out.keep B7)
      have HS7 := Lib.hid (HS6.out.keep B7)
      have HN7 := Lib.hid (own_keep HN6.out B7)
      have HB7 := Lib.hid (HB6.out.trans (B7.mono HB6.out.size))
      have HSZ7 := Lib.hid (Nat.le_trans HSZ6.out B7.size)
      clear RT B7 sz7 HR6 HS6 HN6 HB6 HSZ6
      go_upto_region 9 with fail
      rw [← hW7]
      try rw [← ht]
      clear hW7 ht
      have t_0 := HT.out.c 0 _ rfl
      have t_1 := HT.out.c 1 _ rfl
      have hif := HIF.out
      have hz0 := HZ0.out
      have hz1 := HZ1.out
      have hz2 := HZ2.out
      go_wp2_with (at_builtin; refine wpList_append_own _ rfl _ _ 23 rfl w1.heap.size 26 iv (.agg #[.int .i64 0, .int .i64 0]) 2 16 Tryd.underlying23 hif hz0 hz1 hz2 rfl (by decide) _ _ _ rfl (own_at HN7.out _) ⟨W7.heap.size, 0, none⟩ 1 1 [.int .i64 ko, .int .i64 (Ov j)] rfl rfl ?d1 ?d2 ?d3 ?d4 ?d5 ?_)
      try
        case d1 =>
          intro q u hu
          rw [add_plain, Nat.zero_add]
          exact (row_fresh W7 #[.int .i64 ko, .int .i64 (Ov j)] 26).c q u hu
      try
        case d2 =>
          first
            | rfl
            | (intro u hu; simp at hu; rcases hu with rfl | rfl <;> rfl)
      case d3 => unfold maxLen; omega
      case d4 => omega
      case d5 => have := HSZ7.out; (try rw [World.size_alloc]); omega
      intro v5 w8 hown hgrow _
      have nal : Below W7.heap.size W7 (W7.alloc (Obj.cells #[.int .i64 ko, .int .i64 (Ov j)] 26)) := (Below.refl _ _).alloc (Nat.le_refl _) _
      have vlt := fun q e => (HN7.out.lt q e).1
      have R8 := Lib.hid (row_grown (HR7.out.keep nal) hgrow (fun e => by have h1 := vlt rb e.symm; have h2 := HR1.out.lt; omega))
      have S8 := Lib.hid (row_grown (HS7.out.keep nal) hgrow (fun e => by have h1 := vlt w5.heap.size e.symm; have h2 := HS1.out.lt; omega))
      have B8 := Lib.hid ((HB7.out.trans (nal.mono HB7.out.size)).grown hgrow (by have := HB7.out.size; rw [World.size_alloc]; omega) (fun q e => Nat.le_trans HB51.out.size (vlt q e)))
      have Z8 := Lib.hid (show w1.heap.size ≤ w8.heap.size from Nat.le_trans (by have := HSZ7.out; rw [World.size_alloc]; omega) hgrow.size)
      have V8 := Lib.hid (show w8.ownsRow w1.heap.size 26 2 v5 (j + 1) (flat valL (outsV ko Ov (j + 1))) by rw [outsV_succ, flat_append]; exact hown)
      clear hown hgrow nal vlt hif hz0 hz1 hz2 t_0 t_1 HT HR7 HS7 HN7 HB7 HSZ7
      go_wp2_with fail
      go_roundw
      case rel => exact ⟨j + 1, by omega, by go_num, Lib.hid ⟨R8.out, S8.out, V8.out, B8.out, Z8.out⟩⟩
      case measure => (simp [intOf]) <;> omega
    · obtain rfl : j = M := by omega
      have HF1 := Lib.hid (own_base HN.out (show w.heap.size ≤ w1.heap.size from HB1.out.size))
      have HF2 := Lib.hid (HB5.out.trans (HB.out.mono HB5.out.size))
      go_wp2_with fail
      go_ret2
      first
        | exact ⟨_, rfl, HF1.out, HF2.out⟩
        | exact ⟨HF1.out, HF2.out⟩
end Go.Proofs.YtmhfkdnblemfdaaDoor
