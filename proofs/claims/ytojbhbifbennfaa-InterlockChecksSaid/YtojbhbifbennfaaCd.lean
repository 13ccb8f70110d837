/- Points in plain terms; contracts of the specification's point and Small; of areIncreasing and members. -/
import Derived.Test.YtojbhbifbennfaaCc
namespace Go.Proofs.Ytojbhbifbennfaa
open Go.RowKit Go.Shelf

structure PtD where
  nm : ByteArray
  k : Int
  r : Int
  u : ByteArray
  lo : Int
  hi : Int
  st : Int
  sa : Option Addr
  sn : Nat
  sc : Nat
  dk : Int
  dn : Int
  on : Int
  off : Int
def ptL (p : PtD) : List Value := [.string p.nm, .int .i64 p.k, .int .i64 p.r, .string p.u, .int .i64 p.lo, .int .i64 p.hi, .int .i64 p.st, .slice p.sa p.sn p.sc, .int .i64 p.dk, .int .i64 p.dn, .int .i64 p.on, .int .i64 p.off]
theorem ptL_len (p : PtD) : (ptL p).length = 12 := rfl
def firstP (q : PtD → Bool) : List PtD → Nat → Int
  | [], _ => -1
  | x :: r, i => if q x = true then (i : Int) else firstP q r (i + 1)
theorem firstP_hit {q : PtD → Bool} {ps : List PtD} {j : Nat} {x : PtD} (hx : ps[j]? = some x) (h : q x = true) : firstP q (ps.drop j) j = j := by
  rw [drop_cons hx]; exact if_pos h
theorem firstP_miss {q : PtD → Bool} {ps : List PtD} {j : Nat} {x : PtD} (hx : ps[j]? = some x) (h : q x = false) : firstP q (ps.drop j) j = firstP q (ps.drop (j + 1)) (j + 1) := by
  rw [drop_cons hx]; exact if_neg (by rw [h]; simp)
theorem firstP_end (q : PtD → Bool) (ps : List PtD) : firstP q (ps.drop ps.length) ps.length = -1 := by rw [List.drop_length]; rfl
def pointI (s : ByteArray) (ps : List PtD) : Int := firstP (fun p => decide (p.nm = s)) ps 0

set_option maxHeartbeats 4000000 in
set_option maxRecDepth 100000 in
theorem rpoint_any (s : ByteArray) (a : Option Addr) (cap : Nat) (ps : List PtD) (w : World) (hin : InS w a ps.length 12 (flat ptL ps)) : Calls Try.prog 49 #[.slice a ps.length cap, .string s] w fun e w' => e = .returned (.int .i64 (pointI s ps)) ∧ Below w.heap.size w w' := by
  obtain ⟨N, hN⟩ : ∃ N, N = ps.length := ⟨_, rfl⟩
  have HN := Lib.hid hN
  have HI := Lib.hid hin
  have hmx : N ≤ 9223372036854775807 := by have := hin.2.1; omega
  rw [← hN]
  clear hN hin
  go_enter Try.func49, Try.ntmps49
  go_wp2_with fail
  go_loopw [5] (fun i wr => ∃ j : Nat, j ≤ N ∧ i = .int .i64 j ∧ Hid (pointI s ps = firstP (fun p => decide (p.nm = s)) (ps.drop j) j ∧ Below w.heap.size w wr)) (fun i _ => N - (intOf i).toNat)
  case atStart => exact ⟨0, by omega, rfl, Lib.hid ⟨rfl, Below.refl _ _⟩⟩
  case round =>
    obtain ⟨j, hj, rfl, hH⟩ := hrel
    have HQ := Lib.hid hH.out.1
    have HBR := Lib.hid hH.out.2
    clear hH
    by_cases hlt : j < N
    · obtain ⟨b, o, rfl, hbl, hcell⟩ := (HI.out.keep HBR.out).at ptL_len (by have := HN.out; omega)
      obtain ⟨x, hx⟩ : ∃ x, ps[j]? = some x := ⟨_, List.getElem?_eq_getElem (by rw [← HN.out]; exact hlt)⟩
      have c0 : wr.cell? ⟨b, o + j * 12 + 0, none⟩ = some (.string x.nm) := hcell j _ hx 0 _ rfl
      rw [Nat.add_zero] at c0
      have k1 : (0 : Int) ≤ (j : Int) := by omega
      have k2 : (j : Int) < (N : Int) := by omega
      have HX := Lib.hid hx
      clear hcell hbl hx
      by_cases hs : x.nm = s
      · have HM := Lib.hid (show pointI s ps = j from HQ.out.trans (firstP_hit HX.out (decide_eq_true hs)))
        have t1 : (x.nm.toList == s.toList) = true := by rw [hs]; exact beq_self_eq_true _
        clear hs
        go_wp2_with fail
        go_ret
        exact ⟨by rw [HM.out]; (first | done | rfl), HBR.out⟩
      · have HM := Lib.hid (HQ.out.trans (firstP_miss HX.out (decide_eq_false hs)))
        have t1 : (x.nm.toList == s.toList) = false := by rw [beqS]; exact decide_eq_false hs
        clear hs
        go_wp2_with fail
        go_roundw
        case rel => exact ⟨j + 1, by omega, by go_num, Lib.hid ⟨HM.out, HBR.out⟩⟩
        case measure => (simp [intOf]) <;> omega
    · obtain rfl : j = N := by omega
      have HM := Lib.hid (show pointI s ps = -1 from HQ.out.trans (by rw [HN.out]; exact firstP_end _ ps))
      go_wp2_with fail
      go_ret
      exact ⟨by rw [HM.out]; (first | done | rfl), HBR.out⟩
def smallB (gs : List GrD) : Bool := decide (gs.length ≤ 20) && gs.all (fun x => decide (x.ns.length ≤ 20))

set_option maxHeartbeats 4000000 in
set_option maxRecDepth 100000 in
theorem rsmall_any (a : Option Addr) (cap : Nat) (gs : List GrD) (w : World) (hin : InS w a gs.length 3 (flat grL gs)) : Calls Try.prog 11 #[.slice a gs.length cap] w fun e w' => e = .returned (.bool (smallB gs)) ∧ Below w.heap.size w w' := by
  obtain ⟨N, hN⟩ : ∃ N, N = gs.length := ⟨_, rfl⟩
  have HN := Lib.hid hN
  have HI := Lib.hid hin
  have hmx : N ≤ 9223372036854775807 := by have := hin.2.1; omega
  rw [← hN]
  clear hN hin
  by_cases h20 : 20 < (N : Int)
  · have HM := Lib.hid (show smallB gs = false by unfold smallB; rw [decide_eq_false (by have := HN.out; omega)]; rfl)
    go_enter Try.func11, Try.ntmps11
    go_wp2_with fail
    go_ret
    exact ⟨by rw [HM.out]; (first | done | rfl), Below.refl _ _⟩
  have H20 := Lib.hid (show gs.length ≤ 20 by have := HN.out; omega)
  go_enter Try.func11, Try.ntmps11
  go_wp2_with fail
  clear h20
  go_loopw [3] (fun i wr => ∃ j : Nat, j ≤ N ∧ i = .int .i64 j ∧ Hid ((∀ x ∈ gs.take j, x.ns.length ≤ 20) ∧ Below w.heap.size w wr)) (fun i _ => N - (intOf i).toNat)
  case atStart => exact ⟨0, by omega, rfl, Lib.hid ⟨fun x hx => by simp at hx, Below.refl _ _⟩⟩
  case round =>
    obtain ⟨j, hj, rfl, hH⟩ := hrel
    have HQ := Lib.hid hH.out.1
    have HBR := Lib.hid hH.out.2
    clear hH
    by_cases hlt : j < N
    · obtain ⟨b, o, rfl, hbl, hcell⟩ := (HI.out.keep HBR.out).at grL_len (by have := HN.out; omega)
      obtain ⟨x, hx⟩ : ∃ x, gs[j]? = some x := ⟨_, List.getElem?_eq_getElem (by rw [← HN.out]; exact hlt)⟩
      have c1 : wr.cell? ⟨b, o + j * 3 + 1, none⟩ = some (.slice x.a x.ns.length x.c) := hcell j _ hx 1 _ rfl
      have k1 : (0 : Int) ≤ (j : Int) := by omega
      have k2 : (j : Int) < (N : Int) := by omega
      obtain ⟨M, hM⟩ : ∃ M, M = x.ns.length := ⟨_, rfl⟩
      rw [← hM] at c1
      by_cases hm : 20 < (M : Int)
      · have HM := Lib.hid (show smallB gs = false by
          unfold smallB
          rw [show gs.all (fun x => decide (x.ns.length ≤ 20)) = false by
            rw [List.all_eq_false]
            exact ⟨x, List.mem_of_getElem? hx, by simp; omega⟩, Bool.and_false])
        clear hcell hbl hx hM
        go_wp2_with fail
        go_ret
        exact ⟨by rw [HM.out]; (first | done | rfl), HBR.out⟩
      · have HM := Lib.hid (show ∀ y ∈ gs.take (j + 1), y.ns.length ≤ 20 from fun y hy => by
          rw [List.take_add_one, hx, List.mem_append] at hy
          rcases hy with hy | hy
          · exact HQ.out y hy
          · obtain rfl : y = x := by simpa using hy
            omega)
        clear hcell hbl hx hM
        go_wp2_with fail
        go_roundw
        case rel => exact ⟨j + 1, by omega, by go_num, Lib.hid ⟨HM.out, HBR.out⟩⟩
        case measure => (simp [intOf]) <;> omega
    · obtain rfl : j = N := by omega
      have HM := Lib.hid (show smallB gs = true by
        unfold smallB
        rw [decide_eq_true H20.out, Bool.true_and, List.all_eq_true]
        intro x hx
        exact decide_eq_true (HQ.out x (by rw [HN.out, List.take_length]; exact hx)))
      go_wp2_with fail
      go_ret
      exact ⟨by rw [HM.out]; (first | done | rfl), HBR.out⟩
def memS (gs : List GrD) : List ByteArray := gs.flatMap (fun x => x.ns)
theorem memS_step {gs : List GrD} {j : Nat} {x : GrD} (h : gs[j]? = some x) : memS (gs.take (j + 1)) = memS (gs.take j) ++ x.ns := by
  unfold memS; rw [List.take_add_one, h, List.flatMap_append]; simp
theorem memS_len {gs : List GrD} (h : ∀ x ∈ gs, x.ns.length ≤ 20) : ∀ j, (memS (gs.take j)).length ≤ 20 * j
  | 0 => by simp [memS]
  | j + 1 => by
    have ih := memS_len h j
    cases hx : gs[j]? with
    | none => rw [List.take_add_one, hx]; simp; omega
    | some x => rw [memS_step hx, List.length_append]; have := h x (List.mem_of_getElem? hx); omega
theorem infoStr : (Try.prog.info? 9).map (fun i => (i.zero, i.size, i.bytes)) = some (some (.string ⟨#[]⟩), 1, 16) := by kernel_rfl
theorem str_all (xs : List ByteArray) : ∀ u ∈ flat stL xs, u.oneCell' = true := by
  intro u hu
  unfold flat at hu
  obtain ⟨x, _, hx⟩ := List.mem_flatMap.1 hu
  obtain rfl : u = .string x := by simpa [stL] using hx
  rfl

theorem own_newS {w : World} {B T sz n : Nat} {v : Value} {L : List Value} (h : w.ownsRow B T sz v n L) (ob : Obj) : (w.alloc ob).ownsRow B T sz v n L := own_keep h ((Below.refl _ _).alloc (Nat.le_refl _) ob)
theorem ins_news {w : World} {ad : Addr} {n sz : Nat} {L : List Value} (h : InS w (some ad) n sz L) : ∀ j u, L[j]? = some u → w.cell? (ad.add j) = some u := by
  obtain ⟨hl, _, h0 | ⟨b, off, ha, _, hc⟩⟩ := h
  · intro j u hu
    have := (List.getElem?_eq_some_iff.1 hu).1
    rw [hl, h0, Nat.zero_mul] at this
    omega
  · injection ha with ha
    subst ha
    intro j u hu
    rw [add_plain]
    exact hc j u hu
set_option maxHeartbeats 4000000 in
set_option maxRecDepth 100000 in
theorem members_any (a : Option Addr) (cap : Nat) (gs : List GrD) (w : World) (h20 : gs.length ≤ 20) (hs : ∀ x ∈ gs, 0 < x.ns.length ∧ x.ns.length ≤ 20) (hin : InS w a gs.length 3 (flat grL gs)) (hgood : ∀ x ∈ gs, GoodG w x) : Calls Try.prog 46 #[.slice a gs.length cap] w fun e w' => ∃ v, e = .returned v ∧ w'.ownsRow w.heap.size 9 1 v (memS gs).length (flat stL (memS gs)) ∧ Below w.heap.size w w' := by
  obtain ⟨i0, hif, hz0, hz1, hz2⟩ := info_parts infoStr
  obtain ⟨N, hN⟩ : ∃ N, N = gs.length := ⟨_, rfl⟩
  have HN := Lib.hid hN
  have HI := Lib.hid hin
  have HGG := Lib.hid hgood
  have HSML := Lib.hid hs
  have hmx : N ≤ 20 := by omega
  rw [← hN]
  clear hN hin hgood hs h20
  go_enter Try.func46, Try.ntmps46
  go_wp2_with fail
  go_loopw [3, 8] (fun v i wr => ∃ j : Nat, j ≤ N ∧ i = .int .i64 j ∧ Hid (wr.ownsRow w.heap.size 9 1 v (memS (gs.take j)).length (flat stL (memS (gs.take j))) ∧ Below w.heap.size w wr)) (fun _ i _ => N - (intOf i).toNat)
  case atStart => exact ⟨0, by omega, rfl, Lib.hid ⟨World.ownsRow_nil _ _ _ _, Below.refl _ _⟩⟩
  case round =>
    obtain ⟨j, hj, rfl, hH⟩ := hrel
    have HO := Lib.hid hH.out.1
    have HBR := Lib.hid hH.out.2
    clear hH
    by_cases hlt : j < N
    · obtain ⟨b, o, rfl, hbl, hcell⟩ := (HI.out.keep HBR.out).at grL_len (by have := HN.out; omega)
      obtain ⟨x, hx⟩ : ∃ x, gs[j]? = some x := ⟨_, List.getElem?_eq_getElem (by rw [← HN.out]; exact hlt)⟩
      have c0 := hcell j _ hx 0 _ rfl
      have c1 := hcell j _ hx 1 _ rfl
      have c2 := hcell j _ hx 2 _ rfl
      rw [Nat.add_zero] at c0
      have k1 : (0 : Int) ≤ (j : Int) := by omega
      have k2 : (j : Int) < (N : Int) := by omega
      have hxs := HSML.out x (List.mem_of_getElem? hx)
      have hgd := (HGG.out x (List.mem_of_getElem? hx)).1
      have hlen := memS_len (fun y hy => (HSML.out y hy).2) j
      have HST := Lib.hid (memS_step hx)
      obtain ⟨nm, xa, xc, ns, dd⟩ := x
      obtain ⟨D, hD⟩ : ∃ D, D = memS (gs.take j) := ⟨_, rfl⟩
      rw [← hD] at HO HST hlen
      obtain ⟨M, hM⟩ : ∃ M, M = ns.length := ⟨_, rfl⟩
      have hM1 : 0 < M := by rw [hM]; exact hxs.1
      have hM2 : M ≤ 20 := by rw [hM]; exact hxs.2
      have d1 : wr.cell? ⟨b, o + j * 3 + 1, none⟩ = some (.slice xa M xc) := by rw [hM]; exact c1
      have d0 : wr.cell? ⟨b, o + j * 3, none⟩ = some (.string nm) := c0
      have d2 : wr.cell? ⟨b, o + j * 3 + 2, none⟩ = some (.int .i64 dd) := c2
      clear c0 c1 c2
      have hgd : InS w xa M 1 (flat stL ns) := by rw [hM]; exact hgd
      obtain ⟨b2, o2, rfl, hb2, hc2⟩ := InS.at (f := stL) (xs := ns) stL_len (by rw [← hM]; exact hgd) (by omega)
      have HC2 := Lib.hid (show ∀ k u, (flat stL ns)[k]? = some u → (wr.alloc (Obj.cells #[.string nm, .slice (some ⟨b2, o2, none⟩) M xc, .int .i64 dd] 33)).cell? ⟨b2, o2 + k, none⟩ = some u from fun k u hu => by
        have h1 := ins_news hgd k u hu
        rw [add_plain] at h1
        exact ((bel_fresh (w := wr) (Obj.cells #[.string nm, .slice (some ⟨b2, o2, none⟩) M xc, .int .i64 dd] 33)).cell (p := ⟨b2, o2 + k, none⟩) (Nat.lt_of_lt_of_le hb2 HBR.out.size)).trans ((HBR.out.cell (p := ⟨b2, o2 + k, none⟩) hb2).trans h1))
      have HMM := Lib.hid hM
      have HLl := Lib.hid HO.out.lt
      have NW := Lib.hid (row_fresh wr #[.string nm, .slice (some ⟨b2, o2, none⟩) M xc, .int .i64 dd] 33)
      clear hcell hbl hx hxs hgd hM hD hb2 hc2
      have n_0 := NW.out.c 0 _ rfl
      have n_1 := NW.out.c 1 _ rfl
      have n_2 := NW.out.c 2 _ rfl
      go_wp2_with (at_builtin; refine wpList_append_own _ rfl _ _ 31 rfl w.heap.size 9 i0 (.string ⟨#[]⟩) 1 16 Try.underlying31 hif hz0 hz1 hz2 rfl (by decide) _ _ _ rfl (own_newS HO.out _) ⟨b2, o2, none⟩ M xc (flat stL ns) rfl ?c1 ?c2 ?c3 ?c4 ?c5 ?c6 ?_)
      case c1 => have h := flat_len stL_len ns; have h2 := HMM.out; omega
      case c2 => first | exact HC2.out | exact fun k u hu => by first | exact HC2.out k u hu | (rw [add_plain]; exact HC2.out k u hu)
      case c3 => exact str_all _
      case c4 => unfold maxLen; omega
      case c5 => omega
      case c6 => have := HBR.out.size; simp; omega
      intro v5 w5 hown hgrow _
      have HO5 := Lib.hid (show w5.ownsRow w.heap.size 9 1 v5 (memS (gs.take (j + 1))).length (flat stL (memS (gs.take (j + 1)))) by
        rw [HST.out, flat_append, List.length_append, ← HMM.out]; exact hown)
      have HB5 := Lib.hid ((HBR.out.alloc HBR.out.size (Obj.cells #[.string nm, .slice (some ⟨b2, o2, none⟩) M xc, .int .i64 dd] 33)).grown hgrow (Nat.le_trans HBR.out.size (by simp)) (fun k hk => (HLl.out k hk).1))
      clear hown hgrow n_0 n_1 n_2 d0 d1 d2
      go_wp2_with fail
      go_roundw
      case rel => exact ⟨j + 1, by omega, by go_num, Lib.hid ⟨HO5.out, HB5.out⟩⟩
      case measure => (simp [intOf]) <;> omega
    · obtain rfl : j = N := by omega
      have HO2 := Lib.hid (show wr.ownsRow w.heap.size 9 1 u3 (memS gs).length (flat stL (memS gs)) by
        have h := HO.out
        rw [HN.out, List.take_length] at h
        exact h)
      go_wp2_with fail
      go_ret
      exact ⟨_, rfl, HO2.out, HBR.out⟩
end Go.Proofs.Ytojbhbifbennfaa
