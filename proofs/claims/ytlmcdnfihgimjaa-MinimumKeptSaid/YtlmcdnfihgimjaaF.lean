/- Contracts of ours and Replay. -/
import Derived.Test.YtlmcdnfihgimjaaE
namespace Go.Proofs.Ytlmcdnfihgimjaa
open Go.RowKit Go.Deep

def errO (p : Pt) (s : DrD) (a : AskD) : Int := errR p s.k s.n s.c a.lv a.k a.n a.t
def nextO (p : Pt) (s : DrD) (a : AskD) : DrD := ⟨(nextR p s.k s.n s.c a.lv a.k a.n a.t).1, (nextR p s.k s.n s.c a.lv a.k a.n a.t).2.1, (nextR p s.k s.n s.c a.lv a.k a.n a.t).2.2⟩
def firstE (p : Pt) : DrD → List AskD → Int
  | _, [] => 0
  | s, a :: r => if errO p s a = 0 then firstE p (nextO p s a) r else errO p s a
def statesO (p : Pt) : DrD → List AskD → List DrD
  | _, [] => []
  | s, a :: r => nextO p s a :: statesO p (nextO p s a) r
theorem states_len (p : Pt) (s : DrD) (xs : List AskD) : (statesO p s xs).length = xs.length := by
  induction xs generalizing s with
  | nil => rfl
  | cons a r ih => simp [statesO, ih]
theorem next_good {p : Pt} {s : DrD} {a : AskD} (h : errO p s a = 0) : nextT p s.k s.n s.c a.lv a.k a.n a.t = .tuple #[.agg #[.int .i64 (nextO p s a).k, .int .i64 (nextO p s a).n, .int .i64 (nextO p s a).c], .int .i64 0] := if_pos h
theorem next_bad {p : Pt} {s : DrD} {a : AskD} (h : errO p s a ≠ 0) : nextT p s.k s.n s.c a.lv a.k a.n a.t = .tuple #[.agg #[.int .i64 0, .int .i64 0, .int .i64 0], .int .i64 (errO p s a)] := if_neg h
theorem RowAt.keepB {w w' : World} {b B : Nat} {L : List Value} (t : RowAt w b L) (hb : Below B w w') (hB : b < B) : RowAt w' b L :=
  ⟨fun i v h => (hb.cell (p := ⟨b, i, none⟩) hB).trans (t.c i v h), fun o => (hb.frozen (p := ⟨b, o, none⟩) hB).trans (t.fz o), Nat.lt_of_lt_of_le t.lt hb.size⟩
theorem grown_set (w : World) (a : Addr) (u : Value) : w.grownBy (w.setCell a u) (some a.block) :=
  ⟨rfl, rfl, rfl, by simp, fun k _ hk => heap_setCell_other w a k u (fun e => hk (by rw [e]))⟩
theorem own_set1 {w : World} {base : Nat} {e : TypeId} {sz n R k : Nat} {v x : Value} {xs : List Value} (h : w.ownsRow base e sz v n xs) (hR : R < base) : (w.setCell ⟨R, k, none⟩ x).ownsRow base e sz v n xs :=
  h.kept (grown_set w ⟨R, k, none⟩ x) (by
    cases hv : v.ownBlock with
    | none => exact .inl rfl
    | some j => exact .inr (fun e => by have := (h.lt j hv).1; injection e with e; have e : j = R := e; omega))
theorem own_setCells {base e sz n R : Nat} {v : Value} {xs : List Value} (hR : R < base) : ∀ (M : List Value) (o : Nat) (w : World), w.ownsRow base e sz v n xs → (w.setCells R o M).ownsRow base e sz v n xs
  | [], _, _, h => h
  | _ :: r, o, _, h => own_setCells hR r (o + 1) _ (own_set1 h hR)
theorem infoDr : (Try.prog.info? 28).map (fun i => (i.zero, i.size, i.bytes)) = some (some (.agg #[.int .i64 0, .int .i64 0, .int .i64 0]), 3, 24) := by kernel_rfl
theorem infoAsk : (Try.prog.info? 56).map (fun i => (i.zero, i.size, i.bytes)) = some (some (.agg #[.int .i64 0, .int .i64 0, .int .i64 0, .int .i64 0]), 4, 32) := by kernel_rfl

set_option maxHeartbeats 4000000 in
set_option maxRecDepth 100000 in
theorem ours_any (a : Option Addr) (cap : Nat) (qs : List AskD) (w : World) (h60 : qs.length ≤ 60) (hin : InS w a qs.length 4 (flat askL qs)) : Calls Try.prog 13 #[.slice a qs.length cap] w fun e w' => ∃ v, e = .returned v ∧ w'.ownsRow w.heap.size 56 4 v qs.length (flat askL qs) ∧ Below w.heap.size w w' := by
  obtain ⟨N, hN⟩ : ∃ N, N = qs.length := ⟨_, rfl⟩
  rw [← hN]
  have HN := Lib.hid hN
  have HI := Lib.hid hin
  obtain ⟨i0, hif, hz0, hz1, hz2⟩ := info_parts infoAsk
  clear hN hin
  go_enter Try.func13, Try.ntmps13
  go_wp2_with fail
  have HO := Lib.hid (own_empty w 56 4)
  have HB0 := Lib.hid ((Below.refl w.heap.size w).alloc (Nat.le_refl _) (Obj.cells #[] 56))
  obtain ⟨w2, hw2⟩ : ∃ w2, w2 = w.alloc (Obj.cells #[] 56) := ⟨_, rfl⟩
  rw [← hw2] at HO HB0 ⊢
  clear hw2
  go_loopw [3, 4] (fun v i wr => ∃ j : Nat, j ≤ N ∧ i = .int .i64 j ∧ Hid (wr.ownsRow w.heap.size 56 4 v j (flat askL (qs.take j)) ∧ Below w.heap.size w wr)) (fun _ i _ => N - (intOf i).toNat)
  case atStart => exact ⟨0, by omega, rfl, Lib.hid ⟨HO.out, HB0.out⟩⟩
  case round =>
    obtain ⟨j, hj, rfl, hH⟩ := hrel
    by_cases hlt : j < N
    · have hjx : j < qs.length := by rw [← HN.out]; exact hlt
      obtain ⟨b, o, rfl, hbl, hcell⟩ := (HI.out.keep hH.out.2).at askL_len (by omega)
      obtain ⟨x, hx⟩ : ∃ x, qs[j]? = some x := ⟨_, List.getElem?_eq_getElem hjx⟩
      obtain ⟨xt, xl, xk, xn⟩ := x
      have q0 := hcell j _ hx 0 _ rfl
      have q1 := hcell j _ hx 1 _ rfl
      have q2 := hcell j _ hx 2 _ rfl
      have q3 := hcell j _ hx 3 _ rfl
      rw [Nat.add_zero] at q0
      have k1 : (0 : Int) ≤ (j : Int) := by omega
      have k2 : (j : Int) < (N : Int) := by omega
      have k3 : N ≤ 60 := by have := HN.out; omega
      have HX := Lib.hid hx
      have HOw := Lib.hid hH.out.1
      have BR := Lib.hid hH.out.2
      have HLl := Lib.hid hH.out.1.lt
      have HNw := Lib.hid (row_fresh wr #[.int .i64 xt, .int .i64 xl, .int .i64 xk, .int .i64 xn] 56)
      have HK3 := Lib.hid k3
      clear hx hcell hjx
      go_wp2_with (at_builtin; refine wpList_append_own _ rfl _ _ 45 rfl w.heap.size 56 i0 (.agg #[.int .i64 0, .int .i64 0, .int .i64 0, .int .i64 0]) 4 32 Try.underlying45 hif hz0 hz1 hz2 rfl (by decide) _ _ _ rfl (HOw.out.alloc _) ⟨wr.heap.size, 0, none⟩ 1 1 [.int .i64 xt, .int .i64 xl, .int .i64 xk, .int .i64 xn] rfl rfl ?c1 ?c2 ?c3 ?c4 ?c5 ?_)
      case c2 => exact ⟨rfl, rfl, rfl, rfl⟩
      case c3 => have := HK3.out; unfold maxLen; omega
      case c4 => omega
      case c5 => have := BR.out.size; simp; omega
      intro v' w5 hown' hgrow _
      have HO5 := Lib.hid (show w5.ownsRow w.heap.size 56 4 v' (j + 1) (flat askL (qs.take (j + 1))) by rw [List.take_add_one, HX.out, flat_append]; exact hown')
      have B5 := Lib.hid ((BR.out.alloc BR.out.size (Obj.cells #[.int .i64 xt, .int .i64 xl, .int .i64 xk, .int .i64 xn] 56)).grown hgrow (Nat.le_trans BR.out.size (by simp)) (fun k hk => (HLl.out k hk).1))
      clear hown' hgrow
      go_wp2_with fail
      go_roundw
      case rel => exact ⟨j + 1, by omega, by go_num, Lib.hid ⟨HO5.out, B5.out⟩⟩
      case measure => simp [intOf]; omega
    · obtain rfl : j = N := by omega
      have hO : wr.ownsRow w.heap.size 56 4 u3 j (flat askL qs) := by
        have := hH.out.1
        rwa [HN.out, List.take_length, ← HN.out] at this
      have HO2 := Lib.hid hO
      clear hO
      go_wp2_with fail
      go_ret
      exact ⟨_, rfl, HO2.out, hH.out.2⟩

structure RInv (p : Pt) (s0 : DrD) (qs : List AskD) (g h : Nat) (w : World) (L : List Value) (v : Value) (j : Nat) (done : List DrD) (s : DrD) (wr : World) : Prop where
  err : firstE p s0 qs = firstE p s (qs.drop j)
  sts : statesO p s0 qs = done ++ statesO p s (qs.drop j)
  len : done.length = j
  own : wr.ownsRow (w.heap.size + 2) 28 3 v j (flat drL done)
  rp : RowAt wr g L
  ro : RowAt wr h (drL s)
  bel : Below w.heap.size w wr
  sz : w.heap.size + 2 ≤ wr.heap.size
def replayL (p : Pt) (s : DrD) (qs : List AskD) : List DrD := if firstE p s qs = 0 then statesO p s qs else []
set_option maxHeartbeats 4000000 in
set_option maxRecDepth 100000 in
theorem replay_any (p : Pt) (s : DrD) (a : Option Addr) (cap : Nat) (qs : List AskD) (w : World) (h60 : qs.length ≤ 60) (hin : InS w a qs.length 4 (flat askL qs)) : Calls Try.prog 12 #[ptV p, .agg #[.int .i64 s.k, .int .i64 s.n, .int .i64 s.c], .slice a qs.length cap] w fun e w' => ∃ v, e = .returned (.tuple #[v, .int .i64 (firstE p s qs)]) ∧ w'.ownsRow w.heap.size 28 3 v (replayL p s qs).length (flat drL (replayL p s qs)) ∧ Below w.heap.size w w' := by
  obtain ⟨nm, kd, rl, un, lo, hi, st, ss, dk, dn, on, off⟩ := p
  obtain ⟨N, hN⟩ : ∃ N, N = qs.length := ⟨_, rfl⟩
  rw [← hN]
  have HN := Lib.hid hN
  have HI := Lib.hid hin
  obtain ⟨i0, hif, hz0, hz1, hz2⟩ := info_parts infoDr
  obtain ⟨s0k, s0n, s0c⟩ := s
  obtain ⟨W, g, h, hW, hg, hh, RP, RO, B, sz⟩ := box2 w #[nm, .int .i64 kd, .int .i64 rl, un, lo, hi, st, ss, dk, dn, .int .i64 on, .int .i64 off] 26 #[.int .i64 s0k, .int .i64 s0n, .int .i64 s0c] 28
  have hgB : g < w.heap.size + 2 := by omega
  have hhB : h < w.heap.size + 2 := by omega
  have hwh : w.heap.size ≤ h := by omega
  have hgh : h ≠ g := by omega
  have HS := Lib.hid (show w.heap.size + 2 ≤ W.heap.size by omega)
  have HP0 := Lib.hid RP
  have HO0 := Lib.hid RO
  have HB0 := Lib.hid B
  have HNX := Lib.hid (fun k n c lv vk vn now w => next_any ⟨nm, kd, rl, un, lo, hi, st, ss, dk, dn, on, off⟩ k n c lv vk vn now w)
  clear hN hin RP RO B sz
  go_enter Try.func12, Try.ntmps12
  go_wp2_with fail
  rw [← hW]
  try rw [← hh]
  try rw [← hg]
  clear hW hg hh
  go_loopw [8, 15] (fun v i wr => ∃ (j : Nat) (done : List DrD) (s : DrD), j ≤ N ∧ i = .int .i64 j ∧ Hid (RInv ⟨nm, kd, rl, un, lo, hi, st, ss, dk, dn, on, off⟩ ⟨s0k, s0n, s0c⟩ qs g h w [nm, .int .i64 kd, .int .i64 rl, un, lo, hi, st, ss, dk, dn, .int .i64 on, .int .i64 off] v j done s wr)) (fun _ i _ => N - (intOf i).toNat)
  case atStart => exact ⟨0, [], ⟨s0k, s0n, s0c⟩, by omega, rfl, Lib.hid ⟨rfl, rfl, rfl, World.ownsRow_nil _ _ _ _, HP0.out, HO0.out, HB0.out, HS.out⟩⟩
  case round =>
    obtain ⟨j, done, s, hj, rfl, hH⟩ := hrel
    by_cases hlt : j < N
    · have hjx : j < qs.length := by rw [← HN.out]; exact hlt
      obtain ⟨b, o, rfl, hbl, hcell⟩ := (HI.out.keep hH.out.bel).at askL_len (by omega)
      obtain ⟨x, hx⟩ : ∃ x, qs[j]? = some x := ⟨_, List.getElem?_eq_getElem hjx⟩
      have HD := Lib.hid (drop_cons hx)
      obtain ⟨xt, xl, xk, xn⟩ := x
      obtain ⟨sk, sn, sc⟩ := s
      have q0 := hcell j _ hx 0 _ rfl
      have q1 := hcell j _ hx 1 _ rfl
      have q2 := hcell j _ hx 2 _ rfl
      have q3 := hcell j _ hx 3 _ rfl
      rw [Nat.add_zero] at q0
      have k1 : (0 : Int) ≤ (j : Int) := by omega
      have k2 : (j : Int) < (N : Int) := by omega
      have k3 : N ≤ 60 := by have := HN.out; omega
      have HK3 := Lib.hid k3
      have HX := Lib.hid hx
      have E1 := Lib.hid (And.intro hH.out.err (And.intro hH.out.sts hH.out.len))
      have hnx := fun w => HNX.out sk sn sc xl xk xn xt w
      have hk := (Below.refl wr.heap.size wr).alloc (Nat.le_refl _) (Obj.cells #[.int .i64 xt, .int .i64 xl, .int .i64 xk, .int .i64 xn] 56)
      have P1 := Lib.hid (hH.out.rp.keep hk)
      have O1 := Lib.hid (show RowAt _ h [.int .i64 sk, .int .i64 sn, .int .i64 sc] from hH.out.ro.keep hk)
      have A1 := Lib.hid (row_fresh wr #[.int .i64 xt, .int .i64 xl, .int .i64 xk, .int .i64 xn] 56)
      have B1 := Lib.hid (hH.out.bel.trans (hk.mono hH.out.bel.size))
      have W1 := Lib.hid (own_keep hH.out.own hk)
      have S1 := Lib.hid (Nat.le_trans hH.out.sz hk.size)
      clear hx hcell hjx hk hH HNX hbl
      have p0 := P1.out.c 0 _ rfl
      have p1 := P1.out.c 1 _ rfl
      have p2 := P1.out.c 2 _ rfl
      have p3 := P1.out.c 3 _ rfl
      have p4 := P1.out.c 4 _ rfl
      have p5 := P1.out.c 5 _ rfl
      have p6 := P1.out.c 6 _ rfl
      have p7 := P1.out.c 7 _ rfl
      have p8 := P1.out.c 8 _ rfl
      have p9 := P1.out.c 9 _ rfl
      have p10 := P1.out.c 10 _ rfl
      have p11 := P1.out.c 11 _ rfl
      have o0 := O1.out.c 0 _ rfl
      have o1 := O1.out.c 1 _ rfl
      have o2 := O1.out.c 2 _ rfl
      have a0 := A1.out.c 0 _ rfl
      have a1 := A1.out.c 1 _ rfl
      have a2 := A1.out.c 2 _ rfl
      have a3 := A1.out.c 3 _ rfl
      by_cases he : errO ⟨nm, kd, rl, un, lo, hi, st, ss, dk, dn, on, off⟩ ⟨sk, sn, sc⟩ ⟨xt, xl, xk, xn⟩ = 0
      · have hg := next_good he
        obtain ⟨⟨yk, yn, yc⟩, hy⟩ : ∃ y, y = nextO ⟨nm, kd, rl, un, lo, hi, st, ss, dk, dn, on, off⟩ ⟨sk, sn, sc⟩ ⟨xt, xl, xk, xn⟩ := ⟨_, rfl⟩
        rw [← hy] at hg
        have HC := Lib.hid (show ∀ w, Calls Try.prog 10 #[.agg #[nm, .int .i64 kd, .int .i64 rl, un, lo, hi, st, ss, dk, dn, .int .i64 on, .int .i64 off], .agg #[.int .i64 sk, .int .i64 sn, .int .i64 sc], .agg #[.int .i64 xl, .int .i64 xk, .int .i64 xn], .int .i64 xt] w fun e w' => e = .returned (.tuple #[.agg #[.int .i64 yk, .int .i64 yn, .int .i64 yc], .int .i64 0]) ∧ Below w.heap.size w w' from fun w => (hnx w).mono fun e w' h => ⟨h.1.trans (congrArg Ending.returned hg), h.2⟩)
        have HY := Lib.hid hy
        have HE := Lib.hid he
        clear hnx hg hy he
        go_wp2_with fail
        refine (HC.out _).mono ?_
        rintro e w3 ⟨rfl, hb⟩
        have hk := hb.alloc hb.size (Obj.cells #[.int .i64 yk, .int .i64 yn, .int .i64 yc] 28)
        have P3 := Lib.hid (P1.out.keep hk)
        have O3 := Lib.hid (O1.out.keep hk)
        have Y3 := Lib.hid (row_fresh w3 #[.int .i64 yk, .int .i64 yn, .int .i64 yc] 28)
        have B3 := Lib.hid (B1.out.trans (hk.mono B1.out.size))
        have W3 := Lib.hid (own_setCells hhB [.int .i64 yk, .int .i64 yn, .int .i64 yc] 0 _ (own_keep W1.out hk))
        have S3 := Lib.hid (Nat.le_trans S1.out hk.size)
        clear hb hk
        clear p0 p1 p2 p3 p4 p5 p6 p7 p8 p9 p10 p11
        clear o0 o1 o2
        clear a0 a1 a2 a3
        clear P1 O1 A1 B1 W1 S1
        have o0 := O3.out.c 0 _ rfl
        have o1 := O3.out.c 1 _ rfl
        have o2 := O3.out.c 2 _ rfl
        have oz := O3.out.fz
        have y0 := Y3.out.c 0 _ rfl
        have y1 := Y3.out.c 1 _ rfl
        have y2 := Y3.out.c 2 _ rfl
        have NW := Lib.hid (show RowAt (((w3.alloc (Obj.cells #[.int .i64 yk, .int .i64 yn, .int .i64 yc] 28)).setCells h 0 [.int .i64 yk, .int .i64 yn, .int .i64 yc]).alloc (Obj.cells #[.int .i64 yk, .int .i64 yn, .int .i64 yc] 28)) (w3.heap.size + 1) [.int .i64 yk, .int .i64 yn, .int .i64 yc] by
          have := row_fresh ((w3.alloc (Obj.cells #[.int .i64 yk, .int .i64 yn, .int .i64 yc] 28)).setCells h 0 [.int .i64 yk, .int .i64 yn, .int .i64 yc]) #[.int .i64 yk, .int .i64 yn, .int .i64 yc] 28
          rwa [sz_setCells, World.size_alloc] at this)
        go_wp2_with (at_builtin; refine wpList_append_own _ rfl _ _ 42 rfl (w.heap.size + 2) 28 i0 (.agg #[.int .i64 0, .int .i64 0, .int .i64 0]) 3 24 Try.underlying42 hif hz0 hz1 hz2 rfl (by decide) _ _ _ rfl (W3.out.alloc _) ⟨w3.heap.size + 1, 0, none⟩ 1 1 [.int .i64 yk, .int .i64 yn, .int .i64 yc] rfl rfl ?c1 ?c2 ?c3 ?c4 ?c5 ?_)
        case c1 => exact fun j u hu => by rw [add_plain, Nat.zero_add]; exact NW.out.c j u hu
        case c2 =>
          intro u hu
          simp at hu
          rcases hu with rfl | rfl | rfl <;> rfl
        case c3 => have := HK3.out; unfold maxLen; omega
        case c4 => omega
        case c5 => have := S3.out; simp at this ⊢; omega
        intro v' w5 hown' hgrow _
        have hS5 : w.heap.size + 2 ≤ (((w3.alloc (Obj.cells #[.int .i64 yk, .int .i64 yn, .int .i64 yc] 28)).setCells h 0 [.int .i64 yk, .int .i64 yn, .int .i64 yc]).alloc (Obj.cells #[.int .i64 yk, .int .i64 yn, .int .i64 yc] 28)).heap.size := by have := S3.out; rw [World.size_alloc, sz_setCells]; omega
        have B5 := Lib.hid (((set_below B3.out hwh [.int .i64 yk, .int .i64 yn, .int .i64 yc]).alloc (Nat.le_trans B3.out.size (by rw [sz_setCells]; exact Nat.le_refl _)) (Obj.cells #[.int .i64 yk, .int .i64 yn, .int .i64 yc] 28)).grown hgrow (Nat.le_trans (by omega) hS5) (fun k hk => by have := (W3.out.lt k hk).1; omega))
        have K5 : Below (w.heap.size + 2) ((w3.alloc (Obj.cells #[.int .i64 yk, .int .i64 yn, .int .i64 yc] 28)).setCells h 0 [.int .i64 yk, .int .i64 yn, .int .i64 yc]) w5 := ((Below.refl (w.heap.size + 2) ((w3.alloc (Obj.cells #[.int .i64 yk, .int .i64 yn, .int .i64 yc] 28)).setCells h 0 [.int .i64 yk, .int .i64 yn, .int .i64 yc])).alloc (by have := S3.out; rw [sz_setCells]; omega) (Obj.cells #[.int .i64 yk, .int .i64 yn, .int .i64 yc] 28)).grown hgrow hS5 (fun k hk => (W3.out.lt k hk).1)
        have P5 := Lib.hid ((P3.out.other hgh [.int .i64 yk, .int .i64 yn, .int .i64 yc]).keepB K5 hgB)
        have O5 := Lib.hid ((O3.out.setRow [.int .i64 yk, .int .i64 yn, .int .i64 yc] rfl).keepB K5 hhB)
        have S5 := Lib.hid (Nat.le_trans (show w.heap.size + 2 ≤ ((w3.alloc (Obj.cells #[.int .i64 yk, .int .i64 yn, .int .i64 yc] 28)).setCells h 0 [.int .i64 yk, .int .i64 yn, .int .i64 yc]).heap.size by have := S3.out; rw [sz_setCells]; omega) K5.size)
        have W5 := Lib.hid hown'
        clear hown' hgrow hS5 K5 P3 O3 Y3 B3 W3 S3 NW
        go_wp2_with fail
        go_roundw
        case rel => exact ⟨j + 1, done ++ [⟨yk, yn, yc⟩], ⟨yk, yn, yc⟩, by omega, by go_num, Lib.hid ⟨E1.out.1.trans (by rw [HD.out]; show (if errO _ _ _ = 0 then _ else _) = _; rw [if_pos HE.out, ← HY.out]), E1.out.2.1.trans (by rw [HD.out]; show done ++ (nextO _ _ _ :: statesO _ (nextO _ _ _) _) = _; rw [← HY.out, List.append_assoc]; rfl), by rw [List.length_append, E1.out.2.2]; rfl, by rw [flat_append]; exact W5.out, P5.out, O5.out, B5.out, S5.out⟩⟩
        case measure => simp [intOf]; omega
      · have hg := next_bad he
        obtain ⟨E, hE⟩ : ∃ E, E = errO ⟨nm, kd, rl, un, lo, hi, st, ss, dk, dn, on, off⟩ ⟨sk, sn, sc⟩ ⟨xt, xl, xk, xn⟩ := ⟨_, rfl⟩
        rw [← hE] at hg he
        have HC := Lib.hid (show ∀ w, Calls Try.prog 10 #[.agg #[nm, .int .i64 kd, .int .i64 rl, un, lo, hi, st, ss, dk, dn, .int .i64 on, .int .i64 off], .agg #[.int .i64 sk, .int .i64 sn, .int .i64 sc], .agg #[.int .i64 xl, .int .i64 xk, .int .i64 xn], .int .i64 xt] w fun e w' => e = .returned (.tuple #[.agg #[.int .i64 0, .int .i64 0, .int .i64 0], .int .i64 E]) ∧ Below w.heap.size w w' from fun w => (hnx w).mono fun e w' h => ⟨h.1.trans (congrArg Ending.returned hg), h.2⟩)
        have HF := Lib.hid (show firstE ⟨nm, kd, rl, un, lo, hi, st, ss, dk, dn, on, off⟩ ⟨s0k, s0n, s0c⟩ qs = E from E1.out.1.trans (by rw [HD.out]; show (if errO _ _ _ = 0 then _ else _) = _; rw [if_neg (by rw [← hE]; exact he), hE]))
        have HL := Lib.hid (show replayL ⟨nm, kd, rl, un, lo, hi, st, ss, dk, dn, on, off⟩ ⟨s0k, s0n, s0c⟩ qs = [] from if_neg (by rw [HF.out]; exact he))
        have h1 : (E != 0) = true := by simpa using he
        clear hnx hg hE he
        go_wp2_with fail
        refine (HC.out _).mono ?_
        rintro e w3 ⟨rfl, hb⟩
        have hk := hb.alloc hb.size (Obj.cells #[.int .i64 0, .int .i64 0, .int .i64 0] 28)
        have B3 := Lib.hid (B1.out.trans (hk.mono B1.out.size))
        clear hb hk
        go_wp2_with fail
        go_ret2
        exact ⟨.slice none 0 0, congrArg (fun x => Ending.returned (.tuple #[.slice none 0 0, .int .i64 x])) HF.out.symm, by rw [HL.out]; exact World.ownsRow_nil _ _ _ _, B3.out⟩
    · obtain rfl : j = N := by omega
      have hdr : qs.drop j = [] := by rw [HN.out]; exact List.drop_length
      have h0 : firstE ⟨nm, kd, rl, un, lo, hi, st, ss, dk, dn, on, off⟩ ⟨s0k, s0n, s0c⟩ qs = 0 := hH.out.err.trans (by rw [hdr]; rfl)
      have hr : replayL ⟨nm, kd, rl, un, lo, hi, st, ss, dk, dn, on, off⟩ ⟨s0k, s0n, s0c⟩ qs = done := (if_pos h0).trans (hH.out.sts.trans (by rw [hdr]; exact List.append_nil _))
      have HF := Lib.hid h0
      have HL := Lib.hid hr
      have HW := Lib.hid (own_base hH.out.own (show w.heap.size ≤ w.heap.size + 2 by omega))
      clear hdr h0 hr
      go_wp2_with fail
      go_ret2
      exact ⟨_, congrArg (fun x => Ending.returned (.tuple #[_, .int .i64 x])) HF.out.symm, by rw [HL.out, hH.out.len]; exact HW.out, hH.out.bel⟩
end Go.Proofs.Ytlmcdnfihgimjaa
