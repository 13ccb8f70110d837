/- The contract of the specification's Replay. -/
import Derived.Test.YtlmcdnfihgimjaaF
import Derived.Deep.CutRange
namespace Go.Proofs.Ytlmcdnfihgimjaa
open Go.RowKit Go.Deep

theorem fresh_keptR {p w2 : World} {A : Array Value} {t : TypeId} (hb : Below (p.alloc (Obj.cells A t)).heap.size (p.alloc (Obj.cells A t)) w2) : RowAt w2 p.heap.size A.toList := (row_fresh p A t).keep hb
theorem fresh_keptR_drew {p w2 : World} {A : Array Value} {t : TypeId} (hb : Below (p.alloc (Obj.cells A t)).drew.heap.size (p.alloc (Obj.cells A t)).drew w2) : RowAt w2 p.heap.size A.toList := (row_fresh p A t).drew.keep hb
theorem rkept {w w' : World} {b : Nat} {L : List Value} (h : RowAt w b L) (hb : Below w.heap.size w w') : RowAt w' b L := h.keep hb
theorem rkept_drew {w w' : World} {b : Nat} {L : List Value} (h : RowAt w b L) (hb : Below w.drew.heap.size w.drew w') : RowAt w' b L := h.drew.keep hb

abbrev CS (wr : World) (g h b o j : Nat) (nm : Value) (kd rl : Int) (un lo hi st ss dk dn : Value) (on off : Int) (sk sn sc xt xl xk xn : Int) (w' : World) : Prop := w'.cell? ⟨g, 0, none⟩ = some (nm) ∧ w'.cell? ⟨g, 1, none⟩ = some (.int .i64 kd) ∧ w'.cell? ⟨g, 2, none⟩ = some (.int .i64 rl) ∧ w'.cell? ⟨g, 3, none⟩ = some (un) ∧ w'.cell? ⟨g, 4, none⟩ = some (lo) ∧ w'.cell? ⟨g, 5, none⟩ = some (hi) ∧ w'.cell? ⟨g, 6, none⟩ = some (st) ∧ w'.cell? ⟨g, 7, none⟩ = some (ss) ∧ w'.cell? ⟨g, 8, none⟩ = some (dk) ∧ w'.cell? ⟨g, 9, none⟩ = some (dn) ∧ w'.cell? ⟨g, 10, none⟩ = some (.int .i64 on) ∧ w'.cell? ⟨g, 11, none⟩ = some (.int .i64 off) ∧ w'.cell? ⟨h, 0, none⟩ = some (.int .i64 sk) ∧ w'.cell? ⟨h, 1, none⟩ = some (.int .i64 sn) ∧ w'.cell? ⟨h, 2, none⟩ = some (.int .i64 sc) ∧ w'.cell? ⟨b, o + j * 4, none⟩ = some (.int .i64 xt) ∧ w'.cell? ⟨b, o + j * 4 + 1, none⟩ = some (.int .i64 xl) ∧ w'.cell? ⟨b, o + j * 4 + 2, none⟩ = some (.int .i64 xk) ∧ w'.cell? ⟨b, o + j * 4 + 3, none⟩ = some (.int .i64 xn) ∧ Below wr.heap.size wr w'
theorem cs_of {wr : World} {g h b o j : Nat} {nm : Value} {kd rl : Int} {un lo hi st ss dk dn : Value} {on off : Int} {sk sn sc xt xl xk xn : Int} {w' : World} (s : CS wr g h b o j nm kd rl un lo hi st ss dk dn on off sk sn sc xt xl xk xn wr) (hb : Below wr.heap.size wr w') : CS wr g h b o j nm kd rl un lo hi st ss dk dn on off sk sn sc xt xl xk xn w' := by
  obtain ⟨s0, s1, s2, s3, s4, s5, s6, s7, s8, s9, s10, s11, s12, s13, s14, s15, s16, s17, s18, _⟩ := s
  have hg : g < wr.heap.size := World.block_lt_of_cell? _ _ s0
  have hh : h < wr.heap.size := World.block_lt_of_cell? _ _ s12
  have hq : b < wr.heap.size := World.block_lt_of_cell? _ _ s15
  exact ⟨(hb.cell (p := ⟨g, 0, none⟩) hg).trans s0, (hb.cell (p := ⟨g, 1, none⟩) hg).trans s1, (hb.cell (p := ⟨g, 2, none⟩) hg).trans s2, (hb.cell (p := ⟨g, 3, none⟩) hg).trans s3, (hb.cell (p := ⟨g, 4, none⟩) hg).trans s4, (hb.cell (p := ⟨g, 5, none⟩) hg).trans s5, (hb.cell (p := ⟨g, 6, none⟩) hg).trans s6, (hb.cell (p := ⟨g, 7, none⟩) hg).trans s7, (hb.cell (p := ⟨g, 8, none⟩) hg).trans s8, (hb.cell (p := ⟨g, 9, none⟩) hg).trans s9, (hb.cell (p := ⟨g, 10, none⟩) hg).trans s10, (hb.cell (p := ⟨g, 11, none⟩) hg).trans s11, (hb.cell (p := ⟨h, 0, none⟩) hh).trans s12, (hb.cell (p := ⟨h, 1, none⟩) hh).trans s13, (hb.cell (p := ⟨h, 2, none⟩) hh).trans s14, (hb.cell (p := ⟨b, o + j * 4, none⟩) hq).trans s15, (hb.cell (p := ⟨b, o + j * 4 + 1, none⟩) hq).trans s16, (hb.cell (p := ⟨b, o + j * 4 + 2, none⟩) hq).trans s17, (hb.cell (p := ⟨b, o + j * 4 + 3, none⟩) hq).trans s18, hb⟩
theorem cs_bel {wr : World} {g h b o j : Nat} {nm : Value} {kd rl : Int} {un lo hi st ss dk dn : Value} {on off : Int} {sk sn sc xt xl xk xn : Int} {w1 : World} (s : CS wr g h b o j nm kd rl un lo hi st ss dk dn on off sk sn sc xt xl xk xn w1) : Below wr.heap.size wr w1 := s.2.2.2.2.2.2.2.2.2.2.2.2.2.2.2.2.2.2.2
theorem cs_keep {wr : World} {g h b o j : Nat} {nm : Value} {kd rl : Int} {un lo hi st ss dk dn : Value} {on off : Int} {sk sn sc xt xl xk xn : Int} {w1 w2 : World} (c : CS wr g h b o j nm kd rl un lo hi st ss dk dn on off sk sn sc xt xl xk xn wr) (hb : Below w1.heap.size w1 w2) (s : CS wr g h b o j nm kd rl un lo hi st ss dk dn on off sk sn sc xt xl xk xn w1) : CS wr g h b o j nm kd rl un lo hi st ss dk dn on off sk sn sc xt xl xk xn w2 := cs_of c ((cs_bel s).trans (hb.mono (cs_bel s).size))
theorem cs_alloc {wr : World} {g h b o j : Nat} {nm : Value} {kd rl : Int} {un lo hi st ss dk dn : Value} {on off : Int} {sk sn sc xt xl xk xn : Int} {w1 : World} (c : CS wr g h b o j nm kd rl un lo hi st ss dk dn on off sk sn sc xt xl xk xn wr) (x : Obj) (s : CS wr g h b o j nm kd rl un lo hi st ss dk dn on off sk sn sc xt xl xk xn w1) : CS wr g h b o j nm kd rl un lo hi st ss dk dn on off sk sn sc xt xl xk xn (w1.alloc x) := cs_of c ((cs_bel s).alloc (cs_bel s).size x)
theorem cs_drew {wr : World} {g h b o j : Nat} {nm : Value} {kd rl : Int} {un lo hi st ss dk dn : Value} {on off : Int} {sk sn sc xt xl xk xn : Int} {w1 : World} (c : CS wr g h b o j nm kd rl un lo hi st ss dk dn on off sk sn sc xt xl xk xn wr) (s : CS wr g h b o j nm kd rl un lo hi st ss dk dn on off sk sn sc xt xl xk xn w1) : CS wr g h b o j nm kd rl un lo hi st ss dk dn on off sk sn sc xt xl xk xn w1.drew := cs_of c (cs_bel s).drew
theorem cs_store {wr : World} {g h b o j : Nat} {nm : Value} {kd rl : Int} {un lo hi st ss dk dn : Value} {on off : Int} {sk sn sc xt xl xk xn : Int} {w1 : World} {N : Nat} (c : CS wr g h b o j nm kd rl un lo hi st ss dk dn on off sk sn sc xt xl xk xn wr) (hN : wr.heap.size ≤ N) (k : Nat) (x : Value) (s : CS wr g h b o j nm kd rl un lo hi st ss dk dn on off sk sn sc xt xl xk xn w1) : CS wr g h b o j nm kd rl un lo hi st ss dk dn on off sk sn sc xt xl xk xn (w1.setCell ⟨N, k, none⟩ x) := cs_of c ((cs_bel s).setCell (p := ⟨N, k, none⟩) hN x)

set_option maxHeartbeats 4000000 in
set_option maxRecDepth 100000 in
theorem rreplay_any (p : Pt) (s : DrD) (a : Option Addr) (cap : Nat) (qs : List AskD) (w : World) (h60 : qs.length ≤ 60) (hin : InS w a qs.length 4 (flat askL qs)) : Calls Try.prog 14 #[ptV p, .agg #[.int .i64 s.k, .int .i64 s.n, .int .i64 s.c], .slice a qs.length cap] w fun e w' => ∃ v, e = .returned (.tuple #[v, .int .i64 (firstE p s qs)]) ∧ w'.ownsRow w.heap.size 28 3 v (replayL p s qs).length (flat drL (replayL p s qs)) ∧ Below w.heap.size w w' := by
  obtain ⟨nm, kd, rl, un, lo, hi, st, ss, dk, dn, on, off⟩ := p
  obtain ⟨N, hN⟩ : ∃ N, N = qs.length := ⟨_, rfl⟩
  rw [← hN]
  have HN := Lib.hid hN
  have HI := Lib.hid hin
  obtain ⟨i0, hif, hz0, hz1, hz2⟩ := info_parts infoDr
  obtain ⟨s0k, s0n, s0c⟩ := s
  obtain ⟨W, g, h, hW, hg, hh, RP, RO, B, sz⟩ := box2 w #[nm, .int .i64 kd, .int .i64 rl, un, lo, hi, st, ss, dk, dn, .int .i64 on, .int .i64 off] 26 #[.int .i64 s0k, .int .i64 s0n, .int .i64 s0c] 28
  have OW := own_empty W 28 3
  have KW := (Below.refl W.heap.size W).alloc (Nat.le_refl _) (Obj.cells #[] 28)
  have hgB : g < w.heap.size + 2 := by omega
  have hhB : h < w.heap.size + 2 := by omega
  have hwh : w.heap.size ≤ h := by omega
  have hgh : h ≠ g := by omega
  have HS := Lib.hid (show w.heap.size + 2 ≤ (W.alloc (Obj.cells #[] 28)).heap.size by rw [World.size_alloc]; omega)
  have HP0 := Lib.hid (RP.keep KW)
  have HO0 := Lib.hid (RO.keep KW)
  have HB0 := Lib.hid (B.trans (KW.mono B.size))
  have HW0 := Lib.hid (own_base OW (show w.heap.size + 2 ≤ W.heap.size by omega))
  rw [show W.heap.size = h + 1 by omega] at HW0
  have HNX := Lib.hid (fun k n c lv vk vn now w => rnext_any ⟨nm, kd, rl, un, lo, hi, st, ss, dk, dn, on, off⟩ k n c lv vk vn now w)
  clear hN hin RP RO B sz OW KW
  go_enter Try.func14, Try.ntmps14
  go_wp2_with fail
  rw [← hW]
  try rw [← hh]
  try rw [← hg]
  clear hh hg
  obtain ⟨W1, hW1⟩ : ∃ x, x = W.alloc (Obj.cells #[] 28) := ⟨_, rfl⟩
  rw [← hW1] at HS HP0 HO0 HB0 HW0 ⊢
  clear hW hW1
  go_loopw [8, 9] (fun v i wr => ∃ (j : Nat) (done : List DrD) (s : DrD), j ≤ N ∧ i = .int .i64 j ∧ Hid (RInv ⟨nm, kd, rl, un, lo, hi, st, ss, dk, dn, on, off⟩ ⟨s0k, s0n, s0c⟩ qs g h w [nm, .int .i64 kd, .int .i64 rl, un, lo, hi, st, ss, dk, dn, .int .i64 on, .int .i64 off] v j done s wr)) (fun _ i _ => N - (intOf i).toNat)
  case atStart => exact ⟨0, [], ⟨s0k, s0n, s0c⟩, by omega, rfl, Lib.hid ⟨rfl, rfl, rfl, HW0.out, HP0.out, HO0.out, HB0.out, HS.out⟩⟩
  case round =>
    obtain ⟨j, done, s, hj, rfl, hH⟩ := hrel
    by_cases hlt : j < N
    · have hjx : j < qs.length := by rw [← HN.out]; exact hlt
      obtain ⟨b, o, rfl, hbl, hcell⟩ := (HI.out.keep hH.out.bel).at askL_len (by omega)
      obtain ⟨x, hx⟩ : ∃ x, qs[j]? = some x := ⟨_, List.getElem?_eq_getElem hjx⟩
      have HD := Lib.hid (drop_cons hx)
      obtain ⟨xt, xl, xk, xn⟩ := x
      obtain ⟨sk, sn, sc⟩ := s
      have q0 := hcell j _ hx 0 _ rfl
      have q1 := hcell j _ hx 1 _ rfl
      have q2 := hcell j _ hx 2 _ rfl
      have q3 := hcell j _ hx 3 _ rfl
      rw [Nat.add_zero] at q0
      have k1 : (0 : Int) ≤ (j : Int) := by omega
      have k2 : (j : Int) < (N : Int) := by omega
      have k3 : N ≤ 60 := by have := HN.out; omega
      have HK3 := Lib.hid k3
      have HX := Lib.hid hx
      have E1 := Lib.hid (And.intro hH.out.err (And.intro hH.out.sts hH.out.len))
      have hnx := fun w => HNX.out sk sn sc xl xk xn xt w
      have HC0 := Lib.hid (show CS wr g h b o j nm kd rl un lo hi st ss dk dn on off sk sn sc xt xl xk xn wr from ⟨hH.out.rp.c 0 _ rfl, hH.out.rp.c 1 _ rfl, hH.out.rp.c 2 _ rfl, hH.out.rp.c 3 _ rfl, hH.out.rp.c 4 _ rfl, hH.out.rp.c 5 _ rfl, hH.out.rp.c 6 _ rfl, hH.out.rp.c 7 _ rfl, hH.out.rp.c 8 _ rfl, hH.out.rp.c 9 _ rfl, hH.out.rp.c 10 _ rfl, hH.out.rp.c 11 _ rfl, hH.out.ro.c 0 _ rfl, hH.out.ro.c 1 _ rfl, hH.out.ro.c 2 _ rfl, q0, q1, q2, q3, Below.refl _ _⟩)
      have HC1 := Lib.hid (cs_drew HC0.out HC0.out)
      have P1 := Lib.hid hH.out.rp
      have O1 := Lib.hid (show RowAt wr h [.int .i64 sk, .int .i64 sn, .int .i64 sc] from hH.out.ro)
      have B1 := Lib.hid hH.out.bel
      have W1 := Lib.hid hH.out.own
      have S1 := Lib.hid hH.out.sz
      clear hx hcell hjx hH HNX hbl
      have p0 := P1.out.c 0 _ rfl
      have p1 := P1.out.c 1 _ rfl
      have p2 := P1.out.c 2 _ rfl
      have p3 := P1.out.c 3 _ rfl
      have p4 := P1.out.c 4 _ rfl
      have p5 := P1.out.c 5 _ rfl
      have p6 := P1.out.c 6 _ rfl
      have p7 := P1.out.c 7 _ rfl
      have p8 := P1.out.c 8 _ rfl
      have p9 := P1.out.c 9 _ rfl
      have p10 := P1.out.c 10 _ rfl
      have p11 := P1.out.c 11 _ rfl
      have o0 := O1.out.c 0 _ rfl
      have o1 := O1.out.c 1 _ rfl
      have o2 := O1.out.c 2 _ rfl
      by_cases he : errO ⟨nm, kd, rl, un, lo, hi, st, ss, dk, dn, on, off⟩ ⟨sk, sn, sc⟩ ⟨xt, xl, xk, xn⟩ = 0
      · have hg := next_good he
        obtain ⟨⟨yk, yn, yc⟩, hy⟩ : ∃ y, y = nextO ⟨nm, kd, rl, un, lo, hi, st, ss, dk, dn, on, off⟩ ⟨sk, sn, sc⟩ ⟨xt, xl, xk, xn⟩ := ⟨_, rfl⟩
        rw [← hy] at hg
        have HC := Lib.hid (show ∀ w, Calls Try.prog 11 #[.agg #[nm, .int .i64 kd, .int .i64 rl, un, lo, hi, st, ss, dk, dn, .int .i64 on, .int .i64 off], .agg #[.int .i64 sk, .int .i64 sn, .int .i64 sc], .agg #[.int .i64 xl, .int .i64 xk, .int .i64 xn], .int .i64 xt] w fun e w' => e = .returned (.tuple #[.agg #[.int .i64 yk, .int .i64 yn, .int .i64 yc], .int .i64 0]) ∧ Below w.heap.size w w' from fun w => (hnx w).mono fun e w' h => ⟨h.1.trans (congrArg Ending.returned hg), h.2⟩)
        have HY := Lib.hid hy
        have HE := Lib.hid he
        clear hnx hg hy he
        go_wp2_with fail
        go_cut [10, 11] from 13 to 42 (fun p e wx => ∃ M : Nat, p = .pointer (some ⟨M, 0, none⟩) ∧ e = .int .i64 0 ∧ RowAt wx M [.int .i64 yk, .int .i64 yn, .int .i64 yc] ∧ Below wr.heap.size wr wx)
        case first =>
          go_region_held3 (fun w' => w'.cell? ⟨g, 0, none⟩ = some (nm) ∧ w'.cell? ⟨g, 1, none⟩ = some (.int .i64 kd) ∧ w'.cell? ⟨g, 2, none⟩ = some (.int .i64 rl) ∧ w'.cell? ⟨g, 3, none⟩ = some (un) ∧ w'.cell? ⟨g, 4, none⟩ = some (lo) ∧ w'.cell? ⟨g, 5, none⟩ = some (hi) ∧ w'.cell? ⟨g, 6, none⟩ = some (st) ∧ w'.cell? ⟨g, 7, none⟩ = some (ss) ∧ w'.cell? ⟨g, 8, none⟩ = some (dk) ∧ w'.cell? ⟨g, 9, none⟩ = some (dn) ∧ w'.cell? ⟨g, 10, none⟩ = some (.int .i64 on) ∧ w'.cell? ⟨g, 11, none⟩ = some (.int .i64 off) ∧ w'.cell? ⟨h, 0, none⟩ = some (.int .i64 sk) ∧ w'.cell? ⟨h, 1, none⟩ = some (.int .i64 sn) ∧ w'.cell? ⟨h, 2, none⟩ = some (.int .i64 sc) ∧ w'.cell? ⟨b, o + j * 4, none⟩ = some (.int .i64 xt) ∧ w'.cell? ⟨b, o + j * 4 + 1, none⟩ = some (.int .i64 xl) ∧ w'.cell? ⟨b, o + j * 4 + 2, none⟩ = some (.int .i64 xk) ∧ w'.cell? ⟨b, o + j * 4 + 3, none⟩ = some (.int .i64 xn) ∧ Below wr.heap.size wr w')
            (first | (with_reducible exact HC0.out) | (with_reducible exact HC1.out) | (with_reducible exact cs_keep HC0.out hb2 (by assumption)) | (with_reducible exact cs_alloc HC0.out _ (by assumption)) | (with_reducible exact cs_alloc HC0.out _ HS1.out) | (with_reducible exact cs_alloc HC0.out _ HC0.out) | (with_reducible exact cs_drew HC0.out (cs_alloc HC0.out _ HC0.out)) | (with_reducible exact cs_drew HC0.out (cs_alloc HC0.out _ HS1.out)) | (with_reducible exact cs_store HC0.out (Nat.le_refl _) _ _ (cs_store HC0.out (Nat.le_refl _) _ _ (cs_store HC0.out (Nat.le_refl _) _ _ HS1.out))) | (with_reducible exact cs_drew HC0.out (by assumption)) | go_keep)
            (first | (go_at_call 11; refine (HC.out _).mono ?_; rintro e x1 ⟨rfl, hb2⟩; have HS1 : Hid (CS wr g h b o j nm kd rl un lo hi st ss dk dn on off sk sn sc xt xl xk xn x1) := cs_keep HC0.out hb2 (by assumption); (first | (with_reducible have nn := fresh_keptR hb2) | (with_reducible have nn := fresh_keptR_drew hb2) | skip); (try (have n0 := nn.c 0 _ rfl; have n1 := nn.c 1 _ rfl; have n2 := nn.c 2 _ rfl; have nz := nn.fz))))
          all_goals
            rename_i hHeld
            have hC := cs_bel hHeld
            clear hHeld
            go_wp2_with fail
            go_meet
            first
              | exact ⟨_, rfl, rfl, nn.setRow [.int .i64 yk, .int .i64 yn, .int .i64 yc] rfl, hC⟩
              | exact ⟨_, rfl, rfl, row_fresh x1 #[.int .i64 yk, .int .i64 yn, .int .i64 yc] 28, hC⟩
        case rest =>
          obtain ⟨M, rfl, rfl, hY, hK⟩ := hcut
          have P3 := Lib.hid (P1.out.keep hK)
          have O3 := Lib.hid (O1.out.keep hK)
          have Y3 := Lib.hid hY
          have B3 := Lib.hid (B1.out.trans (hK.mono B1.out.size))
          have W3 := Lib.hid (own_setCells hhB [.int .i64 yk, .int .i64 yn, .int .i64 yc] 0 _ (own_keep W1.out hK))
          have S3 := Lib.hid (Nat.le_trans S1.out hK.size)
          clear p0 p1 p2 p3 p4 p5 p6 p7 p8 p9 p10 p11
          clear o0 o1 o2
          clear hK hY P1 O1 B1 W1 S1 HC0 HC1 q0 q1 q2 q3
          have o0 := O3.out.c 0 _ rfl
          have o1 := O3.out.c 1 _ rfl
          have o2 := O3.out.c 2 _ rfl
          have oz := O3.out.fz
          have y0 := Y3.out.c 0 _ rfl
          have y1 := Y3.out.c 1 _ rfl
          have y2 := Y3.out.c 2 _ rfl
          have NW := Lib.hid (show RowAt ((wc.setCells h 0 [.int .i64 yk, .int .i64 yn, .int .i64 yc]).alloc (Obj.cells #[.int .i64 yk, .int .i64 yn, .int .i64 yc] 28)) wc.heap.size [.int .i64 yk, .int .i64 yn, .int .i64 yc] by
            have := row_fresh (wc.setCells h 0 [.int .i64 yk, .int .i64 yn, .int .i64 yc]) #[.int .i64 yk, .int .i64 yn, .int .i64 yc] 28
            rwa [sz_setCells] at this)
          go_wp2_with (at_builtin; refine wpList_append_own _ rfl _ _ 42 rfl (w.heap.size + 2) 28 i0 (.agg #[.int .i64 0, .int .i64 0, .int .i64 0]) 3 24 Try.underlying42 hif hz0 hz1 hz2 rfl (by decide) _ _ _ rfl (W3.out.alloc _) ⟨wc.heap.size, 0, none⟩ 1 1 [.int .i64 yk, .int .i64 yn, .int .i64 yc] rfl rfl ?c1 ?c2 ?c3 ?c4 ?c5 ?_)
          case c1 => exact fun j u hu => by rw [add_plain, Nat.zero_add]; exact NW.out.c j u hu
          case c2 =>
            intro u hu
            simp at hu
            rcases hu with rfl | rfl | rfl <;> rfl
          case c3 => have := HK3.out; unfold maxLen; omega
          case c4 => omega
          case c5 => have := S3.out; simp at this ⊢; omega
          intro v' w5 hown' hgrow _
          have hS5 : w.heap.size + 2 ≤ ((wc.setCells h 0 [.int .i64 yk, .int .i64 yn, .int .i64 yc]).alloc (Obj.cells #[.int .i64 yk, .int .i64 yn, .int .i64 yc] 28)).heap.size := by have := S3.out; rw [World.size_alloc, sz_setCells]; omega
          have B5 := Lib.hid (((set_below B3.out hwh [.int .i64 yk, .int .i64 yn, .int .i64 yc]).alloc (Nat.le_trans B3.out.size (by rw [sz_setCells]; exact Nat.le_refl _)) (Obj.cells #[.int .i64 yk, .int .i64 yn, .int .i64 yc] 28)).grown hgrow (Nat.le_trans (by omega) hS5) (fun k hk => by have := (W3.out.lt k hk).1; omega))
          have K5 : Below (w.heap.size + 2) (wc.setCells h 0 [.int .i64 yk, .int .i64 yn, .int .i64 yc]) w5 := ((Below.refl (w.heap.size + 2) (wc.setCells h 0 [.int .i64 yk, .int .i64 yn, .int .i64 yc])).alloc (by have := S3.out; rw [sz_setCells]; omega) (Obj.cells #[.int .i64 yk, .int .i64 yn, .int .i64 yc] 28)).grown hgrow hS5 (fun k hk => (W3.out.lt k hk).1)
          have P5 := Lib.hid ((P3.out.other hgh [.int .i64 yk, .int .i64 yn, .int .i64 yc]).keepB K5 hgB)
          have O5 := Lib.hid ((O3.out.setRow [.int .i64 yk, .int .i64 yn, .int .i64 yc] rfl).keepB K5 hhB)
          have S5 := Lib.hid (Nat.le_trans (show w.heap.size + 2 ≤ (wc.setCells h 0 [.int .i64 yk, .int .i64 yn, .int .i64 yc]).heap.size by have := S3.out; rw [sz_setCells]; omega) K5.size)
          have W5 := Lib.hid hown'
          clear hown' hgrow hS5 K5 P3 O3 Y3 B3 W3 S3 NW
          go_wp2_with fail
          go_roundw
          case rel => exact ⟨j + 1, done ++ [⟨yk, yn, yc⟩], ⟨yk, yn, yc⟩, by omega, by go_num, Lib.hid ⟨E1.out.1.trans (by rw [HD.out]; show (if errO _ _ _ = 0 then _ else _) = _; rw [if_pos HE.out, ← HY.out]), E1.out.2.1.trans (by rw [HD.out]; show done ++ (nextO _ _ _ :: statesO _ (nextO _ _ _) _) = _; rw [← HY.out, List.append_assoc]; rfl), by rw [List.length_append, E1.out.2.2]; rfl, by rw [flat_append]; exact W5.out, P5.out, O5.out, B5.out, S5.out⟩⟩
          case measure => simp [intOf]; omega
      · have hg := next_bad he
        obtain ⟨E, hE⟩ : ∃ E, E = errO ⟨nm, kd, rl, un, lo, hi, st, ss, dk, dn, on, off⟩ ⟨sk, sn, sc⟩ ⟨xt, xl, xk, xn⟩ := ⟨_, rfl⟩
        rw [← hE] at hg he
        have HC := Lib.hid (show ∀ w, Calls Try.prog 11 #[.agg #[nm, .int .i64 kd, .int .i64 rl, un, lo, hi, st, ss, dk, dn, .int .i64 on, .int .i64 off], .agg #[.int .i64 sk, .int .i64 sn, .int .i64 sc], .agg #[.int .i64 xl, .int .i64 xk, .int .i64 xn], .int .i64 xt] w fun e w' => e = .returned (.tuple #[.agg #[.int .i64 0, .int .i64 0, .int .i64 0], .int .i64 E]) ∧ Below w.heap.size w w' from fun w => (hnx w).mono fun e w' h => ⟨h.1.trans (congrArg Ending.returned hg), h.2⟩)
        have HF := Lib.hid (show firstE ⟨nm, kd, rl, un, lo, hi, st, ss, dk, dn, on, off⟩ ⟨s0k, s0n, s0c⟩ qs = E from E1.out.1.trans (by rw [HD.out]; show (if errO _ _ _ = 0 then _ else _) = _; rw [if_neg (by rw [← hE]; exact he), hE]))
        have HL := Lib.hid (show replayL ⟨nm, kd, rl, un, lo, hi, st, ss, dk, dn, on, off⟩ ⟨s0k, s0n, s0c⟩ qs = [] from if_neg (by rw [HF.out]; exact he))
        have h1 : (E != 0) = true := by simpa using he
        clear hnx hg hE he
        go_wp2_with fail
        go_cut [10, 11] from 13 to 42 (fun p e wx => ∃ M : Nat, p = .pointer (some ⟨M, 0, none⟩) ∧ e = .int .i64 E ∧ RowAt wx M [.int .i64 0, .int .i64 0, .int .i64 0] ∧ Below wr.heap.size wr wx)
        case first =>
          go_region_held3 (fun w' => w'.cell? ⟨g, 0, none⟩ = some (nm) ∧ w'.cell? ⟨g, 1, none⟩ = some (.int .i64 kd) ∧ w'.cell? ⟨g, 2, none⟩ = some (.int .i64 rl) ∧ w'.cell? ⟨g, 3, none⟩ = some (un) ∧ w'.cell? ⟨g, 4, none⟩ = some (lo) ∧ w'.cell? ⟨g, 5, none⟩ = some (hi) ∧ w'.cell? ⟨g, 6, none⟩ = some (st) ∧ w'.cell? ⟨g, 7, none⟩ = some (ss) ∧ w'.cell? ⟨g, 8, none⟩ = some (dk) ∧ w'.cell? ⟨g, 9, none⟩ = some (dn) ∧ w'.cell? ⟨g, 10, none⟩ = some (.int .i64 on) ∧ w'.cell? ⟨g, 11, none⟩ = some (.int .i64 off) ∧ w'.cell? ⟨h, 0, none⟩ = some (.int .i64 sk) ∧ w'.cell? ⟨h, 1, none⟩ = some (.int .i64 sn) ∧ w'.cell? ⟨h, 2, none⟩ = some (.int .i64 sc) ∧ w'.cell? ⟨b, o + j * 4, none⟩ = some (.int .i64 xt) ∧ w'.cell? ⟨b, o + j * 4 + 1, none⟩ = some (.int .i64 xl) ∧ w'.cell? ⟨b, o + j * 4 + 2, none⟩ = some (.int .i64 xk) ∧ w'.cell? ⟨b, o + j * 4 + 3, none⟩ = some (.int .i64 xn) ∧ Below wr.heap.size wr w')
            (first | (with_reducible exact HC0.out) | (with_reducible exact HC1.out) | (with_reducible exact cs_keep HC0.out hb2 (by assumption)) | (with_reducible exact cs_alloc HC0.out _ (by assumption)) | (with_reducible exact cs_alloc HC0.out _ HS1.out) | (with_reducible exact cs_alloc HC0.out _ HC0.out) | (with_reducible exact cs_drew HC0.out (cs_alloc HC0.out _ HC0.out)) | (with_reducible exact cs_drew HC0.out (cs_alloc HC0.out _ HS1.out)) | (with_reducible exact cs_store HC0.out (Nat.le_refl _) _ _ (cs_store HC0.out (Nat.le_refl _) _ _ (cs_store HC0.out (Nat.le_refl _) _ _ HS1.out))) | (with_reducible exact cs_drew HC0.out (by assumption)) | go_keep)
            (first | (go_at_call 11; refine (HC.out _).mono ?_; rintro e x1 ⟨rfl, hb2⟩; have HS1 : Hid (CS wr g h b o j nm kd rl un lo hi st ss dk dn on off sk sn sc xt xl xk xn x1) := cs_keep HC0.out hb2 (by assumption); (first | (with_reducible have nn := fresh_keptR hb2) | (with_reducible have nn := fresh_keptR_drew hb2) | skip); (try (have n0 := nn.c 0 _ rfl; have n1 := nn.c 1 _ rfl; have n2 := nn.c 2 _ rfl; have nz := nn.fz))))
          all_goals
            rename_i hHeld
            have hC := cs_bel hHeld
            clear hHeld
            go_wp2_with fail
            go_meet
            first
              | exact ⟨_, rfl, rfl, nn.setRow [.int .i64 0, .int .i64 0, .int .i64 0] rfl, hC⟩
              | exact ⟨_, rfl, rfl, row_fresh x1 #[.int .i64 0, .int .i64 0, .int .i64 0] 28, hC⟩
        case rest =>
          obtain ⟨M, rfl, rfl, hY, hK⟩ := hcut
          have B3 := Lib.hid (B1.out.trans (hK.mono B1.out.size))
          clear p0 p1 p2 p3 p4 p5 p6 p7 p8 p9 p10 p11
          clear o0 o1 o2
          clear hK hY P1 O1 B1 W1 S1 HC0 HC1 q0 q1 q2 q3
          go_wp2_with fail
          go_ret2
          exact ⟨.slice none 0 0, congrArg (fun x => Ending.returned (.tuple #[.slice none 0 0, .int .i64 x])) HF.out.symm, by rw [HL.out]; exact World.ownsRow_nil _ _ _ _, B3.out⟩
    · obtain rfl : j = N := by omega
      have hdr : qs.drop j = [] := by rw [HN.out]; exact List.drop_length
      have h0 : firstE ⟨nm, kd, rl, un, lo, hi, st, ss, dk, dn, on, off⟩ ⟨s0k, s0n, s0c⟩ qs = 0 := hH.out.err.trans (by rw [hdr]; rfl)
      have hr : replayL ⟨nm, kd, rl, un, lo, hi, st, ss, dk, dn, on, off⟩ ⟨s0k, s0n, s0c⟩ qs = done := (if_pos h0).trans (hH.out.sts.trans (by rw [hdr]; exact List.append_nil _))
      have HF := Lib.hid h0
      have HL := Lib.hid hr
      have HW := Lib.hid (own_base hH.out.own (show w.heap.size ≤ w.heap.size + 2 by omega))
      clear hdr h0 hr
      go_wp2_with fail
      go_ret2
      exact ⟨_, congrArg (fun x => Ending.returned (.tuple #[_, .int .i64 x])) HF.out.symm, by rw [HL.out, hH.out.len]; exact HW.out, hH.out.bel⟩
end Go.Proofs.Ytlmcdnfihgimjaa
