/- The law InterlockBreaks. -/
import Derived.Test.YtojbhbifbennfaaU
import Derived.Test.YtojbhbifbennfaaW
namespace Go.Proofs.Ytojbhbifbennfaa
open Go.RowKit Go.Shelf

theorem own_diff {w : World} {B1 B2 e1 e2 s1 s2 n1 n2 : Nat} {v1 v2 : Value} {L1 L2 : List Value} (h1 : w.ownsRow B1 e1 s1 v1 n1 L1) (h2 : w.ownsRow B2 e2 s2 v2 n2 L2) (hne : e1 ≠ e2) : v1.ownBlock = none ∨ v1.ownBlock ≠ v2.ownBlock := by
  rcases h1.2 with ⟨rfl, _⟩ | ⟨g, cap, cur, rfl, _, hg, _⟩
  · exact .inl rfl
  · right
    intro e
    rcases h2.2 with ⟨rfl, _⟩ | ⟨g', cap', cur', rfl, _, hg', _⟩
    · simp [Value.ownBlock] at e
    · simp [Value.ownBlock] at e
      subst e
      rw [hg] at hg'
      injection hg' with e2
      injection e2 with _ e3
      exact hne e3
theorem infoSt : (Try.prog.info? 37).map (fun i => (i.zero, i.size, i.bytes)) = some (some (.agg #[.int .i64 0, .int .i64 0]), 2, 16) := by kernel_rfl
theorem infoRst : (Try.prog.info? 38).map (fun i => (i.zero, i.size, i.bytes)) = some (some (.agg #[.int .i64 0, .int .i64 0]), 2, 16) := by kernel_rfl
abbrev BrS (wb : World) (g : Nat) (nm : Value) (pa : Option Addr) (P pc : Nat) (dd : Int) (w' : World) : Prop := w'.cell? ⟨g, 0, none⟩ = some (nm) ∧ w'.cell? ⟨g, 1, none⟩ = some (.slice pa P pc) ∧ w'.cell? ⟨g, 2, none⟩ = some (.int .i64 dd) ∧ Below wb.heap.size wb w'
theorem brs_of {wb w' : World} {g : Nat} {nm : Value} {pa : Option Addr} {P pc : Nat} {dd : Int} (s : BrS wb g nm pa P pc dd wb) (hb : Below wb.heap.size wb w') : BrS wb g nm pa P pc dd w' := by
  obtain ⟨s0, s1, s2, _⟩ := s
  have hg : g < wb.heap.size := World.block_lt_of_cell? _ _ s0
  exact ⟨(hb.cell (p := ⟨g, 0, none⟩) hg).trans s0, (hb.cell (p := ⟨g, 1, none⟩) hg).trans s1, (hb.cell (p := ⟨g, 2, none⟩) hg).trans s2, hb⟩
theorem brs_bel {wb w' : World} {g : Nat} {nm : Value} {pa : Option Addr} {P pc : Nat} {dd : Int} (s : BrS wb g nm pa P pc dd w') : Below wb.heap.size wb w' := s.2.2.2
theorem brs_keep {wb w1 w2 : World} {g : Nat} {nm : Value} {pa : Option Addr} {P pc : Nat} {dd : Int} (c : BrS wb g nm pa P pc dd wb) (hb : Below w1.heap.size w1 w2) (s : BrS wb g nm pa P pc dd w1) : BrS wb g nm pa P pc dd w2 := brs_of c ((brs_bel s).trans (hb.mono (brs_bel s).size))
def onS (o : Int) : Int × Int := (o, 0)
theorem two_ints (x y : Int) : ∀ u ∈ ([.int .i64 x, .int .i64 y] : List Value), u.oneCell' = true := by
  intro u hu
  simp at hu
  rcases hu with rfl | rfl <;> rfl
theorem ons_take (ls : List Int) (j : Nat) (o : Int) (h : ls[j]? = some o) : (ls.take (j + 1)).map onS = (ls.take j).map onS ++ [(o, 0)] := by
  rw [List.take_add_one, h, List.map_append]; rfl

set_option maxHeartbeats 8000000 in
set_option maxRecDepth 100000 in
theorem breaks_law (nm : Value) (pa : Option Addr) (P pc : Nat) (dd : Int) (a : Option Addr) (cap : Nat) (ls : List Int) (w : World) (hin : InS w a ls.length 1 (flat iL ls)) : Calls Try.prog 6 #[.agg #[nm, .slice pa P pc, .int .i64 dd], .slice a ls.length cap] w fun e w' => e = .returned (.bool true) ∧ Below w.heap.size w w' := by
  obtain ⟨ia, hifa, hza0, hza1, hza2⟩ := info_parts infoSt
  obtain ⟨ib, hifb, hzb0, hzb1, hzb2⟩ := info_parts infoRst
  obtain ⟨N, hN⟩ : ∃ N, N = ls.length := ⟨_, rfl⟩
  have HN := Lib.hid hN
  have HI := Lib.hid hin
  have HAW := Lib.hid awake_yes
  rw [← hN]
  clear hN hin
  obtain ⟨W, g, hW, hg, R1, B, sz⟩ := box1 w #[nm, .slice pa P pc, .int .i64 dd] 33
  have HG := Lib.hid R1
  have HB := Lib.hid B
  clear R1 B sz
  go_enter Try.func6, Try.ntmps6
  go_wp2_with fail
  rw [← hW]
  try rw [← hg]
  clear hW hg
  refine (HAW.out _).mono ?_
  rintro e w1 ⟨rfl, hb⟩
  have HG1 := Lib.hid (HG.out.keep hb)
  have HB1 := Lib.hid (HB.out.trans (hb.mono HB.out.size))
  clear hb HG HB HAW
  have g_0 := HG1.out.c 0 _ rfl
  have g_1 := HG1.out.c 1 _ rfl
  have g_2 := HG1.out.c 2 _ rfl
  by_cases h1 : 40 < (N : Int)
  · go_wp2_with fail
    go_ret
    exact ⟨rfl, HB1.out⟩
  by_cases h2 : 20 < (P : Int)
  · go_wp2_with fail
    go_ret
    exact ⟨rfl, HB1.out⟩
  have hN40 : N ≤ 40 := by omega
  clear g_0 g_1 g_2
  have HE1 := Lib.hid (own_empty w1 37 2)
  have HE2 := Lib.hid (own_empty (w1.alloc (Obj.cells #[] 37)) 38 2)
  have HE1' := Lib.hid (own_new HE1.out (Obj.cells #[] 38))
  have HBE := Lib.hid ((bel_new (w := w1) (Obj.cells #[] 37)).alloc (by rw [World.size_alloc]; omega) (Obj.cells #[] 38))
  have HS2 := Lib.hid (show (w1.alloc (Obj.cells #[] 37)).heap.size = w1.heap.size + 1 from World.size_alloc _ _)
  obtain ⟨k, hk⟩ : ∃ k, k = w1.heap.size + 1 := ⟨_, rfl⟩
  have g_0 := HG1.out.c 0 _ rfl
  have g_1 := HG1.out.c 1 _ rfl
  have g_2 := HG1.out.c 2 _ rfl
  clear g_0 g_1 g_2
  have HE2' := Lib.hid (show ((w1.alloc (Obj.cells #[] 37)).alloc (Obj.cells #[] 38)).ownsRow w1.heap.size 38 2 (.slice (some ⟨w1.heap.size + 1, 0, none⟩) 0 0) 0 [] by
    have h := own_base HE2.out (show w1.heap.size ≤ (w1.alloc (Obj.cells #[] 37)).heap.size by rw [World.size_alloc]; omega)
    rw [HS2.out] at h
    exact h)
  clear HE1 HE2 HS2 hk
  have g_0 := HG1.out.c 0 _ rfl
  have g_1 := HG1.out.c 1 _ rfl
  have g_2 := HG1.out.c 2 _ rfl
  go_wp2_with fail
  clear g_0 g_1 g_2 h1 h2
  go_loopw [5, 6, 7] (fun a b i wr => ∃ j : Nat, j ≤ N ∧ i = .int .i64 j ∧ Hid (wr.ownsRow w1.heap.size 37 2 a j (flat sL ((ls.take j).map onS)) ∧ wr.ownsRow w1.heap.size 38 2 b j (flat sL ((ls.take j).map onS)) ∧ Below w1.heap.size w1 wr)) (fun _ _ i _ => N - (intOf i).toNat)
  case atStart =>
    refine ⟨0, by omega, rfl, Lib.hid ⟨?_, ?_, ?_⟩⟩
    · exact HE1'.out
    · exact HE2'.out
    · exact HBE.out
  case round =>
    obtain ⟨j, hj, rfl, hH⟩ := hrel
    by_cases hlt : j < N
    · obtain ⟨b, of, rfl, hbl, hcell⟩ := (HI.out.keep HB1.out).at iL_len (by have := HN.out; omega)
      obtain ⟨o, hx⟩ : ∃ x, ls[j]? = some x := ⟨_, List.getElem?_eq_getElem (by rw [← HN.out]; exact hlt)⟩
      have HOT := Lib.hid (ons_take ls j o hx)
      have d0 := hcell j _ hx 0 _ rfl
      rw [Nat.add_zero, Nat.mul_one] at d0
      have HD0 := Lib.hid d0
      have HBL := Lib.hid hbl
      have c0 := (hH.out.2.2.cell (p := ⟨b, of + j, none⟩) hbl).trans d0
      clear d0
      obtain ⟨D, hD⟩ : ∃ D, D = (ls.take j).map onS := ⟨_, rfl⟩
      rw [← hD] at hH HOT
      have HA := Lib.hid hH.out.1
      have HC := Lib.hid hH.out.2.1
      have BR := Lib.hid hH.out.2.2
      have HLa := Lib.hid HA.out.lt
      have k1 : (0 : Int) ≤ (j : Int) := by omega
      have k2 : (j : Int) < (N : Int) := by omega
      clear hcell hx hbl hH hD
      have NW := Lib.hid (row_fresh wr #[.int .i64 o, .int .i64 0] 37)
      go_wp2_with (at_builtin; refine wpList_append_own _ rfl _ _ 65 rfl w1.heap.size 37 ia (.agg #[.int .i64 0, .int .i64 0]) 2 16 Try.underlying65 hifa hza0 hza1 hza2 rfl (by decide) _ _ _ rfl (own_new HA.out _) ⟨wr.heap.size, 0, none⟩ 1 1 [.int .i64 o, .int .i64 0] rfl rfl ?c1a ?c2a ?c3a ?c4a ?c5a ?_)
      try (case c1a => exact fun j u hu => by rw [add_plain, Nat.zero_add]; exact NW.out.c j u hu)
      case c2a => first | exact two_ints o 0 | exact ⟨rfl, rfl⟩
      case c3a => unfold maxLen; omega
      case c4a => omega
      case c5a => have := BR.out.size; simp; omega
      intro va w5 howna hgrowa _
      have HA5 := Lib.hid (show w5.ownsRow w1.heap.size 37 2 va (j + 1) (flat sL ((ls.take (j + 1)).map onS)) by rw [HOT.out, flat_append]; exact howna)
      have BB5 := Lib.hid (grown_low (BR.out.alloc BR.out.size _) (own_new HA.out _) (by have := BR.out.size; simp; omega) hgrowa)
      have HC5 := Lib.hid ((own_new HC.out (Obj.cells #[.int .i64 o, .int .i64 0] 37)).kept hgrowa (own_diff HC.out HA.out (by decide)))
      have c5 := (BB5.out.cell (p := ⟨b, of + j, none⟩) HBL.out).trans HD0.out
      have NW5 := Lib.hid (row_fresh w5 #[.int .i64 o, .int .i64 0] 38)
      clear howna hgrowa NW c0
      go_wp2_with (at_builtin; refine wpList_append_own _ rfl _ _ 66 rfl w1.heap.size 38 ib (.agg #[.int .i64 0, .int .i64 0]) 2 16 Try.underlying66 hifb hzb0 hzb1 hzb2 rfl (by decide) _ _ _ rfl (own_new HC5.out _) ⟨w5.heap.size, 0, none⟩ 1 1 [.int .i64 o, .int .i64 0] rfl rfl ?c1b ?c2b ?c3b ?c4b ?c5b ?_)
      try (case c1b => exact fun j u hu => by rw [add_plain, Nat.zero_add]; exact NW5.out.c j u hu)
      case c2b => first | exact two_ints o 0 | exact ⟨rfl, rfl⟩
      case c3b => unfold maxLen; omega
      case c4b => omega
      case c5b => have := BB5.out.size; simp; omega
      intro vb w6 hownb hgrowb _
      have HC6 := Lib.hid (show w6.ownsRow w1.heap.size 38 2 vb (j + 1) (flat sL ((ls.take (j + 1)).map onS)) by rw [HOT.out, flat_append]; exact hownb)
      have BB6 := Lib.hid (grown_low (BB5.out.alloc BB5.out.size _) (own_new HC5.out _) (by have := BB5.out.size; simp; omega) hgrowb)
      have HA6 := Lib.hid ((own_new HA5.out (Obj.cells #[.int .i64 o, .int .i64 0] 38)).kept hgrowb (own_diff HA5.out HC5.out (by decide)))
      clear hownb hgrowb NW5 c5
      go_wp2_with fail
      go_roundw
      case rel => exact ⟨j + 1, by omega, by go_num, Lib.hid ⟨HA6.out, HC6.out, BB6.out⟩⟩
      case measure => (simp [intOf]) <;> omega
    · obtain rfl : j = N := by omega
      obtain ⟨xs, hxs⟩ : ∃ xs, xs = ls.map onS := ⟨_, rfl⟩
      have hl : xs.length = j := by rw [hxs, List.length_map, ← HN.out]
      have hH2 : wr.ownsRow w1.heap.size 37 2 u5 j (flat sL xs) ∧ wr.ownsRow w1.heap.size 38 2 u6 j (flat sL xs) ∧ Below w1.heap.size w1 wr := by
        have h := hH.out
        rw [HN.out, List.take_length] at h
        rw [hxs, HN.out]
        exact h
      obtain ⟨a5, c5, h5, i5⟩ := ins_own hH2.1
      obtain ⟨a6, c6, h6, i6⟩ := ins_own hH2.2.1
      subst h5 h6
      have c1 := fun (W' : World) (hb : Below wr.heap.size wr W') => breaks_any nm pa P pc dd a5 c5 xs W' (by rw [hl]; exact i5.keep hb)
      have c2 := fun (W' : World) (hb : Below wr.heap.size wr W') => rbreaks_any nm pa P pc dd a6 c6 xs W' (by rw [hl]; exact i6.keep hb)
      rw [← breaks_same P dd _ 0 (-1) (-1) (-1) 0 (fun _ => ⟨rfl, rfl⟩) (fun h => absurd rfl h)] at c2
      rw [hl] at c1 c2
      obtain ⟨X, hX⟩ : ∃ X, X = breaksI P dd (xs.map Prod.fst) 0 (-1) (-1) := ⟨_, rfl⟩
      rw [← hX] at c1 c2
      have HC1 := Lib.hid c1
      have HC2 := Lib.hid c2
      have HBR := Lib.hid hH2.2.2
      clear hH hH2 i5 i6 c1 c2 hX hl hxs
      have HG5 := Lib.hid (HG1.out.keep HBR.out)
      have HB5 := Lib.hid (HB1.out.trans (HBR.out.mono HB1.out.size))
      have g_0 := HG5.out.c 0 _ rfl
      have g_1 := HG5.out.c 1 _ rfl
      have g_2 := HG5.out.c 2 _ rfl
      have HGL := Lib.hid (show g < wr.heap.size from HG5.out.lt)
      have HC := Lib.hid (show BrS wr g nm pa P pc dd wr from ⟨g_0, g_1, g_2, Below.refl _ _⟩)
      have HCD := Lib.hid (brs_of HC.out (Below.refl _ _).drew)
      go_wp2_with fail
      go_region_held3 (fun w' => w'.cell? ⟨g, 0, none⟩ = some (nm) ∧ w'.cell? ⟨g, 1, none⟩ = some (.slice pa P pc) ∧ w'.cell? ⟨g, 2, none⟩ = some (.int .i64 dd) ∧ Below wr.heap.size wr w')
        (first | (with_reducible exact HC.out) | (with_reducible exact HCD.out) | (with_reducible exact HS1.out) | (with_reducible exact HS2.out) | (with_reducible exact brs_keep HC.out bel_drew (by assumption)) | go_keep)
        (first | (go_at_call 29; refine (HC1.out _ (brs_bel (g := g) (nm := nm) (pa := pa) (P := P) (pc := pc) (dd := dd) (by assumption))).mono ?_; rintro e x1 ⟨rfl, hb2⟩; have HS1 : Hid (BrS wr g nm pa P pc dd x1) := brs_keep HC.out hb2 (by assumption)) | (go_at_call 30; refine (HC2.out _ (brs_bel (g := g) (nm := nm) (pa := pa) (P := P) (pc := pc) (dd := dd) (by assumption))).mono ?_; rintro e x2 ⟨rfl, hb2⟩; have HS2 : Hid (BrS wr g nm pa P pc dd x2) := brs_keep HC.out hb2 (by assumption)) | (fail))
      all_goals
        rename_i hHeld
        have HBX := Lib.hid (HB5.out.trans ((brs_bel hHeld).mono HB5.out.size))
        clear hHeld g_0 g_1 g_2
        go_wp2_with fail
        go_ret
        exact ⟨by simp, HBX.out⟩
end Go.Proofs.Ytojbhbifbennfaa
