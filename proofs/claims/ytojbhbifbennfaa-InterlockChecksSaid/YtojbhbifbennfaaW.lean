/- awake answers true. -/
import Derived.Test.YtojbhbifbennfaaV
namespace Go.Proofs.Ytojbhbifbennfaa
open Go.RowKit Go.Shelf

abbrev AwS (wb : World) (g x : Nat) (pa : Option Addr) (o : Int) (w' : World) : Prop := w'.cell? ⟨g, 0, none⟩ = some (.string fansW) ∧ w'.cell? ⟨g, 1, none⟩ = some (.slice pa 3 3) ∧ w'.cell? ⟨g, 2, none⟩ = some (.int .i64 10) ∧ w'.cell? ⟨x, 0, none⟩ = some (.int .i64 o) ∧ w'.cell? ⟨x, 1, none⟩ = some (.int .i64 95) ∧ Below wb.heap.size wb w'
theorem aws_of {wb w' : World} {g x : Nat} {pa : Option Addr} {o : Int} (s : AwS wb g x pa o wb) (hb : Below wb.heap.size wb w') : AwS wb g x pa o w' := by
  obtain ⟨s0, s1, s2, s3, s4, _⟩ := s
  have hg : g < wb.heap.size := World.block_lt_of_cell? _ _ s0
  have hx : x < wb.heap.size := World.block_lt_of_cell? _ _ s3
  exact ⟨(hb.cell (p := ⟨g, 0, none⟩) hg).trans s0, (hb.cell (p := ⟨g, 1, none⟩) hg).trans s1, (hb.cell (p := ⟨g, 2, none⟩) hg).trans s2, (hb.cell (p := ⟨x, 0, none⟩) hx).trans s3, (hb.cell (p := ⟨x, 1, none⟩) hx).trans s4, hb⟩
theorem aws_bel {wb w' : World} {g x : Nat} {pa : Option Addr} {o : Int} (s : AwS wb g x pa o w') : Below wb.heap.size wb w' := s.2.2.2.2.2
theorem aws_keep {wb w1 w2 : World} {g x : Nat} {pa : Option Addr} {o : Int} (c : AwS wb g x pa o wb) (hb : Below w1.heap.size w1 w2) (h : AwS wb g x pa o w1) : AwS wb g x pa o w2 := aws_of c ((aws_bel h).trans (hb.mono (aws_bel h).size))
theorem aws_alloc {wb w1 : World} {g x : Nat} {pa : Option Addr} {o : Int} (c : AwS wb g x pa o wb) (ob : Obj) (h : AwS wb g x pa o w1) : AwS wb g x pa o (w1.alloc ob) := aws_of c ((aws_bel h).alloc (aws_bel h).size ob)
theorem aws_drew {wb w1 : World} {g x : Nat} {pa : Option Addr} {o : Int} (c : AwS wb g x pa o wb) (h : AwS wb g x pa o w1) : AwS wb g x pa o w1.drew := aws_of c (aws_bel h).drew
theorem aws_in {wb w1 : World} {g x : Nat} {pa : Option Addr} {o : Int} {a : Option Addr} {n sz : Nat} {L : List Value} (h : AwS wb g x pa o w1) (i : InS wb a n sz L) : InS w1 a n sz L := i.keep (aws_bel h)
theorem ins_new3j (w : World) (ob : Obj) (x y z : Int) (T : Nat) : InS ((w.alloc ob).alloc (Obj.cells #[.int .i64 x, .int .i64 y, .int .i64 z] T)) (some ⟨w.heap.size + 1, 0, none⟩) 3 1 (flat iL [x, y, z]) := by
  have h := ins_new3i (w.alloc ob) x y z T
  rw [World.size_alloc] at h
  exact h
theorem rf_kept {p w2 : World} {A : Array Value} {T : TypeId} (hb : Below (p.alloc (Obj.cells A T)).heap.size (p.alloc (Obj.cells A T)) w2) : RowAt w2 p.heap.size A.toList := (row_fresh p A T).keep hb
theorem rf_kept_drew {p w2 : World} {A : Array Value} {T : TypeId} (hb : Below (p.alloc (Obj.cells A T)).drew.heap.size (p.alloc (Obj.cells A T)).drew w2) : RowAt w2 p.heap.size A.toList := (row_fresh p A T).drew.keep hb
theorem rf_kept2 {p w2 : World} {A B : Array Value} {T U : TypeId} (hb : Below ((p.alloc (Obj.cells A T)).alloc (Obj.cells B U)).heap.size ((p.alloc (Obj.cells A T)).alloc (Obj.cells B U)) w2) : RowAt w2 p.heap.size A.toList := ((row_fresh p A T).keep (bel_new _)).keep hb
theorem rf_kept2_drew {p w2 : World} {A B : Array Value} {T U : TypeId} (hb : Below ((p.alloc (Obj.cells A T)).alloc (Obj.cells B U)).drew.heap.size ((p.alloc (Obj.cells A T)).alloc (Obj.cells B U)).drew w2) : RowAt w2 p.heap.size A.toList := ((row_fresh p A T).keep (bel_new _)).drew.keep hb
theorem row_keep_drew {w w2 : World} {b : Nat} {L : List Value} (h : RowAt w b L) (hb : Below w.drew.heap.size w.drew w2) : RowAt w2 b L := h.drew.keep hb

set_option maxHeartbeats 8000000 in
set_option maxRecDepth 100000 in
theorem awake_yes (w : World) : Calls Try.prog 10 #[] w fun e w' => e = .returned (.bool true) ∧ Below w.heap.size w w' := by
  have HB := Lib.hid (Below.refl w.heap.size w)
  go_enter Try.func10, Try.ntmps10
  go_wp2_with fail
  refine (fans_any _).mono ?_
  rintro e w0 ⟨pa, rfl, hi, hb⟩
  obtain ⟨W, g, x, hW, hg, hx, R1, R2, B, sz⟩ := box2 w0 #[.string fansW, .slice pa 3 3, .int .i64 10] 33 #[.int .i64 (-1), .int .i64 95] 37
  have HP := Lib.hid (hi.keep B)
  have HG := Lib.hid R1
  have HX := Lib.hid R2
  have HBW := Lib.hid (hb.trans (B.mono hb.size))
  clear hi hb B sz R1 R2 HB
  go_upto_region 3 with fail
  rw [← hW]
  try rw [← hx]
  try rw [← hg]
  clear hW hg hx
  obtain ⟨w1, hw1⟩ : ∃ v, v = W := ⟨_, rfl⟩
  rw [← hw1] at HP HG HX HBW ⊢
  clear hw1
  have HP1 := HP
  have HG1 := HG
  have HX1 := HX
  have HB1 := HBW
  clear HP HG HX HBW
  have g_0 := HG1.out.c 0 _ rfl
  have g_1 := HG1.out.c 1 _ rfl
  have g_2 := HG1.out.c 2 _ rfl
  have x_0 := HX1.out.c 0 _ rfl
  have x_1 := HX1.out.c 1 _ rfl
  have HC := Lib.hid (show AwS w1 g x pa (-1) w1 from ⟨g_0, g_1, g_2, x_0, x_1, Below.refl _ _⟩)
  have HCD := Lib.hid (aws_drew HC.out HC.out)
  go_wp2_with fail
  go_region_held3 (fun w' => w'.cell? ⟨g, 0, none⟩ = some (.string fansW) ∧ w'.cell? ⟨g, 1, none⟩ = some (.slice pa 3 3) ∧ w'.cell? ⟨g, 2, none⟩ = some (.int .i64 10) ∧ w'.cell? ⟨x, 0, none⟩ = some (.int .i64 (-1)) ∧ w'.cell? ⟨x, 1, none⟩ = some (.int .i64 95) ∧ Below w1.heap.size w1 w')
    (first | (with_reducible exact HC.out) | (with_reducible exact HCD.out) | (with_reducible exact HS1.out) | (with_reducible exact HS2.out) | (with_reducible exact aws_alloc HC.out _ (by assumption)) | (with_reducible exact aws_alloc HC.out _ HS2.out) | (with_reducible exact aws_alloc HC.out _ HC.out) | (with_reducible exact aws_drew HC.out (by assumption)) | (with_reducible exact aws_drew HC.out (aws_alloc HC.out _ HC.out)) | go_keep)
    (first | (go_at_call 33; refine (ask_three 0 16 0 q1 aq1 _ _ (by first | exact ins_new3i _ _ _ _ _ | exact (ins_new3i _ _ _ _ _).keep bel_drew) _).mono ?_; rintro e v1 ⟨b1, c1, rfl, hi1, hb2⟩; have HS1 : Hid (AwS w1 g x pa (-1) v1) := aws_keep HC.out hb2 (by assumption); have HI1 := Lib.hid hi1; clear hi1) | (go_at_call 17; refine (aw_win pa 3 _ _ _ (by first | exact HI1.out | exact HI1.out.keep bel_drew)).mono ?_; rintro e w2 ⟨rfl, hb2⟩; have HS2 : Hid (AwS w1 g x pa (-1) w2) := aws_keep HC.out hb2 (by assumption)) | (fail))
  rename_i hHeld
  have hbx := aws_bel HS2.out
  have HP2 := Lib.hid (HP1.out.keep hbx)
  have HG2 := Lib.hid (HG1.out.keep hbx)
  have HX2 := Lib.hid (HX1.out.keep hbx)
  have HB2 := Lib.hid (HB1.out.trans (hbx.mono HB1.out.size))
  clear hHeld hbx HC HCD HS1 HS2 HI1 g_0 g_1 g_2 x_0 x_1 HP1 HG1 HX1 HB1
  have g_0 := HG2.out.c 0 _ rfl
  have g_1 := HG2.out.c 1 _ rfl
  have g_2 := HG2.out.c 2 _ rfl
  have x_0 := HX2.out.c 0 _ rfl
  have x_1 := HX2.out.c 1 _ rfl
  have HC := Lib.hid (show AwS w2 g x pa (-1) w2 from ⟨g_0, g_1, g_2, x_0, x_1, Below.refl _ _⟩)
  have HCD := Lib.hid (aws_drew HC.out HC.out)
  go_wp2_with fail
  go_region_held3 (fun w' => w'.cell? ⟨g, 0, none⟩ = some (.string fansW) ∧ w'.cell? ⟨g, 1, none⟩ = some (.slice pa 3 3) ∧ w'.cell? ⟨g, 2, none⟩ = some (.int .i64 10) ∧ w'.cell? ⟨x, 0, none⟩ = some (.int .i64 (-1)) ∧ w'.cell? ⟨x, 1, none⟩ = some (.int .i64 95) ∧ Below w2.heap.size w2 w')
    (first | (with_reducible exact HC.out) | (with_reducible exact HCD.out) | (with_reducible exact HS1.out) | (with_reducible exact HS2.out) | (with_reducible exact aws_alloc HC.out _ (by assumption)) | (with_reducible exact aws_alloc HC.out _ HS2.out) | (with_reducible exact aws_alloc HC.out _ HC.out) | (with_reducible exact aws_drew HC.out (by assumption)) | (with_reducible exact aws_drew HC.out (aws_alloc HC.out _ HC.out)) | go_keep)
    (first | (go_at_call 33; refine (ask_three 0 16 0 q1 aq1 _ _ (by first | exact ins_new3i _ _ _ _ _ | exact (ins_new3i _ _ _ _ _).keep bel_drew) _).mono ?_; rintro e v2 ⟨b1, c1, rfl, hi1, hb2⟩; have HS1 : Hid (AwS w2 g x pa (-1) v2) := aws_keep HC.out hb2 (by assumption); have HI1 := Lib.hid hi1; clear hi1) | (go_at_call 21; refine (aw_wait pa 3 _ _ _ (by first | exact HI1.out | exact HI1.out.keep bel_drew)).mono ?_; rintro e w3 ⟨rfl, hb2⟩; have HS2 : Hid (AwS w2 g x pa (-1) w3) := aws_keep HC.out hb2 (by assumption)) | (fail))
  rename_i hHeld
  have hbx := aws_bel HS2.out
  have HP3 := Lib.hid (HP2.out.keep hbx)
  have HG3 := Lib.hid (HG2.out.keep hbx)
  have HX3 := Lib.hid (HX2.out.keep hbx)
  have HB3 := Lib.hid (HB2.out.trans (hbx.mono HB2.out.size))
  clear hHeld hbx HC HCD HS1 HS2 HI1 g_0 g_1 g_2 x_0 x_1 HP2 HG2 HX2 HB2
  have g_0 := HG3.out.c 0 _ rfl
  have g_1 := HG3.out.c 1 _ rfl
  have g_2 := HG3.out.c 2 _ rfl
  have x_0 := HX3.out.c 0 _ rfl
  have x_1 := HX3.out.c 1 _ rfl
  have HC := Lib.hid (show AwS w3 g x pa (-1) w3 from ⟨g_0, g_1, g_2, x_0, x_1, Below.refl _ _⟩)
  have HCD := Lib.hid (aws_drew HC.out HC.out)
  go_wp2_with fail
  go_cut [8, 9] from 35 to 42 (fun p e wx => ∃ N : Nat, p = .pointer (some ⟨N, 0, none⟩) ∧ e = .int .i64 0 ∧ Hid (RowAt wx N [.int .i64 1, .int .i64 95] ∧ Below w3.heap.size w3 wx))
  case first =>
    go_region_held3 (fun w' => w'.cell? ⟨g, 0, none⟩ = some (.string fansW) ∧ w'.cell? ⟨g, 1, none⟩ = some (.slice pa 3 3) ∧ w'.cell? ⟨g, 2, none⟩ = some (.int .i64 10) ∧ w'.cell? ⟨x, 0, none⟩ = some (.int .i64 (-1)) ∧ w'.cell? ⟨x, 1, none⟩ = some (.int .i64 95) ∧ Below w3.heap.size w3 w')
      (first | (with_reducible exact HC.out) | (with_reducible exact HCD.out) | (with_reducible exact HS1.out) | (with_reducible exact HS2.out) | (with_reducible exact aws_alloc HC.out _ (by assumption)) | (with_reducible exact aws_alloc HC.out _ HS2.out) | (with_reducible exact aws_alloc HC.out _ HC.out) | (with_reducible exact aws_drew HC.out (by assumption)) | (with_reducible exact aws_drew HC.out (aws_alloc HC.out _ HC.out)) | (with_reducible exact aws_alloc HC.out _ (aws_alloc HC.out _ HC.out)) | (with_reducible exact aws_drew HC.out (aws_alloc HC.out _ (aws_alloc HC.out _ HC.out))) | (with_reducible exact aws_drew HC.out (aws_alloc HC.out _ (by assumption))) | (exact aws_of HC.out (set_below (aws_bel HS2.out) (aws_bel HS1.out).size [.int .i64 1, .int .i64 95])) | (exact aws_of HC.out (set_below (aws_bel HS2.out) (Nat.le_refl _) [.int .i64 1, .int .i64 95])) | (exact aws_of HC.out (set_below (aws_bel HS2.out) (Nat.le_succ _) [.int .i64 1, .int .i64 95])) | go_keep)
      (first | (go_at_call 33; refine (ask_three 0 16 0 q1 aq1 _ _ (by first | exact ins_new3i _ _ _ _ _ | exact (ins_new3i _ _ _ _ _).keep bel_drew | exact (ins_new3i _ _ _ _ _).keep (bel_new _) | exact ((ins_new3i _ _ _ _ _).keep bel_drew).keep (bel_new _) | exact ((ins_new3i _ _ _ _ _).keep (bel_new _)).keep bel_drew | exact ins_new3j _ _ _ _ _ _ | exact (ins_new3j _ _ _ _ _ _).keep bel_drew) _).mono ?_; rintro e v3 ⟨b1, c1, rfl, hi1, hb2⟩; have HS1 : Hid (AwS w3 g x pa (-1) v3) := aws_keep HC.out hb2 (by first | assumption | exact aws_drew HC.out (aws_alloc HC.out _ (aws_alloc HC.out _ HC.out)) | exact aws_alloc HC.out _ (by assumption) | exact aws_drew HC.out (by assumption)); have HI1 := Lib.hid hi1; clear hi1; (first | (with_reducible have nn := rf_kept (A := #[.int .i64 0, .int .i64 0]) hb2) | (with_reducible have nn := rf_kept_drew (A := #[.int .i64 0, .int .i64 0]) hb2) | (with_reducible have nn := rf_kept2 (A := #[.int .i64 0, .int .i64 0]) hb2) | (with_reducible have nn := rf_kept2_drew (A := #[.int .i64 0, .int .i64 0]) hb2) | (have nn := nn.keep hb2) | (have nn := row_keep_drew nn hb2) | skip); (try rw [World.size_alloc] at nn); (try (have n0 := nn.c 0 _ rfl; have n1 := nn.c 1 _ rfl; have n2 := nn.fz))) | (go_at_call 19; refine (aw_step pa 3 _ _ _ (by first | exact HI1.out | exact HI1.out.keep bel_drew | exact HI1.out.keep (bel_new _) | exact (HI1.out.keep bel_drew).keep (bel_new _) | exact (HI1.out.keep (bel_new _)).keep bel_drew)).mono ?_; rintro e w4 ⟨rfl, hb2⟩; have HS2 : Hid (AwS w3 g x pa (-1) w4) := aws_keep HC.out hb2 (by first | assumption | exact aws_drew HC.out (aws_alloc HC.out _ (aws_alloc HC.out _ HC.out)) | exact aws_alloc HC.out _ (by assumption) | exact aws_drew HC.out (by assumption)); (first | (with_reducible have nn := rf_kept (A := #[.int .i64 0, .int .i64 0]) hb2) | (with_reducible have nn := rf_kept_drew (A := #[.int .i64 0, .int .i64 0]) hb2) | (with_reducible have nn := rf_kept2 (A := #[.int .i64 0, .int .i64 0]) hb2) | (with_reducible have nn := rf_kept2_drew (A := #[.int .i64 0, .int .i64 0]) hb2) | (have nn := nn.keep hb2) | (have nn := row_keep_drew nn hb2) | skip); (try rw [World.size_alloc] at nn); (try (have n0 := nn.c 0 _ rfl; have n1 := nn.c 1 _ rfl; have n2 := nn.fz))) | (fail))
    all_goals
      rename_i hHeld
      clear hHeld
      go_wp2_with fail
      go_meet
    all_goals first | exact ⟨_, rfl, rfl, Lib.hid ⟨row_fresh _ _ _, (aws_bel HS2.out).alloc (aws_bel HS2.out).size _⟩⟩ | exact ⟨_, rfl, rfl, Lib.hid ⟨nn.setRow [.int .i64 1, .int .i64 95] rfl, set_below (aws_bel HS2.out) (aws_bel HS1.out).size [.int .i64 1, .int .i64 95]⟩⟩ | exact ⟨_, rfl, rfl, Lib.hid ⟨nn.setRow [.int .i64 1, .int .i64 95] rfl, set_below (aws_bel HS2.out) (Nat.le_refl _) [.int .i64 1, .int .i64 95]⟩⟩ | exact ⟨_, rfl, rfl, Lib.hid ⟨nn.setRow [.int .i64 1, .int .i64 95] rfl, set_below (aws_bel HS2.out) (Nat.le_succ _) [.int .i64 1, .int .i64 95]⟩⟩
  case rest =>
    obtain ⟨y, rfl, rfl, hcc⟩ := hcut
    have HY4 := Lib.hid hcc.out.1
    have hbx := hcc.out.2
    have HP4 := Lib.hid (HP3.out.keep hbx)
    have HG4 := Lib.hid (HG3.out.keep hbx)
    have HB4 := Lib.hid (HB3.out.trans (hbx.mono HB3.out.size))
    clear hcc hbx HC HCD g_0 g_1 g_2 x_0 x_1 HP3 HG3 HB3
    obtain ⟨w4p, hw4⟩ : ∃ v, v = wc := ⟨_, rfl⟩
    rw [← hw4] at HP4 HG4 HY4 HB4 ⊢
    clear hw4
    have g_0 := HG4.out.c 0 _ rfl
    have g_1 := HG4.out.c 1 _ rfl
    have g_2 := HG4.out.c 2 _ rfl
    have x_0 := HY4.out.c 0 _ rfl
    have x_1 := HY4.out.c 1 _ rfl
    have HC := Lib.hid (show AwS w4p g y pa 1 w4p from ⟨g_0, g_1, g_2, x_0, x_1, Below.refl _ _⟩)
    have HCD := Lib.hid (aws_drew HC.out HC.out)
    go_wp2_with fail
    go_cut [10, 11] from 43 to 50 (fun p e wx => ∃ N : Nat, p = .pointer (some ⟨N, 0, none⟩) ∧ e = .int .i64 0 ∧ Hid (RowAt wx N [.int .i64 (-1), .int .i64 106] ∧ Below w4p.heap.size w4p wx))
    case first =>
      go_region_held3 (fun w' => w'.cell? ⟨g, 0, none⟩ = some (.string fansW) ∧ w'.cell? ⟨g, 1, none⟩ = some (.slice pa 3 3) ∧ w'.cell? ⟨g, 2, none⟩ = some (.int .i64 10) ∧ w'.cell? ⟨y, 0, none⟩ = some (.int .i64 1) ∧ w'.cell? ⟨y, 1, none⟩ = some (.int .i64 95) ∧ Below w4p.heap.size w4p w')
        (first | (with_reducible exact HC.out) | (with_reducible exact HCD.out) | (with_reducible exact HS1.out) | (with_reducible exact HS2.out) | (with_reducible exact aws_alloc HC.out _ (by assumption)) | (with_reducible exact aws_alloc HC.out _ HS2.out) | (with_reducible exact aws_alloc HC.out _ HC.out) | (with_reducible exact aws_drew HC.out (by assumption)) | (with_reducible exact aws_drew HC.out (aws_alloc HC.out _ HC.out)) | (with_reducible exact aws_alloc HC.out _ (aws_alloc HC.out _ HC.out)) | (with_reducible exact aws_drew HC.out (aws_alloc HC.out _ (aws_alloc HC.out _ HC.out))) | (with_reducible exact aws_drew HC.out (aws_alloc HC.out _ (by assumption))) | (exact aws_of HC.out (set_below (aws_bel HS2.out) (aws_bel HS1.out).size [.int .i64 (-1), .int .i64 106])) | (exact aws_of HC.out (set_below (aws_bel HS2.out) (Nat.le_refl _) [.int .i64 (-1), .int .i64 106])) | (exact aws_of HC.out (set_below (aws_bel HS2.out) (Nat.le_succ _) [.int .i64 (-1), .int .i64 106])) | go_keep)
        (first | (go_at_call 33; refine (ask_three 2 16 0 q2 aq2 _ _ (by first | exact ins_new3i _ _ _ _ _ | exact (ins_new3i _ _ _ _ _).keep bel_drew | exact (ins_new3i _ _ _ _ _).keep (bel_new _) | exact ((ins_new3i _ _ _ _ _).keep bel_drew).keep (bel_new _) | exact ((ins_new3i _ _ _ _ _).keep (bel_new _)).keep bel_drew | exact ins_new3j _ _ _ _ _ _ | exact (ins_new3j _ _ _ _ _ _).keep bel_drew) _).mono ?_; rintro e v4 ⟨b1, c1, rfl, hi1, hb2⟩; have HS1 : Hid (AwS w4p g y pa 1 v4) := aws_keep HC.out hb2 (by first | assumption | exact aws_drew HC.out (aws_alloc HC.out _ (aws_alloc HC.out _ HC.out)) | exact aws_alloc HC.out _ (by assumption) | exact aws_drew HC.out (by assumption)); have HI1 := Lib.hid hi1; clear hi1; (first | (with_reducible have nn := rf_kept (A := #[.int .i64 0, .int .i64 0]) hb2) | (with_reducible have nn := rf_kept_drew (A := #[.int .i64 0, .int .i64 0]) hb2) | (with_reducible have nn := rf_kept2 (A := #[.int .i64 0, .int .i64 0]) hb2) | (with_reducible have nn := rf_kept2_drew (A := #[.int .i64 0, .int .i64 0]) hb2) | (have nn := nn.keep hb2) | (have nn := row_keep_drew nn hb2) | skip); (try rw [World.size_alloc] at nn); (try (have n0 := nn.c 0 _ rfl; have n1 := nn.c 1 _ rfl; have n2 := nn.fz))) | (go_at_call 19; refine (aw_step2 pa 3 _ _ _ (by first | exact HI1.out | exact HI1.out.keep bel_drew | exact HI1.out.keep (bel_new _) | exact (HI1.out.keep bel_drew).keep (bel_new _) | exact (HI1.out.keep (bel_new _)).keep bel_drew)).mono ?_; rintro e w5 ⟨rfl, hb2⟩; have HS2 : Hid (AwS w4p g y pa 1 w5) := aws_keep HC.out hb2 (by first | assumption | exact aws_drew HC.out (aws_alloc HC.out _ (aws_alloc HC.out _ HC.out)) | exact aws_alloc HC.out _ (by assumption) | exact aws_drew HC.out (by assumption)); (first | (with_reducible have nn := rf_kept (A := #[.int .i64 0, .int .i64 0]) hb2) | (with_reducible have nn := rf_kept_drew (A := #[.int .i64 0, .int .i64 0]) hb2) | (with_reducible have nn := rf_kept2 (A := #[.int .i64 0, .int .i64 0]) hb2) | (with_reducible have nn := rf_kept2_drew (A := #[.int .i64 0, .int .i64 0]) hb2) | (have nn := nn.keep hb2) | (have nn := row_keep_drew nn hb2) | skip); (try rw [World.size_alloc] at nn); (try (have n0 := nn.c 0 _ rfl; have n1 := nn.c 1 _ rfl; have n2 := nn.fz))) | (fail))
      all_goals
        rename_i hHeld
        clear hHeld
        go_wp2_with fail
        go_meet
      all_goals first | exact ⟨_, rfl, rfl, Lib.hid ⟨row_fresh _ _ _, (aws_bel HS2.out).alloc (aws_bel HS2.out).size _⟩⟩ | exact ⟨_, rfl, rfl, Lib.hid ⟨nn.setRow [.int .i64 (-1), .int .i64 106] rfl, set_below (aws_bel HS2.out) (aws_bel HS1.out).size [.int .i64 (-1), .int .i64 106]⟩⟩ | exact ⟨_, rfl, rfl, Lib.hid ⟨nn.setRow [.int .i64 (-1), .int .i64 106] rfl, set_below (aws_bel HS2.out) (Nat.le_refl _) [.int .i64 (-1), .int .i64 106]⟩⟩ | exact ⟨_, rfl, rfl, Lib.hid ⟨nn.setRow [.int .i64 (-1), .int .i64 106] rfl, set_below (aws_bel HS2.out) (Nat.le_succ _) [.int .i64 (-1), .int .i64 106]⟩⟩
    case rest =>
      obtain ⟨z, rfl, rfl, hcc⟩ := hcut
      have HZ5 := Lib.hid hcc.out.1
      have hbx := hcc.out.2
      have HP5 := Lib.hid (HP4.out.keep hbx)
      have HG5 := Lib.hid (HG4.out.keep hbx)
      have HY5 := Lib.hid (HY4.out.keep hbx)
      have HB5 := Lib.hid (HB4.out.trans (hbx.mono HB4.out.size))
      clear hcc hbx HC HCD g_0 g_1 g_2 x_0 x_1 HP4 HG4 HY4 HB4
      obtain ⟨w5p, hw5⟩ : ∃ v, v = wc := ⟨_, rfl⟩
      rw [← hw5] at HP5 HG5 HY5 HZ5 HB5 ⊢
      clear hw5
      have g_0 := HG5.out.c 0 _ rfl
      have g_1 := HG5.out.c 1 _ rfl
      have g_2 := HG5.out.c 2 _ rfl
      have x_0 := HY5.out.c 0 _ rfl
      have x_1 := HY5.out.c 1 _ rfl
      have HC := Lib.hid (show AwS w5p g y pa 1 w5p from ⟨g_0, g_1, g_2, x_0, x_1, Below.refl _ _⟩)
      have HCD := Lib.hid (aws_drew HC.out HC.out)
      go_wp2_with fail
      go_region_held3 (fun w' => w'.cell? ⟨g, 0, none⟩ = some (.string fansW) ∧ w'.cell? ⟨g, 1, none⟩ = some (.slice pa 3 3) ∧ w'.cell? ⟨g, 2, none⟩ = some (.int .i64 10) ∧ w'.cell? ⟨y, 0, none⟩ = some (.int .i64 1) ∧ w'.cell? ⟨y, 1, none⟩ = some (.int .i64 95) ∧ Below w5p.heap.size w5p w')
        (first | (with_reducible exact HC.out) | (with_reducible exact HCD.out) | (with_reducible exact HS1.out) | (with_reducible exact HS2.out) | (with_reducible exact aws_alloc HC.out _ (by assumption)) | (with_reducible exact aws_alloc HC.out _ HS2.out) | (with_reducible exact aws_alloc HC.out _ HC.out) | (with_reducible exact aws_drew HC.out (by assumption)) | (with_reducible exact aws_drew HC.out (aws_alloc HC.out _ HC.out)) | go_keep)
        (first | (go_at_call 33; refine (ask_three 0 18 17 q3 aq3 _ _ (by first | exact ins_new3i _ _ _ _ _ | exact (ins_new3i _ _ _ _ _).keep bel_drew) _).mono ?_; rintro e v5 ⟨b1, c1, rfl, hi1, hb2⟩; have HS1 : Hid (AwS w5p g y pa 1 v5) := aws_keep HC.out hb2 (by assumption); have HI1 := Lib.hid hi1; clear hi1) | (go_at_call 17; refine (aw_win2 pa 3 _ _ _ (by first | exact HI1.out | exact HI1.out.keep bel_drew)).mono ?_; rintro e w6 ⟨rfl, hb2⟩; have HS2 : Hid (AwS w5p g y pa 1 w6) := aws_keep HC.out hb2 (by assumption)) | (fail))
      rename_i hHeld
      have hbx := aws_bel HS2.out
      have HP6 := Lib.hid (HP5.out.keep hbx)
      have HG6 := Lib.hid (HG5.out.keep hbx)
      have HY6 := Lib.hid (HY5.out.keep hbx)
      have HZ6 := Lib.hid (HZ5.out.keep hbx)
      have HB6 := Lib.hid (HB5.out.trans (hbx.mono HB5.out.size))
      clear hHeld hbx HC HCD HS1 HS2 HI1 g_0 g_1 g_2 x_0 x_1 HP5 HG5 HY5 HZ5 HB5
      have g_0 := HG6.out.c 0 _ rfl
      have g_1 := HG6.out.c 1 _ rfl
      have g_2 := HG6.out.c 2 _ rfl
      go_wp2_with fail
      refine (aw_line pa 3 _ HP6.out).mono ?_
      rintro e w7 ⟨bl, cl, rfl, hb⟩
      have hk := hb.alloc hb.size (Obj.cells #[.slice bl 8 cl, .bool false, .slice none 0 0, .int .i64 0] 53)
      have HY7 := Lib.hid (HY6.out.keep hk)
      have HZ7 := Lib.hid (HZ6.out.keep hk)
      have HL7 := Lib.hid (row_fresh w7 #[.slice bl 8 cl, .bool false, .slice none 0 0, .int .i64 0] 53)
      have HB7 := Lib.hid (HB6.out.trans (hk.mono HB6.out.size))
      clear hb hk g_0 g_1 g_2 HY6 HZ6 HB6 HP6 HG6
      have y_0 := HY7.out.c 0 _ rfl
      have y_1 := HY7.out.c 1 _ rfl
      have z_0 := HZ7.out.c 0 _ rfl
      have z_1 := HZ7.out.c 1 _ rfl
      have l_0 := HL7.out.c 0 _ rfl
      have l_1 := HL7.out.c 1 _ rfl
      have l_2 := HL7.out.c 2 _ rfl
      have l_3 := HL7.out.c 3 _ rfl
      go_wp2_with fail
      refine (start_any _ _).mono ?_
      rintro e w8 ⟨rfl, hb⟩
      have HB8 := Lib.hid (HB7.out.trans (hb.mono HB7.out.size))
      clear hb y_0 y_1 z_0 z_1 l_0 l_1 l_2 l_3
      go_wp2_with fail
      go_ret
      exact ⟨rfl, HB8.out⟩
end Go.Proofs.Ytojbhbifbennfaa
