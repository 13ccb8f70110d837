/- awake answers yes. -/
import Derived.Test.YtlmcdnfihgimjaaH
namespace Go.Proofs.Ytlmcdnfihgimjaa
open Go.RowKit

abbrev AS (wb : World) (g h : Nat) (w' : World) : Prop := w'.cell? ⟨g, 0, none⟩ = some (.string ⟨#[102, 97, 110]⟩) ∧ w'.cell? ⟨g, 1, none⟩ = some (.int .i64 2) ∧ w'.cell? ⟨g, 2, none⟩ = some (.int .i64 2) ∧ w'.cell? ⟨g, 3, none⟩ = some (.string ⟨#[]⟩) ∧ w'.cell? ⟨g, 4, none⟩ = some (.int .i64 0) ∧ w'.cell? ⟨g, 5, none⟩ = some (.int .i64 0) ∧ w'.cell? ⟨g, 6, none⟩ = some (.int .i64 0) ∧ w'.cell? ⟨g, 7, none⟩ = some (.slice none 0 0) ∧ w'.cell? ⟨g, 8, none⟩ = some (.int .i64 0) ∧ w'.cell? ⟨g, 9, none⟩ = some (.int .i64 0) ∧ w'.cell? ⟨g, 10, none⟩ = some (.int .i64 60) ∧ w'.cell? ⟨g, 11, none⟩ = some (.int .i64 30) ∧ w'.cell? ⟨h, 0, none⟩ = some (.int .i64 2) ∧ w'.cell? ⟨h, 1, none⟩ = some (.int .i64 1) ∧ w'.cell? ⟨h, 2, none⟩ = some (.int .i64 100) ∧ Below wb.heap.size wb w'
abbrev BS (wb : World) (g h l m q : Nat) (w' : World) : Prop := w'.cell? ⟨g, 0, none⟩ = some (.string ⟨#[102, 97, 110]⟩) ∧ w'.cell? ⟨g, 1, none⟩ = some (.int .i64 2) ∧ w'.cell? ⟨g, 2, none⟩ = some (.int .i64 2) ∧ w'.cell? ⟨g, 3, none⟩ = some (.string ⟨#[]⟩) ∧ w'.cell? ⟨g, 4, none⟩ = some (.int .i64 0) ∧ w'.cell? ⟨g, 5, none⟩ = some (.int .i64 0) ∧ w'.cell? ⟨g, 6, none⟩ = some (.int .i64 0) ∧ w'.cell? ⟨g, 7, none⟩ = some (.slice none 0 0) ∧ w'.cell? ⟨g, 8, none⟩ = some (.int .i64 0) ∧ w'.cell? ⟨g, 9, none⟩ = some (.int .i64 0) ∧ w'.cell? ⟨g, 10, none⟩ = some (.int .i64 60) ∧ w'.cell? ⟨g, 11, none⟩ = some (.int .i64 30) ∧ w'.cell? ⟨h, 0, none⟩ = some (.int .i64 2) ∧ w'.cell? ⟨h, 1, none⟩ = some (.int .i64 1) ∧ w'.cell? ⟨h, 2, none⟩ = some (.int .i64 100) ∧ w'.cell? ⟨l, 0, none⟩ = some (.int .i64 2) ∧ w'.cell? ⟨l, 1, none⟩ = some (.int .i64 1) ∧ w'.cell? ⟨l, 2, none⟩ = some (.int .i64 100) ∧ w'.cell? ⟨m, 0, none⟩ = some (.int .i64 2) ∧ w'.cell? ⟨m, 1, none⟩ = some (.int .i64 0) ∧ w'.cell? ⟨m, 2, none⟩ = some (.int .i64 160) ∧ w'.cell? ⟨q, 0, none⟩ = some (.int .i64 2) ∧ w'.cell? ⟨q, 1, none⟩ = some (.int .i64 0) ∧ Below wb.heap.size wb w'
theorem as_of {wb w' : World} {g h : Nat} (s : AS wb g h wb) (hb : Below wb.heap.size wb w') : AS wb g h w' := by
  obtain ⟨s0, s1, s2, s3, s4, s5, s6, s7, s8, s9, s10, s11, s12, s13, s14, _⟩ := s
  have hg : g < wb.heap.size := World.block_lt_of_cell? _ _ s0
  have hh : h < wb.heap.size := World.block_lt_of_cell? _ _ s12
  exact ⟨(hb.cell (p := ⟨g, 0, none⟩) hg).trans s0, (hb.cell (p := ⟨g, 1, none⟩) hg).trans s1, (hb.cell (p := ⟨g, 2, none⟩) hg).trans s2, (hb.cell (p := ⟨g, 3, none⟩) hg).trans s3, (hb.cell (p := ⟨g, 4, none⟩) hg).trans s4, (hb.cell (p := ⟨g, 5, none⟩) hg).trans s5, (hb.cell (p := ⟨g, 6, none⟩) hg).trans s6, (hb.cell (p := ⟨g, 7, none⟩) hg).trans s7, (hb.cell (p := ⟨g, 8, none⟩) hg).trans s8, (hb.cell (p := ⟨g, 9, none⟩) hg).trans s9, (hb.cell (p := ⟨g, 10, none⟩) hg).trans s10, (hb.cell (p := ⟨g, 11, none⟩) hg).trans s11, (hb.cell (p := ⟨h, 0, none⟩) hh).trans s12, (hb.cell (p := ⟨h, 1, none⟩) hh).trans s13, (hb.cell (p := ⟨h, 2, none⟩) hh).trans s14, hb⟩
theorem as_bel {wb w' : World} {g h : Nat} (s : AS wb g h w') : Below wb.heap.size wb w' := s.2.2.2.2.2.2.2.2.2.2.2.2.2.2.2
theorem as_keep {wb w1 w2 : World} {g h : Nat} (c : AS wb g h wb) (hb : Below w1.heap.size w1 w2) (s : AS wb g h w1) : AS wb g h w2 := as_of c ((as_bel s).trans (hb.mono (as_bel s).size))
theorem as_alloc {wb w1 : World} {g h : Nat} (c : AS wb g h wb) (x : Obj) (s : AS wb g h w1) : AS wb g h (w1.alloc x) := as_of c ((as_bel s).alloc (as_bel s).size x)
theorem as_drew {wb w1 : World} {g h : Nat} (c : AS wb g h wb) (s : AS wb g h w1) : AS wb g h w1.drew := as_of c (as_bel s).drew
theorem as_store {wb w1 : World} {g h : Nat} {N : Nat} (c : AS wb g h wb) (hN : wb.heap.size ≤ N) (k : Nat) (x : Value) (s : AS wb g h w1) : AS wb g h (w1.setCell ⟨N, k, none⟩ x) := as_of c ((as_bel s).setCell (p := ⟨N, k, none⟩) hN x)
theorem bs_of {wb w' : World} {g h l m q : Nat} (s : BS wb g h l m q wb) (hb : Below wb.heap.size wb w') : BS wb g h l m q w' := by
  obtain ⟨s0, s1, s2, s3, s4, s5, s6, s7, s8, s9, s10, s11, s12, s13, s14, s15, s16, s17, s18, s19, s20, s21, s22, _⟩ := s
  have hg : g < wb.heap.size := World.block_lt_of_cell? _ _ s0
  have hh : h < wb.heap.size := World.block_lt_of_cell? _ _ s12
  have hl : l < wb.heap.size := World.block_lt_of_cell? _ _ s15
  have hm : m < wb.heap.size := World.block_lt_of_cell? _ _ s18
  have hq : q < wb.heap.size := World.block_lt_of_cell? _ _ s21
  exact ⟨(hb.cell (p := ⟨g, 0, none⟩) hg).trans s0, (hb.cell (p := ⟨g, 1, none⟩) hg).trans s1, (hb.cell (p := ⟨g, 2, none⟩) hg).trans s2, (hb.cell (p := ⟨g, 3, none⟩) hg).trans s3, (hb.cell (p := ⟨g, 4, none⟩) hg).trans s4, (hb.cell (p := ⟨g, 5, none⟩) hg).trans s5, (hb.cell (p := ⟨g, 6, none⟩) hg).trans s6, (hb.cell (p := ⟨g, 7, none⟩) hg).trans s7, (hb.cell (p := ⟨g, 8, none⟩) hg).trans s8, (hb.cell (p := ⟨g, 9, none⟩) hg).trans s9, (hb.cell (p := ⟨g, 10, none⟩) hg).trans s10, (hb.cell (p := ⟨g, 11, none⟩) hg).trans s11, (hb.cell (p := ⟨h, 0, none⟩) hh).trans s12, (hb.cell (p := ⟨h, 1, none⟩) hh).trans s13, (hb.cell (p := ⟨h, 2, none⟩) hh).trans s14, (hb.cell (p := ⟨l, 0, none⟩) hl).trans s15, (hb.cell (p := ⟨l, 1, none⟩) hl).trans s16, (hb.cell (p := ⟨l, 2, none⟩) hl).trans s17, (hb.cell (p := ⟨m, 0, none⟩) hm).trans s18, (hb.cell (p := ⟨m, 1, none⟩) hm).trans s19, (hb.cell (p := ⟨m, 2, none⟩) hm).trans s20, (hb.cell (p := ⟨q, 0, none⟩) hq).trans s21, (hb.cell (p := ⟨q, 1, none⟩) hq).trans s22, hb⟩
theorem bs_bel {wb w' : World} {g h l m q : Nat} (s : BS wb g h l m q w') : Below wb.heap.size wb w' := s.2.2.2.2.2.2.2.2.2.2.2.2.2.2.2.2.2.2.2.2.2.2.2
theorem bs_keep {wb w1 w2 : World} {g h l m q : Nat} (c : BS wb g h l m q wb) (hb : Below w1.heap.size w1 w2) (s : BS wb g h l m q w1) : BS wb g h l m q w2 := bs_of c ((bs_bel s).trans (hb.mono (bs_bel s).size))
theorem bs_alloc {wb w1 : World} {g h l m q : Nat} (c : BS wb g h l m q wb) (x : Obj) (s : BS wb g h l m q w1) : BS wb g h l m q (w1.alloc x) := bs_of c ((bs_bel s).alloc (bs_bel s).size x)
theorem bs_drew {wb w1 : World} {g h l m q : Nat} (c : BS wb g h l m q wb) (s : BS wb g h l m q w1) : BS wb g h l m q w1.drew := bs_of c (bs_bel s).drew
theorem bs_store {wb w1 : World} {g h l m q : Nat} {N : Nat} (c : BS wb g h l m q wb) (hN : wb.heap.size ≤ N) (k : Nat) (x : Value) (s : BS wb g h l m q w1) : BS wb g h l m q (w1.setCell ⟨N, k, none⟩ x) := bs_of c ((bs_bel s).setCell (p := ⟨N, k, none⟩) hN x)

set_option maxHeartbeats 8000000 in
set_option maxRecDepth 100000 in
theorem awake_yes (w : World) : Calls Try.prog 7 #[] w fun e w' => e = .returned (.bool true) ∧ Below w.heap.size w w' := by
  have HN1 := Lib.hid (show ∀ w, Calls Try.prog 10 #[.agg #[.string ⟨#[102, 97, 110]⟩, .int .i64 2, .int .i64 2, .string ⟨#[]⟩, .int .i64 0, .int .i64 0, .int .i64 0, .slice none 0 0, .int .i64 0, .int .i64 0, .int .i64 60, .int .i64 30], .agg #[.int .i64 2, .int .i64 1, .int .i64 100], .agg #[.int .i64 8, .int .i64 2, .int .i64 0], .int .i64 159] w fun e w' => e = .returned (.tuple #[.agg #[.int .i64 2, .int .i64 1, .int .i64 100], .int .i64 0]) ∧ Below w.heap.size w w' from fun w => (next_any ⟨.string ⟨#[102, 97, 110]⟩, 2, 2, .string ⟨#[]⟩, .int .i64 0, .int .i64 0, .int .i64 0, .slice none 0 0, .int .i64 0, .int .i64 0, 60, 30⟩ 2 1 100 8 2 0 159 w).mono fun e w' h => ⟨h.1.trans rfl, h.2⟩)
  have HN2 := Lib.hid (show ∀ w, Calls Try.prog 10 #[.agg #[.string ⟨#[102, 97, 110]⟩, .int .i64 2, .int .i64 2, .string ⟨#[]⟩, .int .i64 0, .int .i64 0, .int .i64 0, .slice none 0 0, .int .i64 0, .int .i64 0, .int .i64 60, .int .i64 30], .agg #[.int .i64 2, .int .i64 1, .int .i64 100], .agg #[.int .i64 8, .int .i64 2, .int .i64 0], .int .i64 160] w fun e w' => e = .returned (.tuple #[.agg #[.int .i64 2, .int .i64 0, .int .i64 160], .int .i64 0]) ∧ Below w.heap.size w w' from fun w => (next_any ⟨.string ⟨#[102, 97, 110]⟩, 2, 2, .string ⟨#[]⟩, .int .i64 0, .int .i64 0, .int .i64 0, .slice none 0 0, .int .i64 0, .int .i64 0, 60, 30⟩ 2 1 100 8 2 0 160 w).mono fun e w' h => ⟨h.1.trans rfl, h.2⟩)
  have HV1 := Lib.hid (show ∀ w, Calls Try.prog 9 #[.agg #[.string ⟨#[102, 97, 110]⟩, .int .i64 2, .int .i64 2, .string ⟨#[]⟩, .int .i64 0, .int .i64 0, .int .i64 0, .slice none 0 0, .int .i64 0, .int .i64 0, .int .i64 60, .int .i64 30], .agg #[.int .i64 2, .int .i64 1, .int .i64 100], .agg #[.int .i64 3, .int .i64 2, .int .i64 0], .int .i64 101] w fun e w' => e = .returned (.tuple #[.agg #[.int .i64 2, .int .i64 0], .int .i64 0]) ∧ Below w.heap.size w w' from fun w => (value_any ⟨.string ⟨#[102, 97, 110]⟩, 2, 2, .string ⟨#[]⟩, .int .i64 0, .int .i64 0, .int .i64 0, .slice none 0 0, .int .i64 0, .int .i64 0, 60, 30⟩ 2 1 100 3 2 0 101 w).mono fun e w' h => ⟨h.1.trans rfl, h.2⟩)
  have HU1 := Lib.hid (show ∀ w, Calls Try.prog 19 #[.agg #[.string ⟨#[102, 97, 110]⟩, .int .i64 2, .int .i64 2, .string ⟨#[]⟩, .int .i64 0, .int .i64 0, .int .i64 0, .slice none 0 0, .int .i64 0, .int .i64 0, .int .i64 60, .int .i64 30], .agg #[.int .i64 2, .int .i64 1, .int .i64 100]] w fun e w' => e = .returned (.int .i64 160) ∧ Below w.heap.size w w' from fun w => (until_any ⟨.string ⟨#[102, 97, 110]⟩, 2, 2, .string ⟨#[]⟩, .int .i64 0, .int .i64 0, .int .i64 0, .slice none 0 0, .int .i64 0, .int .i64 0, 60, 30⟩ 2 1 100 w).mono fun e w' h => ⟨h.1.trans rfl, h.2⟩)
  have HH1 := Lib.hid (show ∀ w, Calls Try.prog 17 #[.agg #[.string ⟨#[102, 97, 110]⟩, .int .i64 2, .int .i64 2, .string ⟨#[]⟩, .int .i64 0, .int .i64 0, .int .i64 0, .slice none 0 0, .int .i64 0, .int .i64 0, .int .i64 60, .int .i64 30], .agg #[.int .i64 2, .int .i64 1, .int .i64 100], .int .i64 159] w fun e w' => e = .returned (.bool true) ∧ Below w.heap.size w w' from fun w => (held_any ⟨.string ⟨#[102, 97, 110]⟩, 2, 2, .string ⟨#[]⟩, .int .i64 0, .int .i64 0, .int .i64 0, .slice none 0 0, .int .i64 0, .int .i64 0, 60, 30⟩ 2 1 100 159 w).mono fun e w' h => ⟨h.1.trans rfl, h.2⟩)
  have HON := Lib.hid (fun n w => on_any n w)
  go_enter Try.func7, Try.ntmps7
  go_wp2_with fail
  obtain ⟨W, g, hW, hg, RP, B, sz⟩ := box1 w #[.string ⟨#[102, 97, 110]⟩, .int .i64 2, .int .i64 2, .string ⟨#[]⟩, .int .i64 0, .int .i64 0, .int .i64 0, .slice none 0 0, .int .i64 0, .int .i64 0, .int .i64 60, .int .i64 30] 26
  rw [← hW]
  try rw [← hg]
  have HP0 := Lib.hid RP
  have HB0 := Lib.hid B
  clear hW hg RP B sz
  refine (HON.out 1 _).mono ?_
  rintro e v1 ⟨rfl, hb⟩
  have hk := hb.alloc hb.size (Obj.cells #[.int .i64 2, .int .i64 1, .int .i64 100] 28)
  have HP1 := Lib.hid (HP0.out.keep hk)
  have HO1 := Lib.hid (row_fresh v1 #[.int .i64 2, .int .i64 1, .int .i64 100] 28)
  have HB1 := Lib.hid (HB0.out.trans (hk.mono HB0.out.size))
  clear hb hk HP0 HB0
  go_wp2_with fail
  obtain ⟨h, hh⟩ : ∃ x, x = v1.heap.size := ⟨_, rfl⟩
  obtain ⟨wb, hwb⟩ : ∃ x, x = v1.alloc (Obj.cells #[.int .i64 2, .int .i64 1, .int .i64 100] 28) := ⟨_, rfl⟩
  rw [← hwb] at HP1 HO1 HB1 ⊢
  rw [← hh] at HO1 ⊢
  clear hwb hh
  have HC := Lib.hid (show AS wb g h wb from ⟨HP1.out.c 0 _ rfl, HP1.out.c 1 _ rfl, HP1.out.c 2 _ rfl, HP1.out.c 3 _ rfl, HP1.out.c 4 _ rfl, HP1.out.c 5 _ rfl, HP1.out.c 6 _ rfl, HP1.out.c 7 _ rfl, HP1.out.c 8 _ rfl, HP1.out.c 9 _ rfl, HP1.out.c 10 _ rfl, HP1.out.c 11 _ rfl, HO1.out.c 0 _ rfl, HO1.out.c 1 _ rfl, HO1.out.c 2 _ rfl, Below.refl _ _⟩)
  have HCD := Lib.hid (as_drew HC.out HC.out)
  have p0 := HP1.out.c 0 _ rfl
  have p1 := HP1.out.c 1 _ rfl
  have p2 := HP1.out.c 2 _ rfl
  have p3 := HP1.out.c 3 _ rfl
  have p4 := HP1.out.c 4 _ rfl
  have p5 := HP1.out.c 5 _ rfl
  have p6 := HP1.out.c 6 _ rfl
  have p7 := HP1.out.c 7 _ rfl
  have p8 := HP1.out.c 8 _ rfl
  have p9 := HP1.out.c 9 _ rfl
  have p10 := HP1.out.c 10 _ rfl
  have p11 := HP1.out.c 11 _ rfl
  have o0 := HO1.out.c 0 _ rfl
  have o1 := HO1.out.c 1 _ rfl
  have o2 := HO1.out.c 2 _ rfl
  go_cut [3, 4] from 13 to 19 (fun p e wx => ∃ l : Nat, p = .pointer (some ⟨l, 0, none⟩) ∧ e = .int .i64 0 ∧ RowAt wx l [.int .i64 2, .int .i64 1, .int .i64 100] ∧ Below wb.heap.size wb wx)
  case first =>
    go_region_held3 (fun w' => w'.cell? ⟨g, 0, none⟩ = some (.string ⟨#[102, 97, 110]⟩) ∧ w'.cell? ⟨g, 1, none⟩ = some (.int .i64 2) ∧ w'.cell? ⟨g, 2, none⟩ = some (.int .i64 2) ∧ w'.cell? ⟨g, 3, none⟩ = some (.string ⟨#[]⟩) ∧ w'.cell? ⟨g, 4, none⟩ = some (.int .i64 0) ∧ w'.cell? ⟨g, 5, none⟩ = some (.int .i64 0) ∧ w'.cell? ⟨g, 6, none⟩ = some (.int .i64 0) ∧ w'.cell? ⟨g, 7, none⟩ = some (.slice none 0 0) ∧ w'.cell? ⟨g, 8, none⟩ = some (.int .i64 0) ∧ w'.cell? ⟨g, 9, none⟩ = some (.int .i64 0) ∧ w'.cell? ⟨g, 10, none⟩ = some (.int .i64 60) ∧ w'.cell? ⟨g, 11, none⟩ = some (.int .i64 30) ∧ w'.cell? ⟨h, 0, none⟩ = some (.int .i64 2) ∧ w'.cell? ⟨h, 1, none⟩ = some (.int .i64 1) ∧ w'.cell? ⟨h, 2, none⟩ = some (.int .i64 100) ∧ Below wb.heap.size wb w')
      (first | (with_reducible exact HC.out) | (with_reducible exact HCD.out) | (with_reducible exact as_keep HC.out hb2 (by assumption)) | (with_reducible exact as_alloc HC.out _ (by assumption)) | (with_reducible exact as_alloc HC.out _ HS2.out) | (with_reducible exact as_alloc HC.out _ HS1.out) | (with_reducible exact as_alloc HC.out _ HC.out) | (with_reducible exact as_drew HC.out (as_alloc HC.out _ HC.out)) | (with_reducible exact as_drew HC.out (as_alloc HC.out _ HS1.out)) | (with_reducible exact as_drew HC.out (as_alloc HC.out _ HS2.out)) | (with_reducible exact as_store HC.out (Nat.le_refl _) _ _ (as_store HC.out (Nat.le_refl _) _ _ (as_store HC.out (Nat.le_refl _) _ _ (HS2.out)))) | (with_reducible exact as_store HC.out hle1 _ _ (as_store HC.out hle1 _ _ (as_store HC.out hle1 _ _ (HS2.out)))) | (with_reducible exact as_drew HC.out (by assumption)) | go_keep)
      (first | (go_at_call 18; refine (HON.out _ _).mono ?_; rintro e x1 ⟨rfl, hb2⟩; have HS1 : Hid (AS wb g h x1) := as_keep HC.out hb2 (by assumption); have hle1 : wb.heap.size ≤ x1.heap.size := (as_bel HS1.out).size; (first | (with_reducible have nn := fresh_keptR hb2) | (with_reducible have nn := fresh_keptR_drew hb2) | (with_reducible have nn := rkept nn hb2) | (with_reducible have nn := rkept_drew nn hb2) | skip); (try (have n0 := nn.c 0 _ rfl; have n1 := nn.c 1 _ rfl; have n2 := nn.c 2 _ rfl; have nz := nn.fz))) | (go_at_call 10; refine (HN1.out _).mono ?_; rintro e x2 ⟨rfl, hb2⟩; have HS2 : Hid (AS wb g h x2) := as_keep HC.out hb2 (by assumption); (first | (with_reducible have nn := fresh_keptR hb2) | (with_reducible have nn := fresh_keptR_drew hb2) | (with_reducible have nn := rkept nn hb2) | (with_reducible have nn := rkept_drew nn hb2) | skip); (try (have n0 := nn.c 0 _ rfl; have n1 := nn.c 1 _ rfl; have n2 := nn.c 2 _ rfl; have nz := nn.fz))))
    all_goals
      rename_i hHeld
      have hC := as_bel hHeld
      clear hHeld
      go_wp2_with fail
      go_meet
      first
        | exact ⟨_, rfl, rfl, nn.setRow [.int .i64 2, .int .i64 1, .int .i64 100] rfl, hC⟩
        | exact ⟨_, rfl, rfl, row_fresh x2 #[.int .i64 2, .int .i64 1, .int .i64 100] 28, hC⟩
  case rest =>
    obtain ⟨l1, rfl, rfl, hL, hK⟩ := hcut
    obtain ⟨wb2, rfl⟩ : ∃ x, x = wc := ⟨_, rfl⟩
    have HP2 := Lib.hid (HP1.out.keep hK)
    have HO2 := Lib.hid (HO1.out.keep hK)
    have HB2 := Lib.hid (HB1.out.trans (hK.mono HB1.out.size))
    have HL1_2 := Lib.hid hL
    clear hL hK HP1 HO1 HB1  HC HCD
    clear p0 p1 p2 p3 p4 p5 p6 p7 p8 p9 p10 p11
    clear o0 o1 o2
    go_wp2_with fail
    have HC := Lib.hid (show AS wb2 g h wb2 from ⟨HP2.out.c 0 _ rfl, HP2.out.c 1 _ rfl, HP2.out.c 2 _ rfl, HP2.out.c 3 _ rfl, HP2.out.c 4 _ rfl, HP2.out.c 5 _ rfl, HP2.out.c 6 _ rfl, HP2.out.c 7 _ rfl, HP2.out.c 8 _ rfl, HP2.out.c 9 _ rfl, HP2.out.c 10 _ rfl, HP2.out.c 11 _ rfl, HO2.out.c 0 _ rfl, HO2.out.c 1 _ rfl, HO2.out.c 2 _ rfl, Below.refl _ _⟩)
    have HCD := Lib.hid (as_drew HC.out HC.out)
    have p0 := HP2.out.c 0 _ rfl
    have p1 := HP2.out.c 1 _ rfl
    have p2 := HP2.out.c 2 _ rfl
    have p3 := HP2.out.c 3 _ rfl
    have p4 := HP2.out.c 4 _ rfl
    have p5 := HP2.out.c 5 _ rfl
    have p6 := HP2.out.c 6 _ rfl
    have p7 := HP2.out.c 7 _ rfl
    have p8 := HP2.out.c 8 _ rfl
    have p9 := HP2.out.c 9 _ rfl
    have p10 := HP2.out.c 10 _ rfl
    have p11 := HP2.out.c 11 _ rfl
    have o0 := HO2.out.c 0 _ rfl
    have o1 := HO2.out.c 1 _ rfl
    have o2 := HO2.out.c 2 _ rfl
    go_cut [5, 6] from 21 to 27 (fun p e wx => ∃ l : Nat, p = .pointer (some ⟨l, 0, none⟩) ∧ e = .int .i64 0 ∧ RowAt wx l [.int .i64 2, .int .i64 0, .int .i64 160] ∧ Below wb2.heap.size wb2 wx)
    case first =>
      go_region_held3 (fun w' => w'.cell? ⟨g, 0, none⟩ = some (.string ⟨#[102, 97, 110]⟩) ∧ w'.cell? ⟨g, 1, none⟩ = some (.int .i64 2) ∧ w'.cell? ⟨g, 2, none⟩ = some (.int .i64 2) ∧ w'.cell? ⟨g, 3, none⟩ = some (.string ⟨#[]⟩) ∧ w'.cell? ⟨g, 4, none⟩ = some (.int .i64 0) ∧ w'.cell? ⟨g, 5, none⟩ = some (.int .i64 0) ∧ w'.cell? ⟨g, 6, none⟩ = some (.int .i64 0) ∧ w'.cell? ⟨g, 7, none⟩ = some (.slice none 0 0) ∧ w'.cell? ⟨g, 8, none⟩ = some (.int .i64 0) ∧ w'.cell? ⟨g, 9, none⟩ = some (.int .i64 0) ∧ w'.cell? ⟨g, 10, none⟩ = some (.int .i64 60) ∧ w'.cell? ⟨g, 11, none⟩ = some (.int .i64 30) ∧ w'.cell? ⟨h, 0, none⟩ = some (.int .i64 2) ∧ w'.cell? ⟨h, 1, none⟩ = some (.int .i64 1) ∧ w'.cell? ⟨h, 2, none⟩ = some (.int .i64 100) ∧ Below wb2.heap.size wb2 w')
        (first | (with_reducible exact HC.out) | (with_reducible exact HCD.out) | (with_reducible exact as_keep HC.out hb2 (by assumption)) | (with_reducible exact as_alloc HC.out _ (by assumption)) | (with_reducible exact as_alloc HC.out _ HS2.out) | (with_reducible exact as_alloc HC.out _ HS1.out) | (with_reducible exact as_alloc HC.out _ HC.out) | (with_reducible exact as_drew HC.out (as_alloc HC.out _ HC.out)) | (with_reducible exact as_drew HC.out (as_alloc HC.out _ HS1.out)) | (with_reducible exact as_drew HC.out (as_alloc HC.out _ HS2.out)) | (with_reducible exact as_store HC.out (Nat.le_refl _) _ _ (as_store HC.out (Nat.le_refl _) _ _ (as_store HC.out (Nat.le_refl _) _ _ (HS2.out)))) | (with_reducible exact as_store HC.out hle1 _ _ (as_store HC.out hle1 _ _ (as_store HC.out hle1 _ _ (HS2.out)))) | (with_reducible exact as_drew HC.out (by assumption)) | go_keep)
        (first | (go_at_call 18; refine (HON.out _ _).mono ?_; rintro e x1 ⟨rfl, hb2⟩; have HS1 : Hid (AS wb2 g h x1) := as_keep HC.out hb2 (by assumption); have hle1 : wb2.heap.size ≤ x1.heap.size := (as_bel HS1.out).size; (first | (with_reducible have nn := fresh_keptR hb2) | (with_reducible have nn := fresh_keptR_drew hb2) | (with_reducible have nn := rkept nn hb2) | (with_reducible have nn := rkept_drew nn hb2) | skip); (try (have n0 := nn.c 0 _ rfl; have n1 := nn.c 1 _ rfl; have n2 := nn.c 2 _ rfl; have nz := nn.fz))) | (go_at_call 10; refine (HN2.out _).mono ?_; rintro e x2 ⟨rfl, hb2⟩; have HS2 : Hid (AS wb2 g h x2) := as_keep HC.out hb2 (by assumption); (first | (with_reducible have nn := fresh_keptR hb2) | (with_reducible have nn := fresh_keptR_drew hb2) | (with_reducible have nn := rkept nn hb2) | (with_reducible have nn := rkept_drew nn hb2) | skip); (try (have n0 := nn.c 0 _ rfl; have n1 := nn.c 1 _ rfl; have n2 := nn.c 2 _ rfl; have nz := nn.fz))))
      all_goals
        rename_i hHeld
        have hC := as_bel hHeld
        clear hHeld
        go_wp2_with fail
        go_meet
        first
          | exact ⟨_, rfl, rfl, nn.setRow [.int .i64 2, .int .i64 0, .int .i64 160] rfl, hC⟩
          | exact ⟨_, rfl, rfl, row_fresh x2 #[.int .i64 2, .int .i64 0, .int .i64 160] 28, hC⟩
    case rest =>
      obtain ⟨l2, rfl, rfl, hL, hK⟩ := hcut
      obtain ⟨wb3, rfl⟩ : ∃ x, x = wc := ⟨_, rfl⟩
      have HP3 := Lib.hid (HP2.out.keep hK)
      have HO3 := Lib.hid (HO2.out.keep hK)
      have HB3 := Lib.hid (HB2.out.trans (hK.mono HB2.out.size))
      have HL2_3 := Lib.hid hL
      have HL1_3 := Lib.hid (HL1_2.out.keep hK)
      clear hL hK HP2 HO2 HB2 HL1_2 HC HCD
      clear p0 p1 p2 p3 p4 p5 p6 p7 p8 p9 p10 p11
      clear o0 o1 o2
      go_wp2_with fail
      have HC := Lib.hid (show AS wb3 g h wb3 from ⟨HP3.out.c 0 _ rfl, HP3.out.c 1 _ rfl, HP3.out.c 2 _ rfl, HP3.out.c 3 _ rfl, HP3.out.c 4 _ rfl, HP3.out.c 5 _ rfl, HP3.out.c 6 _ rfl, HP3.out.c 7 _ rfl, HP3.out.c 8 _ rfl, HP3.out.c 9 _ rfl, HP3.out.c 10 _ rfl, HP3.out.c 11 _ rfl, HO3.out.c 0 _ rfl, HO3.out.c 1 _ rfl, HO3.out.c 2 _ rfl, Below.refl _ _⟩)
      have HCD := Lib.hid (as_drew HC.out HC.out)
      have p0 := HP3.out.c 0 _ rfl
      have p1 := HP3.out.c 1 _ rfl
      have p2 := HP3.out.c 2 _ rfl
      have p3 := HP3.out.c 3 _ rfl
      have p4 := HP3.out.c 4 _ rfl
      have p5 := HP3.out.c 5 _ rfl
      have p6 := HP3.out.c 6 _ rfl
      have p7 := HP3.out.c 7 _ rfl
      have p8 := HP3.out.c 8 _ rfl
      have p9 := HP3.out.c 9 _ rfl
      have p10 := HP3.out.c 10 _ rfl
      have p11 := HP3.out.c 11 _ rfl
      have o0 := HO3.out.c 0 _ rfl
      have o1 := HO3.out.c 1 _ rfl
      have o2 := HO3.out.c 2 _ rfl
      go_cut [7, 8] from 29 to 35 (fun p e wx => ∃ l : Nat, p = .pointer (some ⟨l, 0, none⟩) ∧ e = .int .i64 0 ∧ RowAt wx l [.int .i64 2, .int .i64 0] ∧ Below wb3.heap.size wb3 wx)
      case first =>
        go_region_held3 (fun w' => w'.cell? ⟨g, 0, none⟩ = some (.string ⟨#[102, 97, 110]⟩) ∧ w'.cell? ⟨g, 1, none⟩ = some (.int .i64 2) ∧ w'.cell? ⟨g, 2, none⟩ = some (.int .i64 2) ∧ w'.cell? ⟨g, 3, none⟩ = some (.string ⟨#[]⟩) ∧ w'.cell? ⟨g, 4, none⟩ = some (.int .i64 0) ∧ w'.cell? ⟨g, 5, none⟩ = some (.int .i64 0) ∧ w'.cell? ⟨g, 6, none⟩ = some (.int .i64 0) ∧ w'.cell? ⟨g, 7, none⟩ = some (.slice none 0 0) ∧ w'.cell? ⟨g, 8, none⟩ = some (.int .i64 0) ∧ w'.cell? ⟨g, 9, none⟩ = some (.int .i64 0) ∧ w'.cell? ⟨g, 10, none⟩ = some (.int .i64 60) ∧ w'.cell? ⟨g, 11, none⟩ = some (.int .i64 30) ∧ w'.cell? ⟨h, 0, none⟩ = some (.int .i64 2) ∧ w'.cell? ⟨h, 1, none⟩ = some (.int .i64 1) ∧ w'.cell? ⟨h, 2, none⟩ = some (.int .i64 100) ∧ Below wb3.heap.size wb3 w')
          (first | (with_reducible exact HC.out) | (with_reducible exact HCD.out) | (with_reducible exact as_keep HC.out hb2 (by assumption)) | (with_reducible exact as_alloc HC.out _ (by assumption)) | (with_reducible exact as_alloc HC.out _ HS2.out) | (with_reducible exact as_alloc HC.out _ HS1.out) | (with_reducible exact as_alloc HC.out _ HC.out) | (with_reducible exact as_drew HC.out (as_alloc HC.out _ HC.out)) | (with_reducible exact as_drew HC.out (as_alloc HC.out _ HS1.out)) | (with_reducible exact as_drew HC.out (as_alloc HC.out _ HS2.out)) | (with_reducible exact as_store HC.out (Nat.le_refl _) _ _ (as_store HC.out (Nat.le_refl _) _ _ (HS2.out))) | (with_reducible exact as_store HC.out hle1 _ _ (as_store HC.out hle1 _ _ (HS2.out))) | (with_reducible exact as_drew HC.out (by assumption)) | go_keep)
          (first | (go_at_call 18; refine (HON.out _ _).mono ?_; rintro e x1 ⟨rfl, hb2⟩; have HS1 : Hid (AS wb3 g h x1) := as_keep HC.out hb2 (by assumption); have hle1 : wb3.heap.size ≤ x1.heap.size := (as_bel HS1.out).size; (first | (with_reducible have nn := fresh_keptR hb2) | (with_reducible have nn := fresh_keptR_drew hb2) | (with_reducible have nn := rkept nn hb2) | (with_reducible have nn := rkept_drew nn hb2) | skip); (try (have n0 := nn.c 0 _ rfl; have n1 := nn.c 1 _ rfl; have nz := nn.fz))) | (go_at_call 9; refine (HV1.out _).mono ?_; rintro e x2 ⟨rfl, hb2⟩; have HS2 : Hid (AS wb3 g h x2) := as_keep HC.out hb2 (by assumption); (first | (with_reducible have nn := fresh_keptR hb2) | (with_reducible have nn := fresh_keptR_drew hb2) | (with_reducible have nn := rkept nn hb2) | (with_reducible have nn := rkept_drew nn hb2) | skip); (try (have n0 := nn.c 0 _ rfl; have n1 := nn.c 1 _ rfl; have nz := nn.fz))))
        all_goals
          rename_i hHeld
          have hC := as_bel hHeld
          clear hHeld
          go_wp2_with fail
          go_meet
          first
            | exact ⟨_, rfl, rfl, nn.setRow [.int .i64 2, .int .i64 0] rfl, hC⟩
            | exact ⟨_, rfl, rfl, row_fresh x2 #[.int .i64 2, .int .i64 0] 24, hC⟩
      case rest =>
        obtain ⟨l3, rfl, rfl, hL, hK⟩ := hcut
        obtain ⟨wb4, rfl⟩ : ∃ x, x = wc := ⟨_, rfl⟩
        have HP4 := Lib.hid (HP3.out.keep hK)
        have HO4 := Lib.hid (HO3.out.keep hK)
        have HB4 := Lib.hid (HB3.out.trans (hK.mono HB3.out.size))
        have HL3_4 := Lib.hid hL
        have HL1_4 := Lib.hid (HL1_3.out.keep hK)
        have HL2_4 := Lib.hid (HL2_3.out.keep hK)
        clear hL hK HP3 HO3 HB3 HL1_3 HL2_3 HC HCD
        clear p0 p1 p2 p3 p4 p5 p6 p7 p8 p9 p10 p11
        clear o0 o1 o2
        go_wp2_with fail
        have HC := Lib.hid (show BS wb4 g h l1 l2 l3 wb4 from ⟨HP4.out.c 0 _ rfl, HP4.out.c 1 _ rfl, HP4.out.c 2 _ rfl, HP4.out.c 3 _ rfl, HP4.out.c 4 _ rfl, HP4.out.c 5 _ rfl, HP4.out.c 6 _ rfl, HP4.out.c 7 _ rfl, HP4.out.c 8 _ rfl, HP4.out.c 9 _ rfl, HP4.out.c 10 _ rfl, HP4.out.c 11 _ rfl, HO4.out.c 0 _ rfl, HO4.out.c 1 _ rfl, HO4.out.c 2 _ rfl, HL1_4.out.c 0 _ rfl, HL1_4.out.c 1 _ rfl, HL1_4.out.c 2 _ rfl, HL2_4.out.c 0 _ rfl, HL2_4.out.c 1 _ rfl, HL2_4.out.c 2 _ rfl, HL3_4.out.c 0 _ rfl, HL3_4.out.c 1 _ rfl, Below.refl _ _⟩)
        have HCD := Lib.hid (bs_drew HC.out HC.out)
        have p0 := HP4.out.c 0 _ rfl
        have p1 := HP4.out.c 1 _ rfl
        have p2 := HP4.out.c 2 _ rfl
        have p3 := HP4.out.c 3 _ rfl
        have p4 := HP4.out.c 4 _ rfl
        have p5 := HP4.out.c 5 _ rfl
        have p6 := HP4.out.c 6 _ rfl
        have p7 := HP4.out.c 7 _ rfl
        have p8 := HP4.out.c 8 _ rfl
        have p9 := HP4.out.c 9 _ rfl
        have p10 := HP4.out.c 10 _ rfl
        have p11 := HP4.out.c 11 _ rfl
        have o0 := HO4.out.c 0 _ rfl
        have o1 := HO4.out.c 1 _ rfl
        have o2 := HO4.out.c 2 _ rfl
        have u_0 := HL1_4.out.c 0 _ rfl
        have u_1 := HL1_4.out.c 1 _ rfl
        have u_2 := HL1_4.out.c 2 _ rfl
        have v_0 := HL2_4.out.c 0 _ rfl
        have v_1 := HL2_4.out.c 1 _ rfl
        have v_2 := HL2_4.out.c 2 _ rfl
        have w_0 := HL3_4.out.c 0 _ rfl
        have w_1 := HL3_4.out.c 1 _ rfl
        go_region_held3 (fun w' => w'.cell? ⟨g, 0, none⟩ = some (.string ⟨#[102, 97, 110]⟩) ∧ w'.cell? ⟨g, 1, none⟩ = some (.int .i64 2) ∧ w'.cell? ⟨g, 2, none⟩ = some (.int .i64 2) ∧ w'.cell? ⟨g, 3, none⟩ = some (.string ⟨#[]⟩) ∧ w'.cell? ⟨g, 4, none⟩ = some (.int .i64 0) ∧ w'.cell? ⟨g, 5, none⟩ = some (.int .i64 0) ∧ w'.cell? ⟨g, 6, none⟩ = some (.int .i64 0) ∧ w'.cell? ⟨g, 7, none⟩ = some (.slice none 0 0) ∧ w'.cell? ⟨g, 8, none⟩ = some (.int .i64 0) ∧ w'.cell? ⟨g, 9, none⟩ = some (.int .i64 0) ∧ w'.cell? ⟨g, 10, none⟩ = some (.int .i64 60) ∧ w'.cell? ⟨g, 11, none⟩ = some (.int .i64 30) ∧ w'.cell? ⟨h, 0, none⟩ = some (.int .i64 2) ∧ w'.cell? ⟨h, 1, none⟩ = some (.int .i64 1) ∧ w'.cell? ⟨h, 2, none⟩ = some (.int .i64 100) ∧ w'.cell? ⟨l1, 0, none⟩ = some (.int .i64 2) ∧ w'.cell? ⟨l1, 1, none⟩ = some (.int .i64 1) ∧ w'.cell? ⟨l1, 2, none⟩ = some (.int .i64 100) ∧ w'.cell? ⟨l2, 0, none⟩ = some (.int .i64 2) ∧ w'.cell? ⟨l2, 1, none⟩ = some (.int .i64 0) ∧ w'.cell? ⟨l2, 2, none⟩ = some (.int .i64 160) ∧ w'.cell? ⟨l3, 0, none⟩ = some (.int .i64 2) ∧ w'.cell? ⟨l3, 1, none⟩ = some (.int .i64 0) ∧ Below wb4.heap.size wb4 w')
          (first | (with_reducible exact HC.out) | (with_reducible exact HCD.out) | (with_reducible exact bs_keep HC.out hb2 (by assumption)) | go_keep)
          (first | (go_at_call 18; refine (HON.out _ _).mono ?_; rintro e x1 ⟨rfl, hb2⟩; have HS1 : Hid (BS wb4 g h l1 l2 l3 x1) := bs_keep HC.out hb2 (by assumption)) | (go_at_call 19; refine (HU1.out _).mono ?_; rintro e x2 ⟨rfl, hb2⟩; have HS2 : Hid (BS wb4 g h l1 l2 l3 x2) := bs_keep HC.out hb2 (by assumption)) | (go_at_call 17; refine (HH1.out _).mono ?_; rintro e x3 ⟨rfl, hb2⟩; have HS3 : Hid (BS wb4 g h l1 l2 l3 x3) := bs_keep HC.out hb2 (by assumption)))
        all_goals
          rename_i hHeld
          have hC := bs_bel HS3.out
          have hB := HB4.out.trans (hC.mono HB4.out.size)
          clear hHeld hC
          go_wp2_with fail
          go_ret
          exact ⟨rfl, hB⟩
end Go.Proofs.Ytlmcdnfihgimjaa
