/- The law Params. -/
import Derived.Test.YtaobbedajgkmiaaDoorFu
namespace Go.Proofs.YtaobbedajgkmiaaDoor
open Go.RowKit Go.Shelf Go.Maps Go.WideMaps

set_option linter.unusedVariables false
set_option linter.unusedSimpArgs false
theorem apart_of {pl : List BndD} (h : (pl.map BndD.nm).Nodup) : apartP pl := by
  intro i j x y hx hy e
  have hi : i < (pl.map BndD.nm).length := by rw [List.length_map]; exact (List.getElem?_eq_some_iff.1 hx).1
  refine (List.getElem?_inj hi h).1 ?_
  rw [List.getElem?_map, List.getElem?_map, hx, hy]
  exact congrArg some e
set_option maxHeartbeats 4000000 in
theorem rparams_miss (s : ByteArray) (hn : ∀ j, j < 33 → ¬ (rowR j).nm = s) (u : Value) (w : World) :
    Calls Tryd.prog 17 #[.string s, u] w fun e w' => e = .returned (.tuple #[.slice none 0 0, .int .i64 3]) ∧ Below w.heap.size w w' := by
  have KF := Lib.hid (find18_miss s hn w)
  clear hn
  go_enter Tryd.func17, Tryd.ntmps17
  go_wp2_with fail
  refine KF.out.mono ?_
  rintro e w1 ⟨rfl, hb⟩
  obtain ⟨W2, g, hW2, hg, RG, B2, sz2⟩ := box1 w1 #[.string ⟨#[]⟩, .slice none 0 0, .slice none 0 0, .slice none 0 0, .int .i64 0, .int .i64 0] 30
  have HB2 := Lib.hid (hb.trans (B2.mono hb.size))
  clear hb RG B2 sz2
  go_upto_region 2 with fail
  rw [← hW2]
  try rw [← hg]
  clear hW2 hg
  go_wp2_with fail
  go_ret2
  exact ⟨rfl, HB2.out⟩
theorem all_params (s : ByteArray) : (∃ ro rm rs pl il ag, NameOk s ro rm rs pl il ag ∧ HoldsOk s pl ag ∧ apartP pl) ∨ ((∀ j, j < 33 → ¬ (rowAt j).nm = s) ∧ (∀ j, j < 33 → ¬ (rowR j).nm = s)) := by
  by_cases h0 : s = ⟨#[97, 98, 111, 118, 101]⟩
  · subst h0; exact .inl ⟨_, _, _, _, _, _, nameOk_above, holds_above, apart_of (by decide)⟩
  by_cases h1 : s = ⟨#[97, 98, 115]⟩
  · subst h1; exact .inl ⟨_, _, _, _, _, _, nameOk_abs, holds_abs, apart_of (by decide)⟩
  by_cases h2 : s = ⟨#[97, 100, 100]⟩
  · subst h2; exact .inl ⟨_, _, _, _, _, _, nameOk_add, holds_add, apart_of (by decide)⟩
  by_cases h3 : s = ⟨#[97, 110, 100]⟩
  · subst h3; exact .inl ⟨_, _, _, _, _, _, nameOk_and, holds_and, apart_of (by decide)⟩
  by_cases h4 : s = ⟨#[98, 101, 108, 111, 119]⟩
  · subst h4; exact .inl ⟨_, _, _, _, _, _, nameOk_below, holds_below, apart_of (by decide)⟩
  by_cases h5 : s = ⟨#[99, 104, 111, 111, 115, 101]⟩
  · subst h5; exact .inl ⟨_, _, _, _, _, _, nameOk_choose, holds_choose, apart_of (by decide)⟩
  by_cases h6 : s = ⟨#[99, 111, 117, 110, 116]⟩
  · subst h6; exact .inl ⟨_, _, _, _, _, _, nameOk_count, holds_count, apart_of (by decide)⟩
  by_cases h7 : s = ⟨#[100, 101, 119, 112, 111, 105, 110, 116]⟩
  · subst h7; exact .inl ⟨_, _, _, _, _, _, nameOk_dewpoint, holds_dewpoint, apart_of (by decide)⟩
  by_cases h8 : s = ⟨#[100, 105, 118]⟩
  · subst h8; exact .inl ⟨_, _, _, _, _, _, nameOk_div, holds_div, apart_of (by decide)⟩
  by_cases h9 : s = ⟨#[101, 100, 103, 101]⟩
  · subst h9; exact .inl ⟨_, _, _, _, _, _, nameOk_edge, holds_edge, apart_of (by decide)⟩
  by_cases h10 : s = ⟨#[101, 110, 116, 104, 97, 108, 112, 121]⟩
  · subst h10; exact .inl ⟨_, _, _, _, _, _, nameOk_enthalpy, holds_enthalpy, apart_of (by decide)⟩
  by_cases h11 : s = ⟨#[104, 121, 115, 116]⟩
  · subst h11; exact .inl ⟨_, _, _, _, _, _, nameOk_hyst, holds_hyst, apart_of (by decide)⟩
  by_cases h12 : s = ⟨#[108, 97, 116, 99, 104]⟩
  · subst h12; exact .inl ⟨_, _, _, _, _, _, nameOk_latch, holds_latch, apart_of (by decide)⟩
  by_cases h13 : s = ⟨#[108, 105, 109, 105, 116]⟩
  · subst h13; exact .inl ⟨_, _, _, _, _, _, nameOk_limit, holds_limit, apart_of (by decide)⟩
  by_cases h14 : s = ⟨#[108, 105, 110, 101]⟩
  · subst h14; exact .inl ⟨_, _, _, _, _, _, nameOk_line, holds_line, apart_of (by decide)⟩
  by_cases h15 : s = ⟨#[109, 97, 120]⟩
  · subst h15; exact .inl ⟨_, _, _, _, _, _, nameOk_max, holds_max, apart_of (by decide)⟩
  by_cases h16 : s = ⟨#[109, 101, 97, 110]⟩
  · subst h16; exact .inl ⟨_, _, _, _, _, _, nameOk_mean, holds_mean, apart_of (by decide)⟩
  by_cases h17 : s = ⟨#[109, 105, 110]⟩
  · subst h17; exact .inl ⟨_, _, _, _, _, _, nameOk_min, holds_min, apart_of (by decide)⟩
  by_cases h18 : s = ⟨#[109, 105, 110, 114, 117, 110]⟩
  · subst h18; exact .inl ⟨_, _, _, _, _, _, nameOk_minrun, holds_minrun, apart_of (by decide)⟩
  by_cases h19 : s = ⟨#[109, 117, 108]⟩
  · subst h19; exact .inl ⟨_, _, _, _, _, _, nameOk_mul, holds_mul, apart_of (by decide)⟩
  by_cases h20 : s = ⟨#[110, 101, 103]⟩
  · subst h20; exact .inl ⟨_, _, _, _, _, _, nameOk_neg, holds_neg, apart_of (by decide)⟩
  by_cases h21 : s = ⟨#[110, 111, 116]⟩
  · subst h21; exact .inl ⟨_, _, _, _, _, _, nameOk_not, holds_not, apart_of (by decide)⟩
  by_cases h22 : s = ⟨#[111, 102, 102, 100, 101, 108, 97, 121]⟩
  · subst h22; exact .inl ⟨_, _, _, _, _, _, nameOk_offdelay, holds_offdelay, apart_of (by decide)⟩
  by_cases h23 : s = ⟨#[111, 110, 100, 101, 108, 97, 121]⟩
  · subst h23; exact .inl ⟨_, _, _, _, _, _, nameOk_ondelay, holds_ondelay, apart_of (by decide)⟩
  by_cases h24 : s = ⟨#[111, 114]⟩
  · subst h24; exact .inl ⟨_, _, _, _, _, _, nameOk_or, holds_or, apart_of (by decide)⟩
  by_cases h25 : s = ⟨#[112, 105, 99, 107]⟩
  · subst h25; exact .inl ⟨_, _, _, _, _, _, nameOk_pick, holds_pick, apart_of (by decide)⟩
  by_cases h26 : s = ⟨#[112, 105, 100]⟩
  · subst h26; exact .inl ⟨_, _, _, _, _, _, nameOk_pid, holds_pid, apart_of (by decide)⟩
  by_cases h27 : s = ⟨#[112, 117, 108, 115, 101]⟩
  · subst h27; exact .inl ⟨_, _, _, _, _, _, nameOk_pulse, holds_pulse, apart_of (by decide)⟩
  by_cases h28 : s = ⟨#[114, 97, 116, 101]⟩
  · subst h28; exact .inl ⟨_, _, _, _, _, _, nameOk_rate, holds_rate, apart_of (by decide)⟩
  by_cases h29 : s = ⟨#[115, 116, 97, 103, 101]⟩
  · subst h29; exact .inl ⟨_, _, _, _, _, _, nameOk_stage, holds_stage, apart_of (by decide)⟩
  by_cases h30 : s = ⟨#[115, 116, 101, 112, 115]⟩
  · subst h30; exact .inl ⟨_, _, _, _, _, _, nameOk_steps, holds_steps, apart_of (by decide)⟩
  by_cases h31 : s = ⟨#[115, 117, 98]⟩
  · subst h31; exact .inl ⟨_, _, _, _, _, _, nameOk_sub, holds_sub, apart_of (by decide)⟩
  by_cases h32 : s = ⟨#[120, 111, 114]⟩
  · subst h32; exact .inl ⟨_, _, _, _, _, _, nameOk_xor, holds_xor, apart_of (by decide)⟩
  refine .inr ⟨?_, ?_⟩
  · intro j hj e
    have hk : j = 0 ∨ j = 1 ∨ j = 2 ∨ j = 3 ∨ j = 4 ∨ j = 5 ∨ j = 6 ∨ j = 7 ∨ j = 8 ∨ j = 9 ∨ j = 10 ∨ j = 11 ∨ j = 12 ∨ j = 13 ∨ j = 14 ∨ j = 15 ∨ j = 16 ∨ j = 17 ∨ j = 18 ∨ j = 19 ∨ j = 20 ∨ j = 21 ∨ j = 22 ∨ j = 23 ∨ j = 24 ∨ j = 25 ∨ j = 26 ∨ j = 27 ∨ j = 28 ∨ j = 29 ∨ j = 30 ∨ j = 31 ∨ j = 32 := by omega
    rcases hk with rfl | rfl | rfl | rfl | rfl | rfl | rfl | rfl | rfl | rfl | rfl | rfl | rfl | rfl | rfl | rfl | rfl | rfl | rfl | rfl | rfl | rfl | rfl | rfl | rfl | rfl | rfl | rfl | rfl | rfl | rfl | rfl | rfl
    · exact h0 (e.symm.trans (show (rowAt 0).nm = ⟨#[97, 98, 111, 118, 101]⟩ by kernel_rfl))
    · exact h1 (e.symm.trans (show (rowAt 1).nm = ⟨#[97, 98, 115]⟩ by kernel_rfl))
    · exact h2 (e.symm.trans (show (rowAt 2).nm = ⟨#[97, 100, 100]⟩ by kernel_rfl))
    · exact h3 (e.symm.trans (show (rowAt 3).nm = ⟨#[97, 110, 100]⟩ by kernel_rfl))
    · exact h4 (e.symm.trans (show (rowAt 4).nm = ⟨#[98, 101, 108, 111, 119]⟩ by kernel_rfl))
    · exact h5 (e.symm.trans (show (rowAt 5).nm = ⟨#[99, 104, 111, 111, 115, 101]⟩ by kernel_rfl))
    · exact h6 (e.symm.trans (show (rowAt 6).nm = ⟨#[99, 111, 117, 110, 116]⟩ by kernel_rfl))
    · exact h7 (e.symm.trans (show (rowAt 7).nm = ⟨#[100, 101, 119, 112, 111, 105, 110, 116]⟩ by kernel_rfl))
    · exact h8 (e.symm.trans (show (rowAt 8).nm = ⟨#[100, 105, 118]⟩ by kernel_rfl))
    · exact h9 (e.symm.trans (show (rowAt 9).nm = ⟨#[101, 100, 103, 101]⟩ by kernel_rfl))
    · exact h10 (e.symm.trans (show (rowAt 10).nm = ⟨#[101, 110, 116, 104, 97, 108, 112, 121]⟩ by kernel_rfl))
    · exact h11 (e.symm.trans (show (rowAt 11).nm = ⟨#[104, 121, 115, 116]⟩ by kernel_rfl))
    · exact h12 (e.symm.trans (show (rowAt 12).nm = ⟨#[108, 97, 116, 99, 104]⟩ by kernel_rfl))
    · exact h13 (e.symm.trans (show (rowAt 13).nm = ⟨#[108, 105, 109, 105, 116]⟩ by kernel_rfl))
    · exact h14 (e.symm.trans (show (rowAt 14).nm = ⟨#[108, 105, 110, 101]⟩ by kernel_rfl))
    · exact h15 (e.symm.trans (show (rowAt 15).nm = ⟨#[109, 97, 120]⟩ by kernel_rfl))
    · exact h16 (e.symm.trans (show (rowAt 16).nm = ⟨#[109, 101, 97, 110]⟩ by kernel_rfl))
    · exact h17 (e.symm.trans (show (rowAt 17).nm = ⟨#[109, 105, 110]⟩ by kernel_rfl))
    · exact h18 (e.symm.trans (show (rowAt 18).nm = ⟨#[109, 105, 110, 114, 117, 110]⟩ by kernel_rfl))
    · exact h19 (e.symm.trans (show (rowAt 19).nm = ⟨#[109, 117, 108]⟩ by kernel_rfl))
    · exact h20 (e.symm.trans (show (rowAt 20).nm = ⟨#[110, 101, 103]⟩ by kernel_rfl))
    · exact h21 (e.symm.trans (show (rowAt 21).nm = ⟨#[110, 111, 116]⟩ by kernel_rfl))
    · exact h22 (e.symm.trans (show (rowAt 22).nm = ⟨#[111, 102, 102, 100, 101, 108, 97, 121]⟩ by kernel_rfl))
    · exact h23 (e.symm.trans (show (rowAt 23).nm = ⟨#[111, 110, 100, 101, 108, 97, 121]⟩ by kernel_rfl))
    · exact h24 (e.symm.trans (show (rowAt 24).nm = ⟨#[111, 114]⟩ by kernel_rfl))
    · exact h25 (e.symm.trans (show (rowAt 25).nm = ⟨#[112, 105, 99, 107]⟩ by kernel_rfl))
    · exact h26 (e.symm.trans (show (rowAt 26).nm = ⟨#[112, 105, 100]⟩ by kernel_rfl))
    · exact h27 (e.symm.trans (show (rowAt 27).nm = ⟨#[112, 117, 108, 115, 101]⟩ by kernel_rfl))
    · exact h28 (e.symm.trans (show (rowAt 28).nm = ⟨#[114, 97, 116, 101]⟩ by kernel_rfl))
    · exact h29 (e.symm.trans (show (rowAt 29).nm = ⟨#[115, 116, 97, 103, 101]⟩ by kernel_rfl))
    · exact h30 (e.symm.trans (show (rowAt 30).nm = ⟨#[115, 116, 101, 112, 115]⟩ by kernel_rfl))
    · exact h31 (e.symm.trans (show (rowAt 31).nm = ⟨#[115, 117, 98]⟩ by kernel_rfl))
    · exact h32 (e.symm.trans (show (rowAt 32).nm = ⟨#[120, 111, 114]⟩ by kernel_rfl))
  · intro j hj e
    have hk : j = 0 ∨ j = 1 ∨ j = 2 ∨ j = 3 ∨ j = 4 ∨ j = 5 ∨ j = 6 ∨ j = 7 ∨ j = 8 ∨ j = 9 ∨ j = 10 ∨ j = 11 ∨ j = 12 ∨ j = 13 ∨ j = 14 ∨ j = 15 ∨ j = 16 ∨ j = 17 ∨ j = 18 ∨ j = 19 ∨ j = 20 ∨ j = 21 ∨ j = 22 ∨ j = 23 ∨ j = 24 ∨ j = 25 ∨ j = 26 ∨ j = 27 ∨ j = 28 ∨ j = 29 ∨ j = 30 ∨ j = 31 ∨ j = 32 := by omega
    rcases hk with rfl | rfl | rfl | rfl | rfl | rfl | rfl | rfl | rfl | rfl | rfl | rfl | rfl | rfl | rfl | rfl | rfl | rfl | rfl | rfl | rfl | rfl | rfl | rfl | rfl | rfl | rfl | rfl | rfl | rfl | rfl | rfl | rfl
    · exact h0 (e.symm.trans (show (rowR 0).nm = ⟨#[97, 98, 111, 118, 101]⟩ by kernel_rfl))
    · exact h1 (e.symm.trans (show (rowR 1).nm = ⟨#[97, 98, 115]⟩ by kernel_rfl))
    · exact h2 (e.symm.trans (show (rowR 2).nm = ⟨#[97, 100, 100]⟩ by kernel_rfl))
    · exact h3 (e.symm.trans (show (rowR 3).nm = ⟨#[97, 110, 100]⟩ by kernel_rfl))
    · exact h4 (e.symm.trans (show (rowR 4).nm = ⟨#[98, 101, 108, 111, 119]⟩ by kernel_rfl))
    · exact h5 (e.symm.trans (show (rowR 5).nm = ⟨#[99, 104, 111, 111, 115, 101]⟩ by kernel_rfl))
    · exact h6 (e.symm.trans (show (rowR 6).nm = ⟨#[99, 111, 117, 110, 116]⟩ by kernel_rfl))
    · exact h7 (e.symm.trans (show (rowR 7).nm = ⟨#[100, 101, 119, 112, 111, 105, 110, 116]⟩ by kernel_rfl))
    · exact h8 (e.symm.trans (show (rowR 8).nm = ⟨#[100, 105, 118]⟩ by kernel_rfl))
    · exact h9 (e.symm.trans (show (rowR 9).nm = ⟨#[101, 100, 103, 101]⟩ by kernel_rfl))
    · exact h10 (e.symm.trans (show (rowR 10).nm = ⟨#[101, 110, 116, 104, 97, 108, 112, 121]⟩ by kernel_rfl))
    · exact h11 (e.symm.trans (show (rowR 11).nm = ⟨#[104, 121, 115, 116]⟩ by kernel_rfl))
    · exact h12 (e.symm.trans (show (rowR 12).nm = ⟨#[108, 97, 116, 99, 104]⟩ by kernel_rfl))
    · exact h13 (e.symm.trans (show (rowR 13).nm = ⟨#[108, 105, 109, 105, 116]⟩ by kernel_rfl))
    · exact h14 (e.symm.trans (show (rowR 14).nm = ⟨#[108, 105, 110, 101]⟩ by kernel_rfl))
    · exact h15 (e.symm.trans (show (rowR 15).nm = ⟨#[109, 97, 120]⟩ by kernel_rfl))
    · exact h16 (e.symm.trans (show (rowR 16).nm = ⟨#[109, 101, 97, 110]⟩ by kernel_rfl))
    · exact h17 (e.symm.trans (show (rowR 17).nm = ⟨#[109, 105, 110]⟩ by kernel_rfl))
    · exact h18 (e.symm.trans (show (rowR 18).nm = ⟨#[109, 105, 110, 114, 117, 110]⟩ by kernel_rfl))
    · exact h19 (e.symm.trans (show (rowR 19).nm = ⟨#[109, 117, 108]⟩ by kernel_rfl))
    · exact h20 (e.symm.trans (show (rowR 20).nm = ⟨#[110, 101, 103]⟩ by kernel_rfl))
    · exact h21 (e.symm.trans (show (rowR 21).nm = ⟨#[110, 111, 116]⟩ by kernel_rfl))
    · exact h22 (e.symm.trans (show (rowR 22).nm = ⟨#[111, 102, 102, 100, 101, 108, 97, 121]⟩ by kernel_rfl))
    · exact h23 (e.symm.trans (show (rowR 23).nm = ⟨#[111, 110, 100, 101, 108, 97, 121]⟩ by kernel_rfl))
    · exact h24 (e.symm.trans (show (rowR 24).nm = ⟨#[111, 114]⟩ by kernel_rfl))
    · exact h25 (e.symm.trans (show (rowR 25).nm = ⟨#[112, 105, 99, 107]⟩ by kernel_rfl))
    · exact h26 (e.symm.trans (show (rowR 26).nm = ⟨#[112, 105, 100]⟩ by kernel_rfl))
    · exact h27 (e.symm.trans (show (rowR 27).nm = ⟨#[112, 117, 108, 115, 101]⟩ by kernel_rfl))
    · exact h28 (e.symm.trans (show (rowR 28).nm = ⟨#[114, 97, 116, 101]⟩ by kernel_rfl))
    · exact h29 (e.symm.trans (show (rowR 29).nm = ⟨#[115, 116, 97, 103, 101]⟩ by kernel_rfl))
    · exact h30 (e.symm.trans (show (rowR 30).nm = ⟨#[115, 116, 101, 112, 115]⟩ by kernel_rfl))
    · exact h31 (e.symm.trans (show (rowR 31).nm = ⟨#[115, 117, 98]⟩ by kernel_rfl))
    · exact h32 (e.symm.trans (show (rowR 32).nm = ⟨#[120, 111, 114]⟩ by kernel_rfl))
theorem params_all (s : ByteArray) (qs : List PrmD) (h20 : qs.length ≤ 20) (hsz : ∀ q ∈ qs, q.nm.size ≤ maxLen ∧ (Lit.int .i64 q.v).wf = true) : ∃ (E : Int) (xs : List Int), (∀ (la : Option Addr) (lc : Nat) w, MaxAt w → InS w la qs.length 2 (flat prmL qs) → Calls Tryd.prog 16 #[.string s, .slice la qs.length lc] w fun e w' => ∃ a cc, e = .returned (.tuple #[.slice a xs.length cc, .int .i64 E]) ∧ InS w' a xs.length 1 (flat iL xs) ∧ Below w.heap.size w w') ∧ (∀ (la : Option Addr) (lc : Nat) w, InS w la qs.length 2 (flat prmL qs) → Calls Tryd.prog 17 #[.string s, .slice la qs.length lc] w fun e w' => ∃ a cc, e = .returned (.tuple #[.slice a xs.length cc, .int .i64 E]) ∧ InS w' a xs.length 1 (flat iL xs) ∧ Below w.heap.size w w') := by
  have nil : ∀ w : World, InS w none ([] : List Int).length 1 (flat iL []) := fun w => ⟨rfl, by decide, .inl rfl⟩
  rcases all_params s with ⟨ro, rm, rs, pl, il, ag, K, KH, KA⟩ | ⟨h1, h2⟩
  · have k1 := fun la lc w hm hq => params_list s ro rm rs pl il ag K.f K.a la lc qs (by omega) (Nat.le_trans K.p10 (by decide)) hsz K.pn w hm hq
    have k2 := fun la lc w hq => rparams_any s ro rm rs pl il ag K.r KH KA K.pd K.p10 la lc qs qs.length rfl h20 w hq
    by_cases hE : prmE pl qs ag = 0
    · refine ⟨0, numsB pl (mapD qs qs.length), fun la lc w hm hq => (k1 la lc w hm hq).mono ?_, fun la lc w hq => (k2 la lc w hq).mono ?_⟩
      all_goals
        rintro e w' ⟨v, rfl, hp, hb⟩
        obtain ⟨a, c, rfl, hi⟩ := hp.2 hE
        exact ⟨a, c, by rw [hE], hi, hb⟩
    · refine ⟨prmE pl qs ag, [], fun la lc w hm hq => (k1 la lc w hm hq).mono ?_, fun la lc w hq => (k2 la lc w hq).mono ?_⟩
      all_goals
        rintro e w' ⟨v, rfl, hp, hb⟩
        obtain rfl := hp.1 hE
        exact ⟨none, 0, rfl, nil _, hb⟩
  · exact ⟨3, [], fun la lc w hm _ => (params_miss s h1 _ w).mono (by rintro e w' ⟨rfl, hb⟩; exact ⟨none, 0, rfl, nil _, hb⟩), fun la lc w _ => (rparams_miss s h2 _ w).mono (by rintro e w' ⟨rfl, hb⟩; exact ⟨none, 0, rfl, nil _, hb⟩)⟩
set_option maxHeartbeats 4000000 in
set_option maxRecDepth 100000 in
theorem params_law (s : ByteArray) (la : Option Addr) (lc : Nat) (qs : List PrmD) (w : World) (hs : s.size ≤ maxLen) (hm : MaxAt w) (hsz : ∀ q ∈ qs, q.nm.size ≤ maxLen ∧ (Lit.int .i64 q.v).wf = true) (hq : InS w la qs.length 2 (flat prmL qs)) :
    Calls Tryd.prog 4 #[.string s, .slice la qs.length lc] w fun e w' => e = .returned (.bool true) ∧ Below w.heap.size w w' := by
  have KAW := Lib.hid (awake_yes w hm)
  unfold maxLen at hs
  have HMX := Lib.hid (fun (x : World) (hb : Below w.heap.size w x) => hm.keep hb)
  have HQ := Lib.hid hq
  have HSZ := Lib.hid hsz
  obtain ⟨L, hL⟩ : ∃ L, L = qs.length := ⟨_, rfl⟩
  have hl63 : L ≤ 9223372036854775807 := by rw [hL]; exact hq.2.1
  have HL := Lib.hid hL
  rw [← hL]
  clear hm hq hL hsz
  by_cases hbig : 20 < L ∨ (¬ 20 < L ∧ 100 < s.size)
  · rcases hbig with h1 | ⟨h1, h2⟩
    all_goals
      go_enter Tryd.func4, Tryd.ntmps4
      go_wp2_with fail
      refine KAW.out.mono ?_
      rintro e w1 ⟨rfl, hb⟩
      have HB1 := Lib.hid hb
      clear hb
      go_wp2_with fail
      go_ret
      exact ⟨rfl, HB1.out⟩
  · have h1 : ¬ 20 < L := by omega
    have h2 : ¬ 100 < s.size := by omega
    clear hbig
    obtain ⟨E, xs, k1, k2⟩ := params_all s qs (by have := HL.out; omega) HSZ.out
    rw [← HL.out] at k1 k2
    have K1 := Lib.hid (fun x hm (hb : Below w.heap.size w x) => k1 la lc x hm (by have := HQ.out.keep hb; rwa [← HL.out] at this))
    have K2 := Lib.hid (fun x (hb : Below w.heap.size w x) => k2 la lc x (by have := HQ.out.keep hb; rwa [← HL.out] at this))
    obtain ⟨M, hM⟩ : ∃ M, M = xs.length := ⟨_, rfl⟩
    have HM := Lib.hid hM
    rw [← hM] at K1 K2
    have e0 : (E == E) = true := by simp
    clear k1 k2 hM
    go_enter Tryd.func4, Tryd.ntmps4
    go_wp2_with fail
    refine KAW.out.mono ?_
    rintro e w1 ⟨rfl, hb⟩
    have HB1 := Lib.hid hb
    clear hb
    go_wp2_with fail
    refine (K1.out _ (HMX.out _ HB1.out) HB1.out).mono ?_
    rintro e w2 ⟨a, ca, rfl, hi, hb⟩
    have HB2 := Lib.hid (HB1.out.trans (hb.mono HB1.out.size))
    have HI2 := Lib.hid hi
    clear hb hi
    go_wp2_with fail
    refine (K2.out _ HB2.out).mono ?_
    rintro e w3 ⟨a2, ca2, rfl, hi, hb⟩
    have HB3 := Lib.hid (HB2.out.trans (hb.mono HB2.out.size))
    have HI3 := Lib.hid (HI2.out.keep hb)
    have HJ3 := Lib.hid hi
    clear hb hi
    go_wp2_with fail
    refine (same_yes xs M HM.out a a2 ca ca2 _ HI3.out HJ3.out).mono ?_
    rintro e w4 ⟨rfl, hb⟩
    have HB4 := Lib.hid (HB3.out.trans (hb.mono HB3.out.size))
    clear hb
    go_wp2_with fail
    go_ret
    exact ⟨rfl, HB4.out⟩
end Go.Proofs.YtaobbedajgkmiaaDoor
