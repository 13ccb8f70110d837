/- Names; SameDescriptor of the specification; the law Library. -/
import Derived.Test.YtaobbedajgkmiaaDoorFs
namespace Go.Proofs.YtaobbedajgkmiaaDoor
open Go.RowKit Go.Shelf

set_option linter.unusedVariables false
set_option linter.unusedSimpArgs false
theorem nil_insM (w : World) (a : Option Addr) (sz : Nat) : InS w a 0 sz [] := ⟨by simp, by decide, .inl rfl⟩
/-- what stands in row k of both libraries -/
def LibRow (k : Nat) : Prop := (rowAt k).nm = (rowR k).nm ∧ ∃ ro rm rs pl il ag, NameOk (rowR k).nm ro rm rs pl il ag ∧ ∀ B w, LibAt w B → ∃ a1 a2 a3, row18L B (rowR k) = [.string (rowR k).nm, .slice a1 pl.length pl.length, .slice a2 il.length il.length, .slice a3 1 1, .int .i64 rs, .int .i64 rm] ∧ InS w a1 pl.length 4 (flat bndL pl) ∧ InS w a2 il.length 2 (flat portL il) ∧ InS w a3 1 2 [.string ⟨#[111, 117, 116]⟩, .string ro]
theorem libRow_0 : LibRow 0 := ⟨by kernel_rfl, _, _, _, _, _, _, nameOk_above, fun B w hL => ⟨_, _, _, rfl, nil_insN _ 4, lib_ins hL 0 #[.string ⟨#[97]⟩, .string ⟨#[85]⟩, .string ⟨#[98]⟩, .string ⟨#[85]⟩] 65 rfl 2 2 rfl (by decide), lib_ins hL 1 #[.string ⟨#[111, 117, 116]⟩, .string ⟨#[98, 105, 110, 97, 114, 121]⟩] 65 rfl 1 2 rfl (by decide)⟩⟩
theorem libRow_1 : LibRow 1 := ⟨by kernel_rfl, _, _, _, _, _, _, nameOk_abs, fun B w hL => ⟨_, _, _, rfl, nil_insN _ 4, lib_ins hL 2 #[.string ⟨#[97]⟩, .string ⟨#[85]⟩] 65 rfl 1 2 rfl (by decide), lib_ins hL 3 #[.string ⟨#[111, 117, 116]⟩, .string ⟨#[85]⟩] 65 rfl 1 2 rfl (by decide)⟩⟩
theorem libRow_2 : LibRow 2 := ⟨by kernel_rfl, _, _, _, _, _, _, nameOk_add, fun B w hL => ⟨_, _, _, rfl, nil_insN _ 4, lib_ins hL 4 #[.string ⟨#[97]⟩, .string ⟨#[85]⟩, .string ⟨#[98]⟩, .string ⟨#[85]⟩] 65 rfl 2 2 rfl (by decide), lib_ins hL 5 #[.string ⟨#[111, 117, 116]⟩, .string ⟨#[85]⟩] 65 rfl 1 2 rfl (by decide)⟩⟩
theorem libRow_3 : LibRow 3 := ⟨by kernel_rfl, _, _, _, _, _, _, nameOk_and, fun B w hL => ⟨_, _, _, rfl, nil_insN _ 4, lib_ins hL 6 #[.string ⟨#[97]⟩, .string ⟨#[98, 105, 110, 97, 114, 121]⟩, .string ⟨#[98]⟩, .string ⟨#[98, 105, 110, 97, 114, 121]⟩] 65 rfl 2 2 rfl (by decide), lib_ins hL 7 #[.string ⟨#[111, 117, 116]⟩, .string ⟨#[98, 105, 110, 97, 114, 121]⟩] 65 rfl 1 2 rfl (by decide)⟩⟩
theorem libRow_4 : LibRow 4 := ⟨by kernel_rfl, _, _, _, _, _, _, nameOk_below, fun B w hL => ⟨_, _, _, rfl, nil_insN _ 4, lib_ins hL 8 #[.string ⟨#[97]⟩, .string ⟨#[85]⟩, .string ⟨#[98]⟩, .string ⟨#[85]⟩] 65 rfl 2 2 rfl (by decide), lib_ins hL 9 #[.string ⟨#[111, 117, 116]⟩, .string ⟨#[98, 105, 110, 97, 114, 121]⟩] 65 rfl 1 2 rfl (by decide)⟩⟩
theorem libRow_5 : LibRow 5 := ⟨by kernel_rfl, _, _, _, _, _, _, nameOk_choose, fun B w hL => ⟨_, _, _, rfl, nil_insN _ 4, lib_ins hL 10 #[.string ⟨#[109]⟩, .string ⟨#[109, 117, 108, 116, 105]⟩, .string ⟨#[97]⟩, .string ⟨#[84]⟩] 65 rfl 2 2 rfl (by decide), lib_ins hL 11 #[.string ⟨#[111, 117, 116]⟩, .string ⟨#[84]⟩] 65 rfl 1 2 rfl (by decide)⟩⟩
theorem libRow_6 : LibRow 6 := ⟨by kernel_rfl, _, _, _, _, _, _, nameOk_count, fun B w hL => ⟨_, _, _, rfl, nil_insN _ 4, lib_ins hL 12 #[.string ⟨#[97]⟩, .string ⟨#[98, 105, 110, 97, 114, 121]⟩, .string ⟨#[114, 101, 115, 101, 116]⟩, .string ⟨#[98, 105, 110, 97, 114, 121]⟩] 65 rfl 2 2 rfl (by decide), lib_ins hL 13 #[.string ⟨#[111, 117, 116]⟩, .string ⟨#[97, 110, 97, 108, 111, 103]⟩] 65 rfl 1 2 rfl (by decide)⟩⟩
theorem libRow_7 : LibRow 7 := ⟨by kernel_rfl, _, _, _, _, _, _, nameOk_dewpoint, fun B w hL => ⟨_, _, _, rfl, nil_insN _ 4, lib_ins hL 14 #[.string ⟨#[116]⟩, .string ⟨#[97, 110, 97, 108, 111, 103, 32, 100, 101, 103, 67]⟩, .string ⟨#[114, 104]⟩, .string ⟨#[97, 110, 97, 108, 111, 103, 32, 112, 99, 116]⟩] 65 rfl 2 2 rfl (by decide), lib_ins hL 15 #[.string ⟨#[111, 117, 116]⟩, .string ⟨#[97, 110, 97, 108, 111, 103, 32, 100, 101, 103, 67]⟩] 65 rfl 1 2 rfl (by decide)⟩⟩
theorem libRow_8 : LibRow 8 := ⟨by kernel_rfl, _, _, _, _, _, _, nameOk_div, fun B w hL => ⟨_, _, _, rfl, nil_insN _ 4, lib_ins hL 16 #[.string ⟨#[97]⟩, .string ⟨#[85]⟩, .string ⟨#[98]⟩, .string ⟨#[86]⟩] 65 rfl 2 2 rfl (by decide), lib_ins hL 17 #[.string ⟨#[111, 117, 116]⟩, .string ⟨#[85, 47, 86]⟩] 65 rfl 1 2 rfl (by decide)⟩⟩
theorem libRow_9 : LibRow 9 := ⟨by kernel_rfl, _, _, _, _, _, _, nameOk_edge, fun B w hL => ⟨_, _, _, rfl, nil_insN _ 4, lib_ins hL 18 #[.string ⟨#[97]⟩, .string ⟨#[98, 105, 110, 97, 114, 121]⟩] 65 rfl 1 2 rfl (by decide), lib_ins hL 19 #[.string ⟨#[111, 117, 116]⟩, .string ⟨#[98, 105, 110, 97, 114, 121]⟩] 65 rfl 1 2 rfl (by decide)⟩⟩
theorem libRow_10 : LibRow 10 := ⟨by kernel_rfl, _, _, _, _, _, _, nameOk_enthalpy, fun B w hL => ⟨_, _, _, rfl, nil_insN _ 4, lib_ins hL 20 #[.string ⟨#[116]⟩, .string ⟨#[97, 110, 97, 108, 111, 103, 32, 100, 101, 103, 67]⟩, .string ⟨#[114, 104]⟩, .string ⟨#[97, 110, 97, 108, 111, 103, 32, 112, 99, 116]⟩] 65 rfl 2 2 rfl (by decide), lib_ins hL 21 #[.string ⟨#[111, 117, 116]⟩, .string ⟨#[97, 110, 97, 108, 111, 103, 32, 107, 74, 47, 107, 103]⟩] 65 rfl 1 2 rfl (by decide)⟩⟩
theorem libRow_11 : LibRow 11 := ⟨by kernel_rfl, _, _, _, _, _, _, nameOk_hyst, fun B w hL => ⟨_, _, _, rfl, lib_ins hL 22 #[.string ⟨#[111, 110]⟩, .int .i64 (-1000000000000), .int .i64 1000000000000, .int .i64 1000, .string ⟨#[111, 102, 102]⟩, .int .i64 (-1000000000000), .int .i64 1000000000000, .int .i64 0] 67 rfl 2 4 rfl (by decide), lib_ins hL 23 #[.string ⟨#[97]⟩, .string ⟨#[85]⟩] 65 rfl 1 2 rfl (by decide), lib_ins hL 24 #[.string ⟨#[111, 117, 116]⟩, .string ⟨#[98, 105, 110, 97, 114, 121]⟩] 65 rfl 1 2 rfl (by decide)⟩⟩
theorem libRow_12 : LibRow 12 := ⟨by kernel_rfl, _, _, _, _, _, _, nameOk_latch, fun B w hL => ⟨_, _, _, rfl, nil_insN _ 4, lib_ins hL 25 #[.string ⟨#[115, 101, 116]⟩, .string ⟨#[98, 105, 110, 97, 114, 121]⟩, .string ⟨#[114, 101, 115, 101, 116]⟩, .string ⟨#[98, 105, 110, 97, 114, 121]⟩] 65 rfl 2 2 rfl (by decide), lib_ins hL 26 #[.string ⟨#[111, 117, 116]⟩, .string ⟨#[98, 105, 110, 97, 114, 121]⟩] 65 rfl 1 2 rfl (by decide)⟩⟩
theorem libRow_13 : LibRow 13 := ⟨by kernel_rfl, _, _, _, _, _, _, nameOk_limit, fun B w hL => ⟨_, _, _, rfl, lib_ins hL 27 #[.string ⟨#[108, 111, 119]⟩, .int .i64 (-1000000000000), .int .i64 1000000000000, .int .i64 (-1000000000000), .string ⟨#[104, 105, 103, 104]⟩, .int .i64 (-1000000000000), .int .i64 1000000000000, .int .i64 1000000000000] 67 rfl 2 4 rfl (by decide), lib_ins hL 28 #[.string ⟨#[97]⟩, .string ⟨#[85]⟩] 65 rfl 1 2 rfl (by decide), lib_ins hL 29 #[.string ⟨#[111, 117, 116]⟩, .string ⟨#[85]⟩] 65 rfl 1 2 rfl (by decide)⟩⟩
theorem libRow_14 : LibRow 14 := ⟨by kernel_rfl, _, _, _, _, _, _, nameOk_line, fun B w hL => ⟨_, _, _, rfl, lib_ins hL 30 #[.string ⟨#[120, 49]⟩, .int .i64 (-1000000000000), .int .i64 1000000000000, .int .i64 0, .string ⟨#[121, 49]⟩, .int .i64 (-1000000000000), .int .i64 1000000000000, .int .i64 0, .string ⟨#[120, 50]⟩, .int .i64 (-1000000000000), .int .i64 1000000000000, .int .i64 100000, .string ⟨#[121, 50]⟩, .int .i64 (-1000000000000), .int .i64 1000000000000, .int .i64 100000] 67 rfl 4 4 rfl (by decide), lib_ins hL 31 #[.string ⟨#[97]⟩, .string ⟨#[85]⟩] 65 rfl 1 2 rfl (by decide), lib_ins hL 32 #[.string ⟨#[111, 117, 116]⟩, .string ⟨#[97, 110, 97, 108, 111, 103]⟩] 65 rfl 1 2 rfl (by decide)⟩⟩
theorem libRow_15 : LibRow 15 := ⟨by kernel_rfl, _, _, _, _, _, _, nameOk_max, fun B w hL => ⟨_, _, _, rfl, nil_insN _ 4, lib_ins hL 33 #[.string ⟨#[97]⟩, .string ⟨#[85]⟩, .string ⟨#[98]⟩, .string ⟨#[85]⟩] 65 rfl 2 2 rfl (by decide), lib_ins hL 34 #[.string ⟨#[111, 117, 116]⟩, .string ⟨#[85]⟩] 65 rfl 1 2 rfl (by decide)⟩⟩
theorem libRow_16 : LibRow 16 := ⟨by kernel_rfl, _, _, _, _, _, _, nameOk_mean, fun B w hL => ⟨_, _, _, rfl, nil_insN _ 4, lib_ins hL 35 #[.string ⟨#[97]⟩, .string ⟨#[85]⟩, .string ⟨#[98]⟩, .string ⟨#[85]⟩] 65 rfl 2 2 rfl (by decide), lib_ins hL 36 #[.string ⟨#[111, 117, 116]⟩, .string ⟨#[85]⟩] 65 rfl 1 2 rfl (by decide)⟩⟩
theorem libRow_17 : LibRow 17 := ⟨by kernel_rfl, _, _, _, _, _, _, nameOk_min, fun B w hL => ⟨_, _, _, rfl, nil_insN _ 4, lib_ins hL 37 #[.string ⟨#[97]⟩, .string ⟨#[85]⟩, .string ⟨#[98]⟩, .string ⟨#[85]⟩] 65 rfl 2 2 rfl (by decide), lib_ins hL 38 #[.string ⟨#[111, 117, 116]⟩, .string ⟨#[85]⟩] 65 rfl 1 2 rfl (by decide)⟩⟩
theorem libRow_18 : LibRow 18 := ⟨by kernel_rfl, _, _, _, _, _, _, nameOk_minrun, fun B w hL => ⟨_, _, _, rfl, lib_ins hL 39 #[.string ⟨#[111, 110]⟩, .int .i64 0, .int .i64 86400, .int .i64 0, .string ⟨#[111, 102, 102]⟩, .int .i64 0, .int .i64 86400, .int .i64 0] 67 rfl 2 4 rfl (by decide), lib_ins hL 40 #[.string ⟨#[97]⟩, .string ⟨#[98, 105, 110, 97, 114, 121]⟩] 65 rfl 1 2 rfl (by decide), lib_ins hL 41 #[.string ⟨#[111, 117, 116]⟩, .string ⟨#[98, 105, 110, 97, 114, 121]⟩] 65 rfl 1 2 rfl (by decide)⟩⟩
theorem libRow_19 : LibRow 19 := ⟨by kernel_rfl, _, _, _, _, _, _, nameOk_mul, fun B w hL => ⟨_, _, _, rfl, nil_insN _ 4, lib_ins hL 42 #[.string ⟨#[97]⟩, .string ⟨#[85]⟩, .string ⟨#[98]⟩, .string ⟨#[86]⟩] 65 rfl 2 2 rfl (by decide), lib_ins hL 43 #[.string ⟨#[111, 117, 116]⟩, .string ⟨#[85, 42, 86]⟩] 65 rfl 1 2 rfl (by decide)⟩⟩
theorem libRow_20 : LibRow 20 := ⟨by kernel_rfl, _, _, _, _, _, _, nameOk_neg, fun B w hL => ⟨_, _, _, rfl, nil_insN _ 4, lib_ins hL 44 #[.string ⟨#[97]⟩, .string ⟨#[85]⟩] 65 rfl 1 2 rfl (by decide), lib_ins hL 45 #[.string ⟨#[111, 117, 116]⟩, .string ⟨#[85]⟩] 65 rfl 1 2 rfl (by decide)⟩⟩
theorem libRow_21 : LibRow 21 := ⟨by kernel_rfl, _, _, _, _, _, _, nameOk_not, fun B w hL => ⟨_, _, _, rfl, nil_insN _ 4, lib_ins hL 46 #[.string ⟨#[97]⟩, .string ⟨#[98, 105, 110, 97, 114, 121]⟩] 65 rfl 1 2 rfl (by decide), lib_ins hL 47 #[.string ⟨#[111, 117, 116]⟩, .string ⟨#[98, 105, 110, 97, 114, 121]⟩] 65 rfl 1 2 rfl (by decide)⟩⟩
theorem libRow_22 : LibRow 22 := ⟨by kernel_rfl, _, _, _, _, _, _, nameOk_offdelay, fun B w hL => ⟨_, _, _, rfl, lib_ins hL 48 #[.string ⟨#[116, 105, 109, 101]⟩, .int .i64 0, .int .i64 86400, .int .i64 0] 67 rfl 1 4 rfl (by decide), lib_ins hL 49 #[.string ⟨#[97]⟩, .string ⟨#[98, 105, 110, 97, 114, 121]⟩] 65 rfl 1 2 rfl (by decide), lib_ins hL 50 #[.string ⟨#[111, 117, 116]⟩, .string ⟨#[98, 105, 110, 97, 114, 121]⟩] 65 rfl 1 2 rfl (by decide)⟩⟩
theorem libRow_23 : LibRow 23 := ⟨by kernel_rfl, _, _, _, _, _, _, nameOk_ondelay, fun B w hL => ⟨_, _, _, rfl, lib_ins hL 51 #[.string ⟨#[116, 105, 109, 101]⟩, .int .i64 0, .int .i64 86400, .int .i64 0] 67 rfl 1 4 rfl (by decide), lib_ins hL 52 #[.string ⟨#[97]⟩, .string ⟨#[98, 105, 110, 97, 114, 121]⟩] 65 rfl 1 2 rfl (by decide), lib_ins hL 53 #[.string ⟨#[111, 117, 116]⟩, .string ⟨#[98, 105, 110, 97, 114, 121]⟩] 65 rfl 1 2 rfl (by decide)⟩⟩
theorem libRow_24 : LibRow 24 := ⟨by kernel_rfl, _, _, _, _, _, _, nameOk_or, fun B w hL => ⟨_, _, _, rfl, nil_insN _ 4, lib_ins hL 54 #[.string ⟨#[97]⟩, .string ⟨#[98, 105, 110, 97, 114, 121]⟩, .string ⟨#[98]⟩, .string ⟨#[98, 105, 110, 97, 114, 121]⟩] 65 rfl 2 2 rfl (by decide), lib_ins hL 55 #[.string ⟨#[111, 117, 116]⟩, .string ⟨#[98, 105, 110, 97, 114, 121]⟩] 65 rfl 1 2 rfl (by decide)⟩⟩
theorem libRow_25 : LibRow 25 := ⟨by kernel_rfl, _, _, _, _, _, _, nameOk_pick, fun B w hL => ⟨_, _, _, rfl, nil_insN _ 4, lib_ins hL 56 #[.string ⟨#[115]⟩, .string ⟨#[98, 105, 110, 97, 114, 121]⟩, .string ⟨#[97]⟩, .string ⟨#[84]⟩, .string ⟨#[98]⟩, .string ⟨#[84]⟩] 65 rfl 3 2 rfl (by decide), lib_ins hL 57 #[.string ⟨#[111, 117, 116]⟩, .string ⟨#[84]⟩] 65 rfl 1 2 rfl (by decide)⟩⟩
theorem libRow_26 : LibRow 26 := ⟨by kernel_rfl, _, _, _, _, _, _, nameOk_pid, fun B w hL => ⟨_, _, _, rfl, lib_ins hL 58 #[.string ⟨#[107, 112]⟩, .int .i64 0, .int .i64 1000000000, .int .i64 1000, .string ⟨#[116, 105]⟩, .int .i64 0, .int .i64 86400, .int .i64 0, .string ⟨#[108, 111, 119]⟩, .int .i64 (-1000000000000), .int .i64 1000000000000, .int .i64 0, .string ⟨#[104, 105, 103, 104]⟩, .int .i64 (-1000000000000), .int .i64 1000000000000, .int .i64 100000, .string ⟨#[114, 101, 118, 101, 114, 115, 101]⟩, .int .i64 0, .int .i64 1, .int .i64 0] 67 rfl 5 4 rfl (by decide), lib_ins hL 59 #[.string ⟨#[115, 101, 116]⟩, .string ⟨#[85]⟩, .string ⟨#[110, 111, 119]⟩, .string ⟨#[85]⟩, .string ⟨#[101, 110, 97, 98, 108, 101]⟩, .string ⟨#[98, 105, 110, 97, 114, 121]⟩] 65 rfl 3 2 rfl (by decide), lib_ins hL 60 #[.string ⟨#[111, 117, 116]⟩, .string ⟨#[97, 110, 97, 108, 111, 103, 32, 112, 99, 116]⟩] 65 rfl 1 2 rfl (by decide)⟩⟩
theorem libRow_27 : LibRow 27 := ⟨by kernel_rfl, _, _, _, _, _, _, nameOk_pulse, fun B w hL => ⟨_, _, _, rfl, lib_ins hL 61 #[.string ⟨#[116, 105, 109, 101]⟩, .int .i64 0, .int .i64 86400, .int .i64 0] 67 rfl 1 4 rfl (by decide), lib_ins hL 62 #[.string ⟨#[97]⟩, .string ⟨#[98, 105, 110, 97, 114, 121]⟩] 65 rfl 1 2 rfl (by decide), lib_ins hL 63 #[.string ⟨#[111, 117, 116]⟩, .string ⟨#[98, 105, 110, 97, 114, 121]⟩] 65 rfl 1 2 rfl (by decide)⟩⟩
theorem libRow_28 : LibRow 28 := ⟨by kernel_rfl, _, _, _, _, _, _, nameOk_rate, fun B w hL => ⟨_, _, _, rfl, lib_ins hL 64 #[.string ⟨#[117, 112]⟩, .int .i64 0, .int .i64 1000000000000, .int .i64 1000, .string ⟨#[100, 111, 119, 110]⟩, .int .i64 0, .int .i64 1000000000000, .int .i64 1000] 67 rfl 2 4 rfl (by decide), lib_ins hL 65 #[.string ⟨#[97]⟩, .string ⟨#[85]⟩] 65 rfl 1 2 rfl (by decide), lib_ins hL 66 #[.string ⟨#[111, 117, 116]⟩, .string ⟨#[85]⟩] 65 rfl 1 2 rfl (by decide)⟩⟩
theorem libRow_29 : LibRow 29 := ⟨by kernel_rfl, _, _, _, _, _, _, nameOk_stage, fun B w hL => ⟨_, _, _, rfl, lib_ins hL 67 #[.string ⟨#[115, 116, 97, 103, 101, 115]⟩, .int .i64 1, .int .i64 15, .int .i64 1, .string ⟨#[117, 112]⟩, .int .i64 (-1000000000000), .int .i64 1000000000000, .int .i64 0, .string ⟨#[100, 111, 119, 110]⟩, .int .i64 (-1000000000000), .int .i64 1000000000000, .int .i64 0, .string ⟨#[117, 112, 100, 101, 108, 97, 121]⟩, .int .i64 0, .int .i64 86400, .int .i64 0, .string ⟨#[100, 111, 119, 110, 100, 101, 108, 97, 121]⟩, .int .i64 0, .int .i64 86400, .int .i64 0] 67 rfl 5 4 rfl (by decide), lib_ins hL 68 #[.string ⟨#[97]⟩, .string ⟨#[85]⟩] 65 rfl 1 2 rfl (by decide), lib_ins hL 69 #[.string ⟨#[111, 117, 116]⟩, .string ⟨#[109, 117, 108, 116, 105]⟩] 65 rfl 1 2 rfl (by decide)⟩⟩
theorem libRow_30 : LibRow 30 := ⟨by kernel_rfl, _, _, _, _, _, _, nameOk_steps, fun B w hL => ⟨_, _, _, rfl, lib_ins hL 70 #[.string ⟨#[99, 111, 117, 110, 116]⟩, .int .i64 1, .int .i64 15, .int .i64 1, .string ⟨#[108, 101, 97, 115, 116]⟩, .int .i64 0, .int .i64 86400, .int .i64 0] 67 rfl 2 4 rfl (by decide), lib_ins hL 71 #[.string ⟨#[103, 111]⟩, .string ⟨#[98, 105, 110, 97, 114, 121]⟩, .string ⟨#[110, 101, 120, 116]⟩, .string ⟨#[98, 105, 110, 97, 114, 121]⟩] 65 rfl 2 2 rfl (by decide), lib_ins hL 72 #[.string ⟨#[111, 117, 116]⟩, .string ⟨#[109, 117, 108, 116, 105]⟩] 65 rfl 1 2 rfl (by decide)⟩⟩
theorem libRow_31 : LibRow 31 := ⟨by kernel_rfl, _, _, _, _, _, _, nameOk_sub, fun B w hL => ⟨_, _, _, rfl, nil_insN _ 4, lib_ins hL 73 #[.string ⟨#[97]⟩, .string ⟨#[85]⟩, .string ⟨#[98]⟩, .string ⟨#[85]⟩] 65 rfl 2 2 rfl (by decide), lib_ins hL 74 #[.string ⟨#[111, 117, 116]⟩, .string ⟨#[85]⟩] 65 rfl 1 2 rfl (by decide)⟩⟩
theorem libRow_32 : LibRow 32 := ⟨by kernel_rfl, _, _, _, _, _, _, nameOk_xor, fun B w hL => ⟨_, _, _, rfl, nil_insN _ 4, lib_ins hL 75 #[.string ⟨#[97]⟩, .string ⟨#[98, 105, 110, 97, 114, 121]⟩, .string ⟨#[98]⟩, .string ⟨#[98, 105, 110, 97, 114, 121]⟩] 65 rfl 2 2 rfl (by decide), lib_ins hL 76 #[.string ⟨#[111, 117, 116]⟩, .string ⟨#[98, 105, 110, 97, 114, 121]⟩] 65 rfl 1 2 rfl (by decide)⟩⟩
theorem libRow (k : Nat) (h : k < 33) : LibRow k := by
  have hk : k = 0 ∨ k = 1 ∨ k = 2 ∨ k = 3 ∨ k = 4 ∨ k = 5 ∨ k = 6 ∨ k = 7 ∨ k = 8 ∨ k = 9 ∨ k = 10 ∨ k = 11 ∨ k = 12 ∨ k = 13 ∨ k = 14 ∨ k = 15 ∨ k = 16 ∨ k = 17 ∨ k = 18 ∨ k = 19 ∨ k = 20 ∨ k = 21 ∨ k = 22 ∨ k = 23 ∨ k = 24 ∨ k = 25 ∨ k = 26 ∨ k = 27 ∨ k = 28 ∨ k = 29 ∨ k = 30 ∨ k = 31 ∨ k = 32 := by omega
  rcases hk with rfl | rfl | rfl | rfl | rfl | rfl | rfl | rfl | rfl | rfl | rfl | rfl | rfl | rfl | rfl | rfl | rfl | rfl | rfl | rfl | rfl | rfl | rfl | rfl | rfl | rfl | rfl | rfl | rfl | rfl | rfl | rfl | rfl
  · exact libRow_0
  · exact libRow_1
  · exact libRow_2
  · exact libRow_3
  · exact libRow_4
  · exact libRow_5
  · exact libRow_6
  · exact libRow_7
  · exact libRow_8
  · exact libRow_9
  · exact libRow_10
  · exact libRow_11
  · exact libRow_12
  · exact libRow_13
  · exact libRow_14
  · exact libRow_15
  · exact libRow_16
  · exact libRow_17
  · exact libRow_18
  · exact libRow_19
  · exact libRow_20
  · exact libRow_21
  · exact libRow_22
  · exact libRow_23
  · exact libRow_24
  · exact libRow_25
  · exact libRow_26
  · exact libRow_27
  · exact libRow_28
  · exact libRow_29
  · exact libRow_30
  · exact libRow_31
  · exact libRow_32
set_option maxHeartbeats 8000000 in
set_option maxRecDepth 100000 in
theorem sameD_yes (s : ByteArray) (a1 a2 a3 b1 b2 b3 : Option Addr) (c1 c2 c3 d1 d2 d3 : Nat) (rs rm : Int) (pl : List BndD) (il ol : List PortD) (n1 n2 n3 : Nat) (hn1 : n1 = pl.length) (hn2 : n2 = il.length) (hn3 : n3 = ol.length) (w : World)
    (h1 : InS w a1 n1 4 (flat bndL pl)) (h2 : InS w a2 n2 2 (flat portL il)) (h3 : InS w a3 n3 2 (flat portL ol)) (k1 : InS w b1 n1 4 (flat bndL pl)) (k2 : InS w b2 n2 2 (flat portL il)) (k3 : InS w b3 n3 2 (flat portL ol)) :
    Calls Tryd.prog 14 #[.agg #[.string s, .slice a1 n1 c1, .slice a2 n2 c2, .slice a3 n3 c3, .int .i64 rs, .int .i64 rm], .agg #[.string s, .slice b1 n1 d1, .slice b2 n2 d2, .slice b3 n3 d3, .int .i64 rs, .int .i64 rm]] w fun e w' => e = .returned (.bool true) ∧ Below w.heap.size w w' := by
  obtain ⟨W, g, h, hW, hg, hh, RG, RH, B0, sz⟩ := box2 w #[.string s, .slice a1 n1 c1, .slice a2 n2 c2, .slice a3 n3 c3, .int .i64 rs, .int .i64 rm] 30 #[.string s, .slice b1 n1 d1, .slice b2 n2 d2, .slice b3 n3 d3, .int .i64 rs, .int .i64 rm] 30
  have HG := Lib.hid RG
  have HH := Lib.hid RH
  have HB0 := Lib.hid B0
  have H1 := Lib.hid (h1.keep B0)
  have H2 := Lib.hid (h2.keep B0)
  have H3 := Lib.hid (h3.keep B0)
  have K1 := Lib.hid (k1.keep B0)
  have K2 := Lib.hid (k2.keep B0)
  have K3 := Lib.hid (k3.keep B0)
  have HN1 := Lib.hid hn1
  have HN2 := Lib.hid hn2
  have HN3 := Lib.hid hn3
  have HL := Lib.hid (show n1 ≤ 9223372036854775807 from h1.2.1)
  have e0 : ((n1 : Int) != n1) = false := by simp
  have e1 : (rs != rs) = false := by simp
  have e2 : (rm != rm) = false := by simp
  have e3 : (s.toList != s.toList) = false := by simp
  clear RG RH B0 sz h1 h2 h3 k1 k2 k3 hn1 hn2 hn3
  go_enter Tryd.func14, Tryd.ntmps14
  go_upto_region 1 with fail
  rw [← hW]
  try rw [← hh]
  try rw [← hg]
  clear hW hg hh
  have g_0 := HG.out.c 0 _ rfl
  have g_1 := HG.out.c 1 _ rfl
  have g_2 := HG.out.c 2 _ rfl
  have g_3 := HG.out.c 3 _ rfl
  have g_4 := HG.out.c 4 _ rfl
  have g_5 := HG.out.c 5 _ rfl
  have h_0 := HH.out.c 0 _ rfl
  have h_1 := HH.out.c 1 _ rfl
  have h_2 := HH.out.c 2 _ rfl
  have h_3 := HH.out.c 3 _ rfl
  have h_4 := HH.out.c 4 _ rfl
  have h_5 := HH.out.c 5 _ rfl
  go_wp2_with fail
  refine (ports_yes il n2 HN2.out a2 b2 c2 d2 _ H2.out K2.out).mono ?_
  rintro e w1 ⟨rfl, hb⟩
  have HB1 := Lib.hid hb
  clear hb g_0 h_0 g_1 h_1 g_2 h_2 g_3 h_3 g_4 h_4 g_5 h_5
  have g_0 := (HG.out.keep HB1.out).c 0 _ rfl
  have g_1 := (HG.out.keep HB1.out).c 1 _ rfl
  have g_2 := (HG.out.keep HB1.out).c 2 _ rfl
  have g_3 := (HG.out.keep HB1.out).c 3 _ rfl
  have g_4 := (HG.out.keep HB1.out).c 4 _ rfl
  have g_5 := (HG.out.keep HB1.out).c 5 _ rfl
  have h_0 := (HH.out.keep HB1.out).c 0 _ rfl
  have h_1 := (HH.out.keep HB1.out).c 1 _ rfl
  have h_2 := (HH.out.keep HB1.out).c 2 _ rfl
  have h_3 := (HH.out.keep HB1.out).c 3 _ rfl
  have h_4 := (HH.out.keep HB1.out).c 4 _ rfl
  have h_5 := (HH.out.keep HB1.out).c 5 _ rfl
  go_wp2_with fail
  refine (ports_yes ol n3 HN3.out a3 b3 c3 d3 _ (H3.out.keep HB1.out) (K3.out.keep HB1.out)).mono ?_
  rintro e w2 ⟨rfl, hb⟩
  have HB2 := Lib.hid (HB1.out.trans (hb.mono HB1.out.size))
  clear hb HB1 g_0 h_0 g_1 h_1 g_2 h_2 g_3 h_3 g_4 h_4 g_5 h_5 e1 e2 e3 e0
  go_wp2_with fail
  go_loopw [5] (fun i wr => ∃ k : Nat, k ≤ n1 ∧ i = .int .i64 k ∧ Hid (Below W.heap.size W wr)) (fun i _ => n1 - (intOf i).toNat)
  case atStart => exact ⟨0, Nat.zero_le _, rfl, Lib.hid HB2.out⟩
  case round =>
    obtain ⟨k, hk, rfl, HB⟩ := hrel
    have g_1 := (HG.out.keep HB.out).c 1 _ rfl
    have h_1 := (HH.out.keep HB.out).c 1 _ rfl
    by_cases hlt : k < n1
    · have n0 := HL.out
      obtain ⟨lb, lo, rfl, hll, hc⟩ := (show InS wr a1 pl.length 4 (flat bndL pl) by rw [← HN1.out]; exact H1.out.keep HB.out).at bndL_len (by have := HN1.out; omega)
      obtain ⟨mb, mo, rfl, hml, mc⟩ := (show InS wr b1 pl.length 4 (flat bndL pl) by rw [← HN1.out]; exact K1.out.keep HB.out).at bndL_len (by have := HN1.out; omega)
      obtain ⟨x, hx⟩ : ∃ x, pl[k]? = some x := ⟨_, List.getElem?_eq_getElem (by have := HN1.out; omega)⟩
      obtain ⟨xn, xl, xh, xd⟩ := x
      have l0 : wr.cell? ⟨lb, lo + k * 4 + 0, none⟩ = some (.string xn) := hc k _ hx 0 _ rfl
      have l1 : wr.cell? ⟨lb, lo + k * 4 + 1, none⟩ = some (.int .i64 xl) := hc k _ hx 1 _ rfl
      have l2 : wr.cell? ⟨lb, lo + k * 4 + 2, none⟩ = some (.int .i64 xh) := hc k _ hx 2 _ rfl
      have l3 : wr.cell? ⟨lb, lo + k * 4 + 3, none⟩ = some (.int .i64 xd) := hc k _ hx 3 _ rfl
      have m0 : wr.cell? ⟨mb, mo + k * 4 + 0, none⟩ = some (.string xn) := mc k _ hx 0 _ rfl
      have m1 : wr.cell? ⟨mb, mo + k * 4 + 1, none⟩ = some (.int .i64 xl) := mc k _ hx 1 _ rfl
      have m2 : wr.cell? ⟨mb, mo + k * 4 + 2, none⟩ = some (.int .i64 xh) := mc k _ hx 2 _ rfl
      have m3 : wr.cell? ⟨mb, mo + k * 4 + 3, none⟩ = some (.int .i64 xd) := mc k _ hx 3 _ rfl
      rw [Nat.add_zero] at l0 m0
      have kk : (k : Int) < (n1 : Int) := by omega
      have kd : decide (k < n1) = true := decide_eq_true hlt
      clear hx hc mc hll hml
      go_wp2_with fail
      go_quiet ((fail))
      (try simp only [Exit.then])
      go_wp2_with fail
      go_roundw
      case rel => exact ⟨k + 1, by omega, by go_num, Lib.hid (bdrewN HB.out _)⟩
      case measure => (simp [intOf]) <;> omega
    · obtain rfl : k = n1 := by omega
      go_wp2_with fail
      go_ret
      exact ⟨rfl, HB0.out.trans (HB.out.mono HB0.out.size)⟩
theorem infoStr : (Tryd.prog.info? 9).map (fun i => (i.zero, i.size, i.bytes)) = some (some (.string ⟨#[]⟩), 1, 16) := by kernel_rfl
def nL (x : ByteArray) : List Value := [.string x]
theorem nL_len (x : ByteArray) : (nL x).length = 1 := rfl
/-- the first k names -/
def nmK (k : Nat) : List ByteArray := (List.range k).map fun k => (rowAt k).nm
theorem nmK_succ (k : Nat) : nmK (k + 1) = nmK k ++ [(rowAt k).nm] := by unfold nmK; rw [List.range_succ, List.map_append]; rfl
theorem nmK_len (k : Nat) : (nmK k).length = k := by unfold nmK; rw [List.length_map, List.length_range]
def NmAns (w w' : World) (e : Ending) : Prop := ∃ a c, e = .returned (.slice a 33 c) ∧ InS w' a 33 1 (flat nL (nmK 33)) ∧ Below w.heap.size w w'
set_option maxHeartbeats 4000000 in
set_option maxRecDepth 100000 in
theorem names_core (C : Array Value) (HT : Hid (∀ w, Calls Tryd.prog 27 #[] w fun e w' => e = .returned (.agg C) ∧ Below w.heap.size w w')) (HI : Hid (∀ k, k < 33 → C.extract (k * 5) (k * 5 + 5) = rowC (rowAt k))) (w : World) :
    Calls Tryd.prog 12 #[] w fun e w' => NmAns w w' e := by
  obtain ⟨i0, hif, hz0, hz1, hz2⟩ := info_parts infoStr
  have HIF := Lib.hid hif
  have HZ0 := Lib.hid hz0
  have HZ1 := Lib.hid hz1
  have HZ2 := Lib.hid hz2
  clear hif hz0 hz1 hz2
  go_enter Tryd.func12, Tryd.ntmps12
  go_wp2_with fail
  refine (HT.out _).mono ?_
  rintro e w1 ⟨rfl, hb⟩
  have HB1 := Lib.hid hb
  clear hb
  go_wp2_with fail
  go_loopw [1, 5] (fun p i wr => ∃ k : Nat, ∃ a cc, k ≤ 33 ∧ i = .int .i64 k ∧ p = .slice a k cc ∧ Hid (wr.ownsRow w1.heap.size 9 1 (.slice a k cc) k (flat nL (nmK k)) ∧ Below w1.heap.size w1 wr)) (fun _ i _ => 33 - (intOf i).toNat)
  case atStart => exact ⟨0, none, 0, Nat.zero_le _, rfl, rfl, Lib.hid ⟨World.ownsRow_nil _ _ _ _, Below.refl _ _⟩⟩
  case round =>
    obtain ⟨k, a, cc, hk, rfl, rfl, hH⟩ := hrel
    have HV := Lib.hid hH.out.1
    have HB := Lib.hid hH.out.2
    clear hH
    by_cases hlt : k < 33
    · have HKN := Lib.hid hlt
      obtain ⟨r, hr⟩ : ∃ r, r = rowAt k := ⟨_, rfl⟩
      have hi := HI.out k (by have := HKN.out; omega)
      rw [← hr] at hi
      have HRK := Lib.hid hr
      obtain ⟨rn, ri, ro, rm, rs⟩ := r
      have hi := idx_run C #[.string rn, .string ri, .string ro, .int .i64 rm, .int .i64 rs] k (by have := HKN.out; omega) hi
      clear hr
      have HNS := Lib.hid (show nmK (k + 1) = nmK k ++ [rn] by rw [nmK_succ, ← HRK.out])
      obtain ⟨W9, t, hW9, ht, RT, B9, sz9⟩ := box1 wr #[.string rn, .string ri, .string ro, .int .i64 rm, .int .i64 rs] 69
      have HTB := Lib.hid RT
      have HV9 := Lib.hid (own_keep HV.out B9)
      have HB9 := Lib.hid (HB.out.trans (B9.mono HB.out.size))
      clear RT B9 sz9
      go_upto_region 5 with fail
      rw [← hW9]
      try rw [← ht]
      clear hW9 ht
      have t_0 := HTB.out.c 0 _ rfl
      have hif := HIF.out
      have hz0 := HZ0.out
      have hz1 := HZ1.out
      have hz2 := HZ2.out
      go_wp2_with (at_builtin; refine wpList_append_own _ rfl _ _ 25 rfl w1.heap.size 9 i0 (.string ⟨#[]⟩) 1 16 Tryd.underlying25 hif hz0 hz1 hz2 rfl (by decide) _ _ _ rfl (own_at HV9.out _) ⟨W9.heap.size, 0, none⟩ 1 1 [.string rn] rfl rfl ?x1 ?x2 ?x3 ?x4 ?x5 ?_)
      try
        case x1 =>
          intro q u hu
          rw [add_plain, Nat.zero_add]
          exact (row_fresh W9 #[.string rn] 9).c q u hu
      try
        case x2 =>
          first
            | rfl
            | (intro u hu; simp at hu; subst hu; rfl)
      case x3 => unfold maxLen; omega
      case x4 => omega
      case x5 => have := HB9.out.size; (try rw [World.size_alloc]); omega
      intro v5 w5 hown hgrow _
      obtain ⟨a5, c5, rfl, _⟩ := ins_own hown
      have nal : Below W9.heap.size W9 (W9.alloc (Obj.cells #[.string rn] 9)) := (Below.refl _ _).alloc (Nat.le_refl _) _
      have vlt := fun q e => (HV9.out.lt q e).1
      have B5 := Lib.hid ((HB9.out.trans (nal.mono HB9.out.size)).grown hgrow (by have := HB9.out.size; rw [World.size_alloc]; omega) (fun q e => vlt q e))
      have V5 := Lib.hid (show w5.ownsRow w1.heap.size 9 1 (.slice a5 (k + 1) c5) (k + 1) (flat nL (nmK (k + 1))) by
        rw [HNS.out, flat_append]; exact hown)
      clear hown hgrow nal vlt hif hz0 hz1 hz2 t_0 hi
      go_wp2_with fail
      go_roundw
      case rel => exact ⟨k + 1, a5, c5, by omega, by go_num, rfl, Lib.hid ⟨V5.out, B5.out⟩⟩
      case measure => (simp [intOf]) <;> omega
    · obtain rfl : k = 33 := by omega
      obtain ⟨_, _, he, i5⟩ := ins_own HV.out
      injection he with he1 _ he2
      subst he1 he2
      have HI5 := Lib.hid i5
      clear i5
      go_wp2_with fail
      go_ret
      exact ⟨_, _, rfl, HI5.out, HB1.out.trans (HB.out.mono HB1.out.size)⟩
theorem names_any (w : World) : Calls Tryd.prog 12 #[] w fun e w' => ∃ a c, e = .returned (.slice a 33 c) ∧ InS w' a 33 1 (flat nL (nmK 33)) ∧ Below w.heap.size w w' := names_core tableC.toArray (Lib.hid library_any) (Lib.hid idx_row) w
end Go.Proofs.YtaobbedajgkmiaaDoor
