/- The specification's Find at every name, in the program's form; every name of the library. -/
import Derived.Test.YtaobbedajgkmiaaDoorFi
import Derived.Test.YtaobbedajgkmiaaDoorQm
import Derived.Test.YtaobbedajgkmiaaDoorEd
import Derived.Test.YtaobbedajgkmiaaDoorEb
namespace Go.Proofs.YtaobbedajgkmiaaDoor
open Go.RowKit Go.Shelf

set_option linter.unusedVariables false
set_option linter.unusedSimpArgs false
/-- what the specification's Find says of a name -/
def RFindOk (s ro : ByteArray) (rm rs : Int) (pl : List BndD) (il : List PortD) : Prop := ∀ w, Calls Tryd.prog 15 #[.string s] w fun e w' => ∃ a1 c1 a2 c2 a3 c3, e = .returned (.tuple #[.agg #[.string s, .slice a1 pl.length c1, .slice a2 il.length c2, .slice a3 1 c3, .int .i64 rs, .int .i64 rm], .bool true]) ∧ InS w' a1 pl.length 4 (flat bndL pl) ∧ InS w' a2 il.length 2 (flat portL il) ∧ InS w' a3 1 2 [.string ⟨#[111, 117, 116]⟩, .string ro] ∧ Below w.heap.size w w'
theorem lib_ins {w : World} {B : Nat} (h : LibAt w B) (j : Nat) (cur : Array Value) (T : TypeId) (hj : (objs18 B)[j]? = some (Obj.cells cur T)) (n sz : Nat) (hs : cur.size = n * sz) (hn : n ≤ 9223372036854775807) : InS w (some ⟨B + j, 0, none⟩) n sz cur.toList := by
  have hh := h j _ hj
  refine ⟨by simpa using hs, hn, .inr ⟨B + j, 0, rfl, (Array.getElem?_eq_some_iff.1 hh).1, fun i v hv => ?_⟩⟩
  rw [Nat.zero_add]
  exact cellO hh i v (by simpa using hv)
theorem nil_insN (w : World) (sz : Nat) : InS w none 0 sz [] := ⟨by simp, by decide, .inl rfl⟩
theorem rfind_above : RFindOk ⟨#[97, 98, 111, 118, 101]⟩ ⟨#[98, 105, 110, 97, 114, 121]⟩ 1 0 [] [⟨⟨#[97]⟩, ⟨#[85]⟩⟩, ⟨⟨#[98]⟩, ⟨#[85]⟩⟩] := fun w => (find18 0 (by decide) ⟨#[97, 98, 111, 118, 101]⟩ (by kernel_rfl) (by decide +kernel) w).mono (by
  rintro e w' ⟨B, hB, rfl, hL, hb⟩
  exact ⟨_, _, _, _, _, _, rfl, nil_insN _ 4, lib_ins hL 0 #[.string ⟨#[97]⟩, .string ⟨#[85]⟩, .string ⟨#[98]⟩, .string ⟨#[85]⟩] 65 rfl 2 2 rfl (by decide), lib_ins hL 1 #[.string ⟨#[111, 117, 116]⟩, .string ⟨#[98, 105, 110, 97, 114, 121]⟩] 65 rfl 1 2 rfl (by decide), hb⟩)
theorem rfind_abs : RFindOk ⟨#[97, 98, 115]⟩ ⟨#[85]⟩ 1 0 [] [⟨⟨#[97]⟩, ⟨#[85]⟩⟩] := fun w => (find18 1 (by decide) ⟨#[97, 98, 115]⟩ (by kernel_rfl) (by decide +kernel) w).mono (by
  rintro e w' ⟨B, hB, rfl, hL, hb⟩
  exact ⟨_, _, _, _, _, _, rfl, nil_insN _ 4, lib_ins hL 2 #[.string ⟨#[97]⟩, .string ⟨#[85]⟩] 65 rfl 1 2 rfl (by decide), lib_ins hL 3 #[.string ⟨#[111, 117, 116]⟩, .string ⟨#[85]⟩] 65 rfl 1 2 rfl (by decide), hb⟩)
theorem rfind_add : RFindOk ⟨#[97, 100, 100]⟩ ⟨#[85]⟩ 1 0 [] [⟨⟨#[97]⟩, ⟨#[85]⟩⟩, ⟨⟨#[98]⟩, ⟨#[85]⟩⟩] := fun w => (find18 2 (by decide) ⟨#[97, 100, 100]⟩ (by kernel_rfl) (by decide +kernel) w).mono (by
  rintro e w' ⟨B, hB, rfl, hL, hb⟩
  exact ⟨_, _, _, _, _, _, rfl, nil_insN _ 4, lib_ins hL 4 #[.string ⟨#[97]⟩, .string ⟨#[85]⟩, .string ⟨#[98]⟩, .string ⟨#[85]⟩] 65 rfl 2 2 rfl (by decide), lib_ins hL 5 #[.string ⟨#[111, 117, 116]⟩, .string ⟨#[85]⟩] 65 rfl 1 2 rfl (by decide), hb⟩)
theorem rfind_and : RFindOk ⟨#[97, 110, 100]⟩ ⟨#[98, 105, 110, 97, 114, 121]⟩ 7 0 [] [⟨⟨#[97]⟩, ⟨#[98, 105, 110, 97, 114, 121]⟩⟩, ⟨⟨#[98]⟩, ⟨#[98, 105, 110, 97, 114, 121]⟩⟩] := fun w => (find18 3 (by decide) ⟨#[97, 110, 100]⟩ (by kernel_rfl) (by decide +kernel) w).mono (by
  rintro e w' ⟨B, hB, rfl, hL, hb⟩
  exact ⟨_, _, _, _, _, _, rfl, nil_insN _ 4, lib_ins hL 6 #[.string ⟨#[97]⟩, .string ⟨#[98, 105, 110, 97, 114, 121]⟩, .string ⟨#[98]⟩, .string ⟨#[98, 105, 110, 97, 114, 121]⟩] 65 rfl 2 2 rfl (by decide), lib_ins hL 7 #[.string ⟨#[111, 117, 116]⟩, .string ⟨#[98, 105, 110, 97, 114, 121]⟩] 65 rfl 1 2 rfl (by decide), hb⟩)
theorem rfind_below : RFindOk ⟨#[98, 101, 108, 111, 119]⟩ ⟨#[98, 105, 110, 97, 114, 121]⟩ 1 0 [] [⟨⟨#[97]⟩, ⟨#[85]⟩⟩, ⟨⟨#[98]⟩, ⟨#[85]⟩⟩] := fun w => (find18 4 (by decide) ⟨#[98, 101, 108, 111, 119]⟩ (by kernel_rfl) (by decide +kernel) w).mono (by
  rintro e w' ⟨B, hB, rfl, hL, hb⟩
  exact ⟨_, _, _, _, _, _, rfl, nil_insN _ 4, lib_ins hL 8 #[.string ⟨#[97]⟩, .string ⟨#[85]⟩, .string ⟨#[98]⟩, .string ⟨#[85]⟩] 65 rfl 2 2 rfl (by decide), lib_ins hL 9 #[.string ⟨#[111, 117, 116]⟩, .string ⟨#[98, 105, 110, 97, 114, 121]⟩] 65 rfl 1 2 rfl (by decide), hb⟩)
theorem rfind_choose : RFindOk ⟨#[99, 104, 111, 111, 115, 101]⟩ ⟨#[84]⟩ 7 0 [] [⟨⟨#[109]⟩, ⟨#[109, 117, 108, 116, 105]⟩⟩, ⟨⟨#[97]⟩, ⟨#[84]⟩⟩] := fun w => (find18 5 (by decide) ⟨#[99, 104, 111, 111, 115, 101]⟩ (by kernel_rfl) (by decide +kernel) w).mono (by
  rintro e w' ⟨B, hB, rfl, hL, hb⟩
  exact ⟨_, _, _, _, _, _, rfl, nil_insN _ 4, lib_ins hL 10 #[.string ⟨#[109]⟩, .string ⟨#[109, 117, 108, 116, 105]⟩, .string ⟨#[97]⟩, .string ⟨#[84]⟩] 65 rfl 2 2 rfl (by decide), lib_ins hL 11 #[.string ⟨#[111, 117, 116]⟩, .string ⟨#[84]⟩] 65 rfl 1 2 rfl (by decide), hb⟩)
theorem rfind_count : RFindOk ⟨#[99, 111, 117, 110, 116]⟩ ⟨#[97, 110, 97, 108, 111, 103]⟩ 1 2 [] [⟨⟨#[97]⟩, ⟨#[98, 105, 110, 97, 114, 121]⟩⟩, ⟨⟨#[114, 101, 115, 101, 116]⟩, ⟨#[98, 105, 110, 97, 114, 121]⟩⟩] := fun w => (find18 6 (by decide) ⟨#[99, 111, 117, 110, 116]⟩ (by kernel_rfl) (by decide +kernel) w).mono (by
  rintro e w' ⟨B, hB, rfl, hL, hb⟩
  exact ⟨_, _, _, _, _, _, rfl, nil_insN _ 4, lib_ins hL 12 #[.string ⟨#[97]⟩, .string ⟨#[98, 105, 110, 97, 114, 121]⟩, .string ⟨#[114, 101, 115, 101, 116]⟩, .string ⟨#[98, 105, 110, 97, 114, 121]⟩] 65 rfl 2 2 rfl (by decide), lib_ins hL 13 #[.string ⟨#[111, 117, 116]⟩, .string ⟨#[97, 110, 97, 108, 111, 103]⟩] 65 rfl 1 2 rfl (by decide), hb⟩)
theorem rfind_dewpoint : RFindOk ⟨#[100, 101, 119, 112, 111, 105, 110, 116]⟩ ⟨#[97, 110, 97, 108, 111, 103, 32, 100, 101, 103, 67]⟩ 1 0 [] [⟨⟨#[116]⟩, ⟨#[97, 110, 97, 108, 111, 103, 32, 100, 101, 103, 67]⟩⟩, ⟨⟨#[114, 104]⟩, ⟨#[97, 110, 97, 108, 111, 103, 32, 112, 99, 116]⟩⟩] := fun w => (find18 7 (by decide) ⟨#[100, 101, 119, 112, 111, 105, 110, 116]⟩ (by kernel_rfl) (by decide +kernel) w).mono (by
  rintro e w' ⟨B, hB, rfl, hL, hb⟩
  exact ⟨_, _, _, _, _, _, rfl, nil_insN _ 4, lib_ins hL 14 #[.string ⟨#[116]⟩, .string ⟨#[97, 110, 97, 108, 111, 103, 32, 100, 101, 103, 67]⟩, .string ⟨#[114, 104]⟩, .string ⟨#[97, 110, 97, 108, 111, 103, 32, 112, 99, 116]⟩] 65 rfl 2 2 rfl (by decide), lib_ins hL 15 #[.string ⟨#[111, 117, 116]⟩, .string ⟨#[97, 110, 97, 108, 111, 103, 32, 100, 101, 103, 67]⟩] 65 rfl 1 2 rfl (by decide), hb⟩)
theorem rfind_div : RFindOk ⟨#[100, 105, 118]⟩ ⟨#[85, 47, 86]⟩ 1 0 [] [⟨⟨#[97]⟩, ⟨#[85]⟩⟩, ⟨⟨#[98]⟩, ⟨#[86]⟩⟩] := fun w => (find18 8 (by decide) ⟨#[100, 105, 118]⟩ (by kernel_rfl) (by decide +kernel) w).mono (by
  rintro e w' ⟨B, hB, rfl, hL, hb⟩
  exact ⟨_, _, _, _, _, _, rfl, nil_insN _ 4, lib_ins hL 16 #[.string ⟨#[97]⟩, .string ⟨#[85]⟩, .string ⟨#[98]⟩, .string ⟨#[86]⟩] 65 rfl 2 2 rfl (by decide), lib_ins hL 17 #[.string ⟨#[111, 117, 116]⟩, .string ⟨#[85, 47, 86]⟩] 65 rfl 1 2 rfl (by decide), hb⟩)
theorem rfind_edge : RFindOk ⟨#[101, 100, 103, 101]⟩ ⟨#[98, 105, 110, 97, 114, 121]⟩ 1 1 [] [⟨⟨#[97]⟩, ⟨#[98, 105, 110, 97, 114, 121]⟩⟩] := fun w => (find18 9 (by decide) ⟨#[101, 100, 103, 101]⟩ (by kernel_rfl) (by decide +kernel) w).mono (by
  rintro e w' ⟨B, hB, rfl, hL, hb⟩
  exact ⟨_, _, _, _, _, _, rfl, nil_insN _ 4, lib_ins hL 18 #[.string ⟨#[97]⟩, .string ⟨#[98, 105, 110, 97, 114, 121]⟩] 65 rfl 1 2 rfl (by decide), lib_ins hL 19 #[.string ⟨#[111, 117, 116]⟩, .string ⟨#[98, 105, 110, 97, 114, 121]⟩] 65 rfl 1 2 rfl (by decide), hb⟩)
theorem rfind_enthalpy : RFindOk ⟨#[101, 110, 116, 104, 97, 108, 112, 121]⟩ ⟨#[97, 110, 97, 108, 111, 103, 32, 107, 74, 47, 107, 103]⟩ 1 0 [] [⟨⟨#[116]⟩, ⟨#[97, 110, 97, 108, 111, 103, 32, 100, 101, 103, 67]⟩⟩, ⟨⟨#[114, 104]⟩, ⟨#[97, 110, 97, 108, 111, 103, 32, 112, 99, 116]⟩⟩] := fun w => (find18 10 (by decide) ⟨#[101, 110, 116, 104, 97, 108, 112, 121]⟩ (by kernel_rfl) (by decide +kernel) w).mono (by
  rintro e w' ⟨B, hB, rfl, hL, hb⟩
  exact ⟨_, _, _, _, _, _, rfl, nil_insN _ 4, lib_ins hL 20 #[.string ⟨#[116]⟩, .string ⟨#[97, 110, 97, 108, 111, 103, 32, 100, 101, 103, 67]⟩, .string ⟨#[114, 104]⟩, .string ⟨#[97, 110, 97, 108, 111, 103, 32, 112, 99, 116]⟩] 65 rfl 2 2 rfl (by decide), lib_ins hL 21 #[.string ⟨#[111, 117, 116]⟩, .string ⟨#[97, 110, 97, 108, 111, 103, 32, 107, 74, 47, 107, 103]⟩] 65 rfl 1 2 rfl (by decide), hb⟩)
theorem rfind_hyst : RFindOk ⟨#[104, 121, 115, 116]⟩ ⟨#[98, 105, 110, 97, 114, 121]⟩ 1 1 [⟨⟨#[111, 110]⟩, (-1000000000000), 1000000000000, 1000⟩, ⟨⟨#[111, 102, 102]⟩, (-1000000000000), 1000000000000, 0⟩] [⟨⟨#[97]⟩, ⟨#[85]⟩⟩] := fun w => (find18 11 (by decide) ⟨#[104, 121, 115, 116]⟩ (by kernel_rfl) (by decide +kernel) w).mono (by
  rintro e w' ⟨B, hB, rfl, hL, hb⟩
  exact ⟨_, _, _, _, _, _, rfl, lib_ins hL 22 #[.string ⟨#[111, 110]⟩, .int .i64 (-1000000000000), .int .i64 1000000000000, .int .i64 1000, .string ⟨#[111, 102, 102]⟩, .int .i64 (-1000000000000), .int .i64 1000000000000, .int .i64 0] 67 rfl 2 4 rfl (by decide), lib_ins hL 23 #[.string ⟨#[97]⟩, .string ⟨#[85]⟩] 65 rfl 1 2 rfl (by decide), lib_ins hL 24 #[.string ⟨#[111, 117, 116]⟩, .string ⟨#[98, 105, 110, 97, 114, 121]⟩] 65 rfl 1 2 rfl (by decide), hb⟩)
theorem rfind_latch : RFindOk ⟨#[108, 97, 116, 99, 104]⟩ ⟨#[98, 105, 110, 97, 114, 121]⟩ 1 1 [] [⟨⟨#[115, 101, 116]⟩, ⟨#[98, 105, 110, 97, 114, 121]⟩⟩, ⟨⟨#[114, 101, 115, 101, 116]⟩, ⟨#[98, 105, 110, 97, 114, 121]⟩⟩] := fun w => (find18 12 (by decide) ⟨#[108, 97, 116, 99, 104]⟩ (by kernel_rfl) (by decide +kernel) w).mono (by
  rintro e w' ⟨B, hB, rfl, hL, hb⟩
  exact ⟨_, _, _, _, _, _, rfl, nil_insN _ 4, lib_ins hL 25 #[.string ⟨#[115, 101, 116]⟩, .string ⟨#[98, 105, 110, 97, 114, 121]⟩, .string ⟨#[114, 101, 115, 101, 116]⟩, .string ⟨#[98, 105, 110, 97, 114, 121]⟩] 65 rfl 2 2 rfl (by decide), lib_ins hL 26 #[.string ⟨#[111, 117, 116]⟩, .string ⟨#[98, 105, 110, 97, 114, 121]⟩] 65 rfl 1 2 rfl (by decide), hb⟩)
theorem rfind_limit : RFindOk ⟨#[108, 105, 109, 105, 116]⟩ ⟨#[85]⟩ 1 0 [⟨⟨#[108, 111, 119]⟩, (-1000000000000), 1000000000000, (-1000000000000)⟩, ⟨⟨#[104, 105, 103, 104]⟩, (-1000000000000), 1000000000000, 1000000000000⟩] [⟨⟨#[97]⟩, ⟨#[85]⟩⟩] := fun w => (find18 13 (by decide) ⟨#[108, 105, 109, 105, 116]⟩ (by kernel_rfl) (by decide +kernel) w).mono (by
  rintro e w' ⟨B, hB, rfl, hL, hb⟩
  exact ⟨_, _, _, _, _, _, rfl, lib_ins hL 27 #[.string ⟨#[108, 111, 119]⟩, .int .i64 (-1000000000000), .int .i64 1000000000000, .int .i64 (-1000000000000), .string ⟨#[104, 105, 103, 104]⟩, .int .i64 (-1000000000000), .int .i64 1000000000000, .int .i64 1000000000000] 67 rfl 2 4 rfl (by decide), lib_ins hL 28 #[.string ⟨#[97]⟩, .string ⟨#[85]⟩] 65 rfl 1 2 rfl (by decide), lib_ins hL 29 #[.string ⟨#[111, 117, 116]⟩, .string ⟨#[85]⟩] 65 rfl 1 2 rfl (by decide), hb⟩)
theorem rfind_line : RFindOk ⟨#[108, 105, 110, 101]⟩ ⟨#[97, 110, 97, 108, 111, 103]⟩ 1 0 [⟨⟨#[120, 49]⟩, (-1000000000000), 1000000000000, 0⟩, ⟨⟨#[121, 49]⟩, (-1000000000000), 1000000000000, 0⟩, ⟨⟨#[120, 50]⟩, (-1000000000000), 1000000000000, 100000⟩, ⟨⟨#[121, 50]⟩, (-1000000000000), 1000000000000, 100000⟩] [⟨⟨#[97]⟩, ⟨#[85]⟩⟩] := fun w => (find18 14 (by decide) ⟨#[108, 105, 110, 101]⟩ (by kernel_rfl) (by decide +kernel) w).mono (by
  rintro e w' ⟨B, hB, rfl, hL, hb⟩
  exact ⟨_, _, _, _, _, _, rfl, lib_ins hL 30 #[.string ⟨#[120, 49]⟩, .int .i64 (-1000000000000), .int .i64 1000000000000, .int .i64 0, .string ⟨#[121, 49]⟩, .int .i64 (-1000000000000), .int .i64 1000000000000, .int .i64 0, .string ⟨#[120, 50]⟩, .int .i64 (-1000000000000), .int .i64 1000000000000, .int .i64 100000, .string ⟨#[121, 50]⟩, .int .i64 (-1000000000000), .int .i64 1000000000000, .int .i64 100000] 67 rfl 4 4 rfl (by decide), lib_ins hL 31 #[.string ⟨#[97]⟩, .string ⟨#[85]⟩] 65 rfl 1 2 rfl (by decide), lib_ins hL 32 #[.string ⟨#[111, 117, 116]⟩, .string ⟨#[97, 110, 97, 108, 111, 103]⟩] 65 rfl 1 2 rfl (by decide), hb⟩)
theorem rfind_max : RFindOk ⟨#[109, 97, 120]⟩ ⟨#[85]⟩ 1 0 [] [⟨⟨#[97]⟩, ⟨#[85]⟩⟩, ⟨⟨#[98]⟩, ⟨#[85]⟩⟩] := fun w => (find18 15 (by decide) ⟨#[109, 97, 120]⟩ (by kernel_rfl) (by decide +kernel) w).mono (by
  rintro e w' ⟨B, hB, rfl, hL, hb⟩
  exact ⟨_, _, _, _, _, _, rfl, nil_insN _ 4, lib_ins hL 33 #[.string ⟨#[97]⟩, .string ⟨#[85]⟩, .string ⟨#[98]⟩, .string ⟨#[85]⟩] 65 rfl 2 2 rfl (by decide), lib_ins hL 34 #[.string ⟨#[111, 117, 116]⟩, .string ⟨#[85]⟩] 65 rfl 1 2 rfl (by decide), hb⟩)
theorem rfind_mean : RFindOk ⟨#[109, 101, 97, 110]⟩ ⟨#[85]⟩ 7 0 [] [⟨⟨#[97]⟩, ⟨#[85]⟩⟩, ⟨⟨#[98]⟩, ⟨#[85]⟩⟩] := fun w => (find18 16 (by decide) ⟨#[109, 101, 97, 110]⟩ (by kernel_rfl) (by decide +kernel) w).mono (by
  rintro e w' ⟨B, hB, rfl, hL, hb⟩
  exact ⟨_, _, _, _, _, _, rfl, nil_insN _ 4, lib_ins hL 35 #[.string ⟨#[97]⟩, .string ⟨#[85]⟩, .string ⟨#[98]⟩, .string ⟨#[85]⟩] 65 rfl 2 2 rfl (by decide), lib_ins hL 36 #[.string ⟨#[111, 117, 116]⟩, .string ⟨#[85]⟩] 65 rfl 1 2 rfl (by decide), hb⟩)
theorem rfind_min : RFindOk ⟨#[109, 105, 110]⟩ ⟨#[85]⟩ 1 0 [] [⟨⟨#[97]⟩, ⟨#[85]⟩⟩, ⟨⟨#[98]⟩, ⟨#[85]⟩⟩] := fun w => (find18 17 (by decide) ⟨#[109, 105, 110]⟩ (by kernel_rfl) (by decide +kernel) w).mono (by
  rintro e w' ⟨B, hB, rfl, hL, hb⟩
  exact ⟨_, _, _, _, _, _, rfl, nil_insN _ 4, lib_ins hL 37 #[.string ⟨#[97]⟩, .string ⟨#[85]⟩, .string ⟨#[98]⟩, .string ⟨#[85]⟩] 65 rfl 2 2 rfl (by decide), lib_ins hL 38 #[.string ⟨#[111, 117, 116]⟩, .string ⟨#[85]⟩] 65 rfl 1 2 rfl (by decide), hb⟩)
theorem rfind_minrun : RFindOk ⟨#[109, 105, 110, 114, 117, 110]⟩ ⟨#[98, 105, 110, 97, 114, 121]⟩ 1 2 [⟨⟨#[111, 110]⟩, 0, 86400, 0⟩, ⟨⟨#[111, 102, 102]⟩, 0, 86400, 0⟩] [⟨⟨#[97]⟩, ⟨#[98, 105, 110, 97, 114, 121]⟩⟩] := fun w => (find18 18 (by decide) ⟨#[109, 105, 110, 114, 117, 110]⟩ (by kernel_rfl) (by decide +kernel) w).mono (by
  rintro e w' ⟨B, hB, rfl, hL, hb⟩
  exact ⟨_, _, _, _, _, _, rfl, lib_ins hL 39 #[.string ⟨#[111, 110]⟩, .int .i64 0, .int .i64 86400, .int .i64 0, .string ⟨#[111, 102, 102]⟩, .int .i64 0, .int .i64 86400, .int .i64 0] 67 rfl 2 4 rfl (by decide), lib_ins hL 40 #[.string ⟨#[97]⟩, .string ⟨#[98, 105, 110, 97, 114, 121]⟩] 65 rfl 1 2 rfl (by decide), lib_ins hL 41 #[.string ⟨#[111, 117, 116]⟩, .string ⟨#[98, 105, 110, 97, 114, 121]⟩] 65 rfl 1 2 rfl (by decide), hb⟩)
theorem rfind_mul : RFindOk ⟨#[109, 117, 108]⟩ ⟨#[85, 42, 86]⟩ 1 0 [] [⟨⟨#[97]⟩, ⟨#[85]⟩⟩, ⟨⟨#[98]⟩, ⟨#[86]⟩⟩] := fun w => (find18 19 (by decide) ⟨#[109, 117, 108]⟩ (by kernel_rfl) (by decide +kernel) w).mono (by
  rintro e w' ⟨B, hB, rfl, hL, hb⟩
  exact ⟨_, _, _, _, _, _, rfl, nil_insN _ 4, lib_ins hL 42 #[.string ⟨#[97]⟩, .string ⟨#[85]⟩, .string ⟨#[98]⟩, .string ⟨#[86]⟩] 65 rfl 2 2 rfl (by decide), lib_ins hL 43 #[.string ⟨#[111, 117, 116]⟩, .string ⟨#[85, 42, 86]⟩] 65 rfl 1 2 rfl (by decide), hb⟩)
theorem rfind_neg : RFindOk ⟨#[110, 101, 103]⟩ ⟨#[85]⟩ 1 0 [] [⟨⟨#[97]⟩, ⟨#[85]⟩⟩] := fun w => (find18 20 (by decide) ⟨#[110, 101, 103]⟩ (by kernel_rfl) (by decide +kernel) w).mono (by
  rintro e w' ⟨B, hB, rfl, hL, hb⟩
  exact ⟨_, _, _, _, _, _, rfl, nil_insN _ 4, lib_ins hL 44 #[.string ⟨#[97]⟩, .string ⟨#[85]⟩] 65 rfl 1 2 rfl (by decide), lib_ins hL 45 #[.string ⟨#[111, 117, 116]⟩, .string ⟨#[85]⟩] 65 rfl 1 2 rfl (by decide), hb⟩)
theorem rfind_not : RFindOk ⟨#[110, 111, 116]⟩ ⟨#[98, 105, 110, 97, 114, 121]⟩ 1 0 [] [⟨⟨#[97]⟩, ⟨#[98, 105, 110, 97, 114, 121]⟩⟩] := fun w => (find18 21 (by decide) ⟨#[110, 111, 116]⟩ (by kernel_rfl) (by decide +kernel) w).mono (by
  rintro e w' ⟨B, hB, rfl, hL, hb⟩
  exact ⟨_, _, _, _, _, _, rfl, nil_insN _ 4, lib_ins hL 46 #[.string ⟨#[97]⟩, .string ⟨#[98, 105, 110, 97, 114, 121]⟩] 65 rfl 1 2 rfl (by decide), lib_ins hL 47 #[.string ⟨#[111, 117, 116]⟩, .string ⟨#[98, 105, 110, 97, 114, 121]⟩] 65 rfl 1 2 rfl (by decide), hb⟩)
theorem rfind_offdelay : RFindOk ⟨#[111, 102, 102, 100, 101, 108, 97, 121]⟩ ⟨#[98, 105, 110, 97, 114, 121]⟩ 1 1 [⟨⟨#[116, 105, 109, 101]⟩, 0, 86400, 0⟩] [⟨⟨#[97]⟩, ⟨#[98, 105, 110, 97, 114, 121]⟩⟩] := fun w => (find18 22 (by decide) ⟨#[111, 102, 102, 100, 101, 108, 97, 121]⟩ (by kernel_rfl) (by decide +kernel) w).mono (by
  rintro e w' ⟨B, hB, rfl, hL, hb⟩
  exact ⟨_, _, _, _, _, _, rfl, lib_ins hL 48 #[.string ⟨#[116, 105, 109, 101]⟩, .int .i64 0, .int .i64 86400, .int .i64 0] 67 rfl 1 4 rfl (by decide), lib_ins hL 49 #[.string ⟨#[97]⟩, .string ⟨#[98, 105, 110, 97, 114, 121]⟩] 65 rfl 1 2 rfl (by decide), lib_ins hL 50 #[.string ⟨#[111, 117, 116]⟩, .string ⟨#[98, 105, 110, 97, 114, 121]⟩] 65 rfl 1 2 rfl (by decide), hb⟩)
theorem rfind_ondelay : RFindOk ⟨#[111, 110, 100, 101, 108, 97, 121]⟩ ⟨#[98, 105, 110, 97, 114, 121]⟩ 1 1 [⟨⟨#[116, 105, 109, 101]⟩, 0, 86400, 0⟩] [⟨⟨#[97]⟩, ⟨#[98, 105, 110, 97, 114, 121]⟩⟩] := fun w => (find18 23 (by decide) ⟨#[111, 110, 100, 101, 108, 97, 121]⟩ (by kernel_rfl) (by decide +kernel) w).mono (by
  rintro e w' ⟨B, hB, rfl, hL, hb⟩
  exact ⟨_, _, _, _, _, _, rfl, lib_ins hL 51 #[.string ⟨#[116, 105, 109, 101]⟩, .int .i64 0, .int .i64 86400, .int .i64 0] 67 rfl 1 4 rfl (by decide), lib_ins hL 52 #[.string ⟨#[97]⟩, .string ⟨#[98, 105, 110, 97, 114, 121]⟩] 65 rfl 1 2 rfl (by decide), lib_ins hL 53 #[.string ⟨#[111, 117, 116]⟩, .string ⟨#[98, 105, 110, 97, 114, 121]⟩] 65 rfl 1 2 rfl (by decide), hb⟩)
theorem rfind_or : RFindOk ⟨#[111, 114]⟩ ⟨#[98, 105, 110, 97, 114, 121]⟩ 7 0 [] [⟨⟨#[97]⟩, ⟨#[98, 105, 110, 97, 114, 121]⟩⟩, ⟨⟨#[98]⟩, ⟨#[98, 105, 110, 97, 114, 121]⟩⟩] := fun w => (find18 24 (by decide) ⟨#[111, 114]⟩ (by kernel_rfl) (by decide +kernel) w).mono (by
  rintro e w' ⟨B, hB, rfl, hL, hb⟩
  exact ⟨_, _, _, _, _, _, rfl, nil_insN _ 4, lib_ins hL 54 #[.string ⟨#[97]⟩, .string ⟨#[98, 105, 110, 97, 114, 121]⟩, .string ⟨#[98]⟩, .string ⟨#[98, 105, 110, 97, 114, 121]⟩] 65 rfl 2 2 rfl (by decide), lib_ins hL 55 #[.string ⟨#[111, 117, 116]⟩, .string ⟨#[98, 105, 110, 97, 114, 121]⟩] 65 rfl 1 2 rfl (by decide), hb⟩)
theorem rfind_pick : RFindOk ⟨#[112, 105, 99, 107]⟩ ⟨#[84]⟩ 1 0 [] [⟨⟨#[115]⟩, ⟨#[98, 105, 110, 97, 114, 121]⟩⟩, ⟨⟨#[97]⟩, ⟨#[84]⟩⟩, ⟨⟨#[98]⟩, ⟨#[84]⟩⟩] := fun w => (find18 25 (by decide) ⟨#[112, 105, 99, 107]⟩ (by kernel_rfl) (by decide +kernel) w).mono (by
  rintro e w' ⟨B, hB, rfl, hL, hb⟩
  exact ⟨_, _, _, _, _, _, rfl, nil_insN _ 4, lib_ins hL 56 #[.string ⟨#[115]⟩, .string ⟨#[98, 105, 110, 97, 114, 121]⟩, .string ⟨#[97]⟩, .string ⟨#[84]⟩, .string ⟨#[98]⟩, .string ⟨#[84]⟩] 65 rfl 3 2 rfl (by decide), lib_ins hL 57 #[.string ⟨#[111, 117, 116]⟩, .string ⟨#[84]⟩] 65 rfl 1 2 rfl (by decide), hb⟩)
theorem rfind_pid : RFindOk ⟨#[112, 105, 100]⟩ ⟨#[97, 110, 97, 108, 111, 103, 32, 112, 99, 116]⟩ 1 3 [⟨⟨#[107, 112]⟩, 0, 1000000000, 1000⟩, ⟨⟨#[116, 105]⟩, 0, 86400, 0⟩, ⟨⟨#[108, 111, 119]⟩, (-1000000000000), 1000000000000, 0⟩, ⟨⟨#[104, 105, 103, 104]⟩, (-1000000000000), 1000000000000, 100000⟩, ⟨⟨#[114, 101, 118, 101, 114, 115, 101]⟩, 0, 1, 0⟩] [⟨⟨#[115, 101, 116]⟩, ⟨#[85]⟩⟩, ⟨⟨#[110, 111, 119]⟩, ⟨#[85]⟩⟩, ⟨⟨#[101, 110, 97, 98, 108, 101]⟩, ⟨#[98, 105, 110, 97, 114, 121]⟩⟩] := fun w => (find18 26 (by decide) ⟨#[112, 105, 100]⟩ (by kernel_rfl) (by decide +kernel) w).mono (by
  rintro e w' ⟨B, hB, rfl, hL, hb⟩
  exact ⟨_, _, _, _, _, _, rfl, lib_ins hL 58 #[.string ⟨#[107, 112]⟩, .int .i64 0, .int .i64 1000000000, .int .i64 1000, .string ⟨#[116, 105]⟩, .int .i64 0, .int .i64 86400, .int .i64 0, .string ⟨#[108, 111, 119]⟩, .int .i64 (-1000000000000), .int .i64 1000000000000, .int .i64 0, .string ⟨#[104, 105, 103, 104]⟩, .int .i64 (-1000000000000), .int .i64 1000000000000, .int .i64 100000, .string ⟨#[114, 101, 118, 101, 114, 115, 101]⟩, .int .i64 0, .int .i64 1, .int .i64 0] 67 rfl 5 4 rfl (by decide), lib_ins hL 59 #[.string ⟨#[115, 101, 116]⟩, .string ⟨#[85]⟩, .string ⟨#[110, 111, 119]⟩, .string ⟨#[85]⟩, .string ⟨#[101, 110, 97, 98, 108, 101]⟩, .string ⟨#[98, 105, 110, 97, 114, 121]⟩] 65 rfl 3 2 rfl (by decide), lib_ins hL 60 #[.string ⟨#[111, 117, 116]⟩, .string ⟨#[97, 110, 97, 108, 111, 103, 32, 112, 99, 116]⟩] 65 rfl 1 2 rfl (by decide), hb⟩)
theorem rfind_pulse : RFindOk ⟨#[112, 117, 108, 115, 101]⟩ ⟨#[98, 105, 110, 97, 114, 121]⟩ 1 2 [⟨⟨#[116, 105, 109, 101]⟩, 0, 86400, 0⟩] [⟨⟨#[97]⟩, ⟨#[98, 105, 110, 97, 114, 121]⟩⟩] := fun w => (find18 27 (by decide) ⟨#[112, 117, 108, 115, 101]⟩ (by kernel_rfl) (by decide +kernel) w).mono (by
  rintro e w' ⟨B, hB, rfl, hL, hb⟩
  exact ⟨_, _, _, _, _, _, rfl, lib_ins hL 61 #[.string ⟨#[116, 105, 109, 101]⟩, .int .i64 0, .int .i64 86400, .int .i64 0] 67 rfl 1 4 rfl (by decide), lib_ins hL 62 #[.string ⟨#[97]⟩, .string ⟨#[98, 105, 110, 97, 114, 121]⟩] 65 rfl 1 2 rfl (by decide), lib_ins hL 63 #[.string ⟨#[111, 117, 116]⟩, .string ⟨#[98, 105, 110, 97, 114, 121]⟩] 65 rfl 1 2 rfl (by decide), hb⟩)
theorem rfind_rate : RFindOk ⟨#[114, 97, 116, 101]⟩ ⟨#[85]⟩ 1 2 [⟨⟨#[117, 112]⟩, 0, 1000000000000, 1000⟩, ⟨⟨#[100, 111, 119, 110]⟩, 0, 1000000000000, 1000⟩] [⟨⟨#[97]⟩, ⟨#[85]⟩⟩] := fun w => (find18 28 (by decide) ⟨#[114, 97, 116, 101]⟩ (by kernel_rfl) (by decide +kernel) w).mono (by
  rintro e w' ⟨B, hB, rfl, hL, hb⟩
  exact ⟨_, _, _, _, _, _, rfl, lib_ins hL 64 #[.string ⟨#[117, 112]⟩, .int .i64 0, .int .i64 1000000000000, .int .i64 1000, .string ⟨#[100, 111, 119, 110]⟩, .int .i64 0, .int .i64 1000000000000, .int .i64 1000] 67 rfl 2 4 rfl (by decide), lib_ins hL 65 #[.string ⟨#[97]⟩, .string ⟨#[85]⟩] 65 rfl 1 2 rfl (by decide), lib_ins hL 66 #[.string ⟨#[111, 117, 116]⟩, .string ⟨#[85]⟩] 65 rfl 1 2 rfl (by decide), hb⟩)
theorem rfind_stage : RFindOk ⟨#[115, 116, 97, 103, 101]⟩ ⟨#[109, 117, 108, 116, 105]⟩ 1 2 [⟨⟨#[115, 116, 97, 103, 101, 115]⟩, 1, 15, 1⟩, ⟨⟨#[117, 112]⟩, (-1000000000000), 1000000000000, 0⟩, ⟨⟨#[100, 111, 119, 110]⟩, (-1000000000000), 1000000000000, 0⟩, ⟨⟨#[117, 112, 100, 101, 108, 97, 121]⟩, 0, 86400, 0⟩, ⟨⟨#[100, 111, 119, 110, 100, 101, 108, 97, 121]⟩, 0, 86400, 0⟩] [⟨⟨#[97]⟩, ⟨#[85]⟩⟩] := fun w => (find18 29 (by decide) ⟨#[115, 116, 97, 103, 101]⟩ (by kernel_rfl) (by decide +kernel) w).mono (by
  rintro e w' ⟨B, hB, rfl, hL, hb⟩
  exact ⟨_, _, _, _, _, _, rfl, lib_ins hL 67 #[.string ⟨#[115, 116, 97, 103, 101, 115]⟩, .int .i64 1, .int .i64 15, .int .i64 1, .string ⟨#[117, 112]⟩, .int .i64 (-1000000000000), .int .i64 1000000000000, .int .i64 0, .string ⟨#[100, 111, 119, 110]⟩, .int .i64 (-1000000000000), .int .i64 1000000000000, .int .i64 0, .string ⟨#[117, 112, 100, 101, 108, 97, 121]⟩, .int .i64 0, .int .i64 86400, .int .i64 0, .string ⟨#[100, 111, 119, 110, 100, 101, 108, 97, 121]⟩, .int .i64 0, .int .i64 86400, .int .i64 0] 67 rfl 5 4 rfl (by decide), lib_ins hL 68 #[.string ⟨#[97]⟩, .string ⟨#[85]⟩] 65 rfl 1 2 rfl (by decide), lib_ins hL 69 #[.string ⟨#[111, 117, 116]⟩, .string ⟨#[109, 117, 108, 116, 105]⟩] 65 rfl 1 2 rfl (by decide), hb⟩)
theorem rfind_steps : RFindOk ⟨#[115, 116, 101, 112, 115]⟩ ⟨#[109, 117, 108, 116, 105]⟩ 1 2 [⟨⟨#[99, 111, 117, 110, 116]⟩, 1, 15, 1⟩, ⟨⟨#[108, 101, 97, 115, 116]⟩, 0, 86400, 0⟩] [⟨⟨#[103, 111]⟩, ⟨#[98, 105, 110, 97, 114, 121]⟩⟩, ⟨⟨#[110, 101, 120, 116]⟩, ⟨#[98, 105, 110, 97, 114, 121]⟩⟩] := fun w => (find18 30 (by decide) ⟨#[115, 116, 101, 112, 115]⟩ (by kernel_rfl) (by decide +kernel) w).mono (by
  rintro e w' ⟨B, hB, rfl, hL, hb⟩
  exact ⟨_, _, _, _, _, _, rfl, lib_ins hL 70 #[.string ⟨#[99, 111, 117, 110, 116]⟩, .int .i64 1, .int .i64 15, .int .i64 1, .string ⟨#[108, 101, 97, 115, 116]⟩, .int .i64 0, .int .i64 86400, .int .i64 0] 67 rfl 2 4 rfl (by decide), lib_ins hL 71 #[.string ⟨#[103, 111]⟩, .string ⟨#[98, 105, 110, 97, 114, 121]⟩, .string ⟨#[110, 101, 120, 116]⟩, .string ⟨#[98, 105, 110, 97, 114, 121]⟩] 65 rfl 2 2 rfl (by decide), lib_ins hL 72 #[.string ⟨#[111, 117, 116]⟩, .string ⟨#[109, 117, 108, 116, 105]⟩] 65 rfl 1 2 rfl (by decide), hb⟩)
theorem rfind_sub : RFindOk ⟨#[115, 117, 98]⟩ ⟨#[85]⟩ 1 0 [] [⟨⟨#[97]⟩, ⟨#[85]⟩⟩, ⟨⟨#[98]⟩, ⟨#[85]⟩⟩] := fun w => (find18 31 (by decide) ⟨#[115, 117, 98]⟩ (by kernel_rfl) (by decide +kernel) w).mono (by
  rintro e w' ⟨B, hB, rfl, hL, hb⟩
  exact ⟨_, _, _, _, _, _, rfl, nil_insN _ 4, lib_ins hL 73 #[.string ⟨#[97]⟩, .string ⟨#[85]⟩, .string ⟨#[98]⟩, .string ⟨#[85]⟩] 65 rfl 2 2 rfl (by decide), lib_ins hL 74 #[.string ⟨#[111, 117, 116]⟩, .string ⟨#[85]⟩] 65 rfl 1 2 rfl (by decide), hb⟩)
theorem rfind_xor : RFindOk ⟨#[120, 111, 114]⟩ ⟨#[98, 105, 110, 97, 114, 121]⟩ 1 0 [] [⟨⟨#[97]⟩, ⟨#[98, 105, 110, 97, 114, 121]⟩⟩, ⟨⟨#[98]⟩, ⟨#[98, 105, 110, 97, 114, 121]⟩⟩] := fun w => (find18 32 (by decide) ⟨#[120, 111, 114]⟩ (by kernel_rfl) (by decide +kernel) w).mono (by
  rintro e w' ⟨B, hB, rfl, hL, hb⟩
  exact ⟨_, _, _, _, _, _, rfl, nil_insN _ 4, lib_ins hL 75 #[.string ⟨#[97]⟩, .string ⟨#[98, 105, 110, 97, 114, 121]⟩, .string ⟨#[98]⟩, .string ⟨#[98, 105, 110, 97, 114, 121]⟩] 65 rfl 2 2 rfl (by decide), lib_ins hL 76 #[.string ⟨#[111, 117, 116]⟩, .string ⟨#[98, 105, 110, 97, 114, 121]⟩] 65 rfl 1 2 rfl (by decide), hb⟩)
/-- a name of the library: both sides' Find, and the conditions of its params -/
structure NameOk (s ro : ByteArray) (rm rs : Int) (pl : List BndD) (il : List PortD) (ag : List Int → Bool) : Prop where
  f : FindOk s ro rm rs pl il
  r : RFindOk s ro rm rs pl il
  a : AgreeOk s pl ag
  l0 : 0 < il.length
  l10 : il.length ≤ 10
  p10 : pl.length ≤ 10
  m0 : 1 ≤ rm
  m1 : rm ≤ 10
  pn : ∀ x ∈ pl, x.nm.size ≤ maxLen
  pd : ∀ x ∈ pl, x.lo ≤ x.df ∧ x.df ≤ x.hi
theorem bnd_sizes {pl : List BndD} (h : (pl.all fun x => decide (x.nm.size ≤ 20)) = true) : ∀ x ∈ pl, x.nm.size ≤ maxLen := fun x hx => by
  have := of_decide_eq_true (List.all_eq_true.1 h x hx)
  unfold maxLen; omega
theorem bnd_defs {pl : List BndD} (h : (pl.all fun x => decide (x.lo ≤ x.df) && decide (x.df ≤ x.hi)) = true) : ∀ x ∈ pl, x.lo ≤ x.df ∧ x.df ≤ x.hi := fun x hx => by
  have := List.all_eq_true.1 h x hx
  rw [Bool.and_eq_true, decide_eq_true_eq, decide_eq_true_eq] at this
  exact this
theorem nameOk_above : NameOk ⟨#[97, 98, 111, 118, 101]⟩ ⟨#[98, 105, 110, 97, 114, 121]⟩ 1 0 [] [⟨⟨#[97]⟩, ⟨#[85]⟩⟩, ⟨⟨#[98]⟩, ⟨#[85]⟩⟩] (fun _ => true) := ⟨find_above, rfind_above, (agree_above _), by decide, by decide, by decide, by decide, by decide, bnd_sizes (by decide), bnd_defs (by decide)⟩
theorem nameOk_abs : NameOk ⟨#[97, 98, 115]⟩ ⟨#[85]⟩ 1 0 [] [⟨⟨#[97]⟩, ⟨#[85]⟩⟩] (fun _ => true) := ⟨find_abs, rfind_abs, (agree_abs _), by decide, by decide, by decide, by decide, by decide, bnd_sizes (by decide), bnd_defs (by decide)⟩
theorem nameOk_add : NameOk ⟨#[97, 100, 100]⟩ ⟨#[85]⟩ 1 0 [] [⟨⟨#[97]⟩, ⟨#[85]⟩⟩, ⟨⟨#[98]⟩, ⟨#[85]⟩⟩] (fun _ => true) := ⟨find_add, rfind_add, (agree_add _), by decide, by decide, by decide, by decide, by decide, bnd_sizes (by decide), bnd_defs (by decide)⟩
theorem nameOk_and : NameOk ⟨#[97, 110, 100]⟩ ⟨#[98, 105, 110, 97, 114, 121]⟩ 7 0 [] [⟨⟨#[97]⟩, ⟨#[98, 105, 110, 97, 114, 121]⟩⟩, ⟨⟨#[98]⟩, ⟨#[98, 105, 110, 97, 114, 121]⟩⟩] (fun _ => true) := ⟨find_and, rfind_and, (agree_and _), by decide, by decide, by decide, by decide, by decide, bnd_sizes (by decide), bnd_defs (by decide)⟩
theorem nameOk_below : NameOk ⟨#[98, 101, 108, 111, 119]⟩ ⟨#[98, 105, 110, 97, 114, 121]⟩ 1 0 [] [⟨⟨#[97]⟩, ⟨#[85]⟩⟩, ⟨⟨#[98]⟩, ⟨#[85]⟩⟩] (fun _ => true) := ⟨find_below, rfind_below, (agree_below _), by decide, by decide, by decide, by decide, by decide, bnd_sizes (by decide), bnd_defs (by decide)⟩
theorem nameOk_choose : NameOk ⟨#[99, 104, 111, 111, 115, 101]⟩ ⟨#[84]⟩ 7 0 [] [⟨⟨#[109]⟩, ⟨#[109, 117, 108, 116, 105]⟩⟩, ⟨⟨#[97]⟩, ⟨#[84]⟩⟩] (fun _ => true) := ⟨find_choose, rfind_choose, (agree_choose _), by decide, by decide, by decide, by decide, by decide, bnd_sizes (by decide), bnd_defs (by decide)⟩
theorem nameOk_count : NameOk ⟨#[99, 111, 117, 110, 116]⟩ ⟨#[97, 110, 97, 108, 111, 103]⟩ 1 2 [] [⟨⟨#[97]⟩, ⟨#[98, 105, 110, 97, 114, 121]⟩⟩, ⟨⟨#[114, 101, 115, 101, 116]⟩, ⟨#[98, 105, 110, 97, 114, 121]⟩⟩] (fun _ => true) := ⟨find_count, rfind_count, (agree_count _), by decide, by decide, by decide, by decide, by decide, bnd_sizes (by decide), bnd_defs (by decide)⟩
theorem nameOk_dewpoint : NameOk ⟨#[100, 101, 119, 112, 111, 105, 110, 116]⟩ ⟨#[97, 110, 97, 108, 111, 103, 32, 100, 101, 103, 67]⟩ 1 0 [] [⟨⟨#[116]⟩, ⟨#[97, 110, 97, 108, 111, 103, 32, 100, 101, 103, 67]⟩⟩, ⟨⟨#[114, 104]⟩, ⟨#[97, 110, 97, 108, 111, 103, 32, 112, 99, 116]⟩⟩] (fun _ => true) := ⟨find_dewpoint, rfind_dewpoint, (agree_dewpoint _), by decide, by decide, by decide, by decide, by decide, bnd_sizes (by decide), bnd_defs (by decide)⟩
theorem nameOk_div : NameOk ⟨#[100, 105, 118]⟩ ⟨#[85, 47, 86]⟩ 1 0 [] [⟨⟨#[97]⟩, ⟨#[85]⟩⟩, ⟨⟨#[98]⟩, ⟨#[86]⟩⟩] (fun _ => true) := ⟨find_div, rfind_div, (agree_div _), by decide, by decide, by decide, by decide, by decide, bnd_sizes (by decide), bnd_defs (by decide)⟩
theorem nameOk_edge : NameOk ⟨#[101, 100, 103, 101]⟩ ⟨#[98, 105, 110, 97, 114, 121]⟩ 1 1 [] [⟨⟨#[97]⟩, ⟨#[98, 105, 110, 97, 114, 121]⟩⟩] (fun _ => true) := ⟨find_edge, rfind_edge, (agree_edge _), by decide, by decide, by decide, by decide, by decide, bnd_sizes (by decide), bnd_defs (by decide)⟩
theorem nameOk_enthalpy : NameOk ⟨#[101, 110, 116, 104, 97, 108, 112, 121]⟩ ⟨#[97, 110, 97, 108, 111, 103, 32, 107, 74, 47, 107, 103]⟩ 1 0 [] [⟨⟨#[116]⟩, ⟨#[97, 110, 97, 108, 111, 103, 32, 100, 101, 103, 67]⟩⟩, ⟨⟨#[114, 104]⟩, ⟨#[97, 110, 97, 108, 111, 103, 32, 112, 99, 116]⟩⟩] (fun _ => true) := ⟨find_enthalpy, rfind_enthalpy, (agree_enthalpy _), by decide, by decide, by decide, by decide, by decide, bnd_sizes (by decide), bnd_defs (by decide)⟩
theorem nameOk_hyst : NameOk ⟨#[104, 121, 115, 116]⟩ ⟨#[98, 105, 110, 97, 114, 121]⟩ 1 1 [⟨⟨#[111, 110]⟩, (-1000000000000), 1000000000000, 1000⟩, ⟨⟨#[111, 102, 102]⟩, (-1000000000000), 1000000000000, 0⟩] [⟨⟨#[97]⟩, ⟨#[85]⟩⟩] agLt := ⟨find_hyst, rfind_hyst, agree_hyst, by decide, by decide, by decide, by decide, by decide, bnd_sizes (by decide), bnd_defs (by decide)⟩
theorem nameOk_latch : NameOk ⟨#[108, 97, 116, 99, 104]⟩ ⟨#[98, 105, 110, 97, 114, 121]⟩ 1 1 [] [⟨⟨#[115, 101, 116]⟩, ⟨#[98, 105, 110, 97, 114, 121]⟩⟩, ⟨⟨#[114, 101, 115, 101, 116]⟩, ⟨#[98, 105, 110, 97, 114, 121]⟩⟩] (fun _ => true) := ⟨find_latch, rfind_latch, (agree_latch _), by decide, by decide, by decide, by decide, by decide, bnd_sizes (by decide), bnd_defs (by decide)⟩
theorem nameOk_limit : NameOk ⟨#[108, 105, 109, 105, 116]⟩ ⟨#[85]⟩ 1 0 [⟨⟨#[108, 111, 119]⟩, (-1000000000000), 1000000000000, (-1000000000000)⟩, ⟨⟨#[104, 105, 103, 104]⟩, (-1000000000000), 1000000000000, 1000000000000⟩] [⟨⟨#[97]⟩, ⟨#[85]⟩⟩] agLe := ⟨find_limit, rfind_limit, agree_limit, by decide, by decide, by decide, by decide, by decide, bnd_sizes (by decide), bnd_defs (by decide)⟩
theorem nameOk_line : NameOk ⟨#[108, 105, 110, 101]⟩ ⟨#[97, 110, 97, 108, 111, 103]⟩ 1 0 [⟨⟨#[120, 49]⟩, (-1000000000000), 1000000000000, 0⟩, ⟨⟨#[121, 49]⟩, (-1000000000000), 1000000000000, 0⟩, ⟨⟨#[120, 50]⟩, (-1000000000000), 1000000000000, 100000⟩, ⟨⟨#[121, 50]⟩, (-1000000000000), 1000000000000, 100000⟩] [⟨⟨#[97]⟩, ⟨#[85]⟩⟩] agLine := ⟨find_line, rfind_line, agree_line, by decide, by decide, by decide, by decide, by decide, bnd_sizes (by decide), bnd_defs (by decide)⟩
theorem nameOk_max : NameOk ⟨#[109, 97, 120]⟩ ⟨#[85]⟩ 1 0 [] [⟨⟨#[97]⟩, ⟨#[85]⟩⟩, ⟨⟨#[98]⟩, ⟨#[85]⟩⟩] (fun _ => true) := ⟨find_max, rfind_max, (agree_max _), by decide, by decide, by decide, by decide, by decide, bnd_sizes (by decide), bnd_defs (by decide)⟩
theorem nameOk_mean : NameOk ⟨#[109, 101, 97, 110]⟩ ⟨#[85]⟩ 7 0 [] [⟨⟨#[97]⟩, ⟨#[85]⟩⟩, ⟨⟨#[98]⟩, ⟨#[85]⟩⟩] (fun _ => true) := ⟨find_mean, rfind_mean, (agree_mean _), by decide, by decide, by decide, by decide, by decide, bnd_sizes (by decide), bnd_defs (by decide)⟩
theorem nameOk_min : NameOk ⟨#[109, 105, 110]⟩ ⟨#[85]⟩ 1 0 [] [⟨⟨#[97]⟩, ⟨#[85]⟩⟩, ⟨⟨#[98]⟩, ⟨#[85]⟩⟩] (fun _ => true) := ⟨find_min, rfind_min, (agree_min _), by decide, by decide, by decide, by decide, by decide, bnd_sizes (by decide), bnd_defs (by decide)⟩
theorem nameOk_minrun : NameOk ⟨#[109, 105, 110, 114, 117, 110]⟩ ⟨#[98, 105, 110, 97, 114, 121]⟩ 1 2 [⟨⟨#[111, 110]⟩, 0, 86400, 0⟩, ⟨⟨#[111, 102, 102]⟩, 0, 86400, 0⟩] [⟨⟨#[97]⟩, ⟨#[98, 105, 110, 97, 114, 121]⟩⟩] (fun _ => true) := ⟨find_minrun, rfind_minrun, (agree_minrun _), by decide, by decide, by decide, by decide, by decide, bnd_sizes (by decide), bnd_defs (by decide)⟩
theorem nameOk_mul : NameOk ⟨#[109, 117, 108]⟩ ⟨#[85, 42, 86]⟩ 1 0 [] [⟨⟨#[97]⟩, ⟨#[85]⟩⟩, ⟨⟨#[98]⟩, ⟨#[86]⟩⟩] (fun _ => true) := ⟨find_mul, rfind_mul, (agree_mul _), by decide, by decide, by decide, by decide, by decide, bnd_sizes (by decide), bnd_defs (by decide)⟩
theorem nameOk_neg : NameOk ⟨#[110, 101, 103]⟩ ⟨#[85]⟩ 1 0 [] [⟨⟨#[97]⟩, ⟨#[85]⟩⟩] (fun _ => true) := ⟨find_neg, rfind_neg, (agree_neg _), by decide, by decide, by decide, by decide, by decide, bnd_sizes (by decide), bnd_defs (by decide)⟩
theorem nameOk_not : NameOk ⟨#[110, 111, 116]⟩ ⟨#[98, 105, 110, 97, 114, 121]⟩ 1 0 [] [⟨⟨#[97]⟩, ⟨#[98, 105, 110, 97, 114, 121]⟩⟩] (fun _ => true) := ⟨find_not, rfind_not, (agree_not _), by decide, by decide, by decide, by decide, by decide, bnd_sizes (by decide), bnd_defs (by decide)⟩
theorem nameOk_offdelay : NameOk ⟨#[111, 102, 102, 100, 101, 108, 97, 121]⟩ ⟨#[98, 105, 110, 97, 114, 121]⟩ 1 1 [⟨⟨#[116, 105, 109, 101]⟩, 0, 86400, 0⟩] [⟨⟨#[97]⟩, ⟨#[98, 105, 110, 97, 114, 121]⟩⟩] (fun _ => true) := ⟨find_offdelay, rfind_offdelay, (agree_offdelay _), by decide, by decide, by decide, by decide, by decide, bnd_sizes (by decide), bnd_defs (by decide)⟩
theorem nameOk_ondelay : NameOk ⟨#[111, 110, 100, 101, 108, 97, 121]⟩ ⟨#[98, 105, 110, 97, 114, 121]⟩ 1 1 [⟨⟨#[116, 105, 109, 101]⟩, 0, 86400, 0⟩] [⟨⟨#[97]⟩, ⟨#[98, 105, 110, 97, 114, 121]⟩⟩] (fun _ => true) := ⟨find_ondelay, rfind_ondelay, (agree_ondelay _), by decide, by decide, by decide, by decide, by decide, bnd_sizes (by decide), bnd_defs (by decide)⟩
theorem nameOk_or : NameOk ⟨#[111, 114]⟩ ⟨#[98, 105, 110, 97, 114, 121]⟩ 7 0 [] [⟨⟨#[97]⟩, ⟨#[98, 105, 110, 97, 114, 121]⟩⟩, ⟨⟨#[98]⟩, ⟨#[98, 105, 110, 97, 114, 121]⟩⟩] (fun _ => true) := ⟨find_or, rfind_or, (agree_or _), by decide, by decide, by decide, by decide, by decide, bnd_sizes (by decide), bnd_defs (by decide)⟩
theorem nameOk_pick : NameOk ⟨#[112, 105, 99, 107]⟩ ⟨#[84]⟩ 1 0 [] [⟨⟨#[115]⟩, ⟨#[98, 105, 110, 97, 114, 121]⟩⟩, ⟨⟨#[97]⟩, ⟨#[84]⟩⟩, ⟨⟨#[98]⟩, ⟨#[84]⟩⟩] (fun _ => true) := ⟨find_pick, rfind_pick, (agree_pick _), by decide, by decide, by decide, by decide, by decide, bnd_sizes (by decide), bnd_defs (by decide)⟩
theorem nameOk_pid : NameOk ⟨#[112, 105, 100]⟩ ⟨#[97, 110, 97, 108, 111, 103, 32, 112, 99, 116]⟩ 1 3 [⟨⟨#[107, 112]⟩, 0, 1000000000, 1000⟩, ⟨⟨#[116, 105]⟩, 0, 86400, 0⟩, ⟨⟨#[108, 111, 119]⟩, (-1000000000000), 1000000000000, 0⟩, ⟨⟨#[104, 105, 103, 104]⟩, (-1000000000000), 1000000000000, 100000⟩, ⟨⟨#[114, 101, 118, 101, 114, 115, 101]⟩, 0, 1, 0⟩] [⟨⟨#[115, 101, 116]⟩, ⟨#[85]⟩⟩, ⟨⟨#[110, 111, 119]⟩, ⟨#[85]⟩⟩, ⟨⟨#[101, 110, 97, 98, 108, 101]⟩, ⟨#[98, 105, 110, 97, 114, 121]⟩⟩] agPid := ⟨find_pid, rfind_pid, agree_pid, by decide, by decide, by decide, by decide, by decide, bnd_sizes (by decide), bnd_defs (by decide)⟩
theorem nameOk_pulse : NameOk ⟨#[112, 117, 108, 115, 101]⟩ ⟨#[98, 105, 110, 97, 114, 121]⟩ 1 2 [⟨⟨#[116, 105, 109, 101]⟩, 0, 86400, 0⟩] [⟨⟨#[97]⟩, ⟨#[98, 105, 110, 97, 114, 121]⟩⟩] (fun _ => true) := ⟨find_pulse, rfind_pulse, (agree_pulse _), by decide, by decide, by decide, by decide, by decide, bnd_sizes (by decide), bnd_defs (by decide)⟩
theorem nameOk_rate : NameOk ⟨#[114, 97, 116, 101]⟩ ⟨#[85]⟩ 1 2 [⟨⟨#[117, 112]⟩, 0, 1000000000000, 1000⟩, ⟨⟨#[100, 111, 119, 110]⟩, 0, 1000000000000, 1000⟩] [⟨⟨#[97]⟩, ⟨#[85]⟩⟩] (fun _ => true) := ⟨find_rate, rfind_rate, (agree_rate _), by decide, by decide, by decide, by decide, by decide, bnd_sizes (by decide), bnd_defs (by decide)⟩
theorem nameOk_stage : NameOk ⟨#[115, 116, 97, 103, 101]⟩ ⟨#[109, 117, 108, 116, 105]⟩ 1 2 [⟨⟨#[115, 116, 97, 103, 101, 115]⟩, 1, 15, 1⟩, ⟨⟨#[117, 112]⟩, (-1000000000000), 1000000000000, 0⟩, ⟨⟨#[100, 111, 119, 110]⟩, (-1000000000000), 1000000000000, 0⟩, ⟨⟨#[117, 112, 100, 101, 108, 97, 121]⟩, 0, 86400, 0⟩, ⟨⟨#[100, 111, 119, 110, 100, 101, 108, 97, 121]⟩, 0, 86400, 0⟩] [⟨⟨#[97]⟩, ⟨#[85]⟩⟩] (fun _ => true) := ⟨find_stage, rfind_stage, (agree_stage _), by decide, by decide, by decide, by decide, by decide, bnd_sizes (by decide), bnd_defs (by decide)⟩
theorem nameOk_steps : NameOk ⟨#[115, 116, 101, 112, 115]⟩ ⟨#[109, 117, 108, 116, 105]⟩ 1 2 [⟨⟨#[99, 111, 117, 110, 116]⟩, 1, 15, 1⟩, ⟨⟨#[108, 101, 97, 115, 116]⟩, 0, 86400, 0⟩] [⟨⟨#[103, 111]⟩, ⟨#[98, 105, 110, 97, 114, 121]⟩⟩, ⟨⟨#[110, 101, 120, 116]⟩, ⟨#[98, 105, 110, 97, 114, 121]⟩⟩] (fun _ => true) := ⟨find_steps, rfind_steps, (agree_steps _), by decide, by decide, by decide, by decide, by decide, bnd_sizes (by decide), bnd_defs (by decide)⟩
theorem nameOk_sub : NameOk ⟨#[115, 117, 98]⟩ ⟨#[85]⟩ 1 0 [] [⟨⟨#[97]⟩, ⟨#[85]⟩⟩, ⟨⟨#[98]⟩, ⟨#[85]⟩⟩] (fun _ => true) := ⟨find_sub, rfind_sub, (agree_sub _), by decide, by decide, by decide, by decide, by decide, bnd_sizes (by decide), bnd_defs (by decide)⟩
theorem nameOk_xor : NameOk ⟨#[120, 111, 114]⟩ ⟨#[98, 105, 110, 97, 114, 121]⟩ 1 0 [] [⟨⟨#[97]⟩, ⟨#[98, 105, 110, 97, 114, 121]⟩⟩, ⟨⟨#[98]⟩, ⟨#[98, 105, 110, 97, 114, 121]⟩⟩] (fun _ => true) := ⟨find_xor, rfind_xor, (agree_xor _), by decide, by decide, by decide, by decide, by decide, bnd_sizes (by decide), bnd_defs (by decide)⟩
/-- every text is a name of the library, or none -/
theorem all_names (s : ByteArray) : (∃ ro rm rs pl il ag, NameOk s ro rm rs pl il ag) ∨ ((∀ j, j < 33 → ¬ (rowAt j).nm = s) ∧ (∀ j, j < 33 → ¬ (rowR j).nm = s)) := by
  by_cases h0 : s = ⟨#[97, 98, 111, 118, 101]⟩
  · subst h0; exact .inl ⟨_, _, _, _, _, _, nameOk_above⟩
  by_cases h1 : s = ⟨#[97, 98, 115]⟩
  · subst h1; exact .inl ⟨_, _, _, _, _, _, nameOk_abs⟩
  by_cases h2 : s = ⟨#[97, 100, 100]⟩
  · subst h2; exact .inl ⟨_, _, _, _, _, _, nameOk_add⟩
  by_cases h3 : s = ⟨#[97, 110, 100]⟩
  · subst h3; exact .inl ⟨_, _, _, _, _, _, nameOk_and⟩
  by_cases h4 : s = ⟨#[98, 101, 108, 111, 119]⟩
  · subst h4; exact .inl ⟨_, _, _, _, _, _, nameOk_below⟩
  by_cases h5 : s = ⟨#[99, 104, 111, 111, 115, 101]⟩
  · subst h5; exact .inl ⟨_, _, _, _, _, _, nameOk_choose⟩
  by_cases h6 : s = ⟨#[99, 111, 117, 110, 116]⟩
  · subst h6; exact .inl ⟨_, _, _, _, _, _, nameOk_count⟩
  by_cases h7 : s = ⟨#[100, 101, 119, 112, 111, 105, 110, 116]⟩
  · subst h7; exact .inl ⟨_, _, _, _, _, _, nameOk_dewpoint⟩
  by_cases h8 : s = ⟨#[100, 105, 118]⟩
  · subst h8; exact .inl ⟨_, _, _, _, _, _, nameOk_div⟩
  by_cases h9 : s = ⟨#[101, 100, 103, 101]⟩
  · subst h9; exact .inl ⟨_, _, _, _, _, _, nameOk_edge⟩
  by_cases h10 : s = ⟨#[101, 110, 116, 104, 97, 108, 112, 121]⟩
  · subst h10; exact .inl ⟨_, _, _, _, _, _, nameOk_enthalpy⟩
  by_cases h11 : s = ⟨#[104, 121, 115, 116]⟩
  · subst h11; exact .inl ⟨_, _, _, _, _, _, nameOk_hyst⟩
  by_cases h12 : s = ⟨#[108, 97, 116, 99, 104]⟩
  · subst h12; exact .inl ⟨_, _, _, _, _, _, nameOk_latch⟩
  by_cases h13 : s = ⟨#[108, 105, 109, 105, 116]⟩
  · subst h13; exact .inl ⟨_, _, _, _, _, _, nameOk_limit⟩
  by_cases h14 : s = ⟨#[108, 105, 110, 101]⟩
  · subst h14; exact .inl ⟨_, _, _, _, _, _, nameOk_line⟩
  by_cases h15 : s = ⟨#[109, 97, 120]⟩
  · subst h15; exact .inl ⟨_, _, _, _, _, _, nameOk_max⟩
  by_cases h16 : s = ⟨#[109, 101, 97, 110]⟩
  · subst h16; exact .inl ⟨_, _, _, _, _, _, nameOk_mean⟩
  by_cases h17 : s = ⟨#[109, 105, 110]⟩
  · subst h17; exact .inl ⟨_, _, _, _, _, _, nameOk_min⟩
  by_cases h18 : s = ⟨#[109, 105, 110, 114, 117, 110]⟩
  · subst h18; exact .inl ⟨_, _, _, _, _, _, nameOk_minrun⟩
  by_cases h19 : s = ⟨#[109, 117, 108]⟩
  · subst h19; exact .inl ⟨_, _, _, _, _, _, nameOk_mul⟩
  by_cases h20 : s = ⟨#[110, 101, 103]⟩
  · subst h20; exact .inl ⟨_, _, _, _, _, _, nameOk_neg⟩
  by_cases h21 : s = ⟨#[110, 111, 116]⟩
  · subst h21; exact .inl ⟨_, _, _, _, _, _, nameOk_not⟩
  by_cases h22 : s = ⟨#[111, 102, 102, 100, 101, 108, 97, 121]⟩
  · subst h22; exact .inl ⟨_, _, _, _, _, _, nameOk_offdelay⟩
  by_cases h23 : s = ⟨#[111, 110, 100, 101, 108, 97, 121]⟩
  · subst h23; exact .inl ⟨_, _, _, _, _, _, nameOk_ondelay⟩
  by_cases h24 : s = ⟨#[111, 114]⟩
  · subst h24; exact .inl ⟨_, _, _, _, _, _, nameOk_or⟩
  by_cases h25 : s = ⟨#[112, 105, 99, 107]⟩
  · subst h25; exact .inl ⟨_, _, _, _, _, _, nameOk_pick⟩
  by_cases h26 : s = ⟨#[112, 105, 100]⟩
  · subst h26; exact .inl ⟨_, _, _, _, _, _, nameOk_pid⟩
  by_cases h27 : s = ⟨#[112, 117, 108, 115, 101]⟩
  · subst h27; exact .inl ⟨_, _, _, _, _, _, nameOk_pulse⟩
  by_cases h28 : s = ⟨#[114, 97, 116, 101]⟩
  · subst h28; exact .inl ⟨_, _, _, _, _, _, nameOk_rate⟩
  by_cases h29 : s = ⟨#[115, 116, 97, 103, 101]⟩
  · subst h29; exact .inl ⟨_, _, _, _, _, _, nameOk_stage⟩
  by_cases h30 : s = ⟨#[115, 116, 101, 112, 115]⟩
  · subst h30; exact .inl ⟨_, _, _, _, _, _, nameOk_steps⟩
  by_cases h31 : s = ⟨#[115, 117, 98]⟩
  · subst h31; exact .inl ⟨_, _, _, _, _, _, nameOk_sub⟩
  by_cases h32 : s = ⟨#[120, 111, 114]⟩
  · subst h32; exact .inl ⟨_, _, _, _, _, _, nameOk_xor⟩
  refine .inr ⟨?_, ?_⟩
  · intro j hj e
    have hk : j = 0 ∨ j = 1 ∨ j = 2 ∨ j = 3 ∨ j = 4 ∨ j = 5 ∨ j = 6 ∨ j = 7 ∨ j = 8 ∨ j = 9 ∨ j = 10 ∨ j = 11 ∨ j = 12 ∨ j = 13 ∨ j = 14 ∨ j = 15 ∨ j = 16 ∨ j = 17 ∨ j = 18 ∨ j = 19 ∨ j = 20 ∨ j = 21 ∨ j = 22 ∨ j = 23 ∨ j = 24 ∨ j = 25 ∨ j = 26 ∨ j = 27 ∨ j = 28 ∨ j = 29 ∨ j = 30 ∨ j = 31 ∨ j = 32 := by omega
    rcases hk with rfl | rfl | rfl | rfl | rfl | rfl | rfl | rfl | rfl | rfl | rfl | rfl | rfl | rfl | rfl | rfl | rfl | rfl | rfl | rfl | rfl | rfl | rfl | rfl | rfl | rfl | rfl | rfl | rfl | rfl | rfl | rfl | rfl
    · exact h0 (e.symm.trans (show (rowAt 0).nm = ⟨#[97, 98, 111, 118, 101]⟩ by kernel_rfl))
    · exact h1 (e.symm.trans (show (rowAt 1).nm = ⟨#[97, 98, 115]⟩ by kernel_rfl))
    · exact h2 (e.symm.trans (show (rowAt 2).nm = ⟨#[97, 100, 100]⟩ by kernel_rfl))
    · exact h3 (e.symm.trans (show (rowAt 3).nm = ⟨#[97, 110, 100]⟩ by kernel_rfl))
    · exact h4 (e.symm.trans (show (rowAt 4).nm = ⟨#[98, 101, 108, 111, 119]⟩ by kernel_rfl))
    · exact h5 (e.symm.trans (show (rowAt 5).nm = ⟨#[99, 104, 111, 111, 115, 101]⟩ by kernel_rfl))
    · exact h6 (e.symm.trans (show (rowAt 6).nm = ⟨#[99, 111, 117, 110, 116]⟩ by kernel_rfl))
    · exact h7 (e.symm.trans (show (rowAt 7).nm = ⟨#[100, 101, 119, 112, 111, 105, 110, 116]⟩ by kernel_rfl))
    · exact h8 (e.symm.trans (show (rowAt 8).nm = ⟨#[100, 105, 118]⟩ by kernel_rfl))
    · exact h9 (e.symm.trans (show (rowAt 9).nm = ⟨#[101, 100, 103, 101]⟩ by kernel_rfl))
    · exact h10 (e.symm.trans (show (rowAt 10).nm = ⟨#[101, 110, 116, 104, 97, 108, 112, 121]⟩ by kernel_rfl))
    · exact h11 (e.symm.trans (show (rowAt 11).nm = ⟨#[104, 121, 115, 116]⟩ by kernel_rfl))
    · exact h12 (e.symm.trans (show (rowAt 12).nm = ⟨#[108, 97, 116, 99, 104]⟩ by kernel_rfl))
    · exact h13 (e.symm.trans (show (rowAt 13).nm = ⟨#[108, 105, 109, 105, 116]⟩ by kernel_rfl))
    · exact h14 (e.symm.trans (show (rowAt 14).nm = ⟨#[108, 105, 110, 101]⟩ by kernel_rfl))
    · exact h15 (e.symm.trans (show (rowAt 15).nm = ⟨#[109, 97, 120]⟩ by kernel_rfl))
    · exact h16 (e.symm.trans (show (rowAt 16).nm = ⟨#[109, 101, 97, 110]⟩ by kernel_rfl))
    · exact h17 (e.symm.trans (show (rowAt 17).nm = ⟨#[109, 105, 110]⟩ by kernel_rfl))
    · exact h18 (e.symm.trans (show (rowAt 18).nm = ⟨#[109, 105, 110, 114, 117, 110]⟩ by kernel_rfl))
    · exact h19 (e.symm.trans (show (rowAt 19).nm = ⟨#[109, 117, 108]⟩ by kernel_rfl))
    · exact h20 (e.symm.trans (show (rowAt 20).nm = ⟨#[110, 101, 103]⟩ by kernel_rfl))
    · exact h21 (e.symm.trans (show (rowAt 21).nm = ⟨#[110, 111, 116]⟩ by kernel_rfl))
    · exact h22 (e.symm.trans (show (rowAt 22).nm = ⟨#[111, 102, 102, 100, 101, 108, 97, 121]⟩ by kernel_rfl))
    · exact h23 (e.symm.trans (show (rowAt 23).nm = ⟨#[111, 110, 100, 101, 108, 97, 121]⟩ by kernel_rfl))
    · exact h24 (e.symm.trans (show (rowAt 24).nm = ⟨#[111, 114]⟩ by kernel_rfl))
    · exact h25 (e.symm.trans (show (rowAt 25).nm = ⟨#[112, 105, 99, 107]⟩ by kernel_rfl))
    · exact h26 (e.symm.trans (show (rowAt 26).nm = ⟨#[112, 105, 100]⟩ by kernel_rfl))
    · exact h27 (e.symm.trans (show (rowAt 27).nm = ⟨#[112, 117, 108, 115, 101]⟩ by kernel_rfl))
    · exact h28 (e.symm.trans (show (rowAt 28).nm = ⟨#[114, 97, 116, 101]⟩ by kernel_rfl))
    · exact h29 (e.symm.trans (show (rowAt 29).nm = ⟨#[115, 116, 97, 103, 101]⟩ by kernel_rfl))
    · exact h30 (e.symm.trans (show (rowAt 30).nm = ⟨#[115, 116, 101, 112, 115]⟩ by kernel_rfl))
    · exact h31 (e.symm.trans (show (rowAt 31).nm = ⟨#[115, 117, 98]⟩ by kernel_rfl))
    · exact h32 (e.symm.trans (show (rowAt 32).nm = ⟨#[120, 111, 114]⟩ by kernel_rfl))
  · intro j hj e
    have hk : j = 0 ∨ j = 1 ∨ j = 2 ∨ j = 3 ∨ j = 4 ∨ j = 5 ∨ j = 6 ∨ j = 7 ∨ j = 8 ∨ j = 9 ∨ j = 10 ∨ j = 11 ∨ j = 12 ∨ j = 13 ∨ j = 14 ∨ j = 15 ∨ j = 16 ∨ j = 17 ∨ j = 18 ∨ j = 19 ∨ j = 20 ∨ j = 21 ∨ j = 22 ∨ j = 23 ∨ j = 24 ∨ j = 25 ∨ j = 26 ∨ j = 27 ∨ j = 28 ∨ j = 29 ∨ j = 30 ∨ j = 31 ∨ j = 32 := by omega
    rcases hk with rfl | rfl | rfl | rfl | rfl | rfl | rfl | rfl | rfl | rfl | rfl | rfl | rfl | rfl | rfl | rfl | rfl | rfl | rfl | rfl | rfl | rfl | rfl | rfl | rfl | rfl | rfl | rfl | rfl | rfl | rfl | rfl | rfl
    · exact h0 (e.symm.trans (show (rowR 0).nm = ⟨#[97, 98, 111, 118, 101]⟩ by kernel_rfl))
    · exact h1 (e.symm.trans (show (rowR 1).nm = ⟨#[97, 98, 115]⟩ by kernel_rfl))
    · exact h2 (e.symm.trans (show (rowR 2).nm = ⟨#[97, 100, 100]⟩ by kernel_rfl))
    · exact h3 (e.symm.trans (show (rowR 3).nm = ⟨#[97, 110, 100]⟩ by kernel_rfl))
    · exact h4 (e.symm.trans (show (rowR 4).nm = ⟨#[98, 101, 108, 111, 119]⟩ by kernel_rfl))
    · exact h5 (e.symm.trans (show (rowR 5).nm = ⟨#[99, 104, 111, 111, 115, 101]⟩ by kernel_rfl))
    · exact h6 (e.symm.trans (show (rowR 6).nm = ⟨#[99, 111, 117, 110, 116]⟩ by kernel_rfl))
    · exact h7 (e.symm.trans (show (rowR 7).nm = ⟨#[100, 101, 119, 112, 111, 105, 110, 116]⟩ by kernel_rfl))
    · exact h8 (e.symm.trans (show (rowR 8).nm = ⟨#[100, 105, 118]⟩ by kernel_rfl))
    · exact h9 (e.symm.trans (show (rowR 9).nm = ⟨#[101, 100, 103, 101]⟩ by kernel_rfl))
    · exact h10 (e.symm.trans (show (rowR 10).nm = ⟨#[101, 110, 116, 104, 97, 108, 112, 121]⟩ by kernel_rfl))
    · exact h11 (e.symm.trans (show (rowR 11).nm = ⟨#[104, 121, 115, 116]⟩ by kernel_rfl))
    · exact h12 (e.symm.trans (show (rowR 12).nm = ⟨#[108, 97, 116, 99, 104]⟩ by kernel_rfl))
    · exact h13 (e.symm.trans (show (rowR 13).nm = ⟨#[108, 105, 109, 105, 116]⟩ by kernel_rfl))
    · exact h14 (e.symm.trans (show (rowR 14).nm = ⟨#[108, 105, 110, 101]⟩ by kernel_rfl))
    · exact h15 (e.symm.trans (show (rowR 15).nm = ⟨#[109, 97, 120]⟩ by kernel_rfl))
    · exact h16 (e.symm.trans (show (rowR 16).nm = ⟨#[109, 101, 97, 110]⟩ by kernel_rfl))
    · exact h17 (e.symm.trans (show (rowR 17).nm = ⟨#[109, 105, 110]⟩ by kernel_rfl))
    · exact h18 (e.symm.trans (show (rowR 18).nm = ⟨#[109, 105, 110, 114, 117, 110]⟩ by kernel_rfl))
    · exact h19 (e.symm.trans (show (rowR 19).nm = ⟨#[109, 117, 108]⟩ by kernel_rfl))
    · exact h20 (e.symm.trans (show (rowR 20).nm = ⟨#[110, 101, 103]⟩ by kernel_rfl))
    · exact h21 (e.symm.trans (show (rowR 21).nm = ⟨#[110, 111, 116]⟩ by kernel_rfl))
    · exact h22 (e.symm.trans (show (rowR 22).nm = ⟨#[111, 102, 102, 100, 101, 108, 97, 121]⟩ by kernel_rfl))
    · exact h23 (e.symm.trans (show (rowR 23).nm = ⟨#[111, 110, 100, 101, 108, 97, 121]⟩ by kernel_rfl))
    · exact h24 (e.symm.trans (show (rowR 24).nm = ⟨#[111, 114]⟩ by kernel_rfl))
    · exact h25 (e.symm.trans (show (rowR 25).nm = ⟨#[112, 105, 99, 107]⟩ by kernel_rfl))
    · exact h26 (e.symm.trans (show (rowR 26).nm = ⟨#[112, 105, 100]⟩ by kernel_rfl))
    · exact h27 (e.symm.trans (show (rowR 27).nm = ⟨#[112, 117, 108, 115, 101]⟩ by kernel_rfl))
    · exact h28 (e.symm.trans (show (rowR 28).nm = ⟨#[114, 97, 116, 101]⟩ by kernel_rfl))
    · exact h29 (e.symm.trans (show (rowR 29).nm = ⟨#[115, 116, 97, 103, 101]⟩ by kernel_rfl))
    · exact h30 (e.symm.trans (show (rowR 30).nm = ⟨#[115, 116, 101, 112, 115]⟩ by kernel_rfl))
    · exact h31 (e.symm.trans (show (rowR 31).nm = ⟨#[115, 117, 98]⟩ by kernel_rfl))
    · exact h32 (e.symm.trans (show (rowR 32).nm = ⟨#[120, 111, 114]⟩ by kernel_rfl))
end Go.Proofs.YtaobbedajgkmiaaDoor
