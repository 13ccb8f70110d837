/- Contract of hasLine where it answers yes. -/
import Derived.Test.YtojbhbifbennfaaR
import Derived.Test.YtojbhbifbennfaaE
namespace Go.Proofs.Ytojbhbifbennfaa
open Go.RowKit Go.Shelf


set_option maxHeartbeats 4000000 in
set_option maxRecDepth 100000 in
theorem hasLine_yes (nm : ByteArray) (pa : Option Addr) (pc : Nat) (ns : List ByteArray) (dd : Int) (w : World) (h1 : 2 ≤ ns.length) (h2 : ns.length ≤ 16) (h3 : dB dd = true) (h4 : hasNamesB nm ns = true) (h5 : distB ns = true) (hsz : ∀ s ∈ ns, s.size ≤ maxLen) (hin : InS w pa ns.length 1 (flat stL ns)) : Calls Try.prog 66 #[.agg #[.string nm, .slice pa ns.length pc, .int .i64 dd]] w fun e w' => e = .returned (.bool true) ∧ Below w.heap.size w w' := by
  have hde := fun w => dead_any dd w
  rw [h3] at hde
  have hna := fun (W' : World) (hb : Below w.heap.size w W') => hasNames_any nm pa pc ns dd W' (hin.keep hb)
  rw [h4] at hna
  have hdi := fun (W' : World) (hb : Below w.heap.size w W') => distinct_any pa pc ns W' (by omega) hsz (hin.keep hb)
  rw [h5] at hdi
  have HDE := Lib.hid hde
  obtain ⟨N, hN⟩ : ∃ N, N = ns.length := ⟨_, rfl⟩
  rw [← hN] at hna hdi h1 h2 ⊢
  have HNA := Lib.hid hna
  have HDI := Lib.hid hdi
  obtain ⟨W, g, hW, hg, R1, B, sz⟩ := box1 w #[.string nm, .slice pa N pc, .int .i64 dd] 33
  have HB0 := Lib.hid B
  have HG0 := Lib.hid R1
  have k1 : (2 : Int) ≤ (N : Int) := by omega
  have k2 : (N : Int) ≤ 16 := by omega
  clear hde hna hdi R1 B sz hin hN hsz h1 h2 h3 h4 h5
  go_enter Try.func66, Try.ntmps66
  go_upto_region 1 with fail
  rw [← hW]
  try rw [← hg]
  clear hW hg
  have g_0 := HG0.out.c 0 _ rfl
  have g_1 := HG0.out.c 1 _ rfl
  have g_2 := HG0.out.c 2 _ rfl
  go_wp2_with fail
  refine (HDE.out _).mono ?_
  rintro e w1 ⟨rfl, hb⟩
  have HG1 := Lib.hid (HG0.out.keep hb)
  have HB1 := Lib.hid (HB0.out.trans (hb.mono HB0.out.size))
  clear hb g_0 g_1 g_2
  have g_0 := HG1.out.c 0 _ rfl
  have g_1 := HG1.out.c 1 _ rfl
  have g_2 := HG1.out.c 2 _ rfl
  go_wp2_with fail
  refine (HNA.out _ HB1.out).mono ?_
  rintro e w2 ⟨rfl, hb⟩
  have HG2 := Lib.hid (HG1.out.keep hb)
  have HB2 := Lib.hid (HB1.out.trans (hb.mono HB1.out.size))
  clear hb g_0 g_1 g_2
  have g_0 := HG2.out.c 0 _ rfl
  have g_1 := HG2.out.c 1 _ rfl
  have g_2 := HG2.out.c 2 _ rfl
  go_wp2_with fail
  refine (HDI.out _ HB2.out).mono ?_
  rintro e w3 ⟨rfl, hb⟩
  have HB3 := Lib.hid (HB2.out.trans (hb.mono HB2.out.size))
  clear hb
  go_wp2_with fail
  go_ret
  exact ⟨rfl, HB3.out⟩
def fansL : List ByteArray := [⟨#[97]⟩, ⟨#[98]⟩, ⟨#[99]⟩]
theorem fans_names : hasNamesB ⟨#[102, 97, 110, 115]⟩ fansL = true := by kernel_rfl
theorem fans_dist : distB fansL = true := by kernel_rfl
theorem fans_dead : dB 10 = true := by kernel_rfl
end Go.Proofs.Ytojbhbifbennfaa
