/- Contracts of block.bounds at the names of the timer's blocks, and at hyst, limit, line. -/
import Derived.Test.YtaobbedajgkmiaaDoorBa
import Derived.Laws.OwnMore
import Derived.Laws.EntriesVeiled
import Derived.Deep.CutBlock
namespace Go.Proofs.YtaobbedajgkmiaaDoor
open Go.RowKit Go.Shelf

/-- a parameter: name, least, greatest, usual number -/
structure BndD where
  nm : ByteArray
  lo : Int
  hi : Int
  df : Int
def bndL (x : BndD) : List Value := [.string x.nm, .int .i64 x.lo, .int .i64 x.hi, .int .i64 x.df]
theorem bndL_len (x : BndD) : (bndL x).length = 4 := rfl
theorem bound1_any (nm : ByteArray) (lo hi df : Int) (w : World) : Calls Tryd.prog 76 #[.string nm, .int .i64 lo, .int .i64 hi, .int .i64 df] w fun e w' => e = .returned (.agg #[.string nm, .int .i64 lo, .int .i64 hi, .int .i64 df]) ∧ Below w.heap.size w w' := by
  go_enter Tryd.func76, Tryd.ntmps76
  go_wp2_with fail
  obtain ⟨W, g, hW, hg, s, B, sz⟩ := box1 w #[.string nm, .int .i64 lo, .int .i64 hi, .int .i64 df] 67
  rw [← hW]
  try rw [← hg]
  have y0 := s.c 0 _ rfl
  have y1 := s.c 1 _ rfl
  have y2 := s.c 2 _ rfl
  have y3 := s.c 3 _ rfl
  refine bodyPost_ret (by simp [results, Tryd.results76, go_sem, y0, y1, y2, y3]; try rfl) rfl ?_
  exact ⟨rfl, by rw [hg]; exact B⟩
set_option maxHeartbeats 1000000 in
theorem number_any (nm : ByteArray) (df : Int) (c : Nat) (w : World) (hc : RowAt w c [.func (.func 76) #[] #[]]) : Calls Tryd.prog 77 #[.string nm, .int .i64 df, .pointer (some ⟨c, 0, none⟩)] w fun e w' => e = .returned (.agg #[.string nm, .int .i64 (-1000000000000), .int .i64 1000000000000, .int .i64 df]) ∧ Below w.heap.size w w' := by
  obtain ⟨W, g, hW, hg, s, B, sz⟩ := box1 w #[.string ⟨#[]⟩, .int .i64 0, .int .i64 0, .int .i64 0] 67
  have HB := Lib.hid B
  have HR := Lib.hid s
  have HC := Lib.hid (hc.keep B)
  have HWG := Lib.hid (show w.heap.size ≤ g by omega)
  go_enter Tryd.func77, Tryd.ntmps77
  go_upto_region 1 with fail
  rw [← hW]
  try rw [← hg]
  clear hW hg s B sz hc
  have h1 := HC.out.c 0 _ rfl
  go_wp2_with fail
  refine (bound1_any _ _ _ _ _).mono ?_
  rintro e w1 ⟨rfl, hb⟩
  have HR1 := Lib.hid (HR.out.keep hb)
  have HB1 := Lib.hid (HB.out.trans (hb.mono HB.out.size))
  clear h1 hb
  have r_0 := HR1.out.c 0 _ rfl
  have r_1 := HR1.out.c 1 _ rfl
  have r_2 := HR1.out.c 2 _ rfl
  have r_3 := HR1.out.c 3 _ rfl
  have r_z := HR1.out.fz
  go_wp2_with fail
  have hs := HR1.out.setRow [.string nm, .int .i64 (-1000000000000), .int .i64 1000000000000, .int .i64 df] rfl
  have y0 : ((((w1.setCell ⟨g, 0, none⟩ (.string nm)).setCell ⟨g, 1, none⟩ (.int .i64 (-1000000000000))).setCell ⟨g, 2, none⟩ (.int .i64 1000000000000)).setCell ⟨g, 3, none⟩ (.int .i64 df)).cell? ⟨g, 0, none⟩ = some (.string nm) := hs.c 0 _ rfl
  have y1 : ((((w1.setCell ⟨g, 0, none⟩ (.string nm)).setCell ⟨g, 1, none⟩ (.int .i64 (-1000000000000))).setCell ⟨g, 2, none⟩ (.int .i64 1000000000000)).setCell ⟨g, 3, none⟩ (.int .i64 df)).cell? ⟨g, 1, none⟩ = some (.int .i64 (-1000000000000)) := hs.c 1 _ rfl
  have y2 : ((((w1.setCell ⟨g, 0, none⟩ (.string nm)).setCell ⟨g, 1, none⟩ (.int .i64 (-1000000000000))).setCell ⟨g, 2, none⟩ (.int .i64 1000000000000)).setCell ⟨g, 3, none⟩ (.int .i64 df)).cell? ⟨g, 2, none⟩ = some (.int .i64 1000000000000) := hs.c 2 _ rfl
  have y3 : ((((w1.setCell ⟨g, 0, none⟩ (.string nm)).setCell ⟨g, 1, none⟩ (.int .i64 (-1000000000000))).setCell ⟨g, 2, none⟩ (.int .i64 1000000000000)).setCell ⟨g, 3, none⟩ (.int .i64 df)).cell? ⟨g, 3, none⟩ = some (.int .i64 df) := hs.c 3 _ rfl
  refine bodyPost_ret (by simp [results, Tryd.results77, go_sem, y0, y1, y2, y3]; try rfl) rfl ?_
  exact ⟨rfl, set_below HB1.out HWG.out [.string nm, .int .i64 (-1000000000000), .int .i64 1000000000000, .int .i64 df]⟩
set_option maxHeartbeats 1000000 in
theorem seconds_any (nm : ByteArray) (c : Nat) (w : World) (hc : RowAt w c [.func (.func 76) #[] #[]]) : Calls Tryd.prog 78 #[.string nm, .pointer (some ⟨c, 0, none⟩)] w fun e w' => e = .returned (.agg #[.string nm, .int .i64 0, .int .i64 86400, .int .i64 0]) ∧ Below w.heap.size w w' := by
  obtain ⟨W, g, hW, hg, s, B, sz⟩ := box1 w #[.string ⟨#[]⟩, .int .i64 0, .int .i64 0, .int .i64 0] 67
  have HB := Lib.hid B
  have HR := Lib.hid s
  have HC := Lib.hid (hc.keep B)
  have HWG := Lib.hid (show w.heap.size ≤ g by omega)
  go_enter Tryd.func78, Tryd.ntmps78
  go_upto_region 1 with fail
  rw [← hW]
  try rw [← hg]
  clear hW hg s B sz hc
  have h1 := HC.out.c 0 _ rfl
  go_wp2_with fail
  refine (bound1_any _ _ _ _ _).mono ?_
  rintro e w1 ⟨rfl, hb⟩
  have HR1 := Lib.hid (HR.out.keep hb)
  have HB1 := Lib.hid (HB.out.trans (hb.mono HB.out.size))
  clear h1 hb
  have r_0 := HR1.out.c 0 _ rfl
  have r_1 := HR1.out.c 1 _ rfl
  have r_2 := HR1.out.c 2 _ rfl
  have r_3 := HR1.out.c 3 _ rfl
  have r_z := HR1.out.fz
  go_wp2_with fail
  have hs := HR1.out.setRow [.string nm, .int .i64 0, .int .i64 86400, .int .i64 0] rfl
  have y0 : ((((w1.setCell ⟨g, 0, none⟩ (.string nm)).setCell ⟨g, 1, none⟩ (.int .i64 0)).setCell ⟨g, 2, none⟩ (.int .i64 86400)).setCell ⟨g, 3, none⟩ (.int .i64 0)).cell? ⟨g, 0, none⟩ = some (.string nm) := hs.c 0 _ rfl
  have y1 : ((((w1.setCell ⟨g, 0, none⟩ (.string nm)).setCell ⟨g, 1, none⟩ (.int .i64 0)).setCell ⟨g, 2, none⟩ (.int .i64 86400)).setCell ⟨g, 3, none⟩ (.int .i64 0)).cell? ⟨g, 1, none⟩ = some (.int .i64 0) := hs.c 1 _ rfl
  have y2 : ((((w1.setCell ⟨g, 0, none⟩ (.string nm)).setCell ⟨g, 1, none⟩ (.int .i64 0)).setCell ⟨g, 2, none⟩ (.int .i64 86400)).setCell ⟨g, 3, none⟩ (.int .i64 0)).cell? ⟨g, 2, none⟩ = some (.int .i64 86400) := hs.c 2 _ rfl
  have y3 : ((((w1.setCell ⟨g, 0, none⟩ (.string nm)).setCell ⟨g, 1, none⟩ (.int .i64 0)).setCell ⟨g, 2, none⟩ (.int .i64 86400)).setCell ⟨g, 3, none⟩ (.int .i64 0)).cell? ⟨g, 3, none⟩ = some (.int .i64 0) := hs.c 3 _ rfl
  refine bodyPost_ret (by simp [results, Tryd.results78, go_sem, y0, y1, y2, y3]; try rfl) rfl ?_
  exact ⟨rfl, set_below HB1.out HWG.out [.string nm, .int .i64 0, .int .i64 86400, .int .i64 0]⟩
/-- bounds answers with these parameters, in a list of its own -/
def BoundsOk (nm : ByteArray) (pl : List BndD) : Prop := ∀ w, Calls Tryd.prog 41 #[.string nm] w fun e w' => ∃ v, e = .returned v ∧ w'.ownsRow w.heap.size 67 4 v pl.length (flat bndL pl) ∧ Below w.heap.size w w'
set_option maxHeartbeats 2000000 in
theorem bounds_count : BoundsOk ⟨#[99, 111, 117, 110, 116]⟩ [] := by
  intro w
  have hmf : ∀ (fn : Fn) (first cap : Array Value) (w : World), (Instr.makeFunc fn first cap).run Tryd.prog w = .ok (.func fn first cap) w := fun _ _ _ _ => rfl
  obtain ⟨W, c, hW, hc, s, B, sz⟩ := box1 w #[.func (.func 76) #[] #[]] 102
  have HB := Lib.hid B
  have HC := Lib.hid s
  go_enter Tryd.func41, Tryd.ntmps41
  go_upto_region 4 with fail
  rw [← hW]
  try rw [← hc]
  clear hW hc s B sz
  go_wp2_with fail
  go_ret
  exact ⟨_, rfl, World.ownsRow_nil _ _ _ _, HB.out⟩
set_option maxHeartbeats 2000000 in
theorem bounds_edge : BoundsOk ⟨#[101, 100, 103, 101]⟩ [] := by
  intro w
  have hmf : ∀ (fn : Fn) (first cap : Array Value) (w : World), (Instr.makeFunc fn first cap).run Tryd.prog w = .ok (.func fn first cap) w := fun _ _ _ _ => rfl
  obtain ⟨W, c, hW, hc, s, B, sz⟩ := box1 w #[.func (.func 76) #[] #[]] 102
  have HB := Lib.hid B
  have HC := Lib.hid s
  go_enter Tryd.func41, Tryd.ntmps41
  go_upto_region 4 with fail
  rw [← hW]
  try rw [← hc]
  clear hW hc s B sz
  go_wp2_with fail
  go_ret
  exact ⟨_, rfl, World.ownsRow_nil _ _ _ _, HB.out⟩
set_option maxHeartbeats 2000000 in
theorem bounds_hyst : BoundsOk ⟨#[104, 121, 115, 116]⟩ [⟨⟨#[111, 110]⟩, (-1000000000000), 1000000000000, 1000⟩, ⟨⟨#[111, 102, 102]⟩, (-1000000000000), 1000000000000, 0⟩] := by
  intro w
  have hmf : ∀ (fn : Fn) (first cap : Array Value) (w : World), (Instr.makeFunc fn first cap).run Tryd.prog w = .ok (.func fn first cap) w := fun _ _ _ _ => rfl
  obtain ⟨W, c, hW, hc, s, B, sz⟩ := box1 w #[.func (.func 76) #[] #[]] 102
  have HB := Lib.hid B
  have HC := Lib.hid s
  go_enter Tryd.func41, Tryd.ntmps41
  go_upto_region 4 with fail
  rw [← hW]
  try rw [← hc]
  clear hW hc s B sz
  go_wp2_with fail
  refine (number_any ⟨#[111, 110]⟩ 1000 c _ HC.out).mono ?_
  rintro e w1 ⟨rfl, hb⟩
  have HC1 := Lib.hid (HC.out.keep hb)
  have HB1 := Lib.hid (HB.out.trans (hb.mono HB.out.size))
  clear hb HC HB
  go_wp2_with fail
  refine (number_any ⟨#[111, 102, 102]⟩ 0 c _ HC1.out).mono ?_
  rintro e w2 ⟨rfl, hb⟩
  have HC2 := Lib.hid (HC1.out.keep hb)
  have HB2 := Lib.hid (HB1.out.trans (hb.mono HB1.out.size))
  clear hb HC1 HB1
  go_wp2_with fail
  go_ret
  exact ⟨_, rfl, World.ownsRow_lit w2 #[.string ⟨#[111, 110]⟩, .int .i64 (-1000000000000), .int .i64 1000000000000, .int .i64 1000, .string ⟨#[111, 102, 102]⟩, .int .i64 (-1000000000000), .int .i64 1000000000000, .int .i64 0] 2 HB2.out.size (by unfold maxLen; omega) rfl, HB2.out.alloc HB2.out.size _⟩
set_option maxHeartbeats 2000000 in
theorem bounds_latch : BoundsOk ⟨#[108, 97, 116, 99, 104]⟩ [] := by
  intro w
  have hmf : ∀ (fn : Fn) (first cap : Array Value) (w : World), (Instr.makeFunc fn first cap).run Tryd.prog w = .ok (.func fn first cap) w := fun _ _ _ _ => rfl
  obtain ⟨W, c, hW, hc, s, B, sz⟩ := box1 w #[.func (.func 76) #[] #[]] 102
  have HB := Lib.hid B
  have HC := Lib.hid s
  go_enter Tryd.func41, Tryd.ntmps41
  go_upto_region 4 with fail
  rw [← hW]
  try rw [← hc]
  clear hW hc s B sz
  go_wp2_with fail
  go_ret
  exact ⟨_, rfl, World.ownsRow_nil _ _ _ _, HB.out⟩
set_option maxHeartbeats 2000000 in
theorem bounds_minrun : BoundsOk ⟨#[109, 105, 110, 114, 117, 110]⟩ [⟨⟨#[111, 110]⟩, 0, 86400, 0⟩, ⟨⟨#[111, 102, 102]⟩, 0, 86400, 0⟩] := by
  intro w
  have hmf : ∀ (fn : Fn) (first cap : Array Value) (w : World), (Instr.makeFunc fn first cap).run Tryd.prog w = .ok (.func fn first cap) w := fun _ _ _ _ => rfl
  obtain ⟨W, c, hW, hc, s, B, sz⟩ := box1 w #[.func (.func 76) #[] #[]] 102
  have HB := Lib.hid B
  have HC := Lib.hid s
  go_enter Tryd.func41, Tryd.ntmps41
  go_upto_region 4 with fail
  rw [← hW]
  try rw [← hc]
  clear hW hc s B sz
  go_wp2_with fail
  refine (seconds_any ⟨#[111, 110]⟩ c _ HC.out).mono ?_
  rintro e w1 ⟨rfl, hb⟩
  have HC1 := Lib.hid (HC.out.keep hb)
  have HB1 := Lib.hid (HB.out.trans (hb.mono HB.out.size))
  clear hb HC HB
  go_wp2_with fail
  refine (seconds_any ⟨#[111, 102, 102]⟩ c _ HC1.out).mono ?_
  rintro e w2 ⟨rfl, hb⟩
  have HC2 := Lib.hid (HC1.out.keep hb)
  have HB2 := Lib.hid (HB1.out.trans (hb.mono HB1.out.size))
  clear hb HC1 HB1
  go_wp2_with fail
  go_ret
  exact ⟨_, rfl, World.ownsRow_lit w2 #[.string ⟨#[111, 110]⟩, .int .i64 0, .int .i64 86400, .int .i64 0, .string ⟨#[111, 102, 102]⟩, .int .i64 0, .int .i64 86400, .int .i64 0] 2 HB2.out.size (by unfold maxLen; omega) rfl, HB2.out.alloc HB2.out.size _⟩
set_option maxHeartbeats 2000000 in
theorem bounds_offdelay : BoundsOk ⟨#[111, 102, 102, 100, 101, 108, 97, 121]⟩ [⟨⟨#[116, 105, 109, 101]⟩, 0, 86400, 0⟩] := by
  intro w
  have hmf : ∀ (fn : Fn) (first cap : Array Value) (w : World), (Instr.makeFunc fn first cap).run Tryd.prog w = .ok (.func fn first cap) w := fun _ _ _ _ => rfl
  obtain ⟨W, c, hW, hc, s, B, sz⟩ := box1 w #[.func (.func 76) #[] #[]] 102
  have HB := Lib.hid B
  have HC := Lib.hid s
  go_enter Tryd.func41, Tryd.ntmps41
  go_upto_region 4 with fail
  rw [← hW]
  try rw [← hc]
  clear hW hc s B sz
  go_wp2_with fail
  refine (seconds_any ⟨#[116, 105, 109, 101]⟩ c _ HC.out).mono ?_
  rintro e w1 ⟨rfl, hb⟩
  have HC1 := Lib.hid (HC.out.keep hb)
  have HB1 := Lib.hid (HB.out.trans (hb.mono HB.out.size))
  clear hb HC HB
  go_wp2_with fail
  go_ret
  exact ⟨_, rfl, World.ownsRow_lit w1 #[.string ⟨#[116, 105, 109, 101]⟩, .int .i64 0, .int .i64 86400, .int .i64 0] 1 HB1.out.size (by unfold maxLen; omega) rfl, HB1.out.alloc HB1.out.size _⟩
set_option maxHeartbeats 2000000 in
theorem bounds_ondelay : BoundsOk ⟨#[111, 110, 100, 101, 108, 97, 121]⟩ [⟨⟨#[116, 105, 109, 101]⟩, 0, 86400, 0⟩] := by
  intro w
  have hmf : ∀ (fn : Fn) (first cap : Array Value) (w : World), (Instr.makeFunc fn first cap).run Tryd.prog w = .ok (.func fn first cap) w := fun _ _ _ _ => rfl
  obtain ⟨W, c, hW, hc, s, B, sz⟩ := box1 w #[.func (.func 76) #[] #[]] 102
  have HB := Lib.hid B
  have HC := Lib.hid s
  go_enter Tryd.func41, Tryd.ntmps41
  go_upto_region 4 with fail
  rw [← hW]
  try rw [← hc]
  clear hW hc s B sz
  go_wp2_with fail
  refine (seconds_any ⟨#[116, 105, 109, 101]⟩ c _ HC.out).mono ?_
  rintro e w1 ⟨rfl, hb⟩
  have HC1 := Lib.hid (HC.out.keep hb)
  have HB1 := Lib.hid (HB.out.trans (hb.mono HB.out.size))
  clear hb HC HB
  go_wp2_with fail
  go_ret
  exact ⟨_, rfl, World.ownsRow_lit w1 #[.string ⟨#[116, 105, 109, 101]⟩, .int .i64 0, .int .i64 86400, .int .i64 0] 1 HB1.out.size (by unfold maxLen; omega) rfl, HB1.out.alloc HB1.out.size _⟩
set_option maxHeartbeats 2000000 in
theorem bounds_pulse : BoundsOk ⟨#[112, 117, 108, 115, 101]⟩ [⟨⟨#[116, 105, 109, 101]⟩, 0, 86400, 0⟩] := by
  intro w
  have hmf : ∀ (fn : Fn) (first cap : Array Value) (w : World), (Instr.makeFunc fn first cap).run Tryd.prog w = .ok (.func fn first cap) w := fun _ _ _ _ => rfl
  obtain ⟨W, c, hW, hc, s, B, sz⟩ := box1 w #[.func (.func 76) #[] #[]] 102
  have HB := Lib.hid B
  have HC := Lib.hid s
  go_enter Tryd.func41, Tryd.ntmps41
  go_upto_region 4 with fail
  rw [← hW]
  try rw [← hc]
  clear hW hc s B sz
  go_wp2_with fail
  refine (seconds_any ⟨#[116, 105, 109, 101]⟩ c _ HC.out).mono ?_
  rintro e w1 ⟨rfl, hb⟩
  have HC1 := Lib.hid (HC.out.keep hb)
  have HB1 := Lib.hid (HB.out.trans (hb.mono HB.out.size))
  clear hb HC HB
  go_wp2_with fail
  go_ret
  exact ⟨_, rfl, World.ownsRow_lit w1 #[.string ⟨#[116, 105, 109, 101]⟩, .int .i64 0, .int .i64 86400, .int .i64 0] 1 HB1.out.size (by unfold maxLen; omega) rfl, HB1.out.alloc HB1.out.size _⟩
set_option maxHeartbeats 2000000 in
theorem bounds_limit : BoundsOk ⟨#[108, 105, 109, 105, 116]⟩ [⟨⟨#[108, 111, 119]⟩, (-1000000000000), 1000000000000, (-1000000000000)⟩, ⟨⟨#[104, 105, 103, 104]⟩, (-1000000000000), 1000000000000, 1000000000000⟩] := by
  intro w
  have hmf : ∀ (fn : Fn) (first cap : Array Value) (w : World), (Instr.makeFunc fn first cap).run Tryd.prog w = .ok (.func fn first cap) w := fun _ _ _ _ => rfl
  obtain ⟨W, c, hW, hc, s, B, sz⟩ := box1 w #[.func (.func 76) #[] #[]] 102
  have HB := Lib.hid B
  have HC := Lib.hid s
  go_enter Tryd.func41, Tryd.ntmps41
  go_upto_region 4 with fail
  rw [← hW]
  try rw [← hc]
  clear hW hc s B sz
  go_wp2_with fail
  refine (number_any ⟨#[108, 111, 119]⟩ (-1000000000000) c _ HC.out).mono ?_
  rintro e w1 ⟨rfl, hb⟩
  have HC1 := Lib.hid (HC.out.keep hb)
  have HB1 := Lib.hid (HB.out.trans (hb.mono HB.out.size))
  clear hb HC HB
  go_wp2_with fail
  refine (number_any ⟨#[104, 105, 103, 104]⟩ 1000000000000 c _ HC1.out).mono ?_
  rintro e w2 ⟨rfl, hb⟩
  have HC2 := Lib.hid (HC1.out.keep hb)
  have HB2 := Lib.hid (HB1.out.trans (hb.mono HB1.out.size))
  clear hb HC1 HB1
  go_wp2_with fail
  go_ret
  exact ⟨_, rfl, World.ownsRow_lit w2 #[.string ⟨#[108, 111, 119]⟩, .int .i64 (-1000000000000), .int .i64 1000000000000, .int .i64 (-1000000000000), .string ⟨#[104, 105, 103, 104]⟩, .int .i64 (-1000000000000), .int .i64 1000000000000, .int .i64 1000000000000] 2 HB2.out.size (by unfold maxLen; omega) rfl, HB2.out.alloc HB2.out.size _⟩
end Go.Proofs.YtaobbedajgkmiaaDoor
