/- Contracts of Control and Track, with an integral part. -/
import Derived.Test.YtepmeacdacnhmaaPd
namespace Go.Proofs.Ytepmeacdacnhmaa
open Go.RowKit

abbrev T8 (w : World) (g h : Nat) (kp ti lo hi : Int) (rv rd : Bool) (sm rs : Int) (w' : World) : Prop := w'.cell? ⟨g, 0, none⟩ = some (.int .i64 kp) ∧ w'.cell? ⟨g, 1, none⟩ = some (.int .i64 ti) ∧ w'.cell? ⟨g, 2, none⟩ = some (.int .i64 lo) ∧ w'.cell? ⟨g, 3, none⟩ = some (.int .i64 hi) ∧ w'.cell? ⟨g, 4, none⟩ = some (.bool rv) ∧ w'.cell? ⟨h, 0, none⟩ = some (.bool rd) ∧ w'.cell? ⟨h, 1, none⟩ = some (.int .i64 sm) ∧ w'.cell? ⟨h, 2, none⟩ = some (.int .i64 rs) ∧ Below w.heap.size w w'
theorem t8_of {w : World} {g h : Nat} {kp ti lo hi : Int} {rv rd : Bool} {sm rs : Int} {w' : World} (s : T8 w g h kp ti lo hi rv rd sm rs w) (hb : Below w.heap.size w w') : T8 w g h kp ti lo hi rv rd sm rs w' := by
  obtain ⟨s0, s1, s2, s3, s4, s5, s6, s7, _⟩ := s
  have h_g : g < w.heap.size := World.block_lt_of_cell? _ _ s0
  have h_h : h < w.heap.size := World.block_lt_of_cell? _ _ s5
  exact ⟨(hb.cell (p := ⟨g, 0, none⟩) h_g).trans s0, (hb.cell (p := ⟨g, 1, none⟩) h_g).trans s1, (hb.cell (p := ⟨g, 2, none⟩) h_g).trans s2, (hb.cell (p := ⟨g, 3, none⟩) h_g).trans s3, (hb.cell (p := ⟨g, 4, none⟩) h_g).trans s4, (hb.cell (p := ⟨h, 0, none⟩) h_h).trans s5, (hb.cell (p := ⟨h, 1, none⟩) h_h).trans s6, (hb.cell (p := ⟨h, 2, none⟩) h_h).trans s7, hb⟩
theorem t8_bel {w : World} {g h : Nat} {kp ti lo hi : Int} {rv rd : Bool} {sm rs : Int} {w' : World} (s : T8 w g h kp ti lo hi rv rd sm rs w') : Below w.heap.size w w' := s.2.2.2.2.2.2.2.2
theorem t8_keep {w : World} {g h : Nat} {kp ti lo hi : Int} {rv rd : Bool} {sm rs : Int} {w1 w2 : World} (c : T8 w g h kp ti lo hi rv rd sm rs w) (hb : Below w1.heap.size w1 w2) (s : T8 w g h kp ti lo hi rv rd sm rs w1) : T8 w g h kp ti lo hi rv rd sm rs w2 := t8_of c ((t8_bel s).trans (hb.mono (t8_bel s).size))
theorem t8_alloc {w : World} {g h : Nat} {kp ti lo hi : Int} {rv rd : Bool} {sm rs : Int} {w1 : World} (c : T8 w g h kp ti lo hi rv rd sm rs w) (o : Obj) (s : T8 w g h kp ti lo hi rv rd sm rs w1) : T8 w g h kp ti lo hi rv rd sm rs (w1.alloc o) := t8_of c ((t8_bel s).alloc (t8_bel s).size o)
theorem t8_drew {w : World} {g h : Nat} {kp ti lo hi : Int} {rv rd : Bool} {sm rs : Int} {w1 : World} (c : T8 w g h kp ti lo hi rv rd sm rs w) (s : T8 w g h kp ti lo hi rv rd sm rs w1) : T8 w g h kp ti lo hi rv rd sm rs w1.drew := t8_of c (t8_bel s).drew
abbrev T5 (w : World) (g : Nat) (kp ti lo hi : Int) (rv : Bool) (w' : World) : Prop := w'.cell? ⟨g, 0, none⟩ = some (.int .i64 kp) ∧ w'.cell? ⟨g, 1, none⟩ = some (.int .i64 ti) ∧ w'.cell? ⟨g, 2, none⟩ = some (.int .i64 lo) ∧ w'.cell? ⟨g, 3, none⟩ = some (.int .i64 hi) ∧ w'.cell? ⟨g, 4, none⟩ = some (.bool rv) ∧ Below w.heap.size w w'
theorem t5_of {w : World} {g : Nat} {kp ti lo hi : Int} {rv : Bool} {w' : World} (s : T5 w g kp ti lo hi rv w) (hb : Below w.heap.size w w') : T5 w g kp ti lo hi rv w' := by
  obtain ⟨s0, s1, s2, s3, s4, _⟩ := s
  have h_g : g < w.heap.size := World.block_lt_of_cell? _ _ s0
  exact ⟨(hb.cell (p := ⟨g, 0, none⟩) h_g).trans s0, (hb.cell (p := ⟨g, 1, none⟩) h_g).trans s1, (hb.cell (p := ⟨g, 2, none⟩) h_g).trans s2, (hb.cell (p := ⟨g, 3, none⟩) h_g).trans s3, (hb.cell (p := ⟨g, 4, none⟩) h_g).trans s4, hb⟩
theorem t5_bel {w : World} {g : Nat} {kp ti lo hi : Int} {rv : Bool} {w' : World} (s : T5 w g kp ti lo hi rv w') : Below w.heap.size w w' := s.2.2.2.2.2
theorem t5_keep {w : World} {g : Nat} {kp ti lo hi : Int} {rv : Bool} {w1 w2 : World} (c : T5 w g kp ti lo hi rv w) (hb : Below w1.heap.size w1 w2) (s : T5 w g kp ti lo hi rv w1) : T5 w g kp ti lo hi rv w2 := t5_of c ((t5_bel s).trans (hb.mono (t5_bel s).size))
theorem t5_alloc {w : World} {g : Nat} {kp ti lo hi : Int} {rv : Bool} {w1 : World} (c : T5 w g kp ti lo hi rv w) (o : Obj) (s : T5 w g kp ti lo hi rv w1) : T5 w g kp ti lo hi rv (w1.alloc o) := t5_of c ((t5_bel s).alloc (t5_bel s).size o)
theorem t5_drew {w : World} {g : Nat} {kp ti lo hi : Int} {rv : Bool} {w1 : World} (c : T5 w g kp ti lo hi rv w) (s : T5 w g kp ti lo hi rv w1) : T5 w g kp ti lo hi rv w1.drew := t5_of c (t5_bel s).drew
theorem rf_kept {p w2 : World} {A : Array Value} {T : TypeId} (hb : Below (p.alloc (Obj.cells A T)).heap.size (p.alloc (Obj.cells A T)) w2) : RowAt w2 p.heap.size A.toList := (row_fresh p A T).keep hb
theorem rf_kept_drew {p w2 : World} {A : Array Value} {T : TypeId} (hb : Below (p.alloc (Obj.cells A T)).drew.heap.size (p.alloc (Obj.cells A T)).drew w2) : RowAt w2 p.heap.size A.toList := (row_fresh p A T).drew.keep hb
theorem row_keep_drew {w w2 : World} {b : Nat} {L : List Value} (h : RowAt w b L) (hb : Below w.drew.heap.size w.drew w2) : RowAt w2 b L := h.drew.keep hb
theorem propI_range (kp : Int) (rv : Bool) (set now : Int) : -1000000000000 ≤ propI kp rv set now ∧ propI kp rv set now ≤ 1000000000000 := mulDivI_range _ _ _
theorem scan_of {kp ti lo hi sm rs n : Int} {rd : Bool} (p : Int) (hs : setB kp ti lo hi = true) (hx : posB sm rs = true) (hn : timeB n = true) (ht : ti ≠ 0) (p0 : -1000000000000 ≤ p) (p1 : p ≤ 1000000000000) : Scan ti lo hi (begS rd lo p sm) (begR rd rs) p n := by
  unfold setB fromB numB at hs
  unfold posB fromB at hx
  unfold timeB at hn
  simp only [Bool.and_eq_true, decide_eq_true_eq] at hs hx hn
  obtain ⟨⟨⟨⟨⟨a, b⟩, c, d⟩, e, f⟩, g, h⟩, i⟩ := hs
  obtain ⟨⟨j, k⟩, l, m⟩ := hx
  unfold begS begR
  cases rd <;> exact ⟨by omega, by omega, by omega, by omega, by omega, by simp; omega, by simp; omega, by simp; try omega, by simp; try omega, p0, p1, hn.1, hn.2⟩
/-- the control's answer -/
abbrev ctlV (kp ti lo hi : Int) (rv rd : Bool) (sm rs set now n : Int) : Value := .tuple #[.agg #[.bool true, .int .i64 (newS ti lo hi (begS rd lo (propI kp rv set now) sm) (begR rd rs) (propI kp rv set now) n), .int .i64 (newR ti lo hi (begS rd lo (propI kp rv set now) sm) (begR rd rs) (propI kp rv set now) n)], .int .i64 (propI kp rv set now + newS ti lo hi (begS rd lo (propI kp rv set now) sm) (begR rd rs) (propI kp rv set now) n), .int .i64 0]
set_option maxHeartbeats 4000000 in
theorem control_yes (kp ti lo hi : Int) (rv rd : Bool) (sm rs set now n : Int) (w : World) (hs : setB kp ti lo hi = true) (hx : posB sm rs = true) (hn : timeB n = true) (ht : ti ≠ 0) :
    Calls Try.prog 9 #[.agg #[.int .i64 kp, .int .i64 ti, .int .i64 lo, .int .i64 hi, .bool rv], .agg #[.bool rd, .int .i64 sm, .int .i64 rs], .int .i64 set, .int .i64 now, .int .i64 n] w fun e w' => e = .returned (ctlV kp ti lo hi rv rd sm rs set now n) ∧ Below w.heap.size w w' := by
  obtain ⟨p, hp⟩ : ∃ p, p = propI kp rv set now := ⟨_, rfl⟩
  have hr := propI_range kp rv set now
  unfold ctlV
  rw [← hp] at hr ⊢
  have sc : Scan ti lo hi (begS rd lo p sm) (begR rd rs) p n := scan_of p hs hx hn ht hr.1 hr.2
  obtain ⟨N, hN⟩ : ∃ m, m = newS ti lo hi (begS rd lo p sm) (begR rd rs) p n := ⟨_, rfl⟩
  obtain ⟨E, hE⟩ : ∃ m, m = newR ti lo hi (begS rd lo p sm) (begR rd rs) p n := ⟨_, rfl⟩
  have KS := Lib.hid (fun w => show Calls Try.prog 22 #[.agg #[.int .i64 kp, .int .i64 ti, .int .i64 lo, .int .i64 hi, .bool rv], .agg #[.bool rd, .int .i64 sm, .int .i64 rs], .int .i64 p, .int .i64 n] w fun e w' => e = .returned (.tuple #[.agg #[.bool true, .int .i64 N, .int .i64 E], .int .i64 (p + N)]) ∧ Below w.heap.size w w' by rw [hN, hE]; exact scan_any kp ti lo hi rv rd sm rs p n w sc)
  have KP := Lib.hid (fun w => show Calls Try.prog 8 #[.agg #[.int .i64 kp, .int .i64 ti, .int .i64 lo, .int .i64 hi, .bool rv], .int .i64 set, .int .i64 now] w fun e w' => e = .returned (.int .i64 p) ∧ Below w.heap.size w w' by rw [hp]; exact prop_any kp ti lo hi rv set now w)
  have KC := Lib.hid (fun w => show Calls Try.prog 19 #[.agg #[.int .i64 kp, .int .i64 ti, .int .i64 lo, .int .i64 hi, .bool rv]] w fun e w' => e = .returned (.int .i64 0) ∧ Below w.heap.size w w' by have h := check_any kp ti lo hi rv w; rw [if_pos hs] at h; exact h)
  have KX := Lib.hid (fun w => show Calls Try.prog 20 #[.agg #[.bool rd, .int .i64 sm, .int .i64 rs]] w fun e w' => e = .returned (.bool true) ∧ Below w.heap.size w w' by have h := possible_any rd sm rs w; rw [hx] at h; exact h)
  have KT := Lib.hid (fun w => show Calls Try.prog 21 #[.int .i64 n] w fun e w' => e = .returned (.bool true) ∧ w = w' by have h := isTime_any n w; rw [hn] at h; exact h)
  rw [← hN, ← hE]
  clear hp hr sc hN hE hs hx hn ht
  obtain ⟨W, g, h, r, hW, hg, hh, hr, RG, RH, RR, B, sz⟩ := box3 w #[.int .i64 kp, .int .i64 ti, .int .i64 lo, .int .i64 hi, .bool rv] 26 #[.bool rd, .int .i64 sm, .int .i64 rs] 28 #[.bool false, .int .i64 0, .int .i64 0] 28
  have hwr : w.heap.size ≤ r := by omega
  have HWR := Lib.hid hwr
  have HG := Lib.hid RG
  have HH := Lib.hid RH
  have HR := Lib.hid RR
  have HB := Lib.hid B
  go_enter Try.func9, Try.ntmps9
  go_upto_region 1 with fail
  rw [← hW]
  try rw [← hr]
  try rw [← hh]
  try rw [← hg]
  clear hW hg hh hr sz RG RH RR B hwr
  have g_0 := HG.out.c 0 _ rfl
  have g_1 := HG.out.c 1 _ rfl
  have g_2 := HG.out.c 2 _ rfl
  have g_3 := HG.out.c 3 _ rfl
  have g_4 := HG.out.c 4 _ rfl
  go_wp2_with fail
  refine (KC.out _).mono ?_
  rintro e w1 ⟨rfl, hb⟩
  clear g_0 g_1 g_2 g_3 g_4
  have HG1 := Lib.hid (HG.out.keep hb)
  have HH1 := Lib.hid (HH.out.keep hb)
  have HR1 := Lib.hid (HR.out.keep hb)
  have HB1 := Lib.hid (HB.out.trans (hb.mono HB.out.size))
  clear hb HG HH HR HB
  have h_0 := HH1.out.c 0 _ rfl
  have h_1 := HH1.out.c 1 _ rfl
  have h_2 := HH1.out.c 2 _ rfl
  go_wp2_with fail
  refine (KX.out _).mono ?_
  rintro e w2 ⟨rfl, hb⟩
  clear h_0 h_1 h_2
  have HG2 := Lib.hid (HG1.out.keep hb)
  have HH2 := Lib.hid (HH1.out.keep hb)
  have HR2 := Lib.hid (HR1.out.keep hb)
  have HB2 := Lib.hid (HB1.out.trans (hb.mono HB1.out.size))
  clear hb HG1 HH1 HR1 HB1
  go_wp2_with fail
  refine (KT.out _).mono ?_
  rintro e w' ⟨rfl, rfl⟩
  have g_0 := HG2.out.c 0 _ rfl
  have g_1 := HG2.out.c 1 _ rfl
  have g_2 := HG2.out.c 2 _ rfl
  have g_3 := HG2.out.c 3 _ rfl
  have g_4 := HG2.out.c 4 _ rfl
  have h_0 := HH2.out.c 0 _ rfl
  have h_1 := HH2.out.c 1 _ rfl
  have h_2 := HH2.out.c 2 _ rfl
  have HC := Lib.hid (show T8 w2 g h kp ti lo hi rv rd sm rs w2 from ⟨g_0, g_1, g_2, g_3, g_4, h_0, h_1, h_2, Below.refl _ _⟩)
  have HCD := Lib.hid (t8_drew HC.out HC.out)
  go_upto_region 3 with fail
  go_cut [13, 14] from 30 to 40 (fun q o wx => ∃ NB : Nat, q = .pointer (some ⟨NB, 0, none⟩) ∧ o = .int .i64 (p + N) ∧ Hid (RowAt wx NB [.bool true, .int .i64 N, .int .i64 E] ∧ Below w2.heap.size w2 wx))
  case first =>
    go_region_held3 (fun w' => w'.cell? ⟨g, 0, none⟩ = some (.int .i64 kp) ∧ w'.cell? ⟨g, 1, none⟩ = some (.int .i64 ti) ∧ w'.cell? ⟨g, 2, none⟩ = some (.int .i64 lo) ∧ w'.cell? ⟨g, 3, none⟩ = some (.int .i64 hi) ∧ w'.cell? ⟨g, 4, none⟩ = some (.bool rv) ∧ w'.cell? ⟨h, 0, none⟩ = some (.bool rd) ∧ w'.cell? ⟨h, 1, none⟩ = some (.int .i64 sm) ∧ w'.cell? ⟨h, 2, none⟩ = some (.int .i64 rs) ∧ Below w2.heap.size w2 w')
      (first | (with_reducible exact HC.out) | (with_reducible exact HCD.out) | (with_reducible exact HS1.out) | (with_reducible exact HS2.out) | (with_reducible exact t8_alloc HC.out _ HC.out) | (with_reducible exact t8_drew HC.out (t8_alloc HC.out _ HC.out)) | (with_reducible exact t8_alloc HC.out _ HS1.out) | (with_reducible exact t8_drew HC.out HS1.out) | (with_reducible exact t8_drew HC.out (t8_alloc HC.out _ HS1.out)) | (with_reducible exact t8_alloc HC.out _ HS2.out) | (with_reducible exact t8_drew HC.out HS2.out) | (with_reducible exact t8_drew HC.out (t8_alloc HC.out _ HS2.out)) | (exact t8_of HC.out (set_below (t8_bel HS2.out) (Nat.le_refl _) [.bool true, .int .i64 N, .int .i64 E])) | (exact t8_of HC.out (set_below (t8_bel HS2.out) (t8_bel HS1.out).size [.bool true, .int .i64 N, .int .i64 E])) | (go_keep))
      (first | (go_at_call 8; refine (KP.out _).mono ?_; rintro e x1 ⟨rfl, hb2⟩; have HS1 : Hid (T8 w2 g h kp ti lo hi rv rd sm rs x1) := t8_keep HC.out hb2 (by first | assumption | exact HC.out | exact HCD.out | exact t8_alloc HC.out _ HC.out | exact t8_drew HC.out (t8_alloc HC.out _ HC.out) | exact t8_alloc HC.out _ (by assumption) | exact t8_drew HC.out (by assumption)); (first | (with_reducible have nn := rf_kept (A := #[.bool false, .int .i64 0, .int .i64 0]) hb2) | (with_reducible have nn := rf_kept_drew (A := #[.bool false, .int .i64 0, .int .i64 0]) hb2) | (have nn := nn.keep hb2) | (have nn := row_keep_drew nn hb2) | skip); (try rw [World.size_alloc] at nn); (try (have n0 := nn.c 0 _ rfl; have n1 := nn.c 1 _ rfl; have n2 := nn.c 2 _ rfl; have nz := nn.fz))) | (go_at_call 22; refine (KS.out _).mono ?_; rintro e x2 ⟨rfl, hb2⟩; have HS2 : Hid (T8 w2 g h kp ti lo hi rv rd sm rs x2) := t8_keep HC.out hb2 (by first | assumption | exact HC.out | exact HCD.out | exact t8_alloc HC.out _ HC.out | exact t8_drew HC.out (t8_alloc HC.out _ HC.out) | exact t8_alloc HC.out _ (by assumption) | exact t8_drew HC.out (by assumption)); (first | (with_reducible have nn := rf_kept (A := #[.bool false, .int .i64 0, .int .i64 0]) hb2) | (with_reducible have nn := rf_kept_drew (A := #[.bool false, .int .i64 0, .int .i64 0]) hb2) | (have nn := nn.keep hb2) | (have nn := row_keep_drew nn hb2) | skip); (try rw [World.size_alloc] at nn); (try (have n0 := nn.c 0 _ rfl; have n1 := nn.c 1 _ rfl; have n2 := nn.c 2 _ rfl; have nz := nn.fz))) | (fail))
    all_goals
      rename_i hHeld
      clear hHeld
      go_wp2_with fail
      go_meet
    all_goals first | exact ⟨_, rfl, rfl, Lib.hid ⟨row_fresh _ _ _, (t8_bel HS2.out).alloc (t8_bel HS2.out).size _⟩⟩ | exact ⟨_, rfl, rfl, Lib.hid ⟨nn.setRow [.bool true, .int .i64 N, .int .i64 E] rfl, set_below (t8_bel HS2.out) (Nat.le_refl _) [.bool true, .int .i64 N, .int .i64 E]⟩⟩ | exact ⟨_, rfl, rfl, Lib.hid ⟨nn.setRow [.bool true, .int .i64 N, .int .i64 E] rfl, set_below (t8_bel HS2.out) (t8_bel HS1.out).size [.bool true, .int .i64 N, .int .i64 E]⟩⟩
  case rest =>
    obtain ⟨m, rfl, rfl, hcc⟩ := hcut
    have HM3 := Lib.hid hcc.out.1
    have hb := hcc.out.2
    have hrm : True := trivial
    have HG3 := Lib.hid (HG2.out.keep hb)
    have HH3 := Lib.hid (HH2.out.keep hb)
    have HR3 := Lib.hid (HR2.out.keep hb)
    have HB3 := Lib.hid (HB2.out.trans (hb.mono HB2.out.size))
    clear hb HG2 HH2 HR2 HB2
    clear hcc HC HCD g_0 g_1 g_2 g_3 g_4 h_0 h_1 h_2 hrm
    have m_0 := HM3.out.c 0 _ rfl
    have m_1 := HM3.out.c 1 _ rfl
    have m_2 := HM3.out.c 2 _ rfl
    have r_0 := HR3.out.c 0 _ rfl
    have r_1 := HR3.out.c 1 _ rfl
    have r_2 := HR3.out.c 2 _ rfl
    have r_z := HR3.out.fz
    go_wp2_with fail
    have hs := HR3.out.setRow [.bool true, .int .i64 N, .int .i64 E] rfl
    have hB := set_below HB3.out HWR.out [.bool true, .int .i64 N, .int .i64 E]
    have y0 : (((wc.setCell ⟨r, 0, none⟩ (.bool true)).setCell ⟨r, 1, none⟩ (.int .i64 N)).setCell ⟨r, 2, none⟩ (.int .i64 E)).cell? ⟨r, 0, none⟩ = some (.bool true) := hs.c 0 _ rfl
    have y1 : (((wc.setCell ⟨r, 0, none⟩ (.bool true)).setCell ⟨r, 1, none⟩ (.int .i64 N)).setCell ⟨r, 2, none⟩ (.int .i64 E)).cell? ⟨r, 1, none⟩ = some (.int .i64 N) := hs.c 1 _ rfl
    have y2 : (((wc.setCell ⟨r, 0, none⟩ (.bool true)).setCell ⟨r, 1, none⟩ (.int .i64 N)).setCell ⟨r, 2, none⟩ (.int .i64 E)).cell? ⟨r, 2, none⟩ = some (.int .i64 E) := hs.c 2 _ rfl
    (try simp only [Exit.inBlock, Exit.then])
    refine bodyPost_ret (by simp [results, Try.results9, go_sem, y0, y1, y2]; try rfl) rfl ?_
    exact ⟨rfl, hB⟩
end Go.Proofs.Ytepmeacdacnhmaa
