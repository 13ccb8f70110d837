/- Contracts: Duration for any arguments; plenumref21.Duration. -/
import Derived.Test.YthaigchklogjlaaDoorQq
import Derived.Deep.QuietTactic
import Derived.BigQuiet
namespace Go.Proofs.YthaigchklogjlaaDoor
open Go.RowKit Go.Shelf

set_option linter.unusedVariables false
set_option linter.unusedSimpArgs false
/-- the states of a sequence that always goes on -/
def durS (L least dt : Int) : Nat → Int × Int
  | 0 => (0, 0)
  | k + 1 => stepsS L least ((1 : Int) == 1) ((1 : Int) == 1) dt (durS L least dt k).1 (durS L least dt k).2
theorem steps_keep (L least dt P T : Int) (hL : 1 ≤ L) (hP : 0 ≤ P ∧ P ≤ L) (hT : 0 ≤ T ∧ T ≤ 6311433599) (hdt : 1 ≤ dt) (go nx : Bool) : 0 ≤ (stepsS L least go nx dt P T).1 ∧ (stepsS L least go nx dt P T).1 ≤ L ∧ 0 ≤ (stepsS L least go nx dt P T).2 ∧ (stepsS L least go nx dt P T).2 ≤ 6311433599 := by
  unfold stepsS
  (repeat' split) <;> refine ⟨?_, ?_, ?_, ?_⟩ <;> dsimp only <;> omega
theorem durS_keep (L least dt : Int) (hL : 1 ≤ L) (hdt : 1 ≤ dt) : ∀ k, 0 ≤ (durS L least dt k).1 ∧ (durS L least dt k).1 ≤ L ∧ 0 ≤ (durS L least dt k).2 ∧ (durS L least dt k).2 ≤ 6311433599
  | 0 => ⟨by show (0 : Int) ≤ 0; decide, by show (0 : Int) ≤ L; omega, by show (0 : Int) ≤ 0; decide, by show (0 : Int) ≤ 6311433599; decide⟩
  | k + 1 => by
    obtain ⟨a, b, c, d⟩ := durS_keep L least dt hL hdt k
    exact steps_keep L least dt _ _ hL ⟨a, b⟩ ⟨c, d⟩ hdt _ _
def lackD (L P T : Int) : Int := (L - P) * 86402 - min T 86400
theorem lackD_step (L least dt P T : Int) (hP : 0 ≤ P ∧ P < L) (hT : 0 ≤ T ∧ T ≤ 6311433599) (hl : 0 ≤ least ∧ least ≤ 86400) (hdt : 1 ≤ dt) : lackD L (stepsS L least ((1 : Int) == 1) ((1 : Int) == 1) dt P T).1 (stepsS L least ((1 : Int) == 1) ((1 : Int) == 1) dt P T).2 ≤ lackD L P T - 1 := by
  rw [show ((1 : Int) == 1) = true from rfl]
  unfold lackD stepsS
  rw [if_neg (fun h => by cases h)]
  by_cases hp : P = 0
  · rw [if_pos hp]; dsimp only; omega
  · rw [if_neg hp]
    by_cases h : least ≤ min (T + dt) 6311433599
    · rw [if_pos ⟨hP.2, rfl, h⟩]; dsimp only; omega
    · rw [if_neg (fun h2 => h h2.2.2)]; dsimp only; omega
theorem lackD_dur (L least dt : Int) (hL : 1 ≤ L) (hl : 0 ≤ least ∧ least ≤ 86400) (hdt : 1 ≤ dt) : ∀ n, (∀ k, k < n → (durS L least dt k).1 ≠ L) → lackD L (durS L least dt n).1 (durS L least dt n).2 ≤ lackD L 0 0 - n
  | 0, _ => by show lackD L 0 0 ≤ _; omega
  | n + 1, h => by
    have hk := durS_keep L least dt hL hdt n
    have h1 := lackD_dur L least dt hL hl hdt n (fun k hk => h k (by omega))
    have hne := h n (by omega)
    have h2 := lackD_step L least dt (durS L least dt n).1 (durS L least dt n).2 ⟨hk.1, by omega⟩ ⟨hk.2.2.1, hk.2.2.2⟩ hl hdt
    show lackD L (stepsS L least _ _ dt _ _).1 (stepsS L least _ _ dt _ _).2 ≤ _
    omega
theorem dur_first (L least dt : Int) (hL : 1 ≤ L ∧ L ≤ 15) (hl : 0 ≤ least ∧ least ≤ 86400) (hdt : 1 ≤ dt) : ∃ N : Nat, N ≤ 2000000 ∧ (durS L least dt N).1 = L ∧ ∀ k, k < N → (durS L least dt k).1 ≠ L := by
  classical
  by_cases h : ∃ k, k < 2000000 ∧ (durS L least dt k).1 = L
  · have key : ∀ m, (∃ k, k < m ∧ (durS L least dt k).1 = L) → ∃ N, N < m ∧ (durS L least dt N).1 = L ∧ ∀ k, k < N → (durS L least dt k).1 ≠ L := by
      intro m
      induction m with
      | zero => rintro ⟨k, hk, _⟩; omega
      | succ m ih =>
        rintro ⟨k, hk, he⟩
        by_cases h2 : ∃ k, k < m ∧ (durS L least dt k).1 = L
        · obtain ⟨N, a, b, c⟩ := ih h2
          exact ⟨N, by omega, b, c⟩
        · refine ⟨k, hk, he, fun j hj e => h2 ⟨j, by omega, e⟩⟩
    obtain ⟨N, a, b, c⟩ := key _ h
    exact ⟨N, by omega, b, c⟩
  · have h1 := lackD_dur L least dt hL.1 hl hdt 2000000 (fun k hk e => h ⟨k, hk, e⟩)
    have hk := durS_keep L least dt hL.1 hdt 2000000
    unfold lackD at h1
    omega
/-- the error of Duration -/
def durE (ps : List Int) (F : Bool) (dt : Int) : Int := if begE [⟨⟨#[99, 111, 117, 110, 116]⟩, 1, 15, 1⟩, ⟨⟨#[108, 101, 97, 115, 116]⟩, 0, 86400, 0⟩] ps F ≠ 0 then begE [⟨⟨#[99, 111, 117, 110, 116]⟩, 1, 15, 1⟩, ⟨⟨#[108, 101, 97, 115, 116]⟩, 0, 86400, 0⟩] ps F else if inR 1 dt 86400 = false then 1 else 0
def DurR (ps : List Int) (F : Bool) (dt n E : Int) : Prop :=
  E = durE ps F dt ∧ (E ≠ 0 → n = 0) ∧ (E = 0 → ∃ L least : Int, ∃ N : Nat, ps = [L, least] ∧ (1 ≤ L ∧ L ≤ 15) ∧ (0 ≤ least ∧ least ≤ 86400) ∧ (1 ≤ dt ∧ dt ≤ 86400) ∧ n = N ∧ N ≤ 2000000 ∧ (durS L least dt N).1 = L ∧ ∀ k, k < N → (durS L least dt k).1 ≠ L)
theorem begE_zero2 {ps : List Int} {F : Bool} (h : begE [⟨⟨#[99, 111, 117, 110, 116]⟩, 1, 15, 1⟩, ⟨⟨#[108, 101, 97, 115, 116]⟩, 0, 86400, 0⟩] ps F = 0) : ps.length = 2 ∧ F = true := by
  unfold begE at h
  split at h
  · rename_i hl
    refine ⟨by rw [hl]; rfl, ?_⟩
    split at h
    · assumption
    · omega
  · omega
set_option maxHeartbeats 4000000 in
set_option maxRecDepth 100000 in
theorem duration_any (pa : Option Addr) (pc : Nat) (ps : List Int) (F : Bool) (dt : Int) (w : World) (hm : MaxAt w) (hps : InS w pa ps.length 1 (flat iL ps)) (hF : F = true ↔ ∀ (k : Nat) (x : BndD) (y : Int), ([⟨⟨#[99, 111, 117, 110, 116]⟩, 1, 15, 1⟩, ⟨⟨#[108, 101, 97, 115, 116]⟩, 0, 86400, 0⟩] : List BndD)[k]? = some x → ps[k]? = some y → inR x.lo y x.hi = true) :
    Calls Tryd.prog 20 #[.slice pa ps.length pc, .int .i64 dt] w fun e w' => ∃ n E : Int, e = .returned (.tuple #[.int .i64 n, .int .i64 E]) ∧ DurR ps F dt n E ∧ Below w.heap.size w w' := by
  by_cases hall : begE [⟨⟨#[99, 111, 117, 110, 116]⟩, 1, 15, 1⟩, ⟨⟨#[108, 101, 97, 115, 116]⟩, 0, 86400, 0⟩] ps F = 0 ∧ inR 1 dt 86400 = true
  · obtain ⟨hbe, htm⟩ := hall
    have hz := begE_zero2 hbe
    obtain ⟨L, least, rfl⟩ : ∃ a b, ps = [a, b] := by
      match ps, hz.1 with
      | [a, b], _ => exact ⟨a, b, rfl⟩
    have hr0 := inR_le' (hF.1 hz.2 0 _ _ rfl rfl)
    have hr1 := inR_le' (hF.1 hz.2 1 _ _ rfl rfl)
    simp only at hr0 hr1
    have hdt := inR_le' htm
    obtain ⟨N, hN2, hN, hne⟩ := dur_first L least dt hr0 hr1 hdt.1
    have hk := durS_keep L least dt hr0.1 hdt.1
    refine Calls.mono (duration_ok L least dt pa pc (durS L least dt) N w hm ⟨hr0.1, hr0.2, hr1.1, hr1.2⟩ hdt hps rfl (fun k _ => rfl) (fun k _ => by have := hk k; omega) (fun k _ => by have := hk k; omega) hne hN (by omega)) ?_
    rintro e w2 ⟨rfl, hb⟩
    refine ⟨_, _, rfl, ⟨?_, fun h => absurd rfl h, fun _ => ⟨L, least, N, rfl, hr0, hr1, hdt, rfl, hN2, hN, hne⟩⟩, hb⟩
    unfold durE
    rw [if_neg (by rw [hbe]; decide), if_neg (by rw [htm]; decide)]
  · have HBD := Lib.hid hall
    have KB := Lib.hid (begin_steps pa pc ps F w hm hps hF)
    have KT := Lib.hid (fun (W : World) => time_any dt W)
    obtain ⟨M, hM⟩ : ∃ N, N = ps.length := ⟨_, rfl⟩
    obtain ⟨E, hE⟩ : ∃ x, x = begE [⟨⟨#[99, 111, 117, 110, 116]⟩, 1, 15, 1⟩, ⟨⟨#[108, 101, 97, 115, 116]⟩, 0, 86400, 0⟩] ps F := ⟨_, rfl⟩
    have HE := Lib.hid hE
    rw [← hM, ← hE] at KB
    rw [← hM]
    clear hm hps hF hM hE hall
    by_cases hE0 : E = 0
    · have hTM : inR 1 dt 86400 = false := by
        cases h : inR 1 dt 86400 with
        | false => rfl
        | true => exact absurd ⟨by rw [← HE.out]; exact hE0, h⟩ HBD.out
      have HTM := Lib.hid hTM
      subst hE0
      clear hTM
      go_enter Tryd.func20, Tryd.ntmps20
      go_wp2_with fail
      refine KB.out.mono ?_
      rintro e w2 ⟨R, rfl, hso, hb⟩
      have HB2 := Lib.hid hb
      clear hso hb
      go_wp2_with fail
      refine (KT.out _).mono ?_
      rintro e w3 ⟨rfl, rfl⟩
      rw [HTM.out]
      go_wp2_with fail
      go_ret2
      exact ⟨_, _, rfl, ⟨by unfold durE; rw [if_neg (by rw [← HE.out]; decide), if_pos HTM.out], fun _ => rfl, fun h => absurd h (by decide)⟩, HB2.out⟩
    · have e1 : (E == 0) = false := by rw [beq_eq_false_iff_ne]; exact hE0
      have e2 : (E != 0) = true := by rw [bne, e1]; rfl
      go_enter Tryd.func20, Tryd.ntmps20
      go_wp2_with fail
      refine KB.out.mono ?_
      rintro e w2 ⟨R, rfl, hso, hb⟩
      clear hso
      go_wp2_with fail
      go_ret2
      exact ⟨_, _, rfl, ⟨by unfold durE; rw [if_pos (by rw [← HE.out]; exact hE0)]; exact HE.out, fun _ => rfl, fun h => absurd h hE0⟩, hb⟩
set_option maxHeartbeats 4000000 in
set_option maxRecDepth 100000 in
theorem rduration_any (L least dt : Int) (N pb po pc : Nat) (w : World) (hL : 1 ≤ L ∧ L ≤ 15) (hdt : 1 ≤ dt ∧ dt ≤ 86400) (hN2 : N ≤ 2000000) (hN : (durS L least dt N).1 = L) (hne : ∀ k, k < N → (durS L least dt k).1 ≠ L) (p0 : w.cell? ⟨pb, po, none⟩ = some (.int .i64 L)) (p1 : w.cell? ⟨pb, po + 1, none⟩ = some (.int .i64 least)) :
    Calls Tryd.prog 21 #[.slice (some ⟨pb, po, none⟩) 2 pc, .int .i64 dt] w fun e w' => e = .returned (.int .i64 N) ∧ Below w.heap.size w w' := by
  have HN := Lib.hid hN
  have HNE := Lib.hid hne
  have HK := Lib.hid (durS_keep L least dt hL.1 hdt.1)
  have HP := Lib.hid (And.intro p0 p1)
  clear hN hne p0 p1
  obtain ⟨W1, g0, hW, hg0, R1, B1, sz⟩ := box1 w #[.int .i64 0, .int .i64 0] 2
  have HR1 := Lib.hid R1
  have HB1 := Lib.hid B1
  clear R1 B1 sz
  go_enter Tryd.func21, Tryd.ntmps21
  go_upto_region 2 with fail
  rw [← hW]
  try rw [← hg0]
  clear hW hg0
  go_wp2_with fail
  go_loopw [5, 6] (fun s n wr => ∃ (k g : Nat), k ≤ N ∧ s = .slice (some ⟨g, 0, none⟩) 2 2 ∧ n = .int .i64 k ∧ Hid (RowAt wr g [.int .i64 (durS L least dt k).1, .int .i64 (durS L least dt k).2] ∧ Below w.heap.size w wr)) (fun _ n _ => N - (intOf n).toNat)
  case atStart => exact ⟨0, g0, Nat.zero_le _, rfl, rfl, Lib.hid ⟨HR1.out, HB1.out⟩⟩
  case round =>
    obtain ⟨k, g, hk, rfl, rfl, hH⟩ := hrel
    have HRW := Lib.hid hH.out.1
    have HBR := Lib.hid hH.out.2
    clear hH
    have HPT := Lib.hid (HK.out k)
    obtain ⟨P, hP⟩ : ∃ x, x = (durS L least dt k).1 := ⟨_, rfl⟩
    obtain ⟨T, hT⟩ : ∃ x, x = (durS L least dt k).2 := ⟨_, rfl⟩
    have HPP := Lib.hid hP
    have HTT := Lib.hid hT
    rw [← hP, ← hT] at HRW HPT
    have q0 := HRW.out.c 0 _ rfl
    have q1 := cell_below HP.out.1 HBR.out
    have k1 : IntKind.i64.wrap ((k : Int) + 1) = (k : Int) + 1 := IntWalk.i64_in _ (by omega)
    clear hP hT
    by_cases hlt : k < N
    · have hne2 := HNE.out k hlt
      rw [← HPP.out] at hne2
      have hPL : P < L := by have := HPT.out; omega
      clear hne2
      go_wp2_with fail
      go_quiet (fail)
      obtain ⟨w1, hw1⟩ : ∃ x, x = wr.drewN nq := ⟨_, rfl⟩
      have hb1 : Below wr.heap.size wr w1 := by rw [hw1]; exact below_drewN _ _ _
      have HB2 := Lib.hid (HBR.out.trans (hb1.mono HBR.out.size))
      have HRW2 := Lib.hid (HRW.out.keep hb1)
      rw [← hw1]
      clear hw1 hb1 q0 q1
      go_wp2_with fail
      have ks := rsteps_any L least dt P T true true pb po pc g 0 2 w1 hdt (by have := HPT.out; omega) (by have := HPT.out; omega) (cell_below HP.out.1 HB2.out) (cell_below HP.out.2 HB2.out) (HRW2.out.c 0 _ rfl) (HRW2.out.c 1 _ rfl)
      refine Calls.mono ks ?_
      rintro e w3 ⟨g2, rfl, hg2, hr2, hb2⟩
      have HN3 := Lib.hid (show RowAt w3 g2 [.int .i64 (durS L least dt (k + 1)).1, .int .i64 (durS L least dt (k + 1)).2] from by
        show RowAt w3 g2 [.int .i64 (stepsS L least ((1 : Int) == 1) ((1 : Int) == 1) dt (durS L least dt k).1 (durS L least dt k).2).1, .int .i64 (stepsS L least ((1 : Int) == 1) ((1 : Int) == 1) dt (durS L least dt k).1 (durS L least dt k).2).2]
        rw [← HPP.out, ← HTT.out]
        exact hr2)
      have HB3 := Lib.hid (HB2.out.trans (hb2.mono HB2.out.size))
      clear ks hr2 hb2
      go_wp2_with fail
      go_roundw
      case rel => exact ⟨k + 1, g2, by omega, rfl, by go_num, Lib.hid ⟨HN3.out, HB3.out⟩⟩
      case measure => (simp [intOf]) <;> omega
    · obtain rfl : k = N := by omega
      have hPL : ¬ P < L := by have h := HN.out; rw [← HPP.out] at h; omega
      have hd1 : decide (P < L) = false := decide_eq_false hPL
      go_wp2_with fail
      go_quiet (fail)
      go_wp2_with fail
      go_ret
      exact ⟨rfl, HBR.out.trans ((below_drewN wr.heap.size wr nq).mono HBR.out.size)⟩
end Go.Proofs.YthaigchklogjlaaDoor
