/- Contract of Settle for any arguments. -/
import Derived.Test.YthaigchklogjlaaDoorQr
import Derived.Test.YthaigchklogjlaaDoorQi
namespace Go.Proofs.YthaigchklogjlaaDoor
open Go.RowKit Go.Shelf

set_option linter.unusedVariables false
set_option linter.unusedSimpArgs false
/-- the states under one demand -/
def conS (L up dn ud dd d dt P T : Int) : Nat → Int × Int
  | 0 => (P, T)
  | k + 1 => stageS L up dn ud dd d dt (conS L up dn ud dd d dt P T k).1 (conS L up dn ud dd d dt P T k).2
theorem conS_keep (L up dn ud dd d dt P T : Int) (hP : 0 ≤ P ∧ P ≤ L) (hT : -6311433599 ≤ T ∧ T ≤ 6311433599) (hu : 0 ≤ ud ∧ ud ≤ 86400) (hd : 0 ≤ dd ∧ dd ≤ 86400) (hdt : 1 ≤ dt ∧ dt ≤ 86400) : ∀ k, 0 ≤ (conS L up dn ud dd d dt P T k).1 ∧ (conS L up dn ud dd d dt P T k).1 ≤ L ∧ -6311433599 ≤ (conS L up dn ud dd d dt P T k).2 ∧ (conS L up dn ud dd d dt P T k).2 ≤ 6311433599
  | 0 => ⟨hP.1, hP.2, hT.1, hT.2⟩
  | k + 1 => by
    obtain ⟨a, b, c, e⟩ := conS_keep L up dn ud dd d dt P T hP hT hu hd hdt k
    exact stage_keep L up dn ud dd d dt _ _ ⟨a, b⟩ ⟨c, e⟩ hu hd hdt
/-- where the stages are at last -/
def tgS (L up dn d P : Int) : Int := if up < d then L else if d < dn then 0 else P
/-- the stages that lack, and the time that lacks -/
def lackS (L up d P T : Int) : Int := if up < d then (L - P) * 86401 - min (max T 0) 86400 else P * 86401 - min (max (-T) 0) 86400
theorem lack_step (L up dn ud dd d dt P T : Int) (hP : 0 ≤ P ∧ P ≤ L) (hu : 0 ≤ ud ∧ ud ≤ 86400) (hd : 0 ≤ dd ∧ dd ≤ 86400) (hdt : 1 ≤ dt) (hne : P ≠ tgS L up dn d P) (hc : ¬ (up < d ∧ d < dn)) : lackS L up d (stageS L up dn ud dd d dt P T).1 (stageS L up dn ud dd d dt P T).2 ≤ lackS L up d P T - 1 := by
  unfold tgS at hne
  unfold lackS stageS
  by_cases h1 : up < d
  · rw [if_pos h1] at hne
    rw [if_pos h1, if_pos h1, if_pos ⟨h1, by omega⟩]
    split <;> (dsimp only; omega)
  · rw [if_neg h1] at hne
    rw [if_neg h1, if_neg h1, if_neg (fun h => h1 h.1)]
    split at hne
    · rename_i h2
      rw [if_pos ⟨h2, by omega⟩]
      split <;> (dsimp only; omega)
    · omega
theorem lack_ge (L up d P T : Int) (hP : 0 ≤ P ∧ P ≤ L) : -86400 ≤ lackS L up d P T := by
  unfold lackS
  split <;> omega
theorem lack_le (L up d P T : Int) (hP : 0 ≤ P ∧ P ≤ L) (hL : L ≤ 15) : lackS L up d P T ≤ 1300000 := by
  unfold lackS
  split <;> omega
theorem tg_step (L up dn ud dd d dt P T : Int) (hP : 0 ≤ P ∧ P ≤ L) (hc : ¬ (up < d ∧ d < dn)) : tgS L up dn d (stageS L up dn ud dd d dt P T).1 = tgS L up dn d P := by
  unfold tgS
  by_cases h1 : up < d
  · rw [if_pos h1, if_pos h1]
  · rw [if_neg h1, if_neg h1]
    by_cases h2 : d < dn
    · rw [if_pos h2, if_pos h2]
    · rw [if_neg h2, if_neg h2]
      unfold stageS
      rw [if_neg (fun h => h1 h.1), if_neg (fun h => h2 h.1)]
theorem tg_con (L up dn ud dd d dt P T : Int) (hP : 0 ≤ P ∧ P ≤ L) (hT : -6311433599 ≤ T ∧ T ≤ 6311433599) (hu : 0 ≤ ud ∧ ud ≤ 86400) (hd : 0 ≤ dd ∧ dd ≤ 86400) (hdt : 1 ≤ dt ∧ dt ≤ 86400) (hc : ¬ (up < d ∧ d < dn)) : ∀ k, tgS L up dn d (conS L up dn ud dd d dt P T k).1 = tgS L up dn d P
  | 0 => rfl
  | k + 1 => by
    have h := conS_keep L up dn ud dd d dt P T hP hT hu hd hdt k
    show tgS L up dn d (stageS L up dn ud dd d dt _ _).1 = _
    rw [tg_step L up dn ud dd d dt _ _ ⟨h.1, h.2.1⟩ hc]
    exact tg_con L up dn ud dd d dt P T hP hT hu hd hdt hc k
theorem lack_con (L up dn ud dd d dt P T : Int) (hP : 0 ≤ P ∧ P ≤ L) (hT : -6311433599 ≤ T ∧ T ≤ 6311433599) (hu : 0 ≤ ud ∧ ud ≤ 86400) (hd : 0 ≤ dd ∧ dd ≤ 86400) (hdt : 1 ≤ dt ∧ dt ≤ 86400) (hc : ¬ (up < d ∧ d < dn)) : ∀ n, (∀ k, k < n → (conS L up dn ud dd d dt P T k).1 ≠ tgS L up dn d P) → lackS L up d (conS L up dn ud dd d dt P T n).1 (conS L up dn ud dd d dt P T n).2 ≤ lackS L up d P T - n
  | 0, _ => by show lackS L up d P T ≤ _; omega
  | n + 1, h => by
    have hk := conS_keep L up dn ud dd d dt P T hP hT hu hd hdt n
    have h1 := lack_con L up dn ud dd d dt P T hP hT hu hd hdt hc n (fun k hk => h k (by omega))
    have h2 := lack_step L up dn ud dd d dt (conS L up dn ud dd d dt P T n).1 (conS L up dn ud dd d dt P T n).2 ⟨hk.1, hk.2.1⟩ hu hd hdt.1 (by rw [tg_con L up dn ud dd d dt P T hP hT hu hd hdt hc n]; exact h n (by omega)) hc
    show lackS L up d (stageS L up dn ud dd d dt _ _).1 (stageS L up dn ud dd d dt _ _).2 ≤ _
    omega
/-- the first evaluation behind which the stages are there -/
theorem con_first (L up dn ud dd d dt P T : Int) (hL : L ≤ 15) (hP : 0 ≤ P ∧ P ≤ L) (hT : -6311433599 ≤ T ∧ T ≤ 6311433599) (hu : 0 ≤ ud ∧ ud ≤ 86400) (hd : 0 ≤ dd ∧ dd ≤ 86400) (hdt : 1 ≤ dt ∧ dt ≤ 86400) (hc : ¬ (up < d ∧ d < dn)) : ∃ N : Nat, N ≤ 2000000 ∧ (conS L up dn ud dd d dt P T N).1 = tgS L up dn d P ∧ ∀ k, k < N → (conS L up dn ud dd d dt P T k).1 ≠ tgS L up dn d P := by
  classical
  by_cases h : ∃ k, k < 2000000 ∧ (conS L up dn ud dd d dt P T k).1 = tgS L up dn d P
  · have key : ∀ m, (∃ k, k < m ∧ (conS L up dn ud dd d dt P T k).1 = tgS L up dn d P) → ∃ N, N < m ∧ (conS L up dn ud dd d dt P T N).1 = tgS L up dn d P ∧ ∀ k, k < N → (conS L up dn ud dd d dt P T k).1 ≠ tgS L up dn d P := by
      intro m
      induction m with
      | zero => rintro ⟨k, hk, _⟩; omega
      | succ m ih =>
        rintro ⟨k, hk, he⟩
        by_cases h2 : ∃ k, k < m ∧ (conS L up dn ud dd d dt P T k).1 = tgS L up dn d P
        · obtain ⟨N, a, b, c⟩ := ih h2
          exact ⟨N, by omega, b, c⟩
        · refine ⟨k, hk, he, fun j hj e => h2 ⟨j, by omega, e⟩⟩
    obtain ⟨N, a, b, c⟩ := key _ h
    exact ⟨N, by omega, b, c⟩
  · have h1 := lack_con L up dn ud dd d dt P T hP hT hu hd hdt hc 2000000 (fun k hk e => h ⟨k, hk, e⟩)
    have hk := conS_keep L up dn ud dd d dt P T hP hT hu hd hdt 2000000
    have h2 := lack_ge L up d _ (conS L up dn ud dd d dt P T 2000000).2 ⟨hk.1, hk.2.1⟩
    have h3 := lack_le L up d P T hP hL
    omega
/-- the error of Settle -/
def setE (ps st : List Int) (F : Bool) (d dt : Int) : Int :=
  if begE [⟨⟨#[115, 116, 97, 103, 101, 115]⟩, 1, 15, 1⟩, ⟨⟨#[117, 112]⟩, (-1000000000000), 1000000000000, 0⟩, ⟨⟨#[100, 111, 119, 110]⟩, (-1000000000000), 1000000000000, 0⟩, ⟨⟨#[117, 112, 100, 101, 108, 97, 121]⟩, 0, 86400, 0⟩, ⟨⟨#[100, 111, 119, 110, 100, 101, 108, 97, 121]⟩, 0, 86400, 0⟩] ps F ≠ 0 then begE [⟨⟨#[115, 116, 97, 103, 101, 115]⟩, 1, 15, 1⟩, ⟨⟨#[117, 112]⟩, (-1000000000000), 1000000000000, 0⟩, ⟨⟨#[100, 111, 119, 110]⟩, (-1000000000000), 1000000000000, 0⟩, ⟨⟨#[117, 112, 100, 101, 108, 97, 121]⟩, 0, 86400, 0⟩, ⟨⟨#[100, 111, 119, 110, 100, 101, 108, 97, 121]⟩, 0, 86400, 0⟩] ps F else if inR 1 dt 86400 = false then 1 else if resE (-6311433599) (ps.getD 0 0) st ≠ 0 then 8 else if inR (-1000000000000) d 1000000000000 = false then 6 else if ps.getD 1 0 < d ∧ d < ps.getD 2 0 then 10 else 0
def SetR (ps st : List Int) (F : Bool) (d dt n k E : Int) : Prop :=
  E = setE ps st F d dt ∧ (E ≠ 0 → n = 0 ∧ k = 0) ∧ (E = 0 → ∃ L up dn ud dd P T : Int, ∃ N : Nat, ps = [L, up, dn, ud, dd] ∧ st = [P, T] ∧ (1 ≤ L ∧ L ≤ 15 ∧ -1000000000000 ≤ up ∧ up ≤ 1000000000000 ∧ -1000000000000 ≤ dn ∧ dn ≤ 1000000000000 ∧ 0 ≤ ud ∧ ud ≤ 86400 ∧ 0 ≤ dd ∧ dd ≤ 86400) ∧ (0 ≤ P ∧ P ≤ L) ∧ (-6311433599 ≤ T ∧ T ≤ 6311433599) ∧ (1 ≤ dt ∧ dt ≤ 86400) ∧ (-1000000000000 ≤ d ∧ d ≤ 1000000000000) ∧ ¬ (up < d ∧ d < dn) ∧ n = tgS L up dn d P ∧ k = N ∧ N ≤ 2000000 ∧ (conS L up dn ud dd d dt P T N).1 = tgS L up dn d P ∧ ∀ j, j < N → (conS L up dn ud dd d dt P T j).1 ≠ tgS L up dn d P)
theorem begE_zero' {ps : List Int} {F : Bool} (h : begE [⟨⟨#[115, 116, 97, 103, 101, 115]⟩, 1, 15, 1⟩, ⟨⟨#[117, 112]⟩, (-1000000000000), 1000000000000, 0⟩, ⟨⟨#[100, 111, 119, 110]⟩, (-1000000000000), 1000000000000, 0⟩, ⟨⟨#[117, 112, 100, 101, 108, 97, 121]⟩, 0, 86400, 0⟩, ⟨⟨#[100, 111, 119, 110, 100, 101, 108, 97, 121]⟩, 0, 86400, 0⟩] ps F = 0) : ps.length = 5 ∧ F = true := by
  unfold begE at h
  split at h
  · rename_i hl
    refine ⟨by rw [hl]; rfl, ?_⟩
    split at h
    · assumption
    · omega
  · omega
theorem inR_le' {lo n hi : Int} (h : inR lo n hi = true) : lo ≤ n ∧ n ≤ hi := by
  unfold inR at h
  rw [Bool.and_eq_true, decide_eq_true_eq, decide_eq_true_eq] at h
  exact h
theorem resE_zero {lo L : Int} {st : List Int} (h : resE lo L st = 0) : ∃ P T, st = [P, T] ∧ (0 ≤ P ∧ P ≤ L) ∧ (lo ≤ T ∧ T ≤ 6311433599) := by
  unfold resE at h
  split at h
  · rename_i hb
    unfold resB at hb
    split at hb
    · rename_i a c
      rw [Bool.and_eq_true] at hb
      exact ⟨_, _, rfl, inR_le' hb.1, inR_le' hb.2⟩
    · exact absurd hb (by decide)
  · omega
set_option maxHeartbeats 8000000 in
set_option maxRecDepth 100000 in
theorem settle_any (pa sa : Option Addr) (pc sc : Nat) (ps st : List Int) (F : Bool) (d dt : Int) (w : World) (hm : MaxAt w) (hps : InS w pa ps.length 1 (flat iL ps)) (hst : InS w sa st.length 1 (flat iL st)) (hF : F = true ↔ ∀ (k : Nat) (x : BndD) (y : Int), ([⟨⟨#[115, 116, 97, 103, 101, 115]⟩, 1, 15, 1⟩, ⟨⟨#[117, 112]⟩, (-1000000000000), 1000000000000, 0⟩, ⟨⟨#[100, 111, 119, 110]⟩, (-1000000000000), 1000000000000, 0⟩, ⟨⟨#[117, 112, 100, 101, 108, 97, 121]⟩, 0, 86400, 0⟩, ⟨⟨#[100, 111, 119, 110, 100, 101, 108, 97, 121]⟩, 0, 86400, 0⟩] : List BndD)[k]? = some x → ps[k]? = some y → inR x.lo y x.hi = true) :
    Calls Tryd.prog 16 #[.slice pa ps.length pc, .slice sa st.length sc, .int .i64 d, .int .i64 dt] w fun e w' => ∃ n k E : Int, e = .returned (.tuple #[.int .i64 n, .int .i64 k, .int .i64 E]) ∧ SetR ps st F d dt n k E ∧ Below w.heap.size w w' := by
  by_cases hall : begE [⟨⟨#[115, 116, 97, 103, 101, 115]⟩, 1, 15, 1⟩, ⟨⟨#[117, 112]⟩, (-1000000000000), 1000000000000, 0⟩, ⟨⟨#[100, 111, 119, 110]⟩, (-1000000000000), 1000000000000, 0⟩, ⟨⟨#[117, 112, 100, 101, 108, 97, 121]⟩, 0, 86400, 0⟩, ⟨⟨#[100, 111, 119, 110, 100, 101, 108, 97, 121]⟩, 0, 86400, 0⟩] ps F = 0 ∧ inR 1 dt 86400 = true ∧ resE (-6311433599) (ps.getD 0 0) st = 0 ∧ inR (-1000000000000) d 1000000000000 = true ∧ ¬ (ps.getD 1 0 < d ∧ d < ps.getD 2 0)
  · obtain ⟨hbe, htm, hre, hnm, hcf⟩ := hall
    have hz := begE_zero' hbe
    obtain ⟨L, up, dn, ud, dd, rfl⟩ : ∃ a b c d e, ps = [a, b, c, d, e] := by
      match ps, hz.1 with
      | [a, b, c, d, e], _ => exact ⟨a, b, c, d, e, rfl⟩
    have hr0 := inR_le' (hF.1 hz.2 0 _ _ rfl rfl)
    have hr1 := inR_le' (hF.1 hz.2 1 _ _ rfl rfl)
    have hr2 := inR_le' (hF.1 hz.2 2 _ _ rfl rfl)
    have hr3 := inR_le' (hF.1 hz.2 3 _ _ rfl rfl)
    have hr4 := inR_le' (hF.1 hz.2 4 _ _ rfl rfl)
    simp only at hr0 hr1 hr2 hr3 hr4
    obtain ⟨P, T, rfl, hP, hT⟩ := resE_zero hre
    have hdt := inR_le' htm
    have hd := inR_le' hnm
    have hP' : 0 ≤ P ∧ P ≤ L := hP
    have hc : ¬ (up < d ∧ d < dn) := hcf
    have hp : 1 ≤ L ∧ L ≤ 15 ∧ -1000000000000 ≤ up ∧ up ≤ 1000000000000 ∧ -1000000000000 ≤ dn ∧ dn ≤ 1000000000000 ∧ 0 ≤ ud ∧ ud ≤ 86400 ∧ 0 ≤ dd ∧ dd ≤ 86400 := by omega
    obtain ⟨N, hN2, hN, hne⟩ := con_first L up dn ud dd d dt P T (by omega) hP' hT (by omega) (by omega) hdt hc
    have hk := conS_keep L up dn ud dd d dt P T hP' hT (by omega) (by omega) hdt
    refine Calls.mono (settle_ok L up dn ud dd d P T dt (tgS L up dn d P) pa sa pc sc (conS L up dn ud dd d dt P T) N w hm hp hd hP' hT hdt ⟨hc, rfl⟩ hps hst rfl (fun k _ => rfl) (fun k _ => by have := hk k; omega) (fun k _ => by have := hk k; omega) hne hN (by omega)) ?_
    rintro e w2 ⟨rfl, hb⟩
    refine ⟨_, _, _, rfl, ⟨?_, fun h => absurd rfl h, fun _ => ⟨L, up, dn, ud, dd, P, T, N, rfl, rfl, hp, hP', hT, hdt, hd, hc, rfl, rfl, hN2, hN, hne⟩⟩, hb⟩
    unfold setE
    rw [if_neg (by rw [hbe]; decide), if_neg (by rw [htm]; decide), if_neg (by rw [hre]; decide), if_neg (by rw [hnm]; decide), if_neg hcf]
  · have HBD := Lib.hid hall
    have KB := Lib.hid (begin_stage pa pc ps F w hm hps hF)
    have KT := Lib.hid (fun (W : World) => time_any dt W)
    have KNB := Lib.hid (fun (W : World) => number_yes d W)
    have HPS := Lib.hid hps
    have HST := Lib.hid hst
    have HF := Lib.hid hF
    obtain ⟨N, hN⟩ : ∃ N, N = ps.length := ⟨_, rfl⟩
    obtain ⟨M, hM⟩ : ∃ M, M = st.length := ⟨_, rfl⟩
    have HNL := Lib.hid hN
    have HML := Lib.hid hM
    obtain ⟨E, hE⟩ : ∃ x, x = begE [⟨⟨#[115, 116, 97, 103, 101, 115]⟩, 1, 15, 1⟩, ⟨⟨#[117, 112]⟩, (-1000000000000), 1000000000000, 0⟩, ⟨⟨#[100, 111, 119, 110]⟩, (-1000000000000), 1000000000000, 0⟩, ⟨⟨#[117, 112, 100, 101, 108, 97, 121]⟩, 0, 86400, 0⟩, ⟨⟨#[100, 111, 119, 110, 100, 101, 108, 97, 121]⟩, 0, 86400, 0⟩] ps F := ⟨_, rfl⟩
    have HE := Lib.hid hE
    rw [← hN, ← hE] at KB
    rw [← hN, ← hM]
    clear hm hps hst hF hN hM hE hall
    by_cases hE0 : E = 0
    · subst hE0
      have hz := begE_zero' HE.out.symm
      obtain ⟨L, up, dn, ud, dd, rfl⟩ : ∃ a b c d e, ps = [a, b, c, d, e] := by
        match ps, hz.1 with
        | [a, b, c, d, e], _ => exact ⟨a, b, c, d, e, rfl⟩
      have hr0 := inR_le' (HF.out.1 hz.2 0 _ _ rfl rfl)
      have hr1 := inR_le' (HF.out.1 hz.2 1 _ _ rfl rfl)
      have hr2 := inR_le' (HF.out.1 hz.2 2 _ _ rfl rfl)
      have hr3 := inR_le' (HF.out.1 hz.2 3 _ _ rfl rfl)
      have hr4 := inR_le' (HF.out.1 hz.2 4 _ _ rfl rfl)
      simp only at hr0 hr1 hr2 hr3 hr4
      obtain rfl : N = 5 := HNL.out
      obtain ⟨pb, po, rfl, hpl, hpc⟩ := (show InS w pa 5 1 (flat iL [L, up, dn, ud, dd]) from HPS.out).at (xs := [L, up, dn, ud, dd]) iL_len (by simp)
      have p0 : w.cell? ⟨pb, po, none⟩ = some (.int .i64 L) := by have h := hpc 0 _ rfl 0 _ rfl; simpa using h
      have p1 : w.cell? ⟨pb, po + 1, none⟩ = some (.int .i64 up) := by have h := hpc 1 _ rfl 0 _ rfl; simpa using h
      have p2 : w.cell? ⟨pb, po + 2, none⟩ = some (.int .i64 dn) := by have h := hpc 2 _ rfl 0 _ rfl; simpa using h
      have HP0 := Lib.hid p0
      have HP1 := Lib.hid p1
      have HP2 := Lib.hid p2
      have HPB := Lib.hid hpl
      clear hz hpl hpc p0 p1 p2 hr0 hr1 hr2 hr3 hr4
      have HSQ := Lib.hid (show ∀ b o, sa = some ⟨b, o, none⟩ → 0 < M → b < w.heap.size from fun b o e h => by
        obtain ⟨b2, o2, e2, hl, hc⟩ := HST.out.at iL_len (by have := HML.out; omega)
        rw [e2] at e
        injection e with e
        injection e with e1 e2
        rw [← e1]; exact hl)
      go_enter Tryd.func16, Tryd.ntmps16
      go_wp2_with fail
      refine KB.out.mono ?_
      rintro e w2 ⟨R, rfl, hso, hb⟩
      try rw [← HE.out] at hso
      obtain ⟨q, v1, v3, v5, a2, c2, rfl, hq, hrow, hil⟩ := hso (by first | rfl | trivial)
      have HB2 := Lib.hid hb
      have HQ := Lib.hid (show w.heap.size ≤ q from hq)
      have HR2 := Lib.hid hrow
      clear hso hb hq hrow hil
      go_wp2_with fail
      refine (KT.out _).mono ?_
      rintro e w3 ⟨rfl, rfl⟩
      obtain ⟨TM, hTM⟩ : ∃ x, x = inR 1 dt 86400 := ⟨_, rfl⟩
      have HTM := Lib.hid hTM
      rw [← hTM]
      clear hTM
      cases TM
      · go_wp2_with fail
        go_ret3
        exact ⟨_, _, _, rfl, ⟨by unfold setE; rw [if_neg (by rw [← HE.out]; decide), if_pos HTM.out.symm], fun _ => ⟨rfl, rfl⟩, fun h => absurd h (by decide)⟩, HB2.out⟩
      · go_wp2_with fail
        have kr := resume_stage q pb po pc v1 (.slice a2 1 c2) v3 v5 L sa sc st w2 HR2.out (cell_below HP0.out HB2.out) (HST.out.keep HB2.out) (fun b o e hbq => by have h1 := HSQ.out b o e (by rw [HML.out]; exact hbq); have h2 := HQ.out; omega)
        obtain ⟨E2, hE2⟩ : ∃ x, x = resE (-6311433599) L st := ⟨_, rfl⟩
        have HE2 := Lib.hid hE2
        rw [← HML.out, ← hE2] at kr
        clear hE2
        refine Calls.mono kr ?_
        rintro e w5 ⟨rfl, hrow, hg⟩
        have hqw := HQ.out
        have HB5 := Lib.hid (HB2.out.grown hg (by have := HB2.out.size; omega) (fun z e => by cases e; exact hqw))
        have HRW := Lib.hid hrow
        clear kr hg hrow
        by_cases hE20 : E2 = 0
        · subst hE20
          obtain ⟨P, T, hst2, hr5⟩ := HRW.out rfl
          have HR5 := Lib.hid hr5
          clear hr5
          go_wp2_with fail
          refine (KNB.out _).mono ?_
          rintro e w6 ⟨rfl, rfl⟩
          obtain ⟨NM, hNM⟩ : ∃ x, x = inR (-1000000000000) d 1000000000000 := ⟨_, rfl⟩
          have HNM := Lib.hid hNM
          rw [← hNM]
          clear hNM
          cases NM
          · go_wp2_with fail
            go_ret3
            exact ⟨_, _, _, rfl, ⟨by unfold setE; rw [if_neg (by rw [← HE.out]; decide), if_neg (by rw [← HTM.out]; decide), if_neg (by show ¬ resE (-6311433599) L st ≠ 0; rw [← HE2.out]; decide), if_pos HNM.out.symm], fun _ => ⟨rfl, rfl⟩, fun h => absurd h (by decide)⟩, HB5.out⟩
          · go_wp2_with fail
            have kc := compare_any q pb po 5 pc _ v1 (.slice a2 1 c2) v3 (.int .i64 2) v5 P T d up dn w5 HR5.out (by decide) (cell_below HP1.out HB5.out) (cell_below HP2.out HB5.out)
            refine Calls.mono kc ?_
            rintro e w6 ⟨rfl, hb⟩
            have HR6 := Lib.hid (HR5.out.keep hb)
            have HB6 := Lib.hid (HB5.out.trans (hb.mono HB5.out.size))
            have r7 := HR6.out.c 7 _ rfl
            clear kc hb
            obtain ⟨h1, h2⟩ : up < d ∧ d < dn := by
              by_cases hc : up < d ∧ d < dn
              · exact hc
              · exact absurd ⟨HE.out.symm, HTM.out.symm, (show resE (-6311433599) L st = 0 from HE2.out.symm), HNM.out.symm, hc⟩ HBD.out
            rw [decide_eq_true h1, decide_eq_true h2]
            go_wp2_with fail
            go_ret3
            exact ⟨_, _, _, rfl, ⟨by unfold setE; rw [if_neg (by rw [← HE.out]; decide), if_neg (by rw [← HTM.out]; decide), if_neg (by show ¬ resE (-6311433599) L st ≠ 0; rw [← HE2.out]; decide), if_neg (by rw [← HNM.out]; decide), if_pos ⟨h1, h2⟩], fun _ => ⟨rfl, rfl⟩, fun h => absurd h (by decide)⟩, HB6.out⟩
        · have e1 : (E2 == 0) = false := by rw [beq_eq_false_iff_ne]; exact hE20
          have e2 : (E2 != 0) = true := by rw [bne, e1]; rfl
          have h8 : E2 = 8 := by
            rw [HE2.out] at hE20 ⊢
            unfold resE at hE20 ⊢
            split
            · rename_i h; rw [if_pos h] at hE20; exact absurd rfl hE20
            · rfl
          go_wp2_with fail
          go_ret3
          refine ⟨_, _, _, rfl, ?_, HB5.out⟩
          rw [← h8]
          exact ⟨by unfold setE; rw [if_neg (by rw [← HE.out]; decide), if_neg (by rw [← HTM.out]; decide), if_pos (show resE (-6311433599) ([L, up, dn, ud, dd].getD 0 0) st ≠ 0 by show resE (-6311433599) L st ≠ 0; rw [← HE2.out]; exact hE20)]; exact h8, fun _ => ⟨rfl, rfl⟩, fun h => absurd h hE20⟩
    · have e1 : (E == 0) = false := by rw [beq_eq_false_iff_ne]; exact hE0
      have e2 : (E != 0) = true := by rw [bne, e1]; rfl
      go_enter Tryd.func16, Tryd.ntmps16
      go_wp2_with fail
      refine KB.out.mono ?_
      rintro e w2 ⟨R, rfl, hso, hb⟩
      clear hso
      go_wp2_with fail
      go_ret3
      exact ⟨_, _, _, rfl, ⟨by unfold setE; rw [if_pos (by rw [← HE.out]; exact hE0)]; exact HE.out, fun _ => ⟨rfl, rfl⟩, fun h => absurd h hE0⟩, hb⟩
end Go.Proofs.YthaigchklogjlaaDoor
