/- As XG of wip/tplciv, for texts of up to 1000 bytes, in a namespace of its own (Cv): civil.readNumbers. -/
import Derived.Test.YtaaaddmdcldclaaGreatDoorNk
import Derived.Deep.QuietTactic
import Derived.Deep.RegionWith
import Derived.WalkKit
import Derived.WalkSpells
import Derived.WalkLawsBesides
import Derived.Handy
import Derived.Outline
import Derived.RegionTactic
import Derived.ChangeAlike
import Derived.Shelf.Strings.SlTrimAscii
import Derived.OwnWalk
import Derived.Lib.SplitLaws
import Derived.Lib.AtoiErrMem
namespace Go.Proofs.YtaaaddmdcldclaaGreatDoor.Cv
open Go.RowKit

def bs (l : List UInt8) : ByteArray := ⟨l.toArray⟩
theorem bs_size (l : List UInt8) : (bs l).size = l.length := by unfold bs; exact List.size_toArray
theorem bs_data (l : List UInt8) : (bs l).data.toList = l := rfl
theorem ret_int {k : IntKind} {a b : Int} (h : a = b) : Ending.returned (.int k a) = .returned (.int k b) := by rw [h]
theorem below_drewN (B : Nat) (w : World) (n : Nat) : Below B w (w.drewN n) := ⟨rfl, rfl, rfl, Nat.le_refl _, fun _ _ => rfl⟩

/-- all bytes are digits -/
def digs (l : List UInt8) : Bool := l.all fun c => decide (48 ≤ c.toNat) && decide (c.toNat ≤ 57)
def isDg (l : List UInt8) : Bool := !l.isEmpty && l.all fun c => decide (48 ≤ c.toNat) && decide (c.toNat ≤ 57)
theorem digits_contains (c : UInt8) : [48, 49, 50, 51, 52, 53, 54, 55, 56, 57].contains c = (decide (48 ≤ c.toNat) && decide (c.toNat ≤ 57)) := by
  have h : ∀ n : Fin 256, ([48, 49, 50, 51, 52, 53, 54, 55, 56, 57] : List UInt8).contains (UInt8.ofNat n.val) = (decide (48 ≤ (UInt8.ofNat n.val).toNat) && decide ((UInt8.ofNat n.val).toNat ≤ 57)) := by decide +kernel
  have := h ⟨c.toNat, c.toNat_lt⟩
  rwa [UInt8.ofNat_toNat] at this

theorem dropWhile_all {p : UInt8 → Bool} : ∀ (l : List UInt8), l.dropWhile p = [] ↔ l.all p = true
  | [] => by simp
  | c :: l => by
    by_cases h : p c = true
    · rw [List.dropWhile_cons_of_pos h, dropWhile_all l, List.all_cons, h, Bool.true_and]
    · rw [List.dropWhile_cons_of_neg h, List.all_cons]
      simp [h]
theorem dropWhile_head {p : UInt8 → Bool} : ∀ (l : List UInt8), (l.dropWhile p).all p = true → l.dropWhile p = []
  | [], _ => rfl
  | c :: l, h => by
    by_cases hc : p c = true
    · rw [List.dropWhile_cons_of_pos hc] at h ⊢
      exact dropWhile_head l h
    · rw [List.dropWhile_cons_of_neg hc, List.all_cons, Bool.and_eq_true] at h
      exact absurd h.1 hc
theorem trimS_nil (l cs : List UInt8) : Lib.trimS l cs = [] ↔ l.all (cs.contains ·) = true := by
  unfold Lib.trimS Lib.trimLeftS Lib.trimRightS
  rw [dropWhile_all, List.all_reverse]
  constructor
  · intro h
    have := (dropWhile_all _).1 (dropWhile_head _ h)
    rwa [List.all_reverse] at this
  · intro h
    have h2 : l.reverse.dropWhile (cs.contains ·) = [] := (dropWhile_all _).2 (by rw [List.all_reverse]; exact h)
    rw [h2]; rfl
theorem isDg_trim (l : List UInt8) : isDg l = (!l.isEmpty && (Lib.trimS l [48, 49, 50, 51, 52, 53, 54, 55, 56, 57]).isEmpty) := by
  unfold isDg
  have e : (l.all fun c => decide (48 ≤ c.toNat) && decide (c.toNat ≤ 57)) = (Lib.trimS l [48, 49, 50, 51, 52, 53, 54, 55, 56, 57]).isEmpty := by
    rw [Bool.eq_iff_iff, List.isEmpty_iff, trimS_nil]
    have : (fun c : UInt8 => decide (48 ≤ c.toNat) && decide (c.toNat ≤ 57)) = fun c => [48, 49, 50, 51, 52, 53, 54, 55, 56, 57].contains c := by funext c; exact (digits_contains c).symm
    rw [this]
  rw [e]

theorem loop_eq (s : ByteArray) : ∀ (n i : Nat) (r : List UInt8), s.size - i = n → ByteArray.toList.loop s i r = r.reverse ++ s.data.toList.drop i
  | 0, i, r, h => by
    unfold ByteArray.toList.loop
    rw [if_neg (by omega), List.drop_of_length_le (by simpa using (by omega : s.size ≤ i)), List.append_nil]
  | n + 1, i, r, h => by
    unfold ByteArray.toList.loop
    have hi : i < s.data.toList.length := by simpa using (by omega : i < s.size)
    rw [if_pos (by omega), loop_eq s n (i + 1) _ (by omega), List.reverse_cons, List.append_assoc, List.drop_eq_getElem_cons hi]
    have e : s.get! i = s.data.toList[i] := by
      have hs : i < s.size := by omega
      simp [ByteArray.get!, getElem!_pos, hs]
    rw [e]; rfl
theorem toList_eq (s : ByteArray) : s.toList = s.data.toList := by
  unfold ByteArray.toList
  rw [loop_eq s _ 0 [] rfl]; rfl


theorem digs_trim (l : List UInt8) : digs l = (Lib.trimS l [48, 49, 50, 51, 52, 53, 54, 55, 56, 57]).isEmpty := by
  unfold digs
  rw [Bool.eq_iff_iff, List.isEmpty_iff, trimS_nil]
  have : (fun c : UInt8 => decide (48 ≤ c.toNat) && decide (c.toNat ≤ 57)) = fun c => [48, 49, 50, 51, 52, 53, 54, 55, 56, 57].contains c := by funext c; exact (digits_contains c).symm
  rw [this]

/-- what digits spell -/
def numF (n : Nat) (l : List UInt8) : Nat := l.foldl (fun n c => 10 * n + (c.toNat - 48)) n
def numL (l : List UInt8) : Nat := numF 0 l
theorem decFrom_num : ∀ (l : List UInt8) (n : Nat), digs l = true → Lib.decFrom n l = some (numF n l)
  | [], _, _ => rfl
  | c :: l, n, h => by
    unfold digs at h
    rw [List.all_cons, Bool.and_eq_true, Bool.and_eq_true, decide_eq_true_eq, decide_eq_true_eq] at h
    have e : Lib.digitVal c = some (c.toNat - 48) := by unfold Lib.digitVal; rw [if_pos h.1]
    unfold Lib.decFrom
    rw [e]
    show Lib.decFrom (n * 10 + (c.toNat - 48)) l = _
    rw [decFrom_num l _ (by unfold digs; exact h.2), Nat.mul_comm]
    rfl
theorem numF_lt : ∀ (l : List UInt8) (n : Nat), digs l = true → numF n l < (n + 1) * 10 ^ l.length
  | [], n, _ => by show n < (n + 1) * 10 ^ 0; omega
  | c :: l, n, h => by
    unfold digs at h
    rw [List.all_cons, Bool.and_eq_true, Bool.and_eq_true, decide_eq_true_eq, decide_eq_true_eq] at h
    have h2 := numF_lt l (10 * n + (c.toNat - 48)) (by unfold digs; exact h.2)
    show numF (10 * n + (c.toNat - 48)) l < _
    refine Nat.lt_of_lt_of_le h2 ?_
    rw [List.length_cons, Nat.pow_succ, Nat.mul_comm (10 ^ l.length) 10, ← Nat.mul_assoc]
    exact Nat.mul_le_mul_right _ (by omega)
theorem atoi_num (l : List UInt8) (h0 : l ≠ []) (h : digs l = true) : Lib.atoi l = some ((numL l : Nat) : Int) := by
  cases l with
  | nil => exact absurd rfl h0
  | cons c l =>
    have hd := decFrom_num (c :: l) 0 h
    unfold digs at h
    rw [List.all_cons, Bool.and_eq_true, Bool.and_eq_true, decide_eq_true_eq, decide_eq_true_eq] at h
    have e1 : (c == 45) = false := by rw [beq_eq_false_iff_ne]; rintro rfl; exact absurd h.1.1 (by decide)
    have e2 : (c == 43) = false := by rw [beq_eq_false_iff_ne]; rintro rfl; exact absurd h.1.1 (by decide)
    simp only [Lib.atoi, e1, e2, Bool.false_eq_true, if_false]
    unfold Lib.decNat
    rw [show (c :: l).isEmpty = false from rfl]
    show (Lib.decFrom 0 (c :: l)).map _ = _
    rw [hd]; rfl

set_option maxHeartbeats 1000000 in
theorem split_one (s : ByteArray) (d : UInt8) (w : World) (hs : s.size ≤ 1000) :
    Calls Tryz.prog 35 #[.string s, .string ⟨#[d]⟩] w fun e w' =>
      e = .returned (.slice (some ⟨w.heap.size, 0, none⟩) (Lib.countB s ⟨#[d]⟩ + 1) (Lib.countB s ⟨#[d]⟩ + 1)) ∧ w' = w.alloc (.cells ((Lib.splitB ⟨#[d]⟩ 0 (Lib.countB s ⟨#[d]⟩) s).map Value.string).toArray 9) := by
  have h1 : 1 ≤ (⟨#[d]⟩ : ByteArray).size := Nat.le_refl 1
  have hle := Lib.countB_le ⟨#[d]⟩ h1 s.size s (Nat.le_refl _)
  have hlen := Lib.splitB_all ⟨#[d]⟩ h1 0 _ s rfl
  have hI : ∀ (x : ByteArray) (w : World), Calls Tryz.prog 70 #[.string x, .string ⟨#[d]⟩] w fun e w' => e = .returned (.int .i64 (Lib.indexB x ⟨#[d]⟩)) ∧ w' = w := fun x w => by
    have h := Tryz.strings_Index_one x d w
    rw [← Lib.index_one] at h
    exact h
  have hC : Calls Tryz.prog 78 #[.string s, .string ⟨#[d]⟩] w fun e w' => e = .returned (.int .i64 (Lib.countB s ⟨#[d]⟩)) ∧ w' = w := by
    refine (Tryz.strings_Count_one s d w).mono fun e w' ⟨he, hw⟩ => ⟨?_, hw⟩
    rw [he]
    show _ = Ending.returned (Value.int .i64 ((Lib.count s.data.toList [d] : Nat) : Int))
    rw [Lib.count_one]
    rfl
  have c := Any.strings_genSplit_core Tryz.lays221 (by kernel_rfl) s ⟨#[d]⟩ 0 (-1) (Lib.countB s ⟨#[d]⟩ + 1) w (by omega) h1 (Nat.zero_le _) (fun x d _ => hI x _) hC (by decide) (by decide) (by rw [if_pos (by decide)]; omega)
  rw [Nat.add_sub_cancel, hlen] at c
  have e2 : Lib.cellsOf (Lib.splitB ⟨#[d]⟩ 0 (Lib.countB s ⟨#[d]⟩) s) (Lib.countB s ⟨#[d]⟩ + 1) = ((Lib.splitB ⟨#[d]⟩ 0 (Lib.countB s ⟨#[d]⟩) s).map Value.string).toArray := by rw [← hlen]; exact Lib.cellsOf_full _
  rw [e2] at c
  have c : Calls Tryz.prog 62 #[.string s, .string ⟨#[d]⟩, .int .i64 0, .int .i64 (-1)] w _ := c
  have HC := Lib.hid c
  clear c hlen hle hI hC e2 h1
  go_enter Tryz.func35, Tryz.ntmps35
  go_wp2_with fail
  refine HC.out.mono ?_
  rintro e w' ⟨rfl, rfl⟩
  go_wp2_with fail
  go_ret
  exact ⟨rfl, rfl⟩

/-- the first k parts are digits of the widths wanted -/
def okK (ps : List ByteArray) (ws : List Nat) (k : Nat) : Bool := (List.range k).all fun i => (ps.getD i ⟨#[]⟩).size == ws.getD i 0 && digs (ps.getD i ⟨#[]⟩).data.toList
theorem okK_succ (ps : List ByteArray) (ws : List Nat) (k : Nat) : okK ps ws (k + 1) = (okK ps ws k && ((ps.getD k ⟨#[]⟩).size == ws.getD k 0 && digs (ps.getD k ⟨#[]⟩).data.toList)) := by
  unfold okK; rw [List.range_succ, List.all_append, List.all_cons, List.all_nil, Bool.and_true]
theorem okK_stop (ps : List ByteArray) (ws : List Nat) (k n : Nat) (h : k < n) (hp : ((ps.getD k ⟨#[]⟩).size == ws.getD k 0 && digs (ps.getD k ⟨#[]⟩).data.toList) = false) : okK ps ws n = false := by
  rw [← Bool.not_eq_true]; unfold okK; rw [List.all_eq_true]
  intro h2
  have := h2 k (List.mem_range.2 h)
  rw [hp] at this; cases this
def okP (ps : List ByteArray) (ws : List Nat) : Bool := decide (ps.length = ws.length) && okK ps ws ws.length
/-- the parts of a text -/
def partsB (s : ByteArray) (c : UInt8) : List ByteArray := Lib.splitB ⟨#[c]⟩ 0 (Lib.countB s ⟨#[c]⟩) s
def valP (ps : List ByteArray) (k : Nat) : Int := (numL (ps.getD k ⟨#[]⟩).data.toList : Nat)

theorem grown_of_below {w w' : World} (h : Below w.heap.size w w') : w.grownBy w' none := ⟨h.os, h.tape, h.output, h.size, fun k hk _ => h.block k hk⟩

theorem infoInt : (Tryz.prog.info? 3).map (fun i => (i.zero, i.size, i.bytes)) = some (some (.int .i64 0), 1, 8) := by kernel_rfl

theorem trim_any (s : ByteArray) (w : World) (hs : s.size ≤ 9223372036854775807) :
    Calls Tryz.prog 119 #[.string s, .string ⟨#[48, 49, 50, 51, 52, 53, 54, 55, 56, 57]⟩] w fun e w' => ∃ S : ByteArray, e = .returned (.string S) ∧ S.toList.isEmpty = digs s.data.toList ∧ Below w.heap.size w w' := by
  have hT := Any.strings_Trim_laid Tryz.lays160 (by kernel_rfl) s ⟨#[48, 49, 50, 51, 52, 53, 54, 55, 56, 57]⟩ w hs (by decide) (ascii_of_all (by decide))
  change Calls Tryz.prog 119 _ _ (fun e w' => e = .returned (.string (bs (Lib.trimS s.data.toList [48, 49, 50, 51, 52, 53, 54, 55, 56, 57]))) ∧ Below w.heap.size w w') at hT
  refine hT.mono ?_
  rintro e w' ⟨rfl, hb⟩
  exact ⟨_, rfl, by rw [toList_eq, digs_trim]; rfl, hb⟩
theorem atoi_any (s : ByteArray) (w : World) (h0 : 1 ≤ s.size) (h1 : s.size ≤ 18) (hd : digs s.data.toList = true) :
    Calls Tryz.prog 120 #[.string s] w fun e w' => e = .returned (.tuple #[.int .i64 (numL s.data.toList : Nat), .nilIface]) ∧ Below w.heap.size w w' := by
  refine (Tryz.strconv_Atoi s _ h1 (atoi_num s.data.toList (fun h => ?_) hd) w).mono ?_
  · rw [Lib.size_eq, h] at h0; exact absurd h0 (by decide)
  · rintro e w' ⟨rfl, t, rfl⟩
    exact ⟨rfl, Lib.bytesWorld_below _ _ _⟩

theorem own_keep {w w' : World} {B e sz : Nat} {v : Value} {n : Nat} {xs : List Value} (h : w.ownsRow B e sz v n xs) (hb : Below w.heap.size w w') : w'.ownsRow B e sz v n xs :=
  h.kept (grown_of_below hb) (by cases v.ownBlock <;> simp)
theorem row_append {v : Value} {k : Nat} {ps : List ByteArray} {w1 : World} {B : Nat} (h : w1.ownsRow B 3 1 v (k + 1) ((List.range k).map (fun j => Value.int .i64 (valP ps j)) ++ [Value.int .i64 (valP ps k)])) : w1.ownsRow B 3 1 v (k + 1) ((List.range (k + 1)).map fun j => Value.int .i64 (valP ps j)) := by
  rw [List.range_succ, List.map_append]; exact h
set_option maxRecDepth 100000 in
set_option maxHeartbeats 4000000 in
theorem rn_yes (s : ByteArray) (c : UInt8) (bw cap : Nat) (ws : List Nat) (w : World) (hs : s.size ≤ 1000) (hbw : bw < w.heap.size) (hws : ∀ i, i < ws.length → 1 ≤ ws.getD i 0 ∧ ws.getD i 0 ≤ 4) (hm0 : 1 ≤ ws.length) (hm : ws.length ≤ 3)
    (hc : ∀ i, i < ws.length → w.cell? ⟨bw, i, none⟩ = some (.int .i64 (ws.getD i 0 : Nat))) (hok : okP (partsB s c) ws = true) :
    Calls Tryz.prog 104 #[.string s, .string ⟨#[c]⟩, .slice (some ⟨bw, 0, none⟩) ws.length cap] w fun e w' => Below w.heap.size w w' ∧ ∃ b k, e = .returned (.tuple #[.slice (some ⟨b, 0, none⟩) ws.length k, .bool true]) ∧ (∀ i, i < ws.length → w'.cell? ⟨b, i, none⟩ = some (.int .i64 (valP (partsB s c) i))) := by
  have HS := Lib.hid (split_one s c w hs)
  have hlen : (partsB s c).length = Lib.countB s ⟨#[c]⟩ + 1 := Lib.splitB_all ⟨#[c]⟩ (Nat.le_refl 1) 0 _ s rfl
  have hle := Lib.countB_le ⟨#[c]⟩ (Nat.le_refl 1) s.size s (Nat.le_refl _)
  change Hid (Calls Tryz.prog 35 #[.string s, .string ⟨#[c]⟩] w fun e w' => e = .returned (.slice (some ⟨w.heap.size, 0, none⟩) (Lib.countB s ⟨#[c]⟩ + 1) (Lib.countB s ⟨#[c]⟩ + 1)) ∧ w' = w.alloc (.cells ((partsB s c).map Value.string).toArray 9)) at HS
  rw [← hlen] at HS
  have hn : (partsB s c).length ≤ 1001 := by omega
  obtain ⟨ps, hps⟩ : ∃ ps, ps = partsB s c := ⟨_, rfl⟩
  rw [← hps] at HS hn hok ⊢
  clear hlen hle hps
  obtain ⟨m, hme⟩ : ∃ m, m = ws.length := ⟨_, rfl⟩
  obtain ⟨n, hne⟩ : ∃ n, n = ps.length := ⟨_, rfl⟩
  rw [← hme] at hws hm0 hm hc ⊢
  rw [← hne] at HS hn
  have HP := Lib.hid (show okP ps ws = (decide (n = m) && okK ps ws m) by unfold okP; rw [hne, hme])
  rw [HP.out] at hok
  have HN := Lib.hid hne
  have HM := Lib.hid hme
  clear hne hme HP
  rw [Bool.and_eq_true, decide_eq_true_eq] at hok
  obtain ⟨hnm, hokK⟩ := hok
  subst hnm
  have t1 : ((n : Int) != (n : Int)) = false := by rw [bne_self_eq_false]
  have HC := Lib.hid hc
  have HW := Lib.hid hws
  have HK := Lib.hid hokK
  clear hc hws hokK
  obtain ⟨i0, hi, hz0, hz1, hz2⟩ := info_parts infoInt
  go_enter Tryz.func104, Tryz.ntmps104
  go_wp2_with fail
  refine HS.out.mono ?_
  rintro e w' ⟨rfl, rfl⟩
  go_wp2_with fail
  go_loopw [9, 24] (fun v i wr => ∃ k : Nat, k ≤ n ∧ i = .int .i64 k ∧ okK ps ws k = true ∧ wr.ownsRow (w.heap.size + 1) 3 1 v k ((List.range k).map fun j => Value.int .i64 (valP ps j)) ∧ Below w.heap.size w wr ∧ w.heap.size < wr.heap.size ∧ (∀ j, j < n → wr.cell? ⟨w.heap.size, j, none⟩ = some (.string (ps.getD j ⟨#[]⟩)))) (fun _ i _ => n - (intOf i).toNat)
  case atStart =>
    refine ⟨0, by omega, rfl, rfl, ⟨rfl, .inl ⟨rfl, rfl⟩⟩, (Below.refl _ _).alloc (Nat.le_refl _) _, by simp, fun j hj => ?_⟩
    have hj' : j < ps.length := by rw [← HN.out]; exact hj
    simp [List.getD, hj']
  case round =>
    obtain ⟨k, hk, rfl, hok, hown, hb, hsz, hcs⟩ := hrel
    have HB := Lib.hid hb
    have HO := Lib.hid hok
    have HX := Lib.hid hcs
    by_cases hlt : k < n
    · have c1 := hcs k hlt
      have c2 : wr.cell? ⟨bw, k, none⟩ = some (.int .i64 (ws.getD k 0 : Nat)) := (hb.cell (p := ⟨bw, k, none⟩) hbw).trans (HC.out k hlt)
      have hw4 := HW.out k hlt
      have hs1 := okK_succ ps ws k
      have hs2 := okK_stop ps ws k n hlt
      have hval : valP ps k = (numL (ps.getD k ⟨#[]⟩).data.toList : Nat) := rfl
      obtain ⟨p, hp⟩ : ∃ p, p = ps.getD k ⟨#[]⟩ := ⟨_, rfl⟩
      obtain ⟨u, hu⟩ : ∃ u, u = ws.getD k 0 := ⟨_, rfl⟩
      rw [← hp] at c1 hs1 hs2 hval
      rw [← hu] at c2 hw4 hs1 hs2
      have HOwn := Lib.hid hown
      clear hp hu hcs hok hb hown
      have k0 : (0 : Int) ≤ (k : Int) := by omega
      have k1 : (k : Int) < (n : Int) := by omega
      have HS1 := Lib.hid hs1
      have HS2 := Lib.hid hs2
      have HV := Lib.hid hval
      clear hs1 hs2 hval
      by_cases hsize : p.size = u
      · have t2 : ((p.size : Int) != (u : Int)) = false := by rw [hsize]; exact bne_self_eq_false _
        have HT := Lib.hid fun w => trim_any p w (by omega)
        have HA := Lib.hid fun w => atoi_any p w (by omega) (by omega)
        cases hd : digs p.data.toList
        · rw [hd] at HT
          have hbad := HS2.out (by rw [hd, Bool.and_false])
          rw [HK.out] at hbad
          cases hbad
        · rw [hd] at HT HA
          have hokn : okK ps ws (k + 1) = true := by rw [HS1.out, HO.out, hd, hsize, beq_self_eq_true]; rfl
          have HOn := Lib.hid hokn
          have HAv := Lib.hid fun w => HA.out w rfl
          rw [← HV.out] at HAv
          obtain ⟨z, hz⟩ : ∃ z, z = valP ps k := ⟨_, rfl⟩
          rw [← hz] at HAv
          have HZ := Lib.hid hz
          clear HA HS1 HS2 HK HO hd hokn hz HV hsize
          go_wp2_with fail
          refine (HT.out _).mono ?_
          rintro e w2 ⟨S, rfl, hS, hb2⟩
          have B2 := Lib.hid (HB.out.trans (hb2.mono HB.out.size))
          have O2 := Lib.hid (own_keep HOwn.out hb2)
          have X2 := Lib.hid fun j hj => (hb2.cell (p := ⟨w.heap.size, j, none⟩) hsz).trans (HX.out j hj)
          have hsz2 : w.heap.size < w2.heap.size := Nat.lt_of_lt_of_le hsz hb2.size
          clear hb2
          go_wp2_with fail
          refine (HAv.out _).mono ?_
          rintro e w3 ⟨rfl, hb3⟩
          have B3 := Lib.hid (B2.out.trans (hb3.mono B2.out.size))
          have O3 := Lib.hid (own_keep O2.out hb3)
          have X3 := Lib.hid fun j hj => (hb3.cell (p := ⟨w.heap.size, j, none⟩) hsz2).trans (X2.out j hj)
          have hsz3 : w.heap.size < w3.heap.size := Nat.lt_of_lt_of_le hsz2 hb3.size
          clear hb3
          go_wp2_with (at_builtin; refine wpList_append_own _ rfl _ _ 100 rfl (w.heap.size + 1) 3 i0 (.int .i64 0) 1 8 Tryz.underlying100 hi hz0 hz1 hz2 rfl (by decide) _ _ _ rfl (O3.out.alloc _) ⟨w3.heap.size, 0, none⟩ 1 1 [.int .i64 z] rfl rfl ?c1 ?c2 ?c3 ?c4 ?c5 ?_)
          case c1 => intro j u hj; cases j with | zero => simp at hj; subst hj; simp [Addr.add] | succ j => simp at hj
          case c2 => intro u hu; simp at hu; subst hu; rfl
          case c3 => unfold maxLen; omega
          case c4 => omega
          case c5 => simp; omega
          intro v' w4 hown4 hgrow _
          have O4 := Lib.hid (row_append (by rw [← HZ.out]; exact hown4))
          have hlt4 := (O3.out.alloc (.cells #[.int .i64 z] 3)).lt
          have B4 := Lib.hid ((B3.out.alloc B3.out.size (.cells #[.int .i64 z] 3)).grown hgrow (by simp; omega) (fun k hk => by have := hlt4 k hk; omega))
          have X4 := Lib.hid fun j (hj : j < n) => hgrow.cell (a := ⟨w.heap.size, j, none⟩) ((World.cell?_alloc_old _ _ _ (by simp; omega)).trans (X3.out j hj)) (fun h => by have := (hlt4 w.heap.size h.symm).1; omega)
          have hsz4 : w.heap.size < w4.heap.size := by have := hgrow.size; simp at this; omega
          clear hown4 hgrow hlt4
          go_wp2_with fail
          go_roundw
          case rel => exact ⟨k + 1, by omega, by go_num, HOn.out, O4.out, B4.out, hsz4, X4.out⟩
          case measure => simp [intOf]; omega
      · have t2 : ((p.size : Int) != (u : Int)) = true := by rw [bne_iff_ne]; omega
        have hbad := HS2.out (by rw [beq_eq_false_iff_ne.2 hsize, Bool.false_and])
        rw [HK.out] at hbad
        cases hbad
    · obtain rfl : k = n := by omega
      have HB := Lib.hid hb
      rcases hown.2 with ⟨_, h0⟩ | ⟨g, cp, cur, rfl, _⟩
      · omega
      have HOwn := Lib.hid hown
      clear hok hown hb hcs HX
      go_wp2_with fail
      go_ret2
      refine ⟨HB.out, g, cp, rfl, fun i hi => ?_⟩
      rw [HOwn.out.cellAt i (by omega)]
      rw [List.getElem?_map, List.getElem?_range hi]; rfl

set_option maxRecDepth 100000 in
set_option maxHeartbeats 4000000 in
theorem rn_no (s : ByteArray) (c : UInt8) (bw cap : Nat) (ws : List Nat) (w : World) (hs : s.size ≤ 1000) (hbw : bw < w.heap.size) (hws : ∀ i, i < ws.length → 1 ≤ ws.getD i 0 ∧ ws.getD i 0 ≤ 4) (hm0 : 1 ≤ ws.length) (hm : ws.length ≤ 3)
    (hc : ∀ i, i < ws.length → w.cell? ⟨bw, i, none⟩ = some (.int .i64 (ws.getD i 0 : Nat))) (hok : okP (partsB s c) ws = false) :
    Calls Tryz.prog 104 #[.string s, .string ⟨#[c]⟩, .slice (some ⟨bw, 0, none⟩) ws.length cap] w fun e w' => e = .returned (.tuple #[.slice none 0 0, .bool false]) ∧ Below w.heap.size w w' := by
  have HS := Lib.hid (split_one s c w hs)
  have hlen : (partsB s c).length = Lib.countB s ⟨#[c]⟩ + 1 := Lib.splitB_all ⟨#[c]⟩ (Nat.le_refl 1) 0 _ s rfl
  have hle := Lib.countB_le ⟨#[c]⟩ (Nat.le_refl 1) s.size s (Nat.le_refl _)
  change Hid (Calls Tryz.prog 35 #[.string s, .string ⟨#[c]⟩] w fun e w' => e = .returned (.slice (some ⟨w.heap.size, 0, none⟩) (Lib.countB s ⟨#[c]⟩ + 1) (Lib.countB s ⟨#[c]⟩ + 1)) ∧ w' = w.alloc (.cells ((partsB s c).map Value.string).toArray 9)) at HS
  rw [← hlen] at HS
  have hn : (partsB s c).length ≤ 1001 := by omega
  obtain ⟨ps, hps⟩ : ∃ ps, ps = partsB s c := ⟨_, rfl⟩
  rw [← hps] at HS hn hok
  clear hlen hle hps
  obtain ⟨m, hme⟩ : ∃ m, m = ws.length := ⟨_, rfl⟩
  obtain ⟨n, hne⟩ : ∃ n, n = ps.length := ⟨_, rfl⟩
  rw [← hme] at hws hm0 hm hc ⊢
  rw [← hne] at HS hn
  have HP := Lib.hid (show okP ps ws = (decide (n = m) && okK ps ws m) by unfold okP; rw [hne, hme])
  rw [HP.out] at hok
  have HN := Lib.hid hne
  have HM := Lib.hid hme
  clear hne hme HP
  by_cases hnm : n = m
  case neg =>
    have t1 : ((n : Int) != (m : Int)) = true := by rw [bne_iff_ne]; omega
    clear hc hws hnm hok
    go_enter Tryz.func104, Tryz.ntmps104
    go_wp2_with fail
    refine HS.out.mono ?_
    rintro e w' ⟨rfl, rfl⟩
    go_wp2_with fail
    go_ret2
    exact ⟨rfl, (Below.refl _ _).alloc (Nat.le_refl _) _⟩
  have hokK : okK ps ws m = false := by rw [decide_eq_true hnm, Bool.true_and] at hok; exact hok
  clear hok
  subst hnm
  have t1 : ((n : Int) != (n : Int)) = false := by rw [bne_self_eq_false]
  have HC := Lib.hid hc
  have HW := Lib.hid hws
  have HK := Lib.hid hokK
  clear hc hws hokK
  obtain ⟨i0, hi, hz0, hz1, hz2⟩ := info_parts infoInt
  go_enter Tryz.func104, Tryz.ntmps104
  go_wp2_with fail
  refine HS.out.mono ?_
  rintro e w' ⟨rfl, rfl⟩
  go_wp2_with fail
  go_loopw [9, 24] (fun v i wr => ∃ k : Nat, k ≤ n ∧ i = .int .i64 k ∧ okK ps ws k = true ∧ wr.ownsRow (w.heap.size + 1) 3 1 v k ((List.range k).map fun j => Value.int .i64 (valP ps j)) ∧ Below w.heap.size w wr ∧ w.heap.size < wr.heap.size ∧ (∀ j, j < n → wr.cell? ⟨w.heap.size, j, none⟩ = some (.string (ps.getD j ⟨#[]⟩)))) (fun _ i _ => n - (intOf i).toNat)
  case atStart =>
    refine ⟨0, by omega, rfl, rfl, ⟨rfl, .inl ⟨rfl, rfl⟩⟩, (Below.refl _ _).alloc (Nat.le_refl _) _, by simp, fun j hj => ?_⟩
    have hj' : j < ps.length := by rw [← HN.out]; exact hj
    simp [List.getD, hj']
  case round =>
    obtain ⟨k, hk, rfl, hok, hown, hb, hsz, hcs⟩ := hrel
    have HB := Lib.hid hb
    have HO := Lib.hid hok
    have HX := Lib.hid hcs
    by_cases hlt : k < n
    · have c1 := hcs k hlt
      have c2 : wr.cell? ⟨bw, k, none⟩ = some (.int .i64 (ws.getD k 0 : Nat)) := (hb.cell (p := ⟨bw, k, none⟩) hbw).trans (HC.out k hlt)
      have hw4 := HW.out k hlt
      have hs1 := okK_succ ps ws k
      have hs2 := okK_stop ps ws k n hlt
      have hval : valP ps k = (numL (ps.getD k ⟨#[]⟩).data.toList : Nat) := rfl
      obtain ⟨p, hp⟩ : ∃ p, p = ps.getD k ⟨#[]⟩ := ⟨_, rfl⟩
      obtain ⟨u, hu⟩ : ∃ u, u = ws.getD k 0 := ⟨_, rfl⟩
      rw [← hp] at c1 hs1 hs2 hval
      rw [← hu] at c2 hw4 hs1 hs2
      have HOwn := Lib.hid hown
      clear hp hu hcs hok hb hown
      have k0 : (0 : Int) ≤ (k : Int) := by omega
      have k1 : (k : Int) < (n : Int) := by omega
      have HS1 := Lib.hid hs1
      have HS2 := Lib.hid hs2
      have HV := Lib.hid hval
      clear hs1 hs2 hval
      by_cases hsize : p.size = u
      · have t2 : ((p.size : Int) != (u : Int)) = false := by rw [hsize]; exact bne_self_eq_false _
        have HT := Lib.hid fun w => trim_any p w (by omega)
        have HA := Lib.hid fun w => atoi_any p w (by omega) (by omega)
        cases hd : digs p.data.toList
        · rw [hd] at HT
          clear HA HS1 HS2 HK hd hsize
          go_wp2_with fail
          refine (HT.out _).mono ?_
          rintro e w2 ⟨S, rfl, hS, hb2⟩
          have B2 := Lib.hid (HB.out.trans (hb2.mono HB.out.size))
          clear hb2
          go_wp2_with fail
          go_ret2
          exact ⟨rfl, B2.out⟩
        · rw [hd] at HT HA
          have hokn : okK ps ws (k + 1) = true := by rw [HS1.out, HO.out, hd, hsize, beq_self_eq_true]; rfl
          have HOn := Lib.hid hokn
          have HAv := Lib.hid fun w => HA.out w rfl
          rw [← HV.out] at HAv
          obtain ⟨z, hz⟩ : ∃ z, z = valP ps k := ⟨_, rfl⟩
          rw [← hz] at HAv
          have HZ := Lib.hid hz
          clear HA HS1 HS2 HK HO hd hokn hz HV hsize
          go_wp2_with fail
          refine (HT.out _).mono ?_
          rintro e w2 ⟨S, rfl, hS, hb2⟩
          have B2 := Lib.hid (HB.out.trans (hb2.mono HB.out.size))
          have O2 := Lib.hid (own_keep HOwn.out hb2)
          have X2 := Lib.hid fun j hj => (hb2.cell (p := ⟨w.heap.size, j, none⟩) hsz).trans (HX.out j hj)
          have hsz2 : w.heap.size < w2.heap.size := Nat.lt_of_lt_of_le hsz hb2.size
          clear hb2
          go_wp2_with fail
          refine (HAv.out _).mono ?_
          rintro e w3 ⟨rfl, hb3⟩
          have B3 := Lib.hid (B2.out.trans (hb3.mono B2.out.size))
          have O3 := Lib.hid (own_keep O2.out hb3)
          have X3 := Lib.hid fun j hj => (hb3.cell (p := ⟨w.heap.size, j, none⟩) hsz2).trans (X2.out j hj)
          have hsz3 : w.heap.size < w3.heap.size := Nat.lt_of_lt_of_le hsz2 hb3.size
          clear hb3
          go_wp2_with (at_builtin; refine wpList_append_own _ rfl _ _ 100 rfl (w.heap.size + 1) 3 i0 (.int .i64 0) 1 8 Tryz.underlying100 hi hz0 hz1 hz2 rfl (by decide) _ _ _ rfl (O3.out.alloc _) ⟨w3.heap.size, 0, none⟩ 1 1 [.int .i64 z] rfl rfl ?c1 ?c2 ?c3 ?c4 ?c5 ?_)
          case c1 => intro j u hj; cases j with | zero => simp at hj; subst hj; simp [Addr.add] | succ j => simp at hj
          case c2 => intro u hu; simp at hu; subst hu; rfl
          case c3 => unfold maxLen; omega
          case c4 => omega
          case c5 => simp; omega
          intro v' w4 hown4 hgrow _
          have O4 := Lib.hid (row_append (by rw [← HZ.out]; exact hown4))
          have hlt4 := (O3.out.alloc (.cells #[.int .i64 z] 3)).lt
          have B4 := Lib.hid ((B3.out.alloc B3.out.size (.cells #[.int .i64 z] 3)).grown hgrow (by simp; omega) (fun k hk => by have := hlt4 k hk; omega))
          have X4 := Lib.hid fun j (hj : j < n) => hgrow.cell (a := ⟨w.heap.size, j, none⟩) ((World.cell?_alloc_old _ _ _ (by simp; omega)).trans (X3.out j hj)) (fun h => by have := (hlt4 w.heap.size h.symm).1; omega)
          have hsz4 : w.heap.size < w4.heap.size := by have := hgrow.size; simp at this; omega
          clear hown4 hgrow hlt4
          go_wp2_with fail
          go_roundw
          case rel => exact ⟨k + 1, by omega, by go_num, HOn.out, O4.out, B4.out, hsz4, X4.out⟩
          case measure => simp [intOf]; omega
      · have t2 : ((p.size : Int) != (u : Int)) = true := by rw [bne_iff_ne]; omega
        clear HS1 HS2 HK hsize
        go_wp2_with fail
        go_ret2
        exact ⟨rfl, HB.out⟩
    · obtain rfl : k = n := by omega
      have h := HK.out
      rw [hok] at h
      cases h
end Go.Proofs.YtaaaddmdcldclaaGreatDoor.Cv
