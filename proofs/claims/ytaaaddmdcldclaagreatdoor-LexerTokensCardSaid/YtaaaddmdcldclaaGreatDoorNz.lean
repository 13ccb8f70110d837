/- Contracts of Lines, of both sides. -/
import Derived.Test.YtaaaddmdcldclaaGreatDoorCg
import Derived.Test.YtaaaddmdcldclaaGreatDoorSl
import Derived.Test.YtaaaddmdcldclaaGreatDoorNx
import Derived.OwnWalk
namespace Go.Proofs.YtaaaddmdcldclaaGreatDoor
open Go.RowKit Go.Shelf
set_option linter.unusedVariables false
set_option linter.unusedSimpArgs false

set_option maxHeartbeats 1000000 in
theorem split_any (s : ByteArray) (d : UInt8) (w : World) (hs : s.size ≤ 1000000) :
    Calls Tryz.prog 35 #[.string s, .string ⟨#[d]⟩] w fun e w' =>
      e = .returned (.slice (some ⟨w.heap.size, 0, none⟩) (Lib.countB s ⟨#[d]⟩ + 1) (Lib.countB s ⟨#[d]⟩ + 1)) ∧ w' = w.alloc (.cells ((Lib.splitB ⟨#[d]⟩ 0 (Lib.countB s ⟨#[d]⟩) s).map Value.string).toArray 9) := by
  have h1 : 1 ≤ (⟨#[d]⟩ : ByteArray).size := Nat.le_refl 1
  have hle := Lib.countB_le ⟨#[d]⟩ h1 s.size s (Nat.le_refl _)
  have hlen := Lib.splitB_all ⟨#[d]⟩ h1 0 _ s rfl
  have hI : ∀ (x : ByteArray) (w : World), Calls Tryz.prog 70 #[.string x, .string ⟨#[d]⟩] w fun e w' => e = .returned (.int .i64 (Lib.indexB x ⟨#[d]⟩)) ∧ w' = w := fun x w => by
    have h := Tryz.strings_Index_one x d w
    rw [← Lib.index_one] at h
    exact h
  have hC : Calls Tryz.prog 78 #[.string s, .string ⟨#[d]⟩] w fun e w' => e = .returned (.int .i64 (Lib.countB s ⟨#[d]⟩)) ∧ w' = w := by
    refine (Tryz.strings_Count_one s d w).mono fun e w' ⟨he, hw⟩ => ⟨?_, hw⟩
    rw [he]
    show _ = Ending.returned (Value.int .i64 ((Lib.count s.data.toList [d] : Nat) : Int))
    rw [Lib.count_one]
    rfl
  have c := Any.strings_genSplit_core Tryz.lays221 (by kernel_rfl) s ⟨#[d]⟩ 0 (-1) (Lib.countB s ⟨#[d]⟩ + 1) w (by omega) h1 (Nat.zero_le _) (fun x d _ => hI x _) hC (by decide) (by decide) (by rw [if_pos (by decide)]; omega)
  rw [Nat.add_sub_cancel, hlen] at c
  have e2 : Lib.cellsOf (Lib.splitB ⟨#[d]⟩ 0 (Lib.countB s ⟨#[d]⟩) s) (Lib.countB s ⟨#[d]⟩ + 1) = ((Lib.splitB ⟨#[d]⟩ 0 (Lib.countB s ⟨#[d]⟩) s).map Value.string).toArray := by rw [← hlen]; exact Lib.cellsOf_full _
  rw [e2] at c
  have c : Calls Tryz.prog 62 #[.string s, .string ⟨#[d]⟩, .int .i64 0, .int .i64 (-1)] w _ := c
  have HC := Lib.hid c
  clear c hlen hle hI hC e2 h1
  go_enter Tryz.func35, Tryz.ntmps35
  go_wp2_with fail
  refine HC.out.mono ?_
  rintro e w' ⟨rfl, rfl⟩
  go_wp2_with fail
  go_ret
  exact ⟨rfl, rfl⟩


def strL (x : ByteArray) : List Value := [.string x]
theorem strL_len (x : ByteArray) : (strL x).length = 1 := rfl
/-- the parts of a text between its ends of lines -/
def splN (s : ByteArray) : List ByteArray := Lib.splitB ⟨#[10]⟩ 0 (Lib.countB s ⟨#[10]⟩) s
def linesL (s : ByteArray) : List ByteArray := if ((splN s).getD ((splN s).length - 1) ⟨#[]⟩).size = 0 then (splN s).take ((splN s).length - 1) else splN s
theorem splN_none {s : ByteArray} (h : ∀ k, k < s.size → byteI s k ≠ 10) : splN s = [s] := by
  have h1 : Lib.indexB s ⟨#[10]⟩ = -1 := (ix_is s 10).trans (ix_miss h)
  unfold splN
  exact Lib.splitB_miss _ _ _ _ h1
theorem splN_hit {s : ByteArray} {i : Nat} (hi : i < s.size) (h1 : byteI s i = 10) (h2 : ∀ k, k < i → byteI s k ≠ 10) : splN s = s.extract 0 i :: splN (s.extract (i + 1) s.size) := by
  have h3 : Lib.indexB s ⟨#[10]⟩ = i := (ix_is s 10).trans (ix_hit hi h1 h2)
  have h4 := Lib.countB_hit s ⟨#[10]⟩ i (Nat.le_refl 1) h3
  have e1 : (⟨#[10]⟩ : ByteArray).size = 1 := rfl
  unfold splN
  rw [h4, Nat.add_comm, Lib.splitB_hit _ _ _ _ i h3, e1, Nat.add_zero]
theorem splN_len (s : ByteArray) : (splN s).length = Lib.countB s ⟨#[10]⟩ + 1 := Lib.splitB_all ⟨#[10]⟩ (Nat.le_refl 1) 0 _ s rfl
theorem linesL_yes {s : ByteArray} {q : Nat} {x : ByteArray} (hl : (splN s).length = q + 1) (hx : (splN s)[q]? = some x) : linesL s = if x.size = 0 then (splN s).take q else splN s := by
  unfold linesL
  rw [hl, Nat.add_sub_cancel, List.getD_eq_getElem?_getD, hx]
  rfl
theorem linesL_snoc {s : ByteArray} {L : List ByteArray} {x : ByteArray} (h : splN s = L ++ [x]) : linesL s = if x.size = 0 then L else L ++ [x] := by
  have hl : (splN s).length = L.length + 1 := by rw [h]; simp
  have hx : (splN s)[L.length]? = some x := by rw [h]; simp
  rw [linesL_yes hl hx, h]
  split
  · simp
  · rfl
theorem ext_ext (s : ByteArray) (a k l : Nat) (h : a + l ≤ s.size) : (s.extract a s.size).extract k l = s.extract (a + k) (a + l) := by
  have h2 : ((s.extract a s.size).extract k l).data.toList = (s.extract (a + k) (a + l)).data.toList := by
    rw [Lib.extract_data, Lib.extract_data, Lib.extract_data]
    simp [List.extract_eq_take_drop, List.drop_take, List.drop_drop, List.take_take] <;> omega
  generalize (s.extract a s.size).extract k l = A at *
  generalize s.extract (a + k) (a + l) = B at *
  obtain ⟨⟨x⟩⟩ := A
  obtain ⟨⟨y⟩⟩ := B
  exact congrArg (fun l => ByteArray.mk (Array.mk l)) h2
theorem byteI_ext (s : ByteArray) (a j : Nat) (h : a + j < s.size) : byteI (s.extract a s.size) j = byteI s (a + j) := by
  have h1 : j < (s.extract a s.size).size := by rw [ByteArray.size_extract]; omega
  rw [byteI_at h, byteI_at h1, ByteArray.getElem_extract]
theorem flat_str (xs : List ByteArray) : flat strL xs = xs.map Value.string := by
  induction xs with
  | nil => rfl
  | cons x xs ih =>
    have e : flat strL (x :: xs) = strL x ++ flat strL xs := rfl
    rw [e, ih]; rfl
theorem ins_strs (w : World) (xs : List ByteArray) (h : xs.length ≤ 9223372036854775807) : InS (w.alloc (Obj.cells (xs.map Value.string).toArray 9)) (some ⟨w.heap.size, 0, none⟩) xs.length 1 (flat strL xs) := by
  refine ⟨by rw [flat_str]; simp, h, .inr ⟨w.heap.size, 0, rfl, by rw [World.size_alloc]; omega, fun j v hj => ?_⟩⟩
  rw [Nat.zero_add, World.cell?_alloc_new]
  rw [flat_str] at hj
  simpa using hj
theorem ins_takeS {w : World} {a : Option Addr} {xs : List ByteArray} (h : InS w a xs.length 1 (flat strL xs)) (m : Nat) (hm : m ≤ xs.length) : InS w a m 1 (flat strL (xs.take m)) := by
  have hl : (flat strL (xs.take m)).length = m * 1 := by rw [flat_len strL_len, List.length_take, Nat.min_eq_left hm]
  obtain ⟨_, hn, h0 | ⟨b, off, ha, hlt, hc⟩⟩ := h
  · exact ⟨hl, by omega, .inl (by omega)⟩
  · refine ⟨hl, by omega, .inr ⟨b, off, ha, hlt, fun j v hj => hc j v ?_⟩⟩
    have hj2 : j < (flat strL (xs.take m)).length := (List.getElem?_eq_some_iff.1 hj).1
    have e : flat strL xs = flat strL (xs.take m) ++ flat strL (xs.drop m) := by rw [← flat_append, List.take_append_drop]
    rw [e, List.getElem?_append_left hj2]
    exact hj
/-- a list of strings as a result, with an error -/
def StrsOut (L : List ByteArray) (c : Int) (e : Ending) (w : World) : Prop := ∃ a k, e = .returned (.tuple #[.slice a L.length k, .int .i64 c]) ∧ InS w a L.length 1 (flat strL L)
theorem lines_big (s : ByteArray) (h : 65536 < s.size) (w : World) : Calls Tryz.prog 14 #[.string s] w fun e w' => StrsOut [] 7 e w' ∧ Below w.heap.size w w' := by
  have k2 : (65536 : Int) < (s.size : Int) := by omega
  go_enter Tryz.func14, Tryz.ntmps14
  go_wp2_with fail
  go_ret2
  exact ⟨⟨none, 0, rfl, ⟨rfl, by decide, .inl rfl⟩⟩, Below.refl _ _⟩
theorem rlines_big (s : ByteArray) (h : 65536 < s.size) (w : World) : Calls Tryz.prog 15 #[.string s] w fun e w' => StrsOut [] 7 e w' ∧ Below w.heap.size w w' := by
  have k2 : (65536 : Int) < (s.size : Int) := by omega
  go_enter Tryz.func15, Tryz.ntmps15
  go_wp2_with fail
  go_ret2
  exact ⟨⟨none, 0, rfl, ⟨rfl, by decide, .inl rfl⟩⟩, Below.refl _ _⟩

set_option maxHeartbeats 8000000 in
set_option maxRecDepth 100000 in
theorem lines_any (s : ByteArray) (hs : s.size ≤ 65536) (w : World) : Calls Tryz.prog 14 #[.string s] w fun e w' => StrsOut (linesL s) 0 e w' ∧ Below w.heap.size w w' := by
  obtain ⟨q, hq⟩ : ∃ q, (splN s).length = q + 1 := ⟨_, splN_len s⟩
  have hcl := Lib.countB_le ⟨#[10]⟩ (Nat.le_refl 1) s.size s (Nat.le_refl _)
  have hqb : q ≤ 65536 := by have := splN_len s; omega
  obtain ⟨x, hx⟩ : ∃ x, (splN s)[q]? = some x := ⟨_, List.getElem?_eq_getElem (by omega)⟩
  have hll := linesL_yes hq hx
  have hsp := split_any s 10 w (by omega)
  rw [← splN_len s] at hsp
  obtain ⟨n, hn⟩ : ∃ n, n = (splN s).length := ⟨_, rfl⟩
  rw [← hn] at hsp
  obtain ⟨W, g, hW, hg, RW_, B, sz⟩ := box1 w ((splN s).map Value.string).toArray 9
  have hin := ins_strs w (splN s) (by omega)
  rw [← hW, ← hg] at hin
  have l0 : W.cell? ⟨g, q, none⟩ = some (.string x) := RW_.c q _ (by simp [hx])
  have HSP := Lib.hid (show Calls Tryz.prog 35 #[.string s, .string ⟨#[10]⟩] w fun e w' => e = .returned (.slice (some ⟨g, 0, none⟩) n n) ∧ w' = W by rw [hW, hg]; exact hsp)
  have HIN := Lib.hid hin
  have HLL := Lib.hid hll
  have HB := Lib.hid B
  have HN := Lib.hid hn
  have HQ := Lib.hid hq
  have k2 : ¬ (65536 : Int) < (s.size : Int) := by omega
  have s1 : IntKind.i64.wrap ((n : Int) - 1) = (q : Int) := by
    have h : (n : Int) - 1 = q := by omega
    rw [h]
    exact IntWalk.i64_in _ (by omega)
  have s2 : (q : Int).toNat = q := by omega
  have s3 : (0 : Int) ≤ (q : Int) := by omega
  have s4 : (q : Int) < (n : Int) := by omega
  have s5 : (q : Int) ≤ (n : Int) := by omega
  have s7 : q ≤ n := by omega
  have s8 : q < n := by omega
  clear hcl hx hll hsp hin RW_ B sz hW hg hn hq hs
  by_cases h0 : x.size = 0
  · obtain rfl : x = ⟨#[]⟩ := empty_of h0
    have HY := Lib.hid (show linesL s = (splN s).take q from HLL.out.trans (if_pos rfl))
    clear h0
    go_enter Tryz.func14, Tryz.ntmps14
    go_wp2_with fail
    refine (HSP.out).mono ?_
    rintro e w1 ⟨rfl, rfl⟩
    go_wp2_with fail
    go_ret2
    have hlen : (linesL s).length = q := by rw [HY.out, List.length_take, HQ.out]; omega
    exact ⟨⟨some ⟨g, 0, none⟩, q, by rw [hlen]; (first | done | rfl), by rw [hlen, HY.out]; exact ins_takeS HIN.out q (by rw [HQ.out]; omega)⟩, HB.out⟩
  · have HY := Lib.hid (show linesL s = splN s from HLL.out.trans (if_neg h0))
    have hne := nil_no (s := x) (by omega)
    clear h0
    go_enter Tryz.func14, Tryz.ntmps14
    go_wp2_with fail
    refine (HSP.out).mono ?_
    rintro e w1 ⟨rfl, rfl⟩
    go_wp2_with fail
    go_ret2
    exact ⟨⟨some ⟨g, 0, none⟩, n, by rw [HY.out, ← HN.out]; (first | done | rfl), by rw [HY.out]; exact HIN.out⟩, HB.out⟩
theorem infoStr : (Tryz.prog.info? 9).map (fun i => (i.zero, i.size, i.bytes)) = some (some (.string ⟨#[]⟩), 1, 16) := by kernel_rfl
theorem own_at {w : World} {B T sz n : Nat} {v : Value} {L : List Value} (h : w.ownsRow B T sz v n L) (o : Obj) : (w.alloc o).ownsRow B T sz v n L := own_keep h ((Below.refl _ _).alloc (Nat.le_refl _) o)

set_option maxHeartbeats 8000000 in
set_option maxRecDepth 100000 in
theorem rlines_any (s : ByteArray) (hs : s.size ≤ 65536) (w : World) : Calls Tryz.prog 15 #[.string s] w fun e w' => StrsOut (linesL s) 0 e w' ∧ Below w.heap.size w w' := by
  obtain ⟨ia, hifa, hza0, hza1, hza2⟩ := info_parts infoStr
  have HIF := Lib.hid hifa
  have HZ0 := Lib.hid hza0
  have HZ1 := Lib.hid hza1
  have HZ2 := Lib.hid hza2
  have HS := Lib.hid hs
  have k0 : ¬ (65536 : Int) < (s.size : Int) := by omega
  have HO1 := Lib.hid (own_empty w 9 1)
  have HB1 := Lib.hid ((Below.refl w.heap.size w).alloc (Nat.le_refl _) (Obj.cells #[] 9))
  clear hifa hza0 hza1 hza2 hs
  go_enter Tryz.func15, Tryz.ntmps15
  go_wp2_with fail
  go_loopw [4, 5, 6] (fun vv pv iv wr => ∃ (k p n : Nat) (L : List ByteArray) (v : Value), v = vv ∧ pv = .int .i64 p ∧ iv = .int .i64 k ∧ p ≤ k ∧ k ≤ s.size ∧ Hid (L.length = n ∧ n ≤ k ∧ splN s = L ++ splN (s.extract p s.size) ∧ (∀ j, p ≤ j → j < k → byteI s j ≠ 10) ∧ wr.ownsRow w.heap.size 9 1 v n (flat strL L) ∧ Below w.heap.size w wr)) (fun _ _ iv _ => s.size - (intOf iv).toNat)
  case atStart => exact ⟨0, 0, 0, [], _, rfl, rfl, rfl, Nat.le_refl _, Nat.zero_le _, Lib.hid ⟨rfl, Nat.le_refl _, by simp, fun j h1 h2 => by omega, HO1.out, HB1.out⟩⟩
  case round =>
    obtain ⟨k, p, n, L, v, rfl, rfl, rfl, hpk, hkN, hH⟩ := hrel
    obtain ⟨hln, hnk, hsp, hno, how, hbe⟩ := hH.out
    have HLN := Lib.hid hln
    have HNB := Lib.hid (show n ≤ 65537 by have := HS.out; omega)
    have HSP := Lib.hid hsp
    have HNO := Lib.hid hno
    have HO := Lib.hid how
    have HB := Lib.hid hbe
    have HNK := Lib.hid hnk
    clear hln hnk hsp hno how hbe hH
    have a1 : (0 : Int) ≤ (p : Int) := by omega
    have a2 : (p : Int) ≤ (k : Int) := by omega
    have a3 : (k : Int) ≤ (s.size : Int) := by omega
    by_cases hlt : k < s.size
    · obtain ⟨x, hx⟩ : ∃ x : Int, x = (s[k].toNat : Int) := ⟨_, rfl⟩
      have HXB := Lib.hid (show byteI s k = x from (byteI_at hlt).trans hx.symm)
      have hx2 : (s[k].toNat : Int) = x := hx.symm
      have k1 : (0 : Int) ≤ (k : Int) := by omega
      have k2 : (k : Int) < (s.size : Int) := by omega
      have w1 : IntKind.i64.wrap ((k : Int) + 1) = (k : Int) + 1 := IntWalk.i64_in _ (by have := HS.out; omega)
      clear hx
      by_cases h10 : x = 10
      · subst h10
        have HHIT := Lib.hid (show splN s = (L ++ [s.extract p k]) ++ splN (s.extract (k + 1) s.size) by
          have hsz : (s.extract p s.size).size = s.size - p := by rw [ByteArray.size_extract]; omega
          have h1 := splN_hit (s := s.extract p s.size) (i := k - p) (by omega) (by rw [byteI_ext s p (k - p) (by omega), show p + (k - p) = k by omega]; exact HXB.out) (fun j hj => by rw [byteI_ext s p j (by omega)]; exact HNO.out (p + j) (by omega) (by omega))
          rw [HSP.out, h1, hsz, ext_ext s p 0 (k - p) (by omega), ext_ext s p (k - p + 1) (s.size - p) (by omega), Nat.add_zero, show p + (k - p) = k by omega, show p + (k - p + 1) = k + 1 by omega, show p + (s.size - p) = s.size by omega]
          simp)
        clear hx2
        have hx2 : (s[k].toNat : Int) = 10 := (byteI_at hlt).symm.trans HXB.out
        obtain ⟨a, c, hv, _⟩ := ins_own HO.out
        subst hv
        go_wp2_with (at_builtin; refine wpList_append_own _ rfl _ _ 36 rfl w.heap.size 9 ia (.string ⟨#[]⟩) 1 16 Tryz.underlying36 HIF.out HZ0.out HZ1.out HZ2.out rfl (by decide) _ _ _ rfl (own_at HO.out _) ⟨wr.heap.size, 0, none⟩ 1 1 [.string (s.extract p k)] rfl rfl ?c1x1 ?c2x1 ?c3x1 ?c4x1 ?c5x1 ?_)
        try (case c1x1 => exact fun j u hu => by rw [add_plain, Nat.zero_add]; exact (row_fresh wr #[.string (s.extract p k)] 9).c j u hu)
        case c2x1 => first | rfl | exact ⟨rfl, trivial⟩ | (intro u hu; simp at hu; rcases hu with rfl; rfl)
        case c3x1 => have := HNB.out; unfold maxLen; omega
        case c4x1 => have := HNB.out; omega
        case c5x1 => have := HB.out.size; simp; omega
        intro v8 w8 hown8 hgrow8 _
        have NO7 := own_at HO.out (Obj.cells #[.string (s.extract p k)] 9)
        have HB8 := Lib.hid ((HB.out.alloc HB.out.size (Obj.cells #[.string (s.extract p k)] 9)).grown hgrow8 (by have := HB.out.size; simp; omega) (fun k hk => (NO7.lt k hk).1))
        have HO8 := Lib.hid (show w8.ownsRow w.heap.size 9 1 v8 (n + 1) (flat strL (L ++ [s.extract p k])) by rw [flat_append]; exact hown8)
        clear hown8 hgrow8 NO7
        go_wp2_with fail
        go_roundw
        case rel => exact ⟨k + 1, k + 1, n + 1, L ++ [s.extract p k], v8, rfl, by go_num, by go_num, Nat.le_refl _, by omega, Lib.hid ⟨by simp [HLN.out], by have := HNK.out; omega, HHIT.out, fun j h1 h2 => by omega, HO8.out, HB8.out⟩⟩
        case measure => (simp [intOf]) <;> omega
      · have t10 : (x == 10) = false := by rw [beq_eq_false_iff_ne]; exact h10
        have HX10 := Lib.hid (show byteI s k ≠ 10 by rw [HXB.out]; exact h10)
        clear h10
        go_wp2_with fail
        go_roundw
        case rel => exact ⟨k + 1, p, n, L, v, rfl, rfl, by go_num, by omega, by omega, Lib.hid ⟨HLN.out, by have := HNK.out; omega, HSP.out, fun j h1 h2 => by (by_cases hj : j = k; rw [hj]; exact HX10.out; exact HNO.out j h1 (by omega)), HO.out, HB.out⟩⟩
        case measure => (simp [intOf]) <;> omega
    · obtain rfl : k = s.size := by omega
      have HALL := Lib.hid (show splN s = L ++ [s.extract p s.size] by
        have h1 := splN_none (s := s.extract p s.size) (fun j hj => by rw [ByteArray.size_extract] at hj; rw [byteI_ext s p j (by omega)]; exact HNO.out (p + j) (by omega) (by omega))
        rw [HSP.out, h1])
      obtain ⟨a, c, hv, _⟩ := ins_own HO.out
      subst hv
      by_cases hend : p < s.size
      · have k2 : (p : Int) < (s.size : Int) := by omega
        have HY := Lib.hid (show linesL s = L ++ [s.extract p s.size] by rw [linesL_snoc HALL.out, if_neg (by rw [ByteArray.size_extract]; omega)])
        go_wp2_with (at_builtin; refine wpList_append_own _ rfl _ _ 36 rfl w.heap.size 9 ia (.string ⟨#[]⟩) 1 16 Tryz.underlying36 HIF.out HZ0.out HZ1.out HZ2.out rfl (by decide) _ _ _ rfl (own_at HO.out _) ⟨wr.heap.size, 0, none⟩ 1 1 [.string (s.extract p s.size)] rfl rfl ?c1x2 ?c2x2 ?c3x2 ?c4x2 ?c5x2 ?_)
        try (case c1x2 => exact fun j u hu => by rw [add_plain, Nat.zero_add]; exact (row_fresh wr #[.string (s.extract p s.size)] 9).c j u hu)
        case c2x2 => first | rfl | exact ⟨rfl, trivial⟩ | (intro u hu; simp at hu; rcases hu with rfl; rfl)
        case c3x2 => have := HNB.out; unfold maxLen; omega
        case c4x2 => have := HNB.out; omega
        case c5x2 => have := HB.out.size; simp; omega
        intro v8 w8 hown8 hgrow8 _
        have NO7 := own_at HO.out (Obj.cells #[.string (s.extract p s.size)] 9)
        have HB8 := Lib.hid ((HB.out.alloc HB.out.size (Obj.cells #[.string (s.extract p s.size)] 9)).grown hgrow8 (by have := HB.out.size; simp; omega) (fun k hk => (NO7.lt k hk).1))
        have HO8 := Lib.hid (show w8.ownsRow w.heap.size 9 1 v8 (n + 1) (flat strL (L ++ [s.extract p s.size])) by rw [flat_append]; exact hown8)
        clear hown8 hgrow8 NO7
        go_wp2_with fail
        go_ret2
        obtain ⟨a8, c8, rfl, hin8⟩ := ins_own HO8.out
        have hlen : (linesL s).length = n + 1 := by rw [HY.out]; simp [HLN.out]
        exact ⟨⟨a8, c8, by rw [hlen]; (first | done | rfl), by rw [hlen, HY.out]; exact hin8⟩, HB8.out⟩
      · have k2 : ¬ (p : Int) < (s.size : Int) := by omega
        have HY := Lib.hid (show linesL s = L by rw [linesL_snoc HALL.out, if_pos (by rw [ByteArray.size_extract]; omega)])
        go_wp2_with fail
        go_ret2
        obtain ⟨a8, c8, hv8, hin8⟩ := ins_own HO.out
        injection hv8 with e1 e2 e3
        subst e1 e3
        have hlen : (linesL s).length = n := by rw [HY.out]; exact HLN.out
        exact ⟨⟨a, c, by rw [hlen]; (first | done | rfl), by rw [hlen, HY.out]; exact hin8⟩, HB.out⟩
end Go.Proofs.YtaaaddmdcldclaaGreatDoor
