/- Contract of the Writer's method that appends a number. -/
import Derived.Test.YtlhgbnjflemiiaaE
namespace Go.Proofs.Ytlhgbnjflemiiaa
open Go.RowKit

/-- the eight bytes of a word, the highest one first -/
def bytes8 (n : Nat) : List UInt8 := [UInt8.ofNat (n / 72057594037927936), UInt8.ofNat (n / 281474976710656), UInt8.ofNat (n / 1099511627776), UInt8.ofNat (n / 4294967296), UInt8.ofNat (n / 16777216), UInt8.ofNat (n / 65536), UInt8.ofNat (n / 256), UInt8.ofNat n]
theorem u8s_bytes8 (n : Nat) (hn : n < 18446744073709551616) : u8s (bytes8 n) = [Value.int .u8 ((n : Int) / 72057594037927936), Value.int .u8 ((n : Int) / 281474976710656 % 256), Value.int .u8 ((n : Int) / 1099511627776 % 256), Value.int .u8 ((n : Int) / 4294967296 % 256),
    Value.int .u8 ((n : Int) / 16777216 % 256), Value.int .u8 ((n : Int) / 65536 % 256), Value.int .u8 ((n : Int) / 256 % 256), Value.int .u8 ((n : Int) % 256)] := by
  simp only [u8s, bytes8, List.map_cons, List.map_nil, UInt8.toNat_ofNat']
  simp only [List.cons.injEq, Value.int.injEq, true_and, and_true]
  omega

theorem App.head2 {B A : Nat} {w w1 : World} {v v' x : Value} {bs bs' : List UInt8} (h : App B A w w1 v v' bs') (hown : Own B A w v bs) (hhi : A < w.heap.size) (hv : w.cell? ⟨A, 0, none⟩ = some x) (hfz : w.frozen? ⟨A, 0, none⟩ = false) :
    w1.cell? ⟨A, 0, none⟩ = some x ∧ w1.frozen? ⟨A, 0, none⟩ = false ∧ w.heap.size ≤ w1.heap.size ∧ w1.cell? ⟨A, 0, none⟩ = w.cell? ⟨A, 0, none⟩ ∧ w1.frozen? ⟨A, 0, none⟩ = w.frozen? ⟨A, 0, none⟩ := by
  have hne : v.ownBlock ≠ some A := fun e => (hown.lt e).2.1 rfl
  have c1 := h.cell (k := A) (o := 0) hhi hne
  have f1 := h.frozen (k := A) (o := 0) hhi hne
  exact ⟨c1.trans hv, f1.trans hfz, h.size, c1, f1⟩

set_option maxHeartbeats 1000000 in
theorem number_mk (B A : Nat) (bs : List UInt8) (m n z q : Nat) (mk : UInt8) (w : World) (hq : q = 8 - z) (h : Wr B w A bs) (hfit : bs.length + 9 ≤ 140737488355328) (hz1 : 1 ≤ z) (hz8 : z ≤ 8) (hm : m ≤ 32) (hn : n < 18446744073709551616)
    (hmk : Hid (u8s [mk] = [Value.int .u8 ((m : Int) + z)])) :
    Calls Try.prog 58 #[.pointer (some ⟨A, 0, none⟩), .int .u8 m, .int .u64 n, .int .i64 z] w fun e w' => e = .returned (.tuple #[]) ∧ Wr B w' A (bs ++ [mk] ++ (bytes8 n).drop q) ∧ Below B w w' ∧ Keep A w w' := by
  have hq7 : q ≤ 7 := by omega
  have hwq : IntKind.i64.wrap (8 - (z : Int)) = (q : Int) := by rw [IntWalk.i64_in _ (by omega)]; omega
  have Hq := Lib.hid hq; clear hq
  have HW := Lib.hid hwq; clear hwq
  obtain ⟨i0, hi, hz0, hz1, hz2⟩ := info_parts Try.info5
  obtain ⟨ao0, c0, hv, hown⟩ := h.val
  have hlo := h.lo; have hhi := h.hi; have hfz := h.fz
  have e8 := u8s_bytes8 n hn
  have E8 := Lib.hid e8; clear e8
  have E8L : (u8s (bytes8 n)).length = 8 := rfl
  go_enter Try.func58, Try.ntmps58
  go_wp2
  refine wp_loop_rounds 9 ?_
  iterate 8 (rw [rounds_succ]; go_wp2)
  rw [rounds_succ]
  go_wp2_with (at_builtin; refine wpList_app B A _ rfl (.tmp 26) (.tmp 31) 26 26 rfl 5 i0 Try.underlying26 hi hz0 hz1 hz2 _ bs rfl (hown.kept (by simp; omega) ?k1) _ [mk] rfl (Src.ofSlice _ Try.underlying26 ⟨w.heap.size + 1, 0, none⟩ 1 1 _ rfl ?k0 ?k2) (by simp; omega) (by simp; omega) (by simp; omega) ?k3)
  case k0 =>
    intro j u hj
    rw [hmk.out] at hj
    match j, hj with
    | 0, hj => simp at hj; subst hj; simp [Addr.add]
  case k1 => intro g _ _ hg; rw [Below.heap_alloc _ _ _ (by simp; omega), Below.heap_alloc _ _ _ hg]
  case k2 => exact one_u8s
  case k3 =>
    intro ao c w1 happ
    have hne : (Value.slice ao0 bs.length c0).ownBlock ≠ some A := fun e => (hown.lt e).2.1 rfl
    have c1 := happ.cell (k := A) (o := 0) (by simp; omega) hne
    have f1 := happ.frozen (k := A) (o := 0) (by simp; omega) hne
    rw [World.cell?_alloc_past _ _ _ (by simp; omega), World.cell?_alloc_past _ _ _ hhi] at c1
    rw [World.frozen?_alloc_past _ _ _ (by simp; omega), World.frozen?_alloc_past _ _ _ hhi] at f1
    have s1 := happ.size
    simp only [World.size_alloc] at s1
    have arr : ∀ j, w1.cell? ⟨w.heap.size, j, none⟩ = (u8s (bytes8 n))[j]? := by
      intro j
      have hne' : (Value.slice ao0 bs.length c0).ownBlock ≠ some w.heap.size := fun e => by have := (hown.lt e).2.2; omega
      rw [happ.cell (k := w.heap.size) (by simp only [World.size_alloc]; omega) hne', World.cell?_alloc_past _ _ _ (by simp), World.cell?_alloc_new, E8.out]
      simp
    have hwr : Wr B (w1.setCell ⟨A, 0, none⟩ (.slice ao (bs.length + 1) c)) A (bs ++ [mk]) := h.stored (by simp) happ.own c1 f1 (by omega)
    have hbel : Below B w (w1.setCell ⟨A, 0, none⟩ (.slice ao (bs.length + 1) c)) := ((((Below.refl B w).alloc (by omega) _).alloc (by simp; omega) _).trans happ.below).setCell hlo _
    have k0 := c1.trans hv
    have Hkp := Lib.hid (Keep.stored (((Below.refl _ w).alloc (Nat.le_refl _) _).alloc (by simp) _) hhi hv happ k0)
    have f0 := f1.trans hfz
    have arr' : ∀ j, (w1.setCell ⟨A, 0, none⟩ (.slice ao (bs.length + 1) c)).cell? ⟨w.heap.size, j, none⟩ = (u8s (bytes8 n))[j]? := fun j => by
      rw [World.cell?_setCell_other _ _ _ _ (by simp only [ne_eq, Addr.mk.injEq, not_and]; omega)]; exact arr j
    have kk := World.cell?_setCell_same w1 ⟨A, 0, none⟩ (.slice ao (bs.length + 1) c) k0
    have ff : (w1.setCell ⟨A, 0, none⟩ (.slice ao (bs.length + 1) c)).frozen? ⟨A, 0, none⟩ = false := by rw [World.frozen?_setCell]; exact f0
    have ss : w.heap.size + 2 ≤ (w1.setCell ⟨A, 0, none⟩ (.slice ao (bs.length + 1) c)).heap.size := by simp [World.setCell]; omega
    have oo : Own B A (w1.setCell ⟨A, 0, none⟩ (.slice ao (bs.length + 1) c)) (.slice ao (bs.length + 1) c) (bs ++ [mk]) := happ.own.kept (by simp [World.setCell]) fun g _ hg _ => Below.heap_setCell _ _ _ _ hg
    have AR := Lib.hid arr'; clear arr arr'
    have Hw := Lib.hid hwr; have Hb := Lib.hid hbel; have Ho := Lib.hid oo; have Kk := Lib.hid kk; have Ff := Lib.hid ff; have Ss := Lib.hid ss; clear hwr hbel oo kk ff ss
    clear c1 f1 happ hne h hv hown hfz
    go_wp2
    generalize w1.setCell ⟨A, 0, none⟩ (.slice ao (bs.length + 1) c) = W2 at Hkp AR Hw Hb Ho Kk Ff Ss ⊢
    have kk := Kk.out; have ff := Ff.out; have ss := Ss.out
    clear k0 f0 s1
    have hwq := HW.out
    have hq8 : (q : Int) ≤ 8 := by omega
    have hq8' : (q : Int) ≤ ((8 : Nat) : Int) := by omega
    have hq0 : ¬ 8 = q := by omega
    have SRC : Hid (Src Try.prog 1 26 (.slice (some ⟨w.heap.size, q, none⟩) (8 - q) (8 - q)) ((bytes8 n).drop q).length (u8s ((bytes8 n).drop q)) W2.drew) := by
      have hl : ((bytes8 n).drop q).length = 8 - q := by rw [List.length_drop]; rfl
      rw [hl]
      refine Src.ofSlice _ Try.underlying26 _ _ _ _ (by rw [u8s_length, hl, Nat.mul_one]) (fun j u hu => ?_) one_u8s
      rw [World.cell?_drew, Addr.add_lit, AR.out, ← hu]
      unfold u8s
      rw [List.map_drop, List.getElem?_drop]
    have OWN : Hid (Own B A W2.drew (.slice ao (bs.length + 1) c) (bs ++ [mk])) := Ho.out.kept (Nat.le_refl _) fun _ _ _ _ => rfl
    have FIT : (bs ++ [mk]).length + ((bytes8 n).drop q).length ≤ 140737488355328 := by rw [List.length_append, List.length_drop]; show bs.length + 1 + (8 - q) ≤ _; omega
    have FB : B ≤ W2.drew.heap.size := by show B ≤ W2.heap.size; omega
    have FA : A < W2.drew.heap.size := by show A < W2.heap.size; omega
    have HF : Hid ((bs ++ [mk]).length + ((bytes8 n).drop q).length ≤ 140737488355328 ∧ B ≤ W2.drew.heap.size ∧ A < W2.drew.heap.size) := ⟨FIT, FB, FA⟩
    clear FIT FB FA
    go_region_law (refine step_app B A _ rfl (.tmp 39) (.tmp 42) 26 26 rfl 5 i0 Try.underlying26 hi hz0 hz1 hz2 (.slice ao (bs.length + 1) c) (bs ++ [mk]) rfl OWN.out (.slice (some ⟨w.heap.size, q, none⟩) (8 - q) (8 - q)) ((bytes8 n).drop q) rfl SRC.out HF.out.1 HF.out.2.1 HF.out.2.2 ?_; intro ao2 c2 w3 happ2; obtain ⟨k3, f3, g3⟩ := happ2.head2 OWN.out HF.out.2.2 kk ff; have HP := Lib.hid happ2; have G3 := Lib.hid g3; clear happ2 g3)
    go_end0
    have ho := HP.out
    rw [show (bs ++ [mk]).length + ((bytes8 n).drop q).length = bs.length + 1 + ((bytes8 n).length - q) by simp] at ho
    exact ⟨rfl, Hw.out.stored (w1 := w3) (by simp; omega) ho.own G3.out.2.1 G3.out.2.2 G3.out.1, (Hb.out.drew.trans HP.out.below).setCell hlo _, Hkp.out.trans (Keep.stored (w := W2) (w0 := W2.drew) ((Below.refl _ W2).drew) (by have := ss; omega) kk ho k3)⟩

theorem toNat_mark (m z : Nat) (hm : m ≤ 32) (hz : z ≤ 8) : Hid (u8s [UInt8.ofNat (m + z)] = [Value.int .u8 ((m : Int) + z)]) := by
  show u8s _ = _
  simp only [u8s, List.map_cons, List.map_nil, UInt8.toNat_ofNat', List.cons.injEq, Value.int.injEq, true_and, and_true]
  omega

/-- what the Writer appends for a number -/
def num (m n z : Nat) : List UInt8 := UInt8.ofNat (m + z) :: (bytes8 n).drop (8 - z)
theorem number_any (B A : Nat) (bs : List UInt8) (m n z : Nat) (w : World) (h : Wr B w A bs) (hfit : bs.length + 9 ≤ 140737488355328) (hz1 : 1 ≤ z) (hz8 : z ≤ 8) (hm : m ≤ 32) (hn : n < 18446744073709551616) :
    Calls Try.prog 58 #[.pointer (some ⟨A, 0, none⟩), .int .u8 m, .int .u64 n, .int .i64 z] w fun e w' => e = .returned (.tuple #[]) ∧ Wr B w' A (bs ++ num m n z) ∧ Below B w w' ∧ Keep A w w' := by
  have := number_mk B A bs m n z (8 - z) (UInt8.ofNat (m + z)) w rfl h hfit hz1 hz8 hm hn (toNat_mark m z hm hz8)
  rw [List.append_assoc] at this
  exact this
theorem num_length (m n z : Nat) (hz8 : z ≤ 8) : (num m n z).length = 1 + z := by
  unfold num
  rw [List.length_cons, List.length_drop]
  show 8 - (8 - z) + 1 = _
  omega

set_option maxHeartbeats 400000 in
theorem unsigned_any (B A : Nat) (bs : List UInt8) (n : Nat) (w : World) (h : Wr B w A bs) (hfit : bs.length + 9 ≤ 140737488355328) (hn : n < 18446744073709551616) :
    Calls Try.prog 38 #[.pointer (some ⟨A, 0, none⟩), .int .u64 n] w fun e w' => e = .returned (.tuple #[]) ∧ Wr B w' A (bs ++ num 16 n (usz n)) ∧ Below B w w' ∧ Keep A w w' := by
  have H := Lib.hid (number_any B A bs 16 n (usz n) w h hfit (usz_pos n) (usz_8 n hn) (by omega) hn)
  go_enter Try.func38, Try.ntmps38
  go_wp2_with (first | (go_at_call 59; refine (unsignedSize_any _ _ (by omega)).mono ?_; rintro e w' ⟨rfl, rfl⟩) | (go_at_call 58; refine H.out.mono ?_; rintro e w' ⟨rfl, hw, hb, hkp⟩))
  go_end0
  exact ⟨rfl, hw, hb, hkp⟩

/-- the word of a number in two's complement -/
def word (n : Int) : Nat := (n % 18446744073709551616).toNat

set_option maxHeartbeats 400000 in
theorem signed_any (B A : Nat) (bs : List UInt8) (n : Int) (w : World) (h : Wr B w A bs) (hfit : bs.length + 9 ≤ 140737488355328) (h1 : -9223372036854775808 ≤ n) (h2 : n ≤ 9223372036854775807) :
    Calls Try.prog 40 #[.pointer (some ⟨A, 0, none⟩), .int .i64 n] w fun e w' => e = .returned (.tuple #[]) ∧ Wr B w' A (bs ++ num 32 (word n) (ssz n)) ∧ Below B w w' ∧ Keep A w w' := by
  have hw : IntKind.u64.wrap n = ((word n : Nat) : Int) := by rw [IntKind.wrap_u64]; unfold word; omega
  have H := Lib.hid (number_any B A bs 32 (word n) (ssz n) w h hfit (ssz_pos n) (ssz_8 n h1 h2) (by omega) (by unfold word; omega))
  by_cases h0 : 0 ≤ n
  · have hw0 : n = ((word n : Nat) : Int) := by unfold word; omega
    have H0 : Hid (Calls Try.prog 58 #[.pointer (some ⟨A, 0, none⟩), .int .u8 32, .int .u64 n, .int .i64 (ssz n)] w fun e w' => e = .returned (.tuple #[]) ∧ Wr B w' A (bs ++ num 32 (word n) (ssz n)) ∧ Below B w w' ∧ Keep A w w') := by
      have := H.out; rw [← hw0] at this; exact this
    clear hw0 hw H
    go_enter Try.func40, Try.ntmps40
    go_wp2_with (first | (go_at_call 60; refine (signedSize_any _ _ (by omega) (by omega)).mono ?_; rintro e w' ⟨rfl, rfl⟩) | (go_at_call 58; refine H0.out.mono ?_; rintro e w' ⟨rfl, hw, hb, hkp⟩))
    go_end0
    exact ⟨rfl, hw, hb, hkp⟩
  · go_enter Try.func40, Try.ntmps40
    go_wp2_with (first | (go_at_call 60; refine (signedSize_any _ _ (by omega) (by omega)).mono ?_; rintro e w' ⟨rfl, rfl⟩) | (go_at_call 58; refine H.out.mono ?_; rintro e w' ⟨rfl, hw, hb, hkp⟩))
    go_end0
    exact ⟨rfl, hw, hb, hkp⟩
end Go.Proofs.Ytlhgbnjflemiiaa
