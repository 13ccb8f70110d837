/- The law CodecDigest returns true. -/
import Derived.Test.YtlhgbnjflemiiaaJ
import Derived.Test.YtlhgbnjflemiiaaK
namespace Go.Proofs.Ytlhgbnjflemiiaa
open Go.RowKit

theorem ba_beq (a b : ByteArray) : (a == b) = decide (a = b) := by
  obtain ⟨x⟩ := a
  obtain ⟨y⟩ := b
  have e : ((⟨x⟩ : ByteArray) == ⟨y⟩) = (x == y) := rfl
  rw [e]
  by_cases h : x = y
  · subst h; simp
  · rw [beq_false_of_ne h]
    symm
    rw [decide_eq_false_iff_not]
    exact fun k => h (congrArg ByteArray.data k)
theorem ba_bne (a b : ByteArray) : (a != b) = decide (a ≠ b) := by rw [bne, ba_beq, decide_not]

theorem ba_ext {a b : ByteArray} (h : a.toList = b.toList) : a = b := by
  rw [toList_eq, toList_eq] at h
  apply ByteArray.ext
  exact Array.toList_inj.1 h
theorem xor_ofNat (x b : Nat) (hx : x < 256) (hb : b < 256) : (UInt8.ofNat (x ^^^ b)).toNat = x ^^^ b := by
  rw [UInt8.toNat_ofNat', Nat.mod_eq_of_lt]
  exact Nat.xor_lt_two_pow (n := 8) hx hb
theorem sb_mk (l : List UInt8) : sb ⟨l.toArray⟩ = l := by simp [sb]
theorem convSet (W : World) (s : ByteArray) (g cap k : Nat) (hk : k < s.size) (c : UInt8) (v : Int) (hv : v = c.toNat) (hc : ∀ j (hj : j < s.size), W.cell? ⟨g, j, none⟩ = some (.int .u8 (s[j].toNat : Int))) :
    (convert 26 9 (.slice (some ⟨g, 0, none⟩) s.size cap)).run Try.prog (W.setCell ⟨g, k, none⟩ (.int .u8 v)) = .ok (.string ⟨((sb s).set k c).toArray⟩) (W.setCell ⟨g, k, none⟩ (.int .u8 v)) := by
  have hl : s.size = ((sb s).set k c).length := by rw [List.length_set, sb_length]
  rw [hl]
  refine run_convert_bytes_back _ 26 9 5 _ cap ((sb s).set k c) Try.underlying26 Try.underlying5 Try.underlying9 (fun j hj => ?_)
  have hj' : j < s.size := by rw [hl]; exact hj
  rw [Addr.add_lit, Nat.zero_add, List.getElem_set]
  by_cases hjk : k = j
  · subst hjk
    rw [World.cell?_setCell_same W _ _ (hc k hk), if_pos rfl, hv]
  · rw [World.cell?_setCell_other _ _ _ _ (by simp only [ne_eq, Addr.mk.injEq, true_and, and_true]; omega), hc j hj', if_neg hjk]
    rfl

theorem digest_below {w w1 w2 w3 W4 : World} {k : Nat} {v : Value} (b1 : Below w.heap.size w w1) (b2 : Below w1.heap.size w1 w2) (b3 : Below w2.heap.size w2 w3) (b4 : Below w3.heap.size w3 W4) (_ : True) : Below w.heap.size w (W4.setCell ⟨w3.heap.size, k, none⟩ v) := by
  have c2 := b1.trans (b2.mono b1.size)
  have c3 := c2.trans (b3.mono c2.size)
  have c4 := c3.trans (b4.mono c3.size)
  exact c4.setCell c3.size v

set_option maxHeartbeats 1000000 in
theorem digest_law (s : ByteArray) (at_ : Int) (b : Nat) (w : World) (hs : s.size ≤ 9223372036854775807) (h1 : -9223372036854775808 ≤ at_) (h2 : at_ ≤ 9223372036854775807) (hb : b < 256) :
    Calls Try.prog 8 #[.string s, .int .i64 at_, .int .u8 b] w fun e w' => e = .returned (.bool true) ∧ Below w.heap.size w w' := by
  by_cases h300 : 300 < s.size
  · go_enter Try.func8, Try.ntmps8
    go_wp2_with fail
    refine (awake_any _).mono ?_
    rintro e w1 ⟨rfl, hb1⟩
    go_wp2
    go_ret
    exact ⟨rfl, hb1⟩
  · obtain ⟨D, hD⟩ : ∃ D : ByteArray, D = ⟨(hexL (dsum (sb s))).toArray⟩ := ⟨_, rfl⟩
    have hdd : (D != D) = false := by rw [ba_bne]; simp
    have HA := fun w => digest_any s w hs
    have HR := fun w => refDigest_any s w hs
    rw [← hD] at HA HR
    have HA' := Lib.hid HA; have HR' := Lib.hid HR; clear HA HR
    have HD := Lib.hid hD; clear hD
    by_cases h0 : s.size = 0
    · have hz : ((s.size : Int) == 0) = true := by simp [h0]
      have Hz := Lib.hid h0; clear h0
      go_enter Try.func8, Try.ntmps8
      go_wp2_with fail
      refine (awake_any _).mono ?_
      rintro e w1 ⟨rfl, hb1⟩
      have B1 := Lib.hid hb1; clear hb1
      go_wp2_with fail
      refine (HA'.out _).mono ?_
      rintro e w2 ⟨rfl, hb2⟩
      have B2 := Lib.hid hb2; clear hb2
      go_wp2_with fail
      refine (HR'.out _).mono ?_
      rintro e w3 ⟨rfl, hb3⟩
      have B3 := Lib.hid hb3; clear hb3
      go_wp2
      go_ret
      exact ⟨rfl, (B1.out.trans (B2.out.mono B1.out.size)).trans (B3.out.mono (B1.out.trans (B2.out.mono B1.out.size)).size)⟩
    · have hz : ((s.size : Int) == 0) = false := beq_eq_false_iff_ne.2 (by omega)
      have hpos : 0 < s.size := by omega
      obtain ⟨a, hw, ha⟩ : ∃ a : Nat, IntKind.u64.wrap at_ = (a : Int) ∧ a < 18446744073709551616 := ⟨word at_, by rw [IntKind.wrap_u64]; unfold word; omega, by unfold word; omega⟩
      clear h1 h2 h0
      go_enter Try.func8, Try.ntmps8
      go_wp2_with fail
      refine (awake_any _).mono ?_
      rintro e w1 ⟨rfl, hb1⟩
      have B1 := Lib.hid hb1; clear hb1
      go_wp2_with fail
      refine (HA'.out _).mono ?_
      rintro e w2 ⟨rfl, hb2⟩
      have B2 := Lib.hid hb2; clear hb2
      go_wp2_with fail
      refine (HR'.out _).mono ?_
      rintro e w3 ⟨rfl, hb3⟩
      have B3 := Lib.hid hb3; clear hb3
      go_wp2
      rw [run_bytes_of_string w3 9 26 5 s Try.underlying9 Try.underlying26 Try.underlying5]
      have hcap := grownCap_ge w3 s.size 0 5
      generalize grownCap w3 s.size 0 5 = cap at hcap ⊢
      have hc : ∀ j (hj : j < s.size), (w3.drew.alloc (.cells (bytesRow s cap) 5 ((bytesRow s cap).size, (bytesRow s cap).size + 1))).cell? ⟨w3.heap.size, j, none⟩ = some (.int .u8 (s[j].toNat : Int)) := fun j hj => by
        have := World.cell?_alloc_mark w3.drew (bytesRow s cap) 5 ((bytesRow s cap).size, (bytesRow s cap).size + 1) j
        exact this.trans (bytesRow_at s cap j hj)
      have hf : ∀ j (hj : j < s.size), (w3.drew.alloc (.cells (bytesRow s cap) 5 ((bytesRow s cap).size, (bytesRow s cap).size + 1))).frozen? ⟨w3.heap.size, j, none⟩ = false := fun j hj => by
        have := World.frozen?_alloc_mark w3.drew (bytesRow s cap) 5 (bytesRow s cap).size ((bytesRow s cap).size + 1) j
        refine this.trans ?_
        have hsz : s.size ≤ (bytesRow s cap).size := by unfold bytesRow; simp
        simp; omega
      have hbel : Below w3.heap.size w3 (w3.drew.alloc (.cells (bytesRow s cap) 5 ((bytesRow s cap).size, (bytesRow s cap).size + 1))) := (Below.refl _ w3).drew.alloc (Nat.le_refl _) _
      have hsz : (w3.drew.alloc (.cells (bytesRow s cap) 5 ((bytesRow s cap).size, (bytesRow s cap).size + 1))).heap.size = w3.heap.size + 1 := by simp
      generalize w3.drew.alloc (.cells (bytesRow s cap) 5 ((bytesRow s cap).size, (bytesRow s cap).size + 1)) = W4 at hc hf hbel hsz ⊢
      have hk : a % s.size < s.size := Nat.mod_lt _ hpos
      have ck := hc _ hk
      have fk := hf _ hk
      have HC := Lib.hid hc; have HF := Lib.hid hf; have HB4 := Lib.hid hbel; clear hc hf hbel
      by_cases hb0 : b = 0
      · subst hb0
        go_wp2
        go_ret
        exact ⟨rfl, digest_below B1.out B2.out B3.out HB4.out trivial⟩
      · have hb0' : ((b : Int) == 0) = false := beq_eq_false_iff_ne.2 (by omega)
        have hx : bits BinOp.xor IntKind.u8 (s[a % s.size].toNat : Int) (b : Int) = (((UInt8.ofNat (s[a % s.size].toNat ^^^ b)).toNat : Nat) : Int) := by
          have hc8 := s[a % s.size].toNat_lt
          rw [u8_xor_nat _ _ (by omega) hb, xor_ofNat _ _ (by omega) hb]
        have hne : UInt8.ofNat (s[a % s.size].toNat ^^^ b) ≠ s[a % s.size] := by
          intro e
          have e2 := congrArg UInt8.toNat e
          have hc8 := s[a % s.size].toNat_lt
          rw [xor_ofNat _ _ (by omega) hb] at e2
          have e3 := congrArg (s[a % s.size].toNat ^^^ ·) e2
          simp only [← Nat.xor_assoc, Nat.xor_self, Nat.zero_xor] at e3
          exact hb0 e3
        have hD2 := hexS_ne (sb s) (a % s.size) _ (by rw [sb_length]; exact hk) hne
        rw [← HD.out] at hD2
        have hcv := convSet W4 s w3.heap.size cap (a % s.size) hk _ _ hx HC.out
        generalize UInt8.ofNat (s[a % s.size].toNat ^^^ b) = c at hne hD2 hcv hx
        obtain ⟨S2, hS2⟩ : ∃ S2 : ByteArray, S2 = ⟨((sb s).set (a % s.size) c).toArray⟩ := ⟨_, rfl⟩
        have hDg := fun w => digest_any S2 w (by rw [hS2]; show ((sb s).set (a % s.size) c).toArray.size ≤ _; simp [sb_length]; omega)
        rw [← hS2] at hcv
        have hsb : sb S2 = (sb s).set (a % s.size) c := by rw [hS2, sb_mk]
        rw [hsb] at hDg
        obtain ⟨E, hE⟩ : ∃ E : ByteArray, E = ⟨(hexL (dsum ((sb s).set (a % s.size) c))).toArray⟩ := ⟨_, rfl⟩
        rw [← hE] at hDg hD2
        have hed : (E.toList == D.toList) = false := beq_false_of_ne (fun k => hD2 (ba_ext k))
        have HDg := Lib.hid hDg; have HCV := Lib.hid hcv; have HX := Lib.hid hx
        clear hDg hcv hsb hE hS2 hD2 hne hb0 hx
        go_wp2
        rw [HCV.out]
        go_wp2_with fail
        refine (HDg.out _).mono ?_
        rintro e w5 ⟨rfl, hb5⟩
        go_wp2
        go_ret
        exact ⟨rfl, (digest_below B1.out B2.out B3.out HB4.out trivial).trans (hb5.mono (digest_below B1.out B2.out B3.out HB4.out trivial).size)⟩
end Go.Proofs.Ytlhgbnjflemiiaa
