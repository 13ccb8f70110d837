/- The law CodecWrites returns true. -/
import Derived.Test.YtlhgbnjflemiiaaR
namespace Go.Proofs.Ytlhgbnjflemiiaa
open Go.RowKit

theorem V.In.ok {v : V} (h : v.In) (hs : v.S.size ≤ 70000) : v.Ok := ⟨h.u, h.n1, h.n2, hs⟩
theorem VCells.below {w w' : World} {B b o : Nat} {v : V} (h : VCells w b o v) (hb : Below B w w') (hB : b < B) : VCells w' b o v :=
  ⟨(hb.cell (p := ⟨b, o, none⟩) hB).trans h.c0, (hb.cell (p := ⟨b, o + 1, none⟩) hB).trans h.c1, (hb.cell (p := ⟨b, o + 2, none⟩) hB).trans h.c2, (hb.cell (p := ⟨b, o + 3, none⟩) hB).trans h.c3, (hb.cell (p := ⟨b, o + 4, none⟩) hB).trans h.c4⟩

set_option maxHeartbeats 2000000 in
theorem writes_some (b off cap : Nat) (vs : List V) (w : World) (hb : b < w.heap.size) (hl : vs.length ≤ 9223372036854775807) (hc : ∀ i (hi : i < vs.length), VCells w b (off + i * 5) vs[i] ∧ vs[i].In) :
    Calls Try.prog 3 #[.slice (some ⟨b, off, none⟩) vs.length cap] w fun e w' => e = .returned (.bool true) ∧ Below w.heap.size w w' := by
  have HC := Lib.hid hc; clear hc
  go_enter Try.func3, Try.ntmps3
  go_wp2_with fail
  refine (awake_any _).mono ?_
  rintro e w1 ⟨rfl, hb1⟩
  have HS := Lib.hid (small_some b off cap vs w1 (Nat.lt_of_lt_of_le hb hb1.size) hl (fun i hi => ⟨(HC.out i hi).1.below hb1 hb, (HC.out i hi).2⟩))
  have B1 := Lib.hid hb1; clear hb1
  go_wp2_with fail
  refine HS.out.mono ?_
  rintro e w1' ⟨r, rfl, hr, rfl⟩
  cases r
  · go_wp2
    go_ret
    exact ⟨rfl, B1.out⟩
  · obtain ⟨h60, h70⟩ := hr rfl
    clear hr
    have hbs : b < w1.heap.size := Nat.lt_of_lt_of_le hb B1.out.size
    have H70 := Lib.hid h70; clear h70 HS
    have hw0 := Wr.new w1 28
    have HW0 := Lib.hid hw0; clear hw0
    go_wp2
    go_loopw [4, 5] (fun s i wr => ∃ (k : Nat) (bs : List UInt8), k ≤ vs.length ∧ i = .int .i64 k ∧ s = .string ⟨bs.toArray⟩ ∧ bs.length ≤ k * 70010 ∧ Wr w1.heap.size wr w1.heap.size bs ∧ Below w1.heap.size w1 wr) (fun _ i _ => vs.length - (intOf i).toNat)
    case atStart => exact ⟨0, [], by omega, rfl, rfl, by simp, HW0.out, (Below.refl _ _).alloc (Nat.le_refl _) _⟩
    case round =>
      obtain ⟨k, bs, hk, rfl, rfl, hlen, hw, hbel⟩ := hrel
      by_cases hlt : k < vs.length
      · have hcs := (HC.out k hlt).1.below (B1.out.trans (hbel.mono B1.out.size)) hb
        have hok := (HC.out k hlt).2.ok (H70.out _ (List.getElem_mem hlt))
        have hwr := write_any w1.heap.size w1.heap.size bs vs[k] wr hok hw (by omega)
        have hel := encL_len vs[k] hok
        generalize vs[k] = v at hcs hok hwr hel
        obtain ⟨c0, c1, c2, c3, c4⟩ := hcs
        obtain ⟨cc, hcc⟩ : ∃ cc, cc = encL v := ⟨_, rfl⟩
        unfold WPost V.val at hwr
        rw [← hcc] at hwr hel
        have HWR := Lib.hid hwr; have HB := Lib.hid hbel
        clear hwr hbel hw hok hcc
        have hs1 : (⟨bs.toArray⟩ : ByteArray).size ≤ 4300000 := by rw [ba_size]; omega
        have hs2 : (⟨cc.toArray⟩ : ByteArray).size ≤ 70010 := by rw [ba_size]; omega
        go_wp2_with fail
        refine HWR.out.mono ?_
        rintro e w3 ⟨rfl, hw3, hb3, _⟩
        have HW3 := Lib.hid hw3; have HB3 := Lib.hid (HB.out.trans hb3)
        clear hw3 hb3
        have hm := mk_append bs cc
        go_wp2_with fail
        refine (data_any _ _ _ _ HW3.out).mono ?_
        rintro e w3' ⟨rfl, rfl⟩
        go_wp2
        go_roundw
        case rel => exact ⟨k + 1, bs ++ cc, by omega, by go_num, rfl, by rw [List.length_append]; omega, HW3.out, HB3.out⟩
        case measure => simp [intOf]; omega
      · go_wp2
        go_ret
        exact ⟨rfl, B1.out.trans (hbel.mono B1.out.size)⟩

set_option maxHeartbeats 1000000 in
theorem writes_none (a : Option Addr) (cap : Nat) (w : World) :
    Calls Try.prog 3 #[.slice a 0 cap] w fun e w' => e = .returned (.bool true) ∧ Below w.heap.size w w' := by
  go_enter Try.func3, Try.ntmps3
  go_wp2_with fail
  refine (awake_any _).mono ?_
  rintro e w1 ⟨rfl, hb1⟩
  have B1 := Lib.hid hb1; clear hb1
  go_wp2_with fail
  refine (small_none a cap w1).mono ?_
  rintro e w1' ⟨r, rfl, hr, rfl⟩
  clear hr
  cases r
  · go_wp2
    go_ret
    exact ⟨rfl, B1.out⟩
  · go_wp2
    refine wp_loop_rounds 1 ?_
    rw [rounds_succ]
    go_wp2
    go_ret
    exact ⟨rfl, B1.out.alloc B1.out.size _⟩
theorem writes_law (a : Option Addr) (len cap : Nat) (vs : List V) (w : World) (h : IsVals w a len vs) : Calls Try.prog 3 #[.slice a len cap] w fun e w' => e = .returned (.bool true) ∧ Below w.heap.size w w' := by
  rcases h with ⟨rfl, rfl⟩ | ⟨b, off, rfl, hb, rfl, hl, hc⟩
  · exact writes_none a cap w
  · exact writes_some b off cap vs w hb hl hc
end Go.Proofs.Ytlhgbnjflemiiaa
