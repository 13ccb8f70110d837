/- The law CodecReads returns true. -/
import Derived.Test.YtlhgbnjflemiiaaRC
namespace Go.Proofs.Ytlhgbnjflemiiaa
open Go.RowKit

theorem struct_cells (w : World) (v : V) : ∀ j u, v.cs[j]? = some u → (w.alloc (.cells #[.int .i64 v.K, .bool v.B, .int .u64 v.U, .int .i64 v.N, .string v.S] 33)).cell? ((⟨w.heap.size, 0, none⟩ : Addr).add j) = some u := by
  intro j u hj
  rw [Addr.add_lit, Nat.zero_add, World.cell?_alloc_new, ← hj, ← Array.getElem?_toList]
  rfl

theorem made0 (w1 : World) : ((w1.alloc (.cells #[.slice none 0 0] 28)).alloc (.cells #[] 33)).ownsRow w1.heap.size 33 5 (.slice (some ⟨w1.heap.size + 1, 0, none⟩) 0 0) 0 [] := by
  have h := World.ownsRow_made (base := w1.heap.size) (e := 33) (size := 5) (w1.alloc (.cells #[.slice none 0 0] 28)) #[] 0 (by simp) (by unfold maxLen; omega) rfl
  rw [World.size_alloc] at h
  exact h
theorem RS.new (w : World) (s : ByteArray) (hs : s.size ≤ 9223372036854775807) : RS (w.alloc (.cells #[.string s, .int .i64 0, .int .i64 0] 68)) w.heap.size s 0 0 :=
  ⟨by simp, World.cell?_alloc_new w _ _ 0, World.cell?_alloc_new w _ _ 1, World.cell?_alloc_new w _ _ 2, World.frozen?_alloc_new w _ _ 1, World.frozen?_alloc_new w _ _ 2, Nat.zero_le _, hs⟩
set_option maxHeartbeats 400000 in
theorem newReader_any (s : ByteArray) (w : World) : Calls Try.prog 13 #[.string s] w fun e w' => e = .returned (.pointer (some ⟨w.heap.size, 0, none⟩)) ∧ w.alloc (.cells #[.string s, .int .i64 0, .int .i64 0] 68) = w' := by
  go_enter Try.func13, Try.ntmps13
  go_wp2
  go_ret
  exact ⟨rfl, rfl⟩
theorem restL_enc (ws : List V) (i : Nat) (h : i < ws.length) : restL ⟨(enc ws).toArray⟩ (enc (ws.take i)).length = encL ws[i] ++ enc (ws.drop (i + 1)) := by
  unfold restL
  rw [show (⟨(enc ws).toArray⟩ : ByteArray).data.toList = enc ws by simp]
  conv => lhs; rw [enc_split ws i h]
  rw [List.drop_left]
theorem enc_take_succ (ws : List V) (i : Nat) (h : i < ws.length) : (enc (ws.take (i + 1))).length = (enc (ws.take i)).length + (encL ws[i]).length := by
  rw [List.take_succ_eq_append_getElem h, enc_snoc, List.length_append]
theorem row_cells {B g c : Nat} {w : World} {ws : List V} (h : w.ownsRow B 33 5 (.slice (some ⟨g, 0, none⟩) ws.length c) ws.length (cellsOf ws)) (i : Nat) (hi : i < ws.length) : VCells w g (i * 5) ws[i] := by
  have key : ∀ j u, j < 5 → (ws[i]).cs[j]? = some u → w.cell? ⟨g, i * 5 + j, none⟩ = some u := by
    intro j u hj hu
    have := h.cells (g := g) rfl (i * 5 + j) u (by rw [cellsOf_at ws i j hi hj]; exact hu)
    rwa [Addr.add_lit, Nat.zero_add] at this
  exact ⟨key 0 _ (by omega) rfl, key 1 _ (by omega) rfl, key 2 _ (by omega) rfl, key 3 _ (by omega) rfl, key 4 _ (by omega) rfl⟩
theorem acc_snoc {P : V → Prop} {ws : List V} {v : V} (h : ∀ u ∈ ws, P u) (hv : P v) : ∀ u ∈ ws ++ [v], P u := by
  intro u hu
  rcases List.mem_append.1 hu with h1 | h1
  · exact h u h1
  · rw [List.mem_singleton] at h1; subst h1; exact hv
/-- behind the append to the list of what was written -/
theorem after_append {B A : Nat} {w1 w3 w4 : World} {ob : Obj} {lv v' : Value} {ws : List V} {v : V} {bs : List UInt8} (hw : Wr B w3 A bs) (hn : Wn B A w3 lv ws) (hb : Below B w1 w3) (hown : w4.ownsRow B 33 5 v' (ws.length + 1) (cellsOf ws ++ v.cs)) (hg : (w3.alloc ob).grownBy w4 lv.ownBlock) (hne : bs ≠ []) :
    Wr B w4 A bs ∧ Wn B A w4 v' (ws ++ [v]) ∧ Below B w1 w4 := by
  have hsz : w3.heap.size ≤ w4.heap.size := by have := hg.size; simp at this; omega
  have hw4 : Wr B w4 A bs := hw.same_blocks hsz fun k hk ho => by
    rw [hg.block k (by simp; omega) (fun e => ?_), Below.heap_alloc _ _ _ hk]
    have := hn.ne k e.symm
    rcases ho with ho | ho
    · exact this.1 ho
    · exact this.2 ho
  refine ⟨hw4, Wn.of_row ?_ (by simp) hw4 hne, ?_⟩
  · rw [List.length_append, List.length_singleton, cellsOf_snoc]; exact hown
  · exact (hb.alloc (lo_size hw) ob).grown hg (by simp; have := lo_size hw; omega) fun k hk => (hn.row.lt k hk).1

set_option maxHeartbeats 2000000 in
theorem reads_some (b off cap : Nat) (vs : List V) (w : World) (hb : b < w.heap.size) (hl : vs.length ≤ 9223372036854775807) (hc : ∀ i (hi : i < vs.length), VCells w b (off + i * 5) vs[i] ∧ vs[i].In) :
    Calls Try.prog 4 #[.slice (some ⟨b, off, none⟩) vs.length cap] w fun e w' => e = .returned (.bool true) ∧ Below w.heap.size w w' := by
  obtain ⟨i0, hi, hz0, hz1, hz2⟩ := info_parts Try.info33
  have HC := Lib.hid hc; clear hc
  go_enter Try.func4, Try.ntmps4
  go_wp2_with fail
  refine (awake_any _).mono ?_
  rintro e w1 ⟨rfl, hb1⟩
  have HS := Lib.hid (small_some b off cap vs w1 (Nat.lt_of_lt_of_le hb hb1.size) hl (fun i hi => ⟨(HC.out i hi).1.below hb1 hb, (HC.out i hi).2⟩))
  have B1 := Lib.hid hb1; clear hb1
  go_wp2_with fail
  refine HS.out.mono ?_
  rintro e w1' ⟨r, rfl, hr, rfl⟩
  cases r
  · go_wp2
    go_ret
    exact ⟨rfl, B1.out⟩
  · obtain ⟨h60, h70⟩ := hr rfl
    clear hr
    have hbs : b < w1.heap.size := Nat.lt_of_lt_of_le hb B1.out.size
    have H70 := Lib.hid h70; clear h70 HS
    have hw0 := Wr.new w1 28
    have HW0 := Lib.hid hw0; clear hw0
    go_wp2
    go_loopw [4, 5] (fun l i wr => ∃ (k : Nat) (bs : List UInt8) (ws : List V) (ao : Option Addr) (c : Nat), k ≤ vs.length ∧ i = .int .i64 k ∧ l = .slice ao ws.length c ∧ ws.length ≤ k ∧ bs.length ≤ k * 70010 ∧ bs = enc ws ∧ (∀ v ∈ ws, encL v ≠ [] ∧ v.Ok) ∧ Wr w1.heap.size wr w1.heap.size bs ∧ Wn w1.heap.size w1.heap.size wr (.slice ao ws.length c) ws ∧ Below w1.heap.size w1 wr) (fun _ i _ => vs.length - (intOf i).toNat)
    case atStart =>
      have hw2 := HW0.out.below ((Below.refl _ _).alloc (Nat.le_refl _) (.cells #[] 33))
      refine ⟨0, [], [], some ⟨w1.heap.size + 1, 0, none⟩, 0, by omega, rfl, rfl, by simp, by simp, rfl, (fun v h => by cases h), hw2, ⟨made0 w1, fun r hr => ?_⟩, ((Below.refl _ _).alloc (Nat.le_refl _) _).alloc (by simp) _⟩
      have hr' : w1.heap.size + 1 = r := by simpa [Value.ownBlock] using hr
      subst hr'
      refine ⟨by omega, ?_⟩
      rintro ⟨y, hy1, hy2⟩
      rw [World.cell?_alloc_past _ _ _ (by simp), World.cell?_alloc_new] at hy1
      injection hy1 with hy1
      subst hy1
      simp [Value.ownBlock] at hy2
    case round =>
      obtain ⟨k, bs, ws, ao, c, hk, rfl, rfl, hwl, hlen, hbe, hacc, hw, hwn, hbel⟩ := hrel
      have HBE := Lib.hid hbe; have HACC := Lib.hid hacc; have HWN := Lib.hid hwn
      clear hbe hacc hwn
      by_cases hlt : k < vs.length
      · have hcs := (HC.out k hlt).1.below (B1.out.trans (hbel.mono B1.out.size)) hb
        have hok := (HC.out k hlt).2.ok (H70.out _ (List.getElem_mem hlt))
        have hwr := write_any w1.heap.size w1.heap.size bs vs[k] wr hok hw (by omega)
        have hel := encL_len vs[k] hok
        generalize vs[k] = v at hcs hok hwr hel
        have HCS := Lib.hid hcs
        obtain ⟨c0, c1, c2, c3, c4⟩ := hcs
        obtain ⟨cc, hcc⟩ : ∃ cc, cc = encL v := ⟨_, rfl⟩
        unfold WPost V.val at hwr
        rw [← hcc] at hwr hel
        have HWR := Lib.hid hwr; have HB := Lib.hid hbel; have HWb := Lib.hid hw; have HOK := Lib.hid hok; have HCC := Lib.hid hcc
        clear hwr hbel hw hok hcc
        have hs1 : (⟨bs.toArray⟩ : ByteArray).size ≤ 4300000 := by rw [ba_size]; omega
        go_wp2_with fail
        refine (data_any _ _ _ _ HWb.out).mono ?_
        rintro e w3' ⟨rfl, rfl⟩
        go_wp2_with fail
        refine HWR.out.mono ?_
        rintro e w3 ⟨rfl, hw3, hb3, hkp⟩
        have HW3 := Lib.hid hw3; have HB3 := Lib.hid (HB.out.trans hb3); have HWN3 := Lib.hid (HWN.out.keep hkp)
        have hcs3 := HCS.out.below hb3 hbs
        obtain ⟨d0, d1, d2, d3, d4⟩ := hcs3
        clear hw3 hb3 hkp c0 c1 c2 c3 c4
        go_wp2_with fail
        refine (data_any _ _ _ _ HW3.out).mono ?_
        rintro e w3' ⟨rfl, rfl⟩
        by_cases hcn : cc = []
        · have hd : decide (((⟨bs.toArray⟩ : ByteArray).size : Int) < ((⟨(bs ++ cc).toArray⟩ : ByteArray).size : Int)) = false := by rw [ba_size, ba_size, hcn]; simp
          go_wp2_with (at_builtin; fail)
          go_roundw
          case rel => exact ⟨k + 1, bs ++ cc, ws, ao, c, by omega, by go_num, rfl, by omega, by rw [List.length_append]; omega, by rw [hcn, List.append_nil]; exact HBE.out, HACC.out, HW3.out, HWN3.out, HB3.out⟩
          case measure => simp [intOf]; omega
        · have hcl : 0 < cc.length := List.length_pos_iff.2 hcn
          have hw60 : ws.length ≤ 60 := by omega
          have hlo := lo_size HW3.out
          go_wp2_with (at_builtin; refine wpList_append_own _ rfl (.tmp 45) (.tmp 50) 22 rfl w1.heap.size 33 i0 _ 5 48 Try.underlying22 hi hz0 hz1 hz2 rfl (by decide) (.slice ao ws.length c) ws.length (cellsOf ws) rfl (HWN3.out.row.alloc _) ⟨w3.heap.size, 0, none⟩ 1 1 v.cs rfl rfl (struct_cells w3 v) ?q1 ?q2 ?q3 ?q4 ?q5)
          case q1 => intro u hu; unfold V.cs at hu; simp at hu; rcases hu with rfl | rfl | rfl | rfl | rfl <;> rfl
          case q2 => unfold maxLen; omega
          case q3 => omega
          case q4 => simp; omega
          case q5 =>
            intro v' w4 hown' hgrow _
            have hx := after_append HW3.out HWN3.out HB3.out hown' hgrow (fun e => hcn (List.append_eq_nil_iff.1 e).2)
            have HX := Lib.hid hx; clear hx
            obtain ⟨g, c', rfl⟩ : ∃ g c', v' = .slice (some ⟨g, 0, none⟩) (ws.length + 1) c' := by
              rcases hown'.2 with ⟨_, h⟩ | ⟨g, c', _, h, _⟩
              · omega
              · exact ⟨g, c', h⟩
            clear hown' hgrow d0 d1 d2 d3 d4
            have hle := HX.out
            go_wp2
            go_roundw
            case rel => exact ⟨k + 1, bs ++ cc, ws ++ [v], some ⟨g, 0, none⟩, c', by omega, by go_num, by rw [List.length_append, List.length_singleton], by rw [List.length_append, List.length_singleton]; omega, by rw [List.length_append]; omega, by rw [enc_snoc, ← HBE.out, HCC.out], acc_snoc HACC.out ⟨by rw [← HCC.out]; exact hcn, HOK.out⟩, hle.1, by rw [List.length_append, List.length_singleton]; exact hle.2.1, hle.2.2⟩
            case measure => simp [intOf]; omega
      · obtain ⟨wo, rfl⟩ : ∃ wo : World, wo = wr := ⟨_, rfl⟩
        obtain rfl : k = vs.length := by omega
        obtain ⟨S, hS⟩ : ∃ S : ByteArray, S = ⟨bs.toArray⟩ := ⟨_, rfl⟩
        have hSs : S.size = bs.length := by rw [hS, ba_size]
        have hSb : S.size ≤ 4300000 := by omega
        have hSe : S = ⟨(enc ws).toArray⟩ := by rw [hS, HBE.out]
        have HD : Hid (∀ w', Below wo.heap.size wo w' → Calls Try.prog 12 #[.pointer (some ⟨w1.heap.size, 0, none⟩)] w' fun e w2 => e = .returned (.string S) ∧ w' = w2) := fun w' hbw => by rw [hS]; exact data_any _ _ _ _ (hw.below hbw)
        have HSE := Lib.hid hSe; have HB := Lib.hid hbel; have HSS := Lib.hid hSs
        have hsz := hbel.size
        have hWR := Lib.hid hw
        clear hS hSs hSe hbel hw hlen
        go_wp2_with fail
        refine (HD.out _ (Below.refl _ _)).mono ?_
        rintro e w3' ⟨rfl, rfl⟩
        go_wp2_with fail
        refine (newReader_any S wo).mono ?_
        rintro e w4 ⟨rfl, rfl⟩
        have HR0 := Lib.hid (RS.new wo S (by omega))
        have HB0 : Hid (Below wo.heap.size wo (wo.alloc (.cells #[.string S, .int .i64 0, .int .i64 0] 68))) := (Below.refl _ _).alloc (Nat.le_refl _) _
        have HWN0 := HWN
        go_wp2
        go_loopw [10] (fun i wr => ∃ i' : Nat, i' ≤ ws.length ∧ i = .int .i64 i' ∧ RS wr wo.heap.size S (enc (ws.take i')).length 0 ∧ Below wo.heap.size wo wr) (fun i _ => ws.length - (intOf i).toNat)
        case atStart => exact ⟨0, by omega, rfl, HR0.out, HB0.out⟩
        case round =>
          obtain ⟨i', hi', rfl, hrs, hbx⟩ := hrel
          by_cases hlt2 : i' < ws.length
          · obtain ⟨g, rfl⟩ : ∃ g, ao = some ⟨g, 0, none⟩ := by
              rcases HWN0.out.row.2 with ⟨_, h0⟩ | ⟨g, cap2, cur, hv, _⟩
              · omega
              · injection hv with h1 _ _
                exact ⟨g, h1⟩
            have hg : g < wo.heap.size := (HWN0.out.row.lt g rfl).2
            have hvc := (row_cells HWN0.out.row i' hlt2).below hbx hg
            have hac := HACC.out ws[i'] (List.getElem_mem hlt2)
            have hrd := read_any wo.heap.size S (enc (ws.take i')).length (enc (ws.drop (i' + 1))) ws[i'] wr hrs hac.2 hac.1 (by rw [HSE.out]; exact restL_enc ws i' hlt2)
            rw [← enc_take_succ ws i' hlt2] at hrd
            generalize ws[i'] = v at hvc hrd
            obtain ⟨c0, c1, c2, c3, c4⟩ := hvc
            unfold V.val at hrd
            have HRD := Lib.hid hrd; have HBX := Lib.hid hbx
            have hxi := hrs.hi
            clear hrd hbx hac hrs
            go_wp2_with fail
            refine HRD.out.mono ?_
            rintro e wy ⟨rfl, hrs2, hrk⟩
            have HY := Lib.hid hrs2; have HBY := Lib.hid (HBX.out.trans (hrk.below (Nat.le_refl _) hxi))
            clear hrs2 hrk c0 c1 c2 c3 c4
            go_wp2_with fail
            refine (err_any _ _ _ _ _ HY.out).mono ?_
            rintro e wy2 ⟨rfl, rfl⟩
            go_wp2
            go_roundw
            case rel => exact ⟨i' + 1, by omega, by go_num, HY.out, HBY.out⟩
            case measure => simp [intOf]; omega
          · obtain rfl : i' = ws.length := by omega
            have hoff : (enc (ws.take ws.length)).length = S.size := by rw [List.take_length, HSE.out, ba_size]
            rw [hoff] at hrs
            have hxi := hrs.hi
            have HE := Lib.hid (end_ok wr _ S S.size hrs)
            rw [if_neg (by omega)] at HE
            have HKD := fun n => kind_ok (wr.drewN n) _ S S.size (hrs.drewN n)
            have hk0 : kindL (restL S S.size) = 0 := by
              have : restL S S.size = [] := List.eq_nil_of_length_eq_zero (by rw [restL_length]; omega)
              rw [this]; rfl
            rw [hk0] at HKD
            have HKD' := Lib.hid HKD
            have HOF := Lib.hid (fun n => offset_any (wr.drewN n) _ S S.size 0 (hrs.drewN n))
            have HBX := Lib.hid hbx
            clear HKD hk0 hoff hrs hbx
            go_wp2_with fail
            refine HE.out.mono ?_
            rintro e wy ⟨rfl, n1, rfl⟩
            go_wp2_with fail
            refine (HKD'.out n1).mono ?_
            rintro e wy ⟨rfl, n2, rfl⟩
            rw [World.drewN_drewN]
            go_wp2_with fail
            refine (HOF.out _).mono ?_
            rintro e wy ⟨rfl, rfl⟩
            go_wp2_with fail
            refine (HD.out (wr.drewN (n1 + n2)) ⟨HBX.out.os, HBX.out.tape, HBX.out.output, HBX.out.size, HBX.out.block⟩).mono ?_
            rintro e wy ⟨rfl, rfl⟩
            go_wp2
            go_ret
            have hfin := B1.out.trans ((HB.out.trans (HBX.out.mono hsz)).mono B1.out.size)
            exact ⟨rfl, ⟨hfin.os, hfin.tape, hfin.output, hfin.size, hfin.block⟩⟩

set_option maxHeartbeats 1000000 in
theorem reads_none (a : Option Addr) (cap : Nat) (w : World) :
    Calls Try.prog 4 #[.slice a 0 cap] w fun e w' => e = .returned (.bool true) ∧ Below w.heap.size w w' := by
  go_enter Try.func4, Try.ntmps4
  go_wp2_with fail
  refine (awake_any _).mono ?_
  rintro e w1 ⟨rfl, hb1⟩
  have B1 := Lib.hid hb1; clear hb1
  go_wp2_with fail
  refine (small_none a cap w1).mono ?_
  rintro e w1' ⟨r, rfl, hr, rfl⟩
  clear hr
  cases r
  · go_wp2
    go_ret
    exact ⟨rfl, B1.out⟩
  · have hw0 := Wr.new w1 28
    have hw2 := Lib.hid (hw0.below ((Below.refl _ _).alloc (Nat.le_refl _) (.cells #[] 33)))
    clear hw0
    go_wp2
    refine wp_loop_rounds 1 ?_
    rw [rounds_succ]
    go_wp2_with fail
    refine (data_any _ _ _ _ hw2.out).mono ?_
    rintro e w3 ⟨rfl, rfl⟩
    have B3 : Hid (Below w.heap.size w ((w1.alloc (.cells #[.slice none 0 0] 28)).alloc (.cells #[] 33))) := (B1.out.alloc B1.out.size _).alloc (by have := B1.out.size; simp; omega) _
    have hbase := B3.out.size
    have hWx := hw2.out
    generalize (w1.alloc (.cells #[.slice none 0 0] 28)).alloc (.cells #[] 33) = w3 at hWx B3 hbase ⊢
    clear hw2
    have HWX := Lib.hid hWx; clear hWx
    go_wp2_with fail
    refine (newReader_any _ w3).mono ?_
    rintro e w4 ⟨rfl, rfl⟩
    have hS : (⟨([] : List UInt8).toArray⟩ : ByteArray).size = 0 := rfl
    have HR := Lib.hid (RS.new w3 ⟨([] : List UInt8).toArray⟩ (by rw [hS]; omega))
    have HE := Lib.hid (end_ok _ _ _ _ HR.out)
    have HKD : Hid (∀ n, Calls Try.prog 17 #[.pointer (some ⟨w3.heap.size, 0, none⟩)] ((w3.alloc (.cells #[.string ⟨([] : List UInt8).toArray⟩, .int .i64 0, .int .i64 0] 68)).drewN n) fun e w' => e = .returned (.int .i64 0) ∧ ∃ m, w' = ((w3.alloc (.cells #[.string ⟨([] : List UInt8).toArray⟩, .int .i64 0, .int .i64 0] 68)).drewN n).drewN m) := fun n => kind_ok _ _ _ _ (HR.out.drewN n)
    have HOF : Hid (∀ n, Calls Try.prog 18 #[.pointer (some ⟨w3.heap.size, 0, none⟩)] ((w3.alloc (.cells #[.string ⟨([] : List UInt8).toArray⟩, .int .i64 0, .int .i64 0] 68)).drewN n) fun e w' => e = .returned (.int .i64 0) ∧ (w3.alloc (.cells #[.string ⟨([] : List UInt8).toArray⟩, .int .i64 0, .int .i64 0] 68)).drewN n = w') := fun n => offset_any _ _ _ _ _ (HR.out.drewN n)
    have HD : Hid (∀ w', Below w3.heap.size w3 w' → Calls Try.prog 12 #[.pointer (some ⟨w1.heap.size, 0, none⟩)] w' fun e w2 => e = .returned (.string ⟨([] : List UInt8).toArray⟩) ∧ w' = w2) := fun w' hbw => data_any _ _ _ _ (HWX.out.below hbw)
    have HB0 : Hid (Below w3.heap.size w3 (w3.alloc (.cells #[.string ⟨([] : List UInt8).toArray⟩, .int .i64 0, .int .i64 0] 68))) := (Below.refl _ _).alloc (Nat.le_refl _) _
    have hfin := Lib.hid (B3.out.trans (HB0.out.mono hbase))
    have HR1 := Lib.hid HR.out.hi
    clear hS
    generalize w3.alloc (.cells #[.string ⟨([] : List UInt8).toArray⟩, .int .i64 0, .int .i64 0] 68) = w5 at HE HKD HOF HB0 hfin ⊢
    go_wp2
    refine wp_loop_rounds 1 ?_
    rw [rounds_succ]
    go_wp2_with fail
    refine HE.out.mono ?_
    rintro e wy ⟨rfl, n1, rfl⟩
    go_wp2_with fail
    refine (HKD.out n1).mono ?_
    rintro e wy ⟨rfl, n2, rfl⟩
    rw [World.drewN_drewN]
    go_wp2_with fail
    refine (HOF.out _).mono ?_
    rintro e wy ⟨rfl, rfl⟩
    go_wp2_with fail
    refine (HD.out (w5.drewN (n1 + n2)) ⟨HB0.out.os, HB0.out.tape, HB0.out.output, HB0.out.size, HB0.out.block⟩).mono ?_
    rintro e wy ⟨rfl, rfl⟩
    go_wp2
    go_ret
    exact ⟨rfl, ⟨hfin.out.os, hfin.out.tape, hfin.out.output, hfin.out.size, hfin.out.block⟩⟩
theorem reads_law (a : Option Addr) (len cap : Nat) (vs : List V) (w : World) (h : IsVals w a len vs) : Calls Try.prog 4 #[.slice a len cap] w fun e w' => e = .returned (.bool true) ∧ Below w.heap.size w w' := by
  rcases h with ⟨rfl, rfl⟩ | ⟨b, off, rfl, hb, rfl, hl, hc⟩
  · exact reads_none a cap w
  · exact reads_some b off cap vs w hb hl hc
end Go.Proofs.Ytlhgbnjflemiiaa
