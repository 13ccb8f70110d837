/- Contracts of lines.Word, Number, Whole and Words. -/
import Derived.Test.YtojbhbifbennfaaP
import Derived.Test.YtojbhbifbennfaaO
namespace Go.Proofs.Ytojbhbifbennfaa
open Go.RowKit Go.Shelf

structure TkD where
  k : Int
  t : ByteArray
  n : Int
  a : Int
def tkL (x : TkD) : List Value := [.int .i64 x.k, .string x.t, .int .i64 x.n, .int .i64 x.a]
theorem tkL_len (x : TkD) : (tkL x).length = 4 := rfl
theorem tok_one (k n a : Int) (s : ByteArray) : ∀ u ∈ ([.int .i64 k, .string s, .int .i64 n, .int .i64 a] : List Value), u.oneCell' = true := by
  intro u hu
  simp at hu
  rcases hu with rfl | rfl | rfl | rfl <;> rfl
def wordT (s : ByteArray) : TkD := ⟨1, s, 0, 0⟩
theorem infoTk : (Try.prog.info? 55).map (fun i => (i.zero, i.size, i.bytes)) = some (some (.agg #[.int .i64 0, .string ⟨#[]⟩, .int .i64 0, .int .i64 0]), 4, 40) := by kernel_rfl
set_option maxRecDepth 100000 in
theorem word_any (s : ByteArray) (w : World) : Calls Try.prog 69 #[.string s] w fun e w' => e = .returned (.agg #[.int .i64 1, .string s, .int .i64 0, .int .i64 0]) ∧ Below w.heap.size w w' := by
  obtain ⟨W, r, hW, hr, R1, B, sz⟩ := box1 w #[.int .i64 0, .string ⟨#[]⟩, .int .i64 0, .int .i64 0] 55
  have HR0 := Lib.hid R1
  have HB0 := Lib.hid B
  have HWR := Lib.hid (show w.heap.size ≤ r by omega)
  clear R1 B sz
  go_enter Try.func69, Try.ntmps69
  go_upto_region 1 with fail
  rw [← hW]
  try rw [← hr]
  clear hW hr
  have r_0 := HR0.out.c 0 _ rfl
  have r_1 := HR0.out.c 1 _ rfl
  have r_2 := HR0.out.c 2 _ rfl
  have r_3 := HR0.out.c 3 _ rfl
  have r_z := HR0.out.fz
  go_wp2_with fail
  have hs := (HR0.out).setRow [.int .i64 1, .string s, .int .i64 0, .int .i64 0] rfl
  have y0 : ((((W.setCell ⟨r, 0, none⟩ (.int .i64 1)).setCell ⟨r, 1, none⟩ (.string s)).setCell ⟨r, 2, none⟩ (.int .i64 0)).setCell ⟨r, 3, none⟩ (.int .i64 0)).cell? ⟨r, 0, none⟩ = some (.int .i64 1) := hs.c 0 _ rfl
  have y1 : ((((W.setCell ⟨r, 0, none⟩ (.int .i64 1)).setCell ⟨r, 1, none⟩ (.string s)).setCell ⟨r, 2, none⟩ (.int .i64 0)).setCell ⟨r, 3, none⟩ (.int .i64 0)).cell? ⟨r, 1, none⟩ = some (.string s) := hs.c 1 _ rfl
  have y2 : ((((W.setCell ⟨r, 0, none⟩ (.int .i64 1)).setCell ⟨r, 1, none⟩ (.string s)).setCell ⟨r, 2, none⟩ (.int .i64 0)).setCell ⟨r, 3, none⟩ (.int .i64 0)).cell? ⟨r, 2, none⟩ = some (.int .i64 0) := hs.c 2 _ rfl
  have y3 : ((((W.setCell ⟨r, 0, none⟩ (.int .i64 1)).setCell ⟨r, 1, none⟩ (.string s)).setCell ⟨r, 2, none⟩ (.int .i64 0)).setCell ⟨r, 3, none⟩ (.int .i64 0)).cell? ⟨r, 3, none⟩ = some (.int .i64 0) := hs.c 3 _ rfl
  (try simp only [Exit.inBlock, Exit.then])
  refine bodyPost_ret (by simp [results, Try.results69, go_sem, y0, y1, y2, y3]; try rfl) rfl ?_
  exact ⟨rfl, set_below HB0.out HWR.out [.int .i64 1, .string s, .int .i64 0, .int .i64 0]⟩
set_option maxRecDepth 100000 in
theorem number_any (n : Int) (w : World) : Calls Try.prog 93 #[.int .i64 n] w fun e w' => e = .returned (.agg #[.int .i64 2, .string ⟨#[]⟩, .int .i64 n, .int .i64 0]) ∧ Below w.heap.size w w' := by
  obtain ⟨W, r, hW, hr, R1, B, sz⟩ := box1 w #[.int .i64 0, .string ⟨#[]⟩, .int .i64 0, .int .i64 0] 55
  have HR0 := Lib.hid R1
  have HB0 := Lib.hid B
  have HWR := Lib.hid (show w.heap.size ≤ r by omega)
  clear R1 B sz
  go_enter Try.func93, Try.ntmps93
  go_upto_region 1 with fail
  rw [← hW]
  try rw [← hr]
  clear hW hr
  have r_0 := HR0.out.c 0 _ rfl
  have r_1 := HR0.out.c 1 _ rfl
  have r_2 := HR0.out.c 2 _ rfl
  have r_3 := HR0.out.c 3 _ rfl
  have r_z := HR0.out.fz
  go_wp2_with fail
  have hs := (HR0.out).setRow [.int .i64 2, .string ⟨#[]⟩, .int .i64 n, .int .i64 0] rfl
  have y0 : ((((W.setCell ⟨r, 0, none⟩ (.int .i64 2)).setCell ⟨r, 1, none⟩ (.string ⟨#[]⟩)).setCell ⟨r, 2, none⟩ (.int .i64 n)).setCell ⟨r, 3, none⟩ (.int .i64 0)).cell? ⟨r, 0, none⟩ = some (.int .i64 2) := hs.c 0 _ rfl
  have y1 : ((((W.setCell ⟨r, 0, none⟩ (.int .i64 2)).setCell ⟨r, 1, none⟩ (.string ⟨#[]⟩)).setCell ⟨r, 2, none⟩ (.int .i64 n)).setCell ⟨r, 3, none⟩ (.int .i64 0)).cell? ⟨r, 1, none⟩ = some (.string ⟨#[]⟩) := hs.c 1 _ rfl
  have y2 : ((((W.setCell ⟨r, 0, none⟩ (.int .i64 2)).setCell ⟨r, 1, none⟩ (.string ⟨#[]⟩)).setCell ⟨r, 2, none⟩ (.int .i64 n)).setCell ⟨r, 3, none⟩ (.int .i64 0)).cell? ⟨r, 2, none⟩ = some (.int .i64 n) := hs.c 2 _ rfl
  have y3 : ((((W.setCell ⟨r, 0, none⟩ (.int .i64 2)).setCell ⟨r, 1, none⟩ (.string ⟨#[]⟩)).setCell ⟨r, 2, none⟩ (.int .i64 n)).setCell ⟨r, 3, none⟩ (.int .i64 0)).cell? ⟨r, 3, none⟩ = some (.int .i64 0) := hs.c 3 _ rfl
  (try simp only [Exit.inBlock, Exit.then])
  refine bodyPost_ret (by simp [results, Try.results93, go_sem, y0, y1, y2, y3]; try rfl) rfl ?_
  exact ⟨rfl, set_below HB0.out HWR.out [.int .i64 2, .string ⟨#[]⟩, .int .i64 n, .int .i64 0]⟩

set_option maxHeartbeats 4000000 in
set_option maxRecDepth 100000 in
theorem words_any (a : Option Addr) (cap : Nat) (ss : List ByteArray) (w : World) (hmax : ss.length ≤ 100000) (hin : InS w a ss.length 1 (flat stL ss)) : Calls Try.prog 67 #[.slice a ss.length cap] w fun e w' => ∃ v, e = .returned v ∧ w'.ownsRow w.heap.size 55 4 v ss.length (flat tkL (ss.map wordT)) ∧ Below w.heap.size w w' := by
  obtain ⟨i0, hif, hz0, hz1, hz2⟩ := info_parts infoTk
  obtain ⟨N, hN⟩ : ∃ N, N = ss.length := ⟨_, rfl⟩
  have HN := Lib.hid hN
  have HI := Lib.hid hin
  have hmx : N ≤ 100000 := by omega
  rw [← hN]
  clear hN hin hmax
  go_enter Try.func67, Try.ntmps67
  go_wp2_with fail
  go_loopw [3, 8] (fun v i wr => ∃ j : Nat, j ≤ N ∧ i = .int .i64 j ∧ Hid (wr.ownsRow w.heap.size 55 4 v j (flat tkL ((ss.take j).map wordT)) ∧ Below w.heap.size w wr)) (fun _ i _ => N - (intOf i).toNat)
  case atStart => exact ⟨0, by omega, rfl, Lib.hid ⟨World.ownsRow_nil _ _ _ _, Below.refl _ _⟩⟩
  case round =>
    obtain ⟨j, hj, rfl, hH⟩ := hrel
    by_cases hlt : j < N
    · have hjx : j < ss.length := by rw [← HN.out]; exact hlt
      obtain ⟨b, o, rfl, hbl, hcell⟩ := (HI.out.keep hH.out.2).at stL_len (by omega)
      obtain ⟨s, hl⟩ : ∃ x, ss[j]? = some x := ⟨_, List.getElem?_eq_getElem hjx⟩
      have c0 := hcell j _ hl 0 _ rfl
      rw [Nat.add_zero, Nat.mul_one] at c0
      obtain ⟨D, hD⟩ : ∃ D, D = (ss.take j).map wordT := ⟨_, rfl⟩
      have HOw := Lib.hid (show wr.ownsRow w.heap.size 55 4 u3 j (flat tkL D) by rw [hD]; exact hH.out.1)
      have BR := Lib.hid hH.out.2
      have HM := Lib.hid (show (ss.take (j + 1)).map wordT = D ++ [⟨1, s, 0, 0⟩] by rw [hD, List.take_add_one, hl, List.map_append]; rfl)
      have k1 : (0 : Int) ≤ (j : Int) := by omega
      have k2 : (j : Int) < (N : Int) := by omega
      clear hcell hl hjx hbl hH hD
      go_wp2_with fail
      refine (word_any s _).mono ?_
      rintro e w2 ⟨rfl, hb⟩
      have HO2 := Lib.hid (own_keep HOw.out hb)
      have BR2 := Lib.hid (BR.out.trans (hb.mono BR.out.size))
      have HLl := Lib.hid HO2.out.lt
      clear hb c0
      have NW := Lib.hid (row_fresh w2 #[.int .i64 1, .string s, .int .i64 0, .int .i64 0] 55)
      go_wp2_with (at_builtin; refine wpList_append_own _ rfl _ _ 50 rfl w.heap.size 55 i0 (.agg #[.int .i64 0, .string ⟨#[]⟩, .int .i64 0, .int .i64 0]) 4 40 Try.underlying50 hif hz0 hz1 hz2 rfl (by decide) _ _ _ rfl (HO2.out.alloc _) ⟨w2.heap.size, 0, none⟩ 1 1 [.int .i64 1, .string s, .int .i64 0, .int .i64 0] rfl rfl ?c1 ?c2 ?c3 ?c4 ?c5 ?_)
      case c1 => exact fun j u hu => by rw [add_plain, Nat.zero_add]; exact NW.out.c j u hu
      case c2 => exact tok_one 1 0 0 s
      case c3 => unfold maxLen; omega
      case c4 => omega
      case c5 => have := BR2.out.size; simp; omega
      intro v' w5 hown' hgrow _
      have HO5 := Lib.hid (show w5.ownsRow w.heap.size 55 4 v' (j + 1) (flat tkL ((ss.take (j + 1)).map wordT)) by
        rw [HM.out, flat_append]; exact hown')
      have B5 := Lib.hid ((BR2.out.alloc BR2.out.size (Obj.cells #[.int .i64 1, .string s, .int .i64 0, .int .i64 0] 55)).grown hgrow (Nat.le_trans BR2.out.size (by simp)) (fun k hk => (HLl.out k hk).1))
      clear hown' hgrow
      go_wp2_with fail
      go_roundw
      case rel => exact ⟨j + 1, by omega, by go_num, Lib.hid ⟨HO5.out, B5.out⟩⟩
      case measure => (simp [intOf]) <;> omega
    · obtain rfl : j = N := by omega
      have HO := Lib.hid (show wr.ownsRow w.heap.size 55 4 u3 j (flat tkL (ss.map wordT)) by
        have h := hH.out.1
        rw [HN.out, List.take_length] at h
        rw [HN.out]
        exact h)
      have BR := Lib.hid hH.out.2
      clear hH
      go_wp2_with fail
      go_ret
      exact ⟨_, rfl, HO.out, BR.out⟩
end Go.Proofs.Ytojbhbifbennfaa
