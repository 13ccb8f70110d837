/- block.inputs, Inputs. -/
import Derived.Test.YtaobbedajgkmiaaDoorFk
import Derived.Laws.AppendOwn
namespace Go.Proofs.YtaobbedajgkmiaaDoor
open Go.RowKit Go.Shelf

set_option linter.unusedVariables false
set_option linter.unusedSimpArgs false
def lenV : Value → Nat
  | .slice _ n _ => n
  | _ => 0
def zP : PortD := ⟨⟨#[]⟩, ⟨#[]⟩⟩
/-- the inputs where so many are connected -/
def insK (il : List PortD) (c : Nat) : List PortD := il ++ List.replicate (c - il.length) (il.getD (il.length - 1) zP)
theorem insK_len (il : List PortD) (c : Nat) (h : il.length ≤ c) : (insK il c).length = c := by unfold insK; rw [List.length_append, List.length_replicate]; omega
theorem insK_same (il : List PortD) : insK il il.length = il := by unfold insK; rw [Nat.sub_self, List.replicate_zero, List.append_nil]
theorem insK_succ (il : List PortD) (c : Nat) (h : il.length ≤ c) : insK il (c + 1) = insK il c ++ [il.getD (il.length - 1) zP] := by
  unfold insK
  rw [show c + 1 - il.length = (c - il.length) + 1 by omega, List.replicate_succ', List.append_assoc]
/-- what lies apart from a list of ports that grows -/
def FarP (w w' : World) (own : Option Nat) (lim : Nat) : Prop := ∀ (b : Nat) (cur : Array Value) (e : TypeId) (fr : Nat × Nat), w.heap[b]? = some (.cells cur e fr) → (e ≠ 65 ∨ cur.size < lim) → own ≠ some b → w'.heap[b]? = some (.cells cur e fr)
theorem far_refl (w : World) (own : Option Nat) (lim : Nat) : FarP w w own lim := fun _ _ _ _ h _ _ => h
theorem far_below {W w w' : World} {own : Option Nat} {lim : Nat} (h : FarP W w own lim) (hb : Below w.heap.size w w') : FarP W w' own lim := fun b cur e fr h1 h2 h3 => by
  have h4 := h b cur e fr h1 h2 h3
  exact (hb.block b (Array.getElem?_eq_some_iff.1 h4).1).trans h4
theorem far_step {W w w' : World} {v2 v : Value} {lim B k : Nat} {L : List Value} (h : FarP W w v2.ownBlock lim) (hrow : w.ownsRow B 65 2 v k L) (hk : v = v2 ∨ lim ≤ k * 2) (hg : w.grownBy w' v.ownBlock) : FarP W w' v2.ownBlock lim := fun b cur e fr h1 h2 h3 => by
  have h4 := h b cur e fr h1 h2 h3
  have hne : some b ≠ v.ownBlock := by
    rcases hk with rfl | hk
    · exact fun e => h3 e.symm
    · rcases hrow.2 with ⟨rfl, _⟩ | ⟨g, cap, cur2, rfl, _, hg2, hn, _, hs, _⟩
      · simp [Value.ownBlock]
      · intro e1
        simp only [Value.ownBlock, Option.some.injEq] at e1
        subst e1
        rw [hg2] at h4
        simp only [Option.some.injEq, Obj.cells.injEq] at h4
        obtain ⟨rfl, rfl, _⟩ := h4
        rcases h2 with h2 | h2
        · exact h2 rfl
        · omega
  exact (hg.block b (Array.getElem?_eq_some_iff.1 h4).1 hne).trans h4
theorem row_far {W w : World} {own : Option Nat} {lim b : Nat} {L : List Value} {cur : Array Value} {e : TypeId} {fr : Nat × Nat} (t : RowAt W b L) (hc : W.heap[b]? = some (.cells cur e fr)) (h : FarP W w own lim) (h2 : e ≠ 65 ∨ cur.size < lim) (h3 : own ≠ some b) : RowAt w b L := by
  have h4 := h b cur e fr hc h2 h3
  have he : w.heap[b]? = W.heap[b]? := h4.trans hc.symm
  exact ⟨fun i v h => (World.cell?_of_block (a := ⟨b, i, none⟩) he).trans (t.c i v h), fun o => (World.frozen?_of_block (a := ⟨b, o, none⟩) he).trans (t.fz o), (Array.getElem?_eq_some_iff.1 h4).1⟩
theorem heap_new (w : World) (o : Obj) : (w.alloc o).heap[w.heap.size]? = some o := by show (w.heap.push o)[w.heap.size]? = _; simp
set_option maxHeartbeats 2000000 in
theorem inputs_bad (nm : ByteArray) (a1 a2 : Option Addr) (n1 c1 c2 ob : Nat) (st most : Int) (N : Nat) (h10 : N ≤ 10) (m0 : 1 ≤ most) (m1 : most ≤ 10) (c : Int) (hc : c < N ∨ N + most - 1 < c) (w : World) :
    Calls Tryd.prog 35 #[.agg #[.string nm, .slice a1 n1 c1, .slice a2 N c2, .slice (some ⟨ob, 0, none⟩) 1 1, .int .i64 st, .int .i64 most], .int .i64 c] w fun e w' => e = .returned (.tuple #[.slice none 0 0, .int .i64 1]) ∧ Below w.heap.size w w' := by
  by_cases hlt : c < N
  · have e1 : decide (c < (N : Int)) = true := decide_eq_true hlt
    clear hc
    obtain ⟨W, g, hW, hg, RG, B1, sz⟩ := box1 w #[.string nm, .slice a1 n1 c1, .slice a2 N c2, .slice (some ⟨ob, 0, none⟩) 1 1, .int .i64 st, .int .i64 most] 30
    have HG := Lib.hid RG
    have HB1 := Lib.hid B1
    clear RG B1 sz
    go_enter Tryd.func35, Tryd.ntmps35
    go_upto_region 1 with fail
    rw [← hW]
    try rw [← hg]
    clear hW hg
    have g_0 := HG.out.c 0 _ rfl
    have g_1 := HG.out.c 1 _ rfl
    have g_2 := HG.out.c 2 _ rfl
    have g_3 := HG.out.c 3 _ rfl
    have g_4 := HG.out.c 4 _ rfl
    have g_5 := HG.out.c 5 _ rfl
    go_wp2_with fail
    go_ret2
    exact ⟨rfl, HB1.out⟩
  · have hgt : (N : Int) + most - 1 < c := by omega
    have e1 : decide (c < (N : Int)) = false := decide_eq_false hlt
    have e2 : decide ((N : Int) + most - 1 < c) = true := decide_eq_true hgt
    clear hc
    obtain ⟨W, g, hW, hg, RG, B1, sz⟩ := box1 w #[.string nm, .slice a1 n1 c1, .slice a2 N c2, .slice (some ⟨ob, 0, none⟩) 1 1, .int .i64 st, .int .i64 most] 30
    have HG := Lib.hid RG
    have HB1 := Lib.hid B1
    clear RG B1 sz
    go_enter Tryd.func35, Tryd.ntmps35
    go_upto_region 1 with fail
    rw [← hW]
    try rw [← hg]
    clear hW hg
    have g_0 := HG.out.c 0 _ rfl
    have g_1 := HG.out.c 1 _ rfl
    have g_2 := HG.out.c 2 _ rfl
    have g_3 := HG.out.c 3 _ rfl
    have g_4 := HG.out.c 4 _ rfl
    have g_5 := HG.out.c 5 _ rfl
    go_wp2_with fail
    go_ret2
    exact ⟨rfl, HB1.out⟩
set_option maxHeartbeats 8000000 in
set_option maxRecDepth 100000 in
theorem inputs_ok (nm : ByteArray) (a1 a2 : Option Addr) (n1 c1 c2 ob : Nat) (st most : Int) (il : List PortD) (N : Nat) (hN : N = il.length) (h0 : 0 < N) (h10 : N ≤ 10) (m0 : 1 ≤ most) (m1 : most ≤ 10) (c : Nat) (c0 : N ≤ c) (cm : (c : Int) ≤ N + most - 1) (B : Nat) (w : World) (hB : B ≤ w.heap.size) (ho : w.ownsRow B 65 2 (.slice a2 N c2) N (flat portL il)) :
    Calls Tryd.prog 35 #[.agg #[.string nm, .slice a1 n1 c1, .slice a2 N c2, .slice (some ⟨ob, 0, none⟩) 1 1, .int .i64 st, .int .i64 most], .int .i64 c] w fun e w' => ∃ v, e = .returned (.tuple #[v, .int .i64 0]) ∧ w'.ownsRow B 65 2 v c (flat portL (insK il c)) ∧ FarP w w' (Value.slice a2 N c2).ownBlock (2 * (N + 1)) ∧ Below B w w' := by
  have HN := Lib.hid hN
  have HBW := Lib.hid hB
  have c20 : c ≤ 20 := by omega
  obtain ⟨i0, hif, hz0, hz1, hz2⟩ := info_parts infoPort
  have HIF := Lib.hid hif
  have HZ0 := Lib.hid hz0
  have HZ1 := Lib.hid hz1
  have HZ2 := Lib.hid hz2
  obtain ⟨W, g, hW, hg, RG, B1, sz⟩ := box1 w #[.string nm, .slice a1 n1 c1, .slice a2 N c2, .slice (some ⟨ob, 0, none⟩) 1 1, .int .i64 st, .int .i64 most] 30
  have HG := Lib.hid RG
  have HB1 := Lib.hid B1
  have HO := Lib.hid (own_keep ho B1)
  have HFA := Lib.hid (far_below (far_refl w (Value.slice a2 N c2).ownBlock (2 * (N + 1))) B1)
  have HBB := Lib.hid (B1.mono hB)
  obtain ⟨q, hq⟩ : ∃ q : Nat, q + 1 = N := ⟨N - 1, by omega⟩
  obtain ⟨lb, lo, rfl, hll, hlc⟩ := (show InS W a2 il.length 2 (flat portL il) from by have h := ins_own HO.out; obtain ⟨a, c, h1, h2⟩ := h; injection h1 with h1 h3 h4; subst h1; rw [← hN]; exact h2).at portL_len (by omega)
  obtain ⟨x, hx⟩ : ∃ x, il[q]? = some x := ⟨_, List.getElem?_eq_getElem (by omega)⟩
  have HLAST := Lib.hid (show il.getD (il.length - 1) zP = x by rw [← hN, show N - 1 = q by omega, List.getD_eq_getElem?_getD, hx]; rfl)
  obtain ⟨xn, xt⟩ := x
  have l0 : W.cell? ⟨lb, lo + q * 2 + 0, none⟩ = some (.string xn) := hlc q _ hx 0 _ rfl
  have l1 : W.cell? ⟨lb, lo + q * 2 + 1, none⟩ = some (.string xt) := hlc q _ hx 1 _ rfl
  rw [Nat.add_zero] at l0
  have HL0 := Lib.hid l0
  have HL1 := Lib.hid l1
  have HLL := Lib.hid hll
  have e1 : decide ((c : Int) < (N : Int)) = false := decide_eq_false (by omega)
  have e2 : decide ((N : Int) + most - 1 < (c : Int)) = false := decide_eq_false (by omega)
  have e3 : decide (c < N) = false := decide_eq_false (by omega)
  have s1 : IntKind.i64.wrap ((N : Int) - 1) = (q : Int) := by
    have h : (N : Int) - 1 = q := by omega
    rw [h]
    exact IntWalk.i64_in _ (by omega)
  have HS1 := Lib.hid s1
  have HQ := Lib.hid hq
  have qN : q < N := by omega
  clear hx hlc hll l0 l1 RG B1 sz hif hz0 hz1 hz2 s1 ho hB hN hq
  go_enter Tryd.func35, Tryd.ntmps35
  go_upto_region 1 with fail
  rw [← hW]
  try rw [← hg]
  clear hW hg
  have g_0 := HG.out.c 0 _ rfl
  have g_1 := HG.out.c 1 _ rfl
  have g_2 := HG.out.c 2 _ rfl
  have g_3 := HG.out.c 3 _ rfl
  have g_4 := HG.out.c 4 _ rfl
  have g_5 := HG.out.c 5 _ rfl
  go_wp2_with fail
  have l0 := HL0.out
  have l1 := HL1.out
  have s1 := HS1.out
  have s2 : (q : Int).toNat = q := by omega
  have s3 : (0 : Int) ≤ (q : Int) := by omega
  have s4 : (q : Int) < (N : Int) := by omega
  go_region_held3 (fun w' => w'.cell? ⟨g, 2, none⟩ = some (.slice (some ⟨lb, lo, none⟩) N c2) ∧ w'.cell? ⟨lb, lo + q * 2, none⟩ = some (.string xn) ∧ w'.cell? ⟨lb, lo + q * 2 + 1, none⟩ = some (.string xt)) (first | go_keep) ((fail))
  rename_i hHeld
  clear hHeld l0 l1 s1 s2 s3 s4
  obtain ⟨W4, h, hW4, hh, HWN, RL, B4⟩ : ∃ W4 h, W4 = (W.alloc (Obj.cells #[.string xn, .string xt] 65)).drew ∧ h = W.heap.size ∧ W4.heap[h]? = some (.cells #[.string xn, .string xt] 65 (0, 0)) ∧ RowAt W4 h [.string xn, .string xt] ∧ Below W.heap.size W W4 := ⟨_, _, rfl, rfl, heap_new W _, (row_fresh W _ _).drew, ((Below.refl _ _).alloc (Nat.le_refl _) _).drew⟩
  have HRL := Lib.hid RL
  have HHN := Lib.hid HWN
  have HO4 := Lib.hid (own_keep HO.out B4)
  have HB4 := Lib.hid (HBB.out.trans (B4.mono (Nat.le_trans HBW.out HBB.out.size)))
  have HF4 := Lib.hid (far_below HFA.out B4)
  have HWS := Lib.hid B4.size
  have HNH := Lib.hid (show (Value.slice (some ⟨lb, lo, none⟩) N c2).ownBlock ≠ some h by simp only [Value.ownBlock, ne_eq, Option.some.injEq]; have := HLL.out; omega)
  have HBI := Lib.hid (show B ≤ W4.heap.size from Nat.le_trans HBW.out HB4.out.size)
  rw [← hW4]
  try rw [← hh]
  clear hW4 hh HWN RL B4 HO HFA HBB HB1 HG g_0 g_1 g_2 g_3 g_4 g_5 HL0 HL1 HS1 HWS
  simp only [Exit.then]
  go_wp2_with fail
  go_loopw [7] (fun p wr => ∃ k : Nat, ∃ a cc, N ≤ k ∧ k ≤ c ∧ p = .slice a k cc ∧ Hid (wr.ownsRow B 65 2 (.slice a k cc) k (flat portL (insK il k)) ∧ FarP W4 wr (Value.slice (some ⟨lb, lo, none⟩) N c2).ownBlock (2 * (N + 1)) ∧ (k = N → Value.slice a k cc = .slice (some ⟨lb, lo, none⟩) N c2) ∧ Below B w wr ∧ FarP w wr (Value.slice (some ⟨lb, lo, none⟩) N c2).ownBlock (2 * (N + 1)))) (fun p _ => c - lenV p)
  case atStart => exact ⟨N, _, _, Nat.le_refl _, c0, rfl, Lib.hid ⟨by rw [HN.out, insK_same, ← HN.out]; exact HO4.out, far_refl _ _ _, fun _ => rfl, HB4.out, HF4.out⟩⟩
  case round =>
    obtain ⟨k, a, cc, hk0, hk, rfl, hH⟩ := hrel
    have HV := Lib.hid hH.out.1
    have HF := Lib.hid hH.out.2.1
    have HK := Lib.hid hH.out.2.2.1
    have HB := Lib.hid hH.out.2.2.2.1
    have HFW := Lib.hid hH.out.2.2.2.2
    clear hH
    by_cases hlt : k < c
    · have RH := row_far HRL.out HHN.out HF.out (.inr (by simp; omega)) HNH.out
      have r0 := RH.c 0 _ rfl
      have r1 := RH.c 1 _ rfl
      clear RH
      have hif := HIF.out
      have hz0 := HZ0.out
      have hz1 := HZ1.out
      have hz2 := HZ2.out
      have hki : (k : Int) < (c : Int) := by omega
      go_wp2_with (at_builtin; refine wpList_append_own _ rfl _ _ 28 rfl B 65 i0 (.agg #[.string ⟨#[]⟩, .string ⟨#[]⟩]) 2 32 Tryd.underlying28 hif hz0 hz1 hz2 rfl (by decide) _ _ _ rfl (own_at HV.out _) ⟨wr.heap.size, 0, none⟩ 1 1 [.string xn, .string xt] rfl rfl ?c1 ?c2 ?c3 ?c4 ?c5 ?_)
      case c1 =>
        intro j u hu
        rw [add_plain, Nat.zero_add]
        exact (row_fresh wr #[.string xn, .string xt] 65).c j u hu
      case c2 =>
        intro u hu
        simp at hu
        rcases hu with rfl | rfl <;> rfl
      case c3 => unfold maxLen; omega
      case c4 => omega
      case c5 => have h1 := HB.out.size; have h2 := HBW.out; rw [World.size_alloc]; omega
      intro v5 w6 hown hgrow _
      obtain ⟨a6, c6, rfl, _⟩ := ins_own hown
      have nal : Below wr.heap.size wr (wr.alloc (Obj.cells #[.string xn, .string xt] 65)) := (Below.refl _ _).alloc (Nat.le_refl _) _
      have vv : Value.slice a k cc = .slice (some ⟨lb, lo, none⟩) N c2 ∨ 2 * (N + 1) ≤ k * 2 := by
        rcases Nat.lt_or_ge N k with h | h
        · exact .inr (by omega)
        · exact .inl (HK.out (by omega))
      have Y1 := Lib.hid (far_step (far_below HF.out nal) (own_keep HV.out nal) vv hgrow)
      have Y3 := Lib.hid (far_step (far_below HFW.out nal) (own_keep HV.out nal) vv hgrow)
      have Y2 := Lib.hid (show w6.ownsRow B 65 2 (.slice a6 (k + 1) c6) (k + 1) (flat portL (insK il (k + 1))) by
        rw [insK_succ il k (by have := HN.out; omega), HLAST.out, flat_append]
        exact hown)
      have vlt := fun q e => (HV.out.lt q e).1
      have Y4 := Lib.hid ((HB.out.trans (nal.mono (Nat.le_trans HBW.out HB.out.size))).grown hgrow (by have := HB.out.size; have := HBW.out; rw [World.size_alloc]; omega) (fun q e => vlt q e))
      clear hown hgrow nal vv vlt hif hz0 hz1 hz2 r0 r1
      go_wp2_with fail
      go_roundw
      case rel => exact ⟨k + 1, a6, c6, by omega, by omega, by go_num, Lib.hid ⟨Y2.out, Y1.out, fun h => absurd h (by omega), Y4.out, Y3.out⟩⟩
      case measure => (simp [lenV]) <;> omega
    · obtain rfl : k = c := by omega
      go_wp2_with fail
      go_ret2
      exact ⟨_, rfl, HV.out, HFW.out, HB.out⟩
set_option maxHeartbeats 4000000 in
set_option maxRecDepth 100000 in
theorem Inputs_bad (s ro : ByteArray) (rm rs : Int) (pl : List BndD) (il : List PortD) (KF : FindOk s ro rm rs pl il) (N : Nat) (hN : N = il.length) (h0 : 0 < N) (h10 : N ≤ 10) (m0 : 1 ≤ rm) (m1 : rm ≤ 10) (c : Int) (hc : c < N ∨ N + rm - 1 < c) (w : World) (hm : MaxAt w) :
    Calls Tryd.prog 19 #[.string s, .int .i64 c] w fun e w' => e = .returned (.tuple #[.slice none 0 0, .int .i64 1]) ∧ Below w.heap.size w w' := by
  have HF := Lib.hid (KF w hm)
  have HN := Lib.hid hN
  clear KF hm hN
  go_enter Tryd.func19, Tryd.ntmps19
  go_wp2_with fail
  refine HF.out.mono ?_
  rintro e w1 ⟨D, rfl, ⟨v1, v2, ob, rfl, p1, p2, p3, p4⟩, hb⟩
  obtain ⟨a1, c1, rfl, i1⟩ := ins_own p1
  obtain ⟨a2, c2, rfl, i2⟩ := ins_own p2
  rw [← HN.out] at p2 ⊢
  obtain ⟨n1, hn1⟩ : ∃ n, n = pl.length := ⟨_, rfl⟩
  rw [← hn1]
  obtain ⟨W2, g, hW2, hg, RG, B2, sz2⟩ := box1 w1 #[.string s, .slice a1 n1 c1, .slice a2 N c2, .slice (some ⟨ob, 0, none⟩) 1 1, .int .i64 rs, .int .i64 rm] 30
  have HG := Lib.hid RG
  have HP := Lib.hid (own_keep p2 B2)
  have HB := Lib.hid (hb.trans (B2.mono hb.size))
  clear i1 i2 p1 p2 p3 p4 hb RG B2 sz2 hn1
  go_upto_region 2 with fail
  rw [← hW2]
  try rw [← hg]
  clear hW2 hg
  have g_0 := HG.out.c 0 _ rfl
  have g_1 := HG.out.c 1 _ rfl
  have g_2 := HG.out.c 2 _ rfl
  have g_3 := HG.out.c 3 _ rfl
  have g_4 := HG.out.c 4 _ rfl
  have g_5 := HG.out.c 5 _ rfl
  go_wp2_with fail
  refine (inputs_bad s a1 a2 n1 c1 c2 ob rs rm N h10 m0 m1 c hc _).mono ?_
  rintro e w5 ⟨rfl, hb⟩
  have HB5 := Lib.hid (HB.out.trans (hb.mono HB.out.size))
  clear hb
  go_wp2_with fail
  go_ret2
  exact ⟨rfl, HB5.out⟩
set_option maxHeartbeats 4000000 in
set_option maxRecDepth 100000 in
theorem Inputs_ok (s ro : ByteArray) (rm rs : Int) (pl : List BndD) (il : List PortD) (KF : FindOk s ro rm rs pl il) (N : Nat) (hN : N = il.length) (h0 : 0 < N) (h10 : N ≤ 10) (m0 : 1 ≤ rm) (m1 : rm ≤ 10) (c : Nat) (c0 : N ≤ c) (cm : (c : Int) ≤ N + rm - 1) (w : World) (hm : MaxAt w) :
    Calls Tryd.prog 19 #[.string s, .int .i64 c] w fun e w' => ∃ v, e = .returned (.tuple #[v, .int .i64 0]) ∧ w'.ownsRow w.heap.size 65 2 v c (flat portL (insK il c)) ∧ Below w.heap.size w w' := by
  have HF := Lib.hid (KF w hm)
  have HN := Lib.hid hN
  clear KF hm hN
  go_enter Tryd.func19, Tryd.ntmps19
  go_wp2_with fail
  refine HF.out.mono ?_
  rintro e w1 ⟨D, rfl, ⟨v1, v2, ob, rfl, p1, p2, p3, p4⟩, hb⟩
  obtain ⟨a1, c1, rfl, i1⟩ := ins_own p1
  obtain ⟨a2, c2, rfl, i2⟩ := ins_own p2
  rw [← HN.out] at p2 ⊢
  obtain ⟨n1, hn1⟩ : ∃ n, n = pl.length := ⟨_, rfl⟩
  rw [← hn1]
  obtain ⟨W2, g, hW2, hg, RG, B2, sz2⟩ := box1 w1 #[.string s, .slice a1 n1 c1, .slice a2 N c2, .slice (some ⟨ob, 0, none⟩) 1 1, .int .i64 rs, .int .i64 rm] 30
  have HG := Lib.hid RG
  have HP := Lib.hid (own_keep p2 B2)
  have HB := Lib.hid (hb.trans (B2.mono hb.size))
  clear i1 i2 p1 p2 p3 p4 hb RG B2 sz2 hn1
  go_upto_region 2 with fail
  rw [← hW2]
  try rw [← hg]
  clear hW2 hg
  have g_0 := HG.out.c 0 _ rfl
  have g_1 := HG.out.c 1 _ rfl
  have g_2 := HG.out.c 2 _ rfl
  have g_3 := HG.out.c 3 _ rfl
  have g_4 := HG.out.c 4 _ rfl
  have g_5 := HG.out.c 5 _ rfl
  go_wp2_with fail
  refine (inputs_ok s a1 a2 n1 c1 c2 ob rs rm il N HN.out h0 h10 m0 m1 c c0 cm w.heap.size _ HB.out.size HP.out).mono ?_
  rintro e w5 ⟨v, rfl, hv, _, hb⟩
  have HV := Lib.hid hv
  have HB5 := Lib.hid (HB.out.trans hb)
  clear hb hv
  go_wp2_with fail
  go_ret2
  exact ⟨_, rfl, HV.out, HB5.out⟩
set_option maxHeartbeats 4000000 in
theorem Inputs_miss (s : ByteArray) (hn : ∀ j, j < 33 → ¬ (rowAt j).nm = s) (c : Int) (w : World) :
    Calls Tryd.prog 19 #[.string s, .int .i64 c] w fun e w' => e = .returned (.tuple #[.slice none 0 0, .int .i64 3]) ∧ Below w.heap.size w w' := by
  have KF := Lib.hid (find_miss s hn w)
  clear hn
  go_enter Tryd.func19, Tryd.ntmps19
  go_wp2_with fail
  refine KF.out.mono ?_
  rintro e w1 ⟨rfl, hb⟩
  obtain ⟨W2, g, hW2, hg, RG, B2, sz2⟩ := box1 w1 #[.string ⟨#[]⟩, .slice none 0 0, .slice none 0 0, .slice none 0 0, .int .i64 0, .int .i64 0] 30
  have HB2 := Lib.hid (hb.trans (B2.mono hb.size))
  clear hb RG B2 sz2
  go_upto_region 2 with fail
  rw [← hW2]
  try rw [← hg]
  clear hW2 hg
  go_wp2_with fail
  go_ret2
  exact ⟨rfl, HB2.out⟩
end Go.Proofs.YtaobbedajgkmiaaDoor
