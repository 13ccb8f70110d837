/- slices.Index and Contains over strings; timer.Names; the error of Params for the numbers of a block. -/
import Derived.Test.YtmhfkdnblemfdaaDoorBj
namespace Go.Proofs.YtmhfkdnblemfdaaDoor
open Go.RowKit Go.Shelf Go.Maps Go.WideMaps

def stL (s : ByteArray) : List Value := [.string s]
theorem stL_len (s : ByteArray) : (stL s).length = 1 := rfl
def firstS (p : ByteArray → Bool) : List ByteArray → Nat → Int
  | [], _ => -1
  | x :: r, i => if p x = true then (i : Int) else firstS p r (i + 1)
theorem firstS_hit {p : ByteArray → Bool} {qs : List ByteArray} {j : Nat} {x : ByteArray} (hx : qs[j]? = some x) (h : p x = true) : firstS p (qs.drop j) j = j := by
  rw [drop_cons hx]; exact if_pos h
theorem firstS_miss {p : ByteArray → Bool} {qs : List ByteArray} {j : Nat} {x : ByteArray} (hx : qs[j]? = some x) (h : p x = false) : firstS p (qs.drop j) j = firstS p (qs.drop (j + 1)) (j + 1) := by
  rw [drop_cons hx]; exact if_neg (by rw [h]; simp)
theorem firstS_end (p : ByteArray → Bool) (qs : List ByteArray) : firstS p (qs.drop qs.length) qs.length = -1 := by rw [List.drop_length]; rfl
theorem firstS_any (p : ByteArray → Bool) (qs : List ByteArray) : ∀ i : Nat, decide (0 ≤ firstS p qs i) = qs.any p := by
  induction qs with
  | nil => intro i; rfl
  | cons x r ih =>
    intro i
    show decide (0 ≤ if p x = true then (i : Int) else firstS p r (i + 1)) = (p x || r.any p)
    by_cases h : p x = true
    · rw [if_pos h, h, Bool.true_or]; exact decide_eq_true (by omega)
    · rw [if_neg h, ih (i + 1), show p x = false by simpa using h, Bool.false_or]
def PredS (g : Nat) (lb : Array Value) (p : ByteArray → Bool) (w : World) : Prop := ∀ (W : World) (x : ByteArray), Below w.heap.size w W → Calls Tryd.prog g (#[.string x] ++ lb) W fun e w' => e = .returned (.bool (p x)) ∧ Below W.heap.size W w'
def indexS (s : ByteArray) (ns : List ByteArray) : Int := firstS (fun x => decide (x = s)) ns 0
theorem beqS (x s : ByteArray) : (x.toList == s.toList) = decide (x = s) := by
  by_cases h : x = s
  · subst h; rw [decide_eq_true rfl]; exact beq_self_eq_true _
  · rw [decide_eq_false h, beq_eq_false_iff_ne]
    intro h2
    apply h
    rw [toList_eq, toList_eq] at h2
    obtain ⟨⟨a⟩⟩ := x
    obtain ⟨⟨b⟩⟩ := s
    have : a = b := h2
    rw [this]

set_option maxHeartbeats 4000000 in
set_option maxRecDepth 100000 in
theorem index_any (s : ByteArray) (a : Option Addr) (cap : Nat) (ns : List ByteArray) (w : World) (hin : InS w a ns.length 1 (flat stL ns)) : Calls Tryd.prog 55 #[.slice a ns.length cap, .string s] w fun e w' => e = .returned (.int .i64 (indexS s ns)) ∧ Below w.heap.size w w' := by
  obtain ⟨N, hN⟩ : ∃ N, N = ns.length := ⟨_, rfl⟩
  have HN := Lib.hid hN
  have HI := Lib.hid hin
  have hmx : N ≤ 9223372036854775807 := by have := hin.2.1; omega
  rw [← hN]
  clear hN hin
  go_enter Tryd.func55, Tryd.ntmps55
  go_wp2_with fail
  go_loopw [8] (fun i wr => ∃ j : Nat, j ≤ N ∧ i = .int .i64 j ∧ Hid (indexS s ns = firstS (fun x => decide (x = s)) (ns.drop j) j ∧ Below w.heap.size w wr)) (fun i _ => N - (intOf i).toNat)
  case atStart => exact ⟨0, by omega, rfl, Lib.hid ⟨rfl, Below.refl _ _⟩⟩
  case round =>
    obtain ⟨j, hj, rfl, hH⟩ := hrel
    have HQ := Lib.hid hH.out.1
    have HBR := Lib.hid hH.out.2
    clear hH
    by_cases hlt : j < N
    · obtain ⟨b, o, rfl, hbl, hcell⟩ := (HI.out.keep HBR.out).at stL_len (by have := HN.out; omega)
      obtain ⟨x, hx⟩ : ∃ x, ns[j]? = some x := ⟨_, List.getElem?_eq_getElem (by rw [← HN.out]; exact hlt)⟩
      have c0 := hcell j _ hx 0 _ rfl
      rw [Nat.add_zero, Nat.mul_one] at c0
      have k1 : (0 : Int) ≤ (j : Int) := by omega
      have k2 : (j : Int) < (N : Int) := by omega
      have HX := Lib.hid hx
      clear hcell hbl hx
      by_cases hs : x = s
      · have HM := Lib.hid (show indexS s ns = j from HQ.out.trans (firstS_hit HX.out (decide_eq_true hs)))
        have t1 : (s.toList == x.toList) = true := by rw [hs]; exact beq_self_eq_true _
        clear hs
        go_wp2_with fail
        go_ret
        exact ⟨by rw [HM.out]; (first | done | rfl), HBR.out⟩
      · have HM := Lib.hid (HQ.out.trans (firstS_miss HX.out (decide_eq_false hs)))
        have t1 : (s.toList == x.toList) = false := by rw [beqS]; exact decide_eq_false (fun h => hs h.symm)
        clear hs
        go_wp2_with fail
        go_roundw
        case rel => exact ⟨j + 1, by omega, by go_num, Lib.hid ⟨HM.out, HBR.out⟩⟩
        case measure => (simp [intOf]) <;> omega
    · obtain rfl : j = N := by omega
      have HM := Lib.hid (show indexS s ns = -1 from HQ.out.trans (by rw [HN.out]; exact firstS_end _ ns))
      go_wp2_with fail
      go_ret
      exact ⟨by rw [HM.out]; (first | done | rfl), HBR.out⟩
theorem contains_any (s : ByteArray) (a : Option Addr) (cap : Nat) (ns : List ByteArray) (w : World) (hin : InS w a ns.length 1 (flat stL ns)) : Calls Tryd.prog 39 #[.slice a ns.length cap, .string s] w fun e w' => e = .returned (.bool (ns.any fun x => eqS x s)) ∧ Below w.heap.size w w' := by
  have HI := Lib.hid (index_any s a cap ns w hin)
  have HA := Lib.hid (firstS_any (fun x => decide (x = s)) ns 0)
  obtain ⟨N, hN⟩ : ∃ N, N = ns.length := ⟨_, rfl⟩
  rw [← hN] at HI ⊢
  clear hN hin
  obtain ⟨R, hR⟩ : ∃ R, R = indexS s ns := ⟨_, rfl⟩
  rw [← hR] at HI
  have HR := Lib.hid hR
  clear hR
  go_enter Tryd.func39, Tryd.ntmps39
  go_wp2_with fail
  refine HI.out.mono ?_
  rintro e w1 ⟨rfl, hb⟩
  have HB := Lib.hid hb
  clear hb
  go_wp2_with fail
  go_ret
  exact ⟨by rw [show (ns.any fun x => eqS x s) = decide (0 ≤ R) by rw [HR.out]; exact HA.out.symm]; rfl, HB.out⟩
def timerNames : List ByteArray := [⟨#[99, 111, 117, 110, 116]⟩, ⟨#[101, 100, 103, 101]⟩, ⟨#[104, 121, 115, 116]⟩, ⟨#[108, 97, 116, 99, 104]⟩, ⟨#[109, 105, 110, 114, 117, 110]⟩, ⟨#[111, 102, 102, 100, 101, 108, 97, 121]⟩, ⟨#[111, 110, 100, 101, 108, 97, 121]⟩, ⟨#[112, 117, 108, 115, 101]⟩]
theorem names_any (w : World) : Calls Tryd.prog 20 #[] w fun e w' => ∃ a c, e = .returned (.slice a 8 c) ∧ InS w' a 8 1 (flat stL timerNames) ∧ Below w.heap.size w w' := by
  obtain ⟨W, g, hW, hg, R, B, sz⟩ := box1 w #[.string ⟨#[99, 111, 117, 110, 116]⟩, .string ⟨#[101, 100, 103, 101]⟩, .string ⟨#[104, 121, 115, 116]⟩, .string ⟨#[108, 97, 116, 99, 104]⟩, .string ⟨#[109, 105, 110, 114, 117, 110]⟩, .string ⟨#[111, 102, 102, 100, 101, 108, 97, 121]⟩, .string ⟨#[111, 110, 100, 101, 108, 97, 121]⟩, .string ⟨#[112, 117, 108, 115, 101]⟩] 9
  have HR := Lib.hid R
  have HB := Lib.hid B
  have HBg := Lib.hid (show Below g w W by rw [hg]; exact HB.out)
  clear R B sz
  go_enter Tryd.func20, Tryd.ntmps20
  go_wp2_with fail
  rw [← hW]
  try rw [← hg]
  clear hW hg
  go_ret
  have hI : InS W (some ⟨g, 0, none⟩) 8 1 (flat stL timerNames) := ⟨rfl, by decide, .inr ⟨g, 0, rfl, HR.out.lt, fun j v hj => by rw [Nat.zero_add]; exact HR.out.c j v hj⟩⟩
  first
    | exact ⟨_, _, rfl, hI, HB.out⟩
    | exact ⟨_, ⟨_, rfl⟩, hI, HB.out⟩
    | exact ⟨_, ⟨_, rfl⟩, hI, HBg.out⟩
theorem prmE_count (ag : List Int → Bool) : prmE ([] : List BndD) (zipP ([] : List BndD) []) ag = if inB ([] : List BndD) [] = false then 6 else if ag [] = false then 10 else 0 := by
  have h1 : knownB ([] : List BndD) (zipP ([] : List BndD) []) = true := by kernel_rfl
  have h2 : Maps.size (mapD (zipP ([] : List BndD) []) (zipP ([] : List BndD) []).length) = (zipP ([] : List BndD) []).length := by kernel_rfl
  have h3 : numsB ([] : List BndD) (mapD (zipP ([] : List BndD) []) (zipP ([] : List BndD) []).length) = [] := by kernel_rfl
  unfold prmE
  rw [if_neg (by rw [h1]; simp), if_neg (by rw [h2]; simp), h3]
theorem prmE_edge (ag : List Int → Bool) : prmE ([] : List BndD) (zipP ([] : List BndD) []) ag = if inB ([] : List BndD) [] = false then 6 else if ag [] = false then 10 else 0 := by
  have h1 : knownB ([] : List BndD) (zipP ([] : List BndD) []) = true := by kernel_rfl
  have h2 : Maps.size (mapD (zipP ([] : List BndD) []) (zipP ([] : List BndD) []).length) = (zipP ([] : List BndD) []).length := by kernel_rfl
  have h3 : numsB ([] : List BndD) (mapD (zipP ([] : List BndD) []) (zipP ([] : List BndD) []).length) = [] := by kernel_rfl
  unfold prmE
  rw [if_neg (by rw [h1]; simp), if_neg (by rw [h2]; simp), h3]
theorem prmE_hyst (a b : Int) (ag : List Int → Bool) : prmE ([⟨⟨#[111, 110]⟩, (-1000000000000), 1000000000000, 1000⟩, ⟨⟨#[111, 102, 102]⟩, (-1000000000000), 1000000000000, 0⟩] : List BndD) (zipP ([⟨⟨#[111, 110]⟩, (-1000000000000), 1000000000000, 1000⟩, ⟨⟨#[111, 102, 102]⟩, (-1000000000000), 1000000000000, 0⟩] : List BndD) [a, b]) ag = if inB ([⟨⟨#[111, 110]⟩, (-1000000000000), 1000000000000, 1000⟩, ⟨⟨#[111, 102, 102]⟩, (-1000000000000), 1000000000000, 0⟩] : List BndD) [a, b] = false then 6 else if ag [a, b] = false then 10 else 0 := by
  have h1 : knownB ([⟨⟨#[111, 110]⟩, (-1000000000000), 1000000000000, 1000⟩, ⟨⟨#[111, 102, 102]⟩, (-1000000000000), 1000000000000, 0⟩] : List BndD) (zipP ([⟨⟨#[111, 110]⟩, (-1000000000000), 1000000000000, 1000⟩, ⟨⟨#[111, 102, 102]⟩, (-1000000000000), 1000000000000, 0⟩] : List BndD) [a, b]) = true := by kernel_rfl
  have h2 : Maps.size (mapD (zipP ([⟨⟨#[111, 110]⟩, (-1000000000000), 1000000000000, 1000⟩, ⟨⟨#[111, 102, 102]⟩, (-1000000000000), 1000000000000, 0⟩] : List BndD) [a, b]) (zipP ([⟨⟨#[111, 110]⟩, (-1000000000000), 1000000000000, 1000⟩, ⟨⟨#[111, 102, 102]⟩, (-1000000000000), 1000000000000, 0⟩] : List BndD) [a, b]).length) = (zipP ([⟨⟨#[111, 110]⟩, (-1000000000000), 1000000000000, 1000⟩, ⟨⟨#[111, 102, 102]⟩, (-1000000000000), 1000000000000, 0⟩] : List BndD) [a, b]).length := by kernel_rfl
  have h3 : numsB ([⟨⟨#[111, 110]⟩, (-1000000000000), 1000000000000, 1000⟩, ⟨⟨#[111, 102, 102]⟩, (-1000000000000), 1000000000000, 0⟩] : List BndD) (mapD (zipP ([⟨⟨#[111, 110]⟩, (-1000000000000), 1000000000000, 1000⟩, ⟨⟨#[111, 102, 102]⟩, (-1000000000000), 1000000000000, 0⟩] : List BndD) [a, b]) (zipP ([⟨⟨#[111, 110]⟩, (-1000000000000), 1000000000000, 1000⟩, ⟨⟨#[111, 102, 102]⟩, (-1000000000000), 1000000000000, 0⟩] : List BndD) [a, b]).length) = [a, b] := by kernel_rfl
  unfold prmE
  rw [if_neg (by rw [h1]; simp), if_neg (by rw [h2]; simp), h3]
theorem prmE_latch (ag : List Int → Bool) : prmE ([] : List BndD) (zipP ([] : List BndD) []) ag = if inB ([] : List BndD) [] = false then 6 else if ag [] = false then 10 else 0 := by
  have h1 : knownB ([] : List BndD) (zipP ([] : List BndD) []) = true := by kernel_rfl
  have h2 : Maps.size (mapD (zipP ([] : List BndD) []) (zipP ([] : List BndD) []).length) = (zipP ([] : List BndD) []).length := by kernel_rfl
  have h3 : numsB ([] : List BndD) (mapD (zipP ([] : List BndD) []) (zipP ([] : List BndD) []).length) = [] := by kernel_rfl
  unfold prmE
  rw [if_neg (by rw [h1]; simp), if_neg (by rw [h2]; simp), h3]
theorem prmE_minrun (a b : Int) (ag : List Int → Bool) : prmE ([⟨⟨#[111, 110]⟩, 0, 86400, 0⟩, ⟨⟨#[111, 102, 102]⟩, 0, 86400, 0⟩] : List BndD) (zipP ([⟨⟨#[111, 110]⟩, 0, 86400, 0⟩, ⟨⟨#[111, 102, 102]⟩, 0, 86400, 0⟩] : List BndD) [a, b]) ag = if inB ([⟨⟨#[111, 110]⟩, 0, 86400, 0⟩, ⟨⟨#[111, 102, 102]⟩, 0, 86400, 0⟩] : List BndD) [a, b] = false then 6 else if ag [a, b] = false then 10 else 0 := by
  have h1 : knownB ([⟨⟨#[111, 110]⟩, 0, 86400, 0⟩, ⟨⟨#[111, 102, 102]⟩, 0, 86400, 0⟩] : List BndD) (zipP ([⟨⟨#[111, 110]⟩, 0, 86400, 0⟩, ⟨⟨#[111, 102, 102]⟩, 0, 86400, 0⟩] : List BndD) [a, b]) = true := by kernel_rfl
  have h2 : Maps.size (mapD (zipP ([⟨⟨#[111, 110]⟩, 0, 86400, 0⟩, ⟨⟨#[111, 102, 102]⟩, 0, 86400, 0⟩] : List BndD) [a, b]) (zipP ([⟨⟨#[111, 110]⟩, 0, 86400, 0⟩, ⟨⟨#[111, 102, 102]⟩, 0, 86400, 0⟩] : List BndD) [a, b]).length) = (zipP ([⟨⟨#[111, 110]⟩, 0, 86400, 0⟩, ⟨⟨#[111, 102, 102]⟩, 0, 86400, 0⟩] : List BndD) [a, b]).length := by kernel_rfl
  have h3 : numsB ([⟨⟨#[111, 110]⟩, 0, 86400, 0⟩, ⟨⟨#[111, 102, 102]⟩, 0, 86400, 0⟩] : List BndD) (mapD (zipP ([⟨⟨#[111, 110]⟩, 0, 86400, 0⟩, ⟨⟨#[111, 102, 102]⟩, 0, 86400, 0⟩] : List BndD) [a, b]) (zipP ([⟨⟨#[111, 110]⟩, 0, 86400, 0⟩, ⟨⟨#[111, 102, 102]⟩, 0, 86400, 0⟩] : List BndD) [a, b]).length) = [a, b] := by kernel_rfl
  unfold prmE
  rw [if_neg (by rw [h1]; simp), if_neg (by rw [h2]; simp), h3]
theorem prmE_offdelay (a : Int) (ag : List Int → Bool) : prmE ([⟨⟨#[116, 105, 109, 101]⟩, 0, 86400, 0⟩] : List BndD) (zipP ([⟨⟨#[116, 105, 109, 101]⟩, 0, 86400, 0⟩] : List BndD) [a]) ag = if inB ([⟨⟨#[116, 105, 109, 101]⟩, 0, 86400, 0⟩] : List BndD) [a] = false then 6 else if ag [a] = false then 10 else 0 := by
  have h1 : knownB ([⟨⟨#[116, 105, 109, 101]⟩, 0, 86400, 0⟩] : List BndD) (zipP ([⟨⟨#[116, 105, 109, 101]⟩, 0, 86400, 0⟩] : List BndD) [a]) = true := by kernel_rfl
  have h2 : Maps.size (mapD (zipP ([⟨⟨#[116, 105, 109, 101]⟩, 0, 86400, 0⟩] : List BndD) [a]) (zipP ([⟨⟨#[116, 105, 109, 101]⟩, 0, 86400, 0⟩] : List BndD) [a]).length) = (zipP ([⟨⟨#[116, 105, 109, 101]⟩, 0, 86400, 0⟩] : List BndD) [a]).length := by kernel_rfl
  have h3 : numsB ([⟨⟨#[116, 105, 109, 101]⟩, 0, 86400, 0⟩] : List BndD) (mapD (zipP ([⟨⟨#[116, 105, 109, 101]⟩, 0, 86400, 0⟩] : List BndD) [a]) (zipP ([⟨⟨#[116, 105, 109, 101]⟩, 0, 86400, 0⟩] : List BndD) [a]).length) = [a] := by kernel_rfl
  unfold prmE
  rw [if_neg (by rw [h1]; simp), if_neg (by rw [h2]; simp), h3]
theorem prmE_ondelay (a : Int) (ag : List Int → Bool) : prmE ([⟨⟨#[116, 105, 109, 101]⟩, 0, 86400, 0⟩] : List BndD) (zipP ([⟨⟨#[116, 105, 109, 101]⟩, 0, 86400, 0⟩] : List BndD) [a]) ag = if inB ([⟨⟨#[116, 105, 109, 101]⟩, 0, 86400, 0⟩] : List BndD) [a] = false then 6 else if ag [a] = false then 10 else 0 := by
  have h1 : knownB ([⟨⟨#[116, 105, 109, 101]⟩, 0, 86400, 0⟩] : List BndD) (zipP ([⟨⟨#[116, 105, 109, 101]⟩, 0, 86400, 0⟩] : List BndD) [a]) = true := by kernel_rfl
  have h2 : Maps.size (mapD (zipP ([⟨⟨#[116, 105, 109, 101]⟩, 0, 86400, 0⟩] : List BndD) [a]) (zipP ([⟨⟨#[116, 105, 109, 101]⟩, 0, 86400, 0⟩] : List BndD) [a]).length) = (zipP ([⟨⟨#[116, 105, 109, 101]⟩, 0, 86400, 0⟩] : List BndD) [a]).length := by kernel_rfl
  have h3 : numsB ([⟨⟨#[116, 105, 109, 101]⟩, 0, 86400, 0⟩] : List BndD) (mapD (zipP ([⟨⟨#[116, 105, 109, 101]⟩, 0, 86400, 0⟩] : List BndD) [a]) (zipP ([⟨⟨#[116, 105, 109, 101]⟩, 0, 86400, 0⟩] : List BndD) [a]).length) = [a] := by kernel_rfl
  unfold prmE
  rw [if_neg (by rw [h1]; simp), if_neg (by rw [h2]; simp), h3]
theorem prmE_pulse (a : Int) (ag : List Int → Bool) : prmE ([⟨⟨#[116, 105, 109, 101]⟩, 0, 86400, 0⟩] : List BndD) (zipP ([⟨⟨#[116, 105, 109, 101]⟩, 0, 86400, 0⟩] : List BndD) [a]) ag = if inB ([⟨⟨#[116, 105, 109, 101]⟩, 0, 86400, 0⟩] : List BndD) [a] = false then 6 else if ag [a] = false then 10 else 0 := by
  have h1 : knownB ([⟨⟨#[116, 105, 109, 101]⟩, 0, 86400, 0⟩] : List BndD) (zipP ([⟨⟨#[116, 105, 109, 101]⟩, 0, 86400, 0⟩] : List BndD) [a]) = true := by kernel_rfl
  have h2 : Maps.size (mapD (zipP ([⟨⟨#[116, 105, 109, 101]⟩, 0, 86400, 0⟩] : List BndD) [a]) (zipP ([⟨⟨#[116, 105, 109, 101]⟩, 0, 86400, 0⟩] : List BndD) [a]).length) = (zipP ([⟨⟨#[116, 105, 109, 101]⟩, 0, 86400, 0⟩] : List BndD) [a]).length := by kernel_rfl
  have h3 : numsB ([⟨⟨#[116, 105, 109, 101]⟩, 0, 86400, 0⟩] : List BndD) (mapD (zipP ([⟨⟨#[116, 105, 109, 101]⟩, 0, 86400, 0⟩] : List BndD) [a]) (zipP ([⟨⟨#[116, 105, 109, 101]⟩, 0, 86400, 0⟩] : List BndD) [a]).length) = [a] := by kernel_rfl
  unfold prmE
  rw [if_neg (by rw [h1]; simp), if_neg (by rw [h2]; simp), h3]
end Go.Proofs.YtmhfkdnblemfdaaDoor
