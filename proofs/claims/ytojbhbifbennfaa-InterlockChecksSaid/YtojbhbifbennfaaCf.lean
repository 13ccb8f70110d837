/- slices.ContainsFunc over strings of a list; what the map of checkMembers holds, in plain terms; a look-up of a Bool. -/
import Derived.Test.YtojbhbifbennfaaCe
import Derived.Test.YtojbhbifbennfaaR
namespace Go.Proofs.Ytojbhbifbennfaa
open Go.RowKit Go.Shelf Go.Maps Go.WideMaps

def PredM (g : Nat) (lb : Array Value) (p : ByteArray → Bool) (qs : List ByteArray) (w : World) : Prop := ∀ (W : World) (x : ByteArray), x ∈ qs → Below w.heap.size w W → Calls Try.prog g (#[.string x] ++ lb) W fun e w' => e = .returned (.bool (p x)) ∧ Below W.heap.size W w'

set_option maxHeartbeats 4000000 in
set_option maxRecDepth 100000 in
theorem midx_any (g : Nat) (lb : Array Value) (p : ByteArray → Bool) (a : Option Addr) (cap : Nat) (qs : List ByteArray) (w : World) (eg : ∀ args w, (callFunc g args).run Try.prog w = .ok (.enter g args) w) (hp : PredM g lb p qs w) (hin : InS w a qs.length 1 (flat stL qs)) : Calls Try.prog 98 #[.slice a qs.length cap, .func (.func g) #[] lb] w fun e w' => e = .returned (.int .i64 (firstS p qs 0)) ∧ Below w.heap.size w w' := by
  obtain ⟨N, hN⟩ : ∃ N, N = qs.length := ⟨_, rfl⟩
  have HN := Lib.hid hN
  have HI := Lib.hid hin
  have HP := Lib.hid hp
  rw [← hN]
  clear hN hin hp
  go_enter Try.func98, Try.ntmps98
  go_wp2_with fail
  go_loopw [5, 8] (fun _ i wr => ∃ j : Nat, j ≤ N ∧ i = .int .i64 j ∧ Hid (firstS p qs 0 = firstS p (qs.drop j) j ∧ Below w.heap.size w wr)) (fun _ i _ => N - (intOf i).toNat)
  case atStart => exact ⟨0, by omega, rfl, Lib.hid ⟨rfl, Below.refl _ _⟩⟩
  case round =>
    obtain ⟨j, hj, rfl, hH⟩ := hrel
    by_cases hlt : j < N
    · have hjx : j < qs.length := by rw [← HN.out]; exact hlt
      obtain ⟨b, o, rfl, hbl, hcell⟩ := (HI.out.keep hH.out.2).at stL_len (by omega)
      obtain ⟨x, hx⟩ : ∃ x, qs[j]? = some x := ⟨_, List.getElem?_eq_getElem hjx⟩
      have c0 := hcell j _ hx 0 _ rfl
      rw [Nat.add_zero, Nat.mul_one] at c0
      have hc := HP.out wr x (List.mem_of_getElem? hx) hH.out.2
      obtain ⟨F, hF⟩ : ∃ F, F = p x := ⟨_, rfl⟩
      rw [← hF] at hc
      have HC := Lib.hid hc
      have HBW := Lib.hid hH.out.2
      have HF := Lib.hid hF
      have HX := Lib.hid hx
      have HFI := Lib.hid hH.out.1
      have k1 : (0 : Int) ≤ (j : Int) := by omega
      have k2 : (j : Int) < (N : Int) := by omega
      have k3 : N ≤ 9223372036854775807 := by have := HI.out.2.1; have := HN.out; omega
      clear hjx hcell hx hc hF hH hbl
      cases F
      · have HM := Lib.hid (HFI.out.trans (firstS_miss HX.out HF.out.symm))
        go_wp2_with (go_at_fn g; refine HC.out.mono ?_; rintro e w' ⟨rfl, hb⟩)
        have HB2 := Lib.hid (HBW.out.trans (hb.mono HBW.out.size))
        go_roundw
        case rel => exact ⟨j + 1, by omega, by go_num, Lib.hid ⟨HM.out, HB2.out⟩⟩
        case measure => (simp [intOf]) <;> omega
      · have HM := Lib.hid (HFI.out.trans (firstS_hit HX.out HF.out.symm))
        go_wp2_with (go_at_fn g; refine HC.out.mono ?_; rintro e w' ⟨rfl, hb⟩)
        have HB2 := Lib.hid (HBW.out.trans (hb.mono HBW.out.size))
        go_ret
        exact ⟨by rw [HM.out]; (first | done | rfl), HB2.out⟩
    · obtain rfl : j = N := by omega
      have HM := Lib.hid (show firstS p qs 0 = -1 from hH.out.1.trans (by rw [HN.out]; exact firstS_end p qs))
      have HB2 := Lib.hid hH.out.2
      clear hH
      go_wp2_with fail
      go_ret
      exact ⟨by rw [HM.out]; (first | done | rfl), HB2.out⟩

set_option maxRecDepth 100000 in
theorem mcon_any (g : Nat) (lb : Array Value) (p : ByteArray → Bool) (a : Option Addr) (cap : Nat) (qs : List ByteArray) (w : World) (eg : ∀ args w, (callFunc g args).run Try.prog w = .ok (.enter g args) w) (hp : PredM g lb p qs w) (hin : InS w a qs.length 1 (flat stL qs)) : Calls Try.prog 75 #[.slice a qs.length cap, .func (.func g) #[] lb] w fun e w' => e = .returned (.bool (qs.any p)) ∧ Below w.heap.size w w' := by
  have HI := Lib.hid (midx_any g lb p a cap qs w eg hp hin)
  have HA := Lib.hid (firstS_any p qs 0)
  obtain ⟨N, hN⟩ : ∃ N, N = qs.length := ⟨_, rfl⟩
  rw [← hN] at HI ⊢
  obtain ⟨I, hI⟩ : ∃ I, I = firstS p qs 0 := ⟨_, rfl⟩
  rw [← hI] at HI HA
  clear eg hp hin hN hI
  go_enter Try.func75, Try.ntmps75
  go_wp2_with fail
  refine HI.out.mono ?_
  rintro e w1 ⟨rfl, hb⟩
  have HB := Lib.hid hb
  clear hb
  have HY := Lib.hid HA.out.symm
  go_wp2_with fail
  go_ret
  exact ⟨by rw [HY.out]; (first | done | rfl), HB.out⟩

section
variable {H : Type} {P : Program} (w : World) {ops : Array Oper} {rest : List Oper} {o : Oper} {a : Act} {Q : Exit → Act → World → Prop}
theorem plainElem_bool_inv {e : TypeId} (he : P.underlying e = some .bool) {v : Value} {d : DataW H} {ps : List MemPlace} (h : plainElem P e v = some (d, ps)) {x : Bool} (hd : d = .lit (.bool x)) : v = .bool x := by
  subst hd
  unfold plainElem at h
  cases v <;> simp_all
theorem wpList_lookup_ok_bool (hg : o.guard = none) (m x : Operand) (t : TypeId) (hop : o.op = Op.lookup t m x true)
    (k e : TypeId) (K : Keyed P k) (ht : P.underlying t = some (.map k e)) (he : P.underlying e = some .bool) (hz : (zeroValue e).run P w = .ok (.bool false) w) (b n : Nat) (D : DataW H)
    (hm : a.eval m = .map (some b)) (hown : w.ownsMap P k (plainElem P e) b n D) (key : Value) (kl : Lit) (hx : a.eval x = key) (hkey : keyOf P k key = some kl) (c : Bool)
    (hat : D.atKey kl (.lit (.bool false)) = .lit (.bool c)) (hK : wpList P ops Q rest (a.put o.dst (.tuple #[.bool c, .bool (Maps.has D kl)])) w) :
    wpList P ops Q (o :: rest) a w :=
  wpList_lookup_own_ok w hg m x t hop k e K ht (plainElem P e) hz (.lit (.bool false)) [] (plainElem_bool he false) b n D hm hown key kl hx hkey (fun v ps hv => by
    rw [plainElem_bool_inv he hv hat]
    exact hK)
theorem wpList_lookup_bool (hg : o.guard = none) (m x : Operand) (t : TypeId) (hop : o.op = Op.lookup t m x false)
    (k e : TypeId) (K : Keyed P k) (ht : P.underlying t = some (.map k e)) (he : P.underlying e = some .bool) (hz : (zeroValue e).run P w = .ok (.bool false) w) (b n : Nat) (D : DataW H)
    (hm : a.eval m = .map (some b)) (hown : w.ownsMap P k (plainElem P e) b n D) (key : Value) (kl : Lit) (hx : a.eval x = key) (hkey : keyOf P k key = some kl) (c : Bool)
    (hat : D.atKey kl (.lit (.bool false)) = .lit (.bool c)) (hK : wpList P ops Q rest (a.put o.dst (.bool c)) w) :
    wpList P ops Q (o :: rest) a w := by
  refine wpList_plain hg fun K' hK' => ?_
  obtain ⟨v, ps, hrun, hv⟩ := hown.lookup K ht hz (plainElem_bool he false) hkey
  rw [plainElem_bool_inv he hv hat] at hrun
  unfold Oper.wp
  simp [execOp, hop, hm, hx, hrun, Result.andThen]
  exact hK' _ _ hK
end

def okP (p : PtD) : Bool := decide (p.r = 2) && decide (p.k = 2)
def keyB (s : ByteArray) : Lit := .string s.data.toList
theorem keyB_key (s : ByteArray) : WideAt.IsKeyLit (keyB s) := trivial
theorem keyB_inj {s t : ByteArray} (h : keyB s = keyB t) : s = t := by
  unfold keyB at h
  injection h with h
  cases s with | mk a => cases t with | mk b => exact congrArg ByteArray.mk (Array.toList_inj.1 h)
theorem keyB_ok {s : ByteArray} (h : s.size ≤ maxLen) : keyOf Try.prog 9 (.string s) = some (keyB s) := keyOf_string_mk Try.underlying9 h
def fitD {H : Type} (ps : List PtD) : Nat → DataW H
  | 0 => .map []
  | k + 1 => match ps[k]? with
    | none => fitD ps k
    | some x => if Maps.has (fitD (H := H) ps k) (keyB x.nm) = true then fitD ps k else (fitD ps k).put (keyB x.nm) (.lit (.bool (okP x)))
def knownB (ps : List PtD) (s : ByteArray) : Bool := ps.any fun p => decide (p.nm = s)
def fitB (ps : List PtD) (s : ByteArray) : Bool := match ps.find? fun p => decide (p.nm = s) with
  | none => false
  | some x => okP x
theorem fitD_isMap {H : Type} (ps : List PtD) (k : Nat) : Maps.IsMap (fitD (H := H) ps k) := by
  induction k with
  | zero => exact ⟨[], rfl⟩
  | succ k ih =>
    unfold fitD
    cases ps[k]? with
    | none => exact ih
    | some x => show Maps.IsMap (if _ then _ else _); split; exact ih; exact ih.put _ _
theorem knownB_snoc (A : List PtD) (x : PtD) (s : ByteArray) : knownB (A ++ [x]) s = (knownB A s || decide (x.nm = s)) := by
  simp [knownB]
theorem fitB_snoc (A : List PtD) (x : PtD) (s : ByteArray) : fitB (A ++ [x]) s = if knownB A s = true then fitB A s else (decide (x.nm = s) && okP x) := by
  induction A with
  | nil =>
    by_cases hs : x.nm = s
    · simp [fitB, knownB, hs]
    · simp [fitB, knownB, hs]
  | cons y r ih =>
    by_cases hs : y.nm = s
    · simp [fitB, knownB, hs]
    · have h1 : fitB (y :: r ++ [x]) s = fitB (r ++ [x]) s := by simp [fitB, hs]
      have h2 : knownB (y :: r) s = knownB r s := by simp [knownB, hs]
      have h3 : fitB (y :: r) s = fitB r s := by simp [fitB, hs]
      rw [h1, h2, h3, ih]
theorem fitD_says {H : Type} (ps : List PtD) (k : Nat) : ∀ s : ByteArray, Maps.has (fitD (H := H) ps k) (keyB s) = knownB (ps.take k) s ∧ (fitD (H := H) ps k).atKey (keyB s) (.lit (.bool false)) = .lit (.bool (fitB (ps.take k) s)) := by
  induction k with
  | zero => intro s; exact ⟨rfl, rfl⟩
  | succ k ih =>
    intro s
    unfold fitD
    rw [List.take_add_one]
    cases hx : ps[k]? with
    | none => simpa using ih s
    | some x =>
      show Maps.has (if _ then _ else _) _ = _ ∧ DataW.atKey (if _ then _ else _) _ _ = _
      rw [show (some x).toList = [x] from rfl, knownB_snoc, fitB_snoc]
      have hkx := (ih x.nm).1
      by_cases hk : Maps.has (fitD (H := H) ps k) (keyB x.nm) = true
      · rw [if_pos hk, (ih s).1, (ih s).2]
        by_cases hs : x.nm = s
        · subst hs
          rw [← hkx, hk]; exact ⟨rfl, rfl⟩
        · rw [decide_eq_false hs, Bool.or_false, Bool.false_and]
          refine ⟨rfl, ?_⟩
          by_cases hkn : knownB (ps.take k) s = true
          · rw [if_pos hkn]
          · rw [if_neg hkn]
            have hm := atKey_of_not_has (D := fitD (H := H) ps k) (k := keyB s) (by rw [(ih s).1]; simpa using hkn) (.lit (.bool false))
            rw [(ih s).2] at hm
            exact hm
      · rw [if_neg hk]
        by_cases hs : x.nm = s
        · subst hs
          rw [has_put_same (fitD_isMap ps k) (keyB_key _), atKey_put_same (fitD_isMap ps k) (keyB_key _), decide_eq_true rfl, Bool.or_true, Bool.true_and, if_neg (by rw [← hkx]; exact hk)]
          exact ⟨rfl, rfl⟩
        · have hne : keyB s ≠ keyB x.nm := fun h => hs (keyB_inj h).symm
          rw [has_put_other hne, atKey_put_other hne, (ih s).1, (ih s).2, decide_eq_false hs, Bool.or_false, Bool.false_and]
          refine ⟨rfl, ?_⟩
          by_cases hkn : knownB (ps.take k) s = true
          · rw [if_pos hkn]
          · rw [if_neg hkn]
            have hm := atKey_of_not_has (D := fitD (H := H) ps k) (k := keyB s) (by rw [(ih s).1]; simpa using hkn) (.lit (.bool false))
            rw [(ih s).2] at hm
            exact hm
end Go.Proofs.Ytojbhbifbennfaa
