/- block.Eval at the names that the laws ask for; analog, binary; of the specification Clamp, Plain, Same, SamePorts. -/
import Derived.Test.YtaobbedajgkmiaaDoorFe
import Derived.Deep.QuietTactic
import Derived.BigQuiet
namespace Go.Proofs.YtaobbedajgkmiaaDoor
open Go.RowKit Go.Shelf

set_option linter.unusedVariables false
set_option linter.unusedSimpArgs false
theorem insK_mem {il : List PortD} {c : Nat} {p : PortD} (h0 : 0 < il.length) (h : p ∈ insK il c) : p ∈ il := by
  unfold insK at h
  rcases List.mem_append.1 h with h | h
  · exact h
  · rw [(List.mem_replicate.1 h).2, List.getD_eq_getElem?_getD, List.getElem?_eq_getElem (by omega), Option.getD_some]
    exact List.getElem_mem _
abbrev clV (vs : List (Int × Int)) : List Int := vs.map fun v => clampI v.2
theorem fit_unif {il : List PortD} {vs : List (Int × Int)} {kd : Int} (h0 : 0 < il.length) (ht : ∀ p ∈ il, ¬ p.ty = ⟨#[84]⟩ ∧ kindI p.ty = kd) (hv : ∀ v ∈ vs, PossP v.1 v.2 ∧ v.1 = kd) (κ : Int) (i : Nat) (p : PortD) (v : Int × Int) (hi : (insK il vs.length)[i]? = some p) (hj : vs[i]? = some v) : PortOk κ p v := by
  have h1 := ht p (insK_mem h0 (List.mem_of_getElem? hi))
  have h2 := hv v (List.mem_of_getElem? hj)
  exact ⟨h2.1, fun e => absurd e h1.1, fun _ => by rw [h1.2]; exact h2.2⟩
set_option maxRecDepth 100000 in
theorem ev_not  (vs : List (Int × Int)) (hlo : 1 ≤ vs.length) (hhi : vs.length ≤ 1) (hvs : ∀ v ∈ vs, PossP v.1 v.2 ∧ v.1 = 2) (hG : ∃ a : Int, (clV vs) = [a] ∧ -1000000000000 ≤ a ∧ a ≤ 1000000000000) (pa : Option Addr) (pc : Nat) (ia : Option Addr) (ic : Nat) (w : World) (hm : MaxAt w) (hp : InS w pa 0 1 (flat iL [])) (hv : InS w ia vs.length 2 (flat valL vs)) :
    Calls Tryd.prog 23 #[.string ⟨#[110, 111, 116]⟩, .slice pa 0 pc, .slice ia vs.length ic] w fun e w' => e = .returned (.tuple #[.agg #[.int .i64 2, .int .i64 (1 - ((clV vs).getD 0 0))], .int .i64 0]) ∧ Below w.heap.size w w' := by
  have h := eval_ok 67 (fun (ps ns : List Int) => ∃ a : Int, ns = [a] ∧ -1000000000000 ≤ a ∧ a ≤ 1000000000000) (fun (ps ns : List Int) => 1 - (ns.getD 0 0)) op_not (fun _ _ => rfl) ⟨#[110, 111, 116]⟩ ⟨#[98, 105, 110, 97, 114, 121]⟩ 1 0 [] [⟨⟨#[97]⟩, ⟨#[98, 105, 110, 97, 114, 121]⟩⟩] (fun _ => true) (by unfold maxLen; decide) find_not (agree_not _) at_op_not.1 at_op_not.2.1 at_op_not.2.2.1 at_op_not.2.2.2 [] vs (rfl) (rfl) (by decide) (by decide) (by decide) (by decide) (by simpa using hlo) (by simp; omega) 1 (by decide) (fit_unif (kd := 2) (by decide) (by intro p hp; simp at hp; subst hp; decide) (by intro v hv; exact hvs v hv) 1) hG pa pc ia ic w hm hp hv
  exact h
set_option maxRecDepth 100000 in
theorem ev_neg  (vs : List (Int × Int)) (hlo : 1 ≤ vs.length) (hhi : vs.length ≤ 1) (hvs : ∀ v ∈ vs, PossP v.1 v.2 ∧ v.1 = 1) (hG : ∃ a : Int, (clV vs) = [a] ∧ -1000000000000 ≤ a ∧ a ≤ 1000000000000) (pa : Option Addr) (pc : Nat) (ia : Option Addr) (ic : Nat) (w : World) (hm : MaxAt w) (hp : InS w pa 0 1 (flat iL [])) (hv : InS w ia vs.length 2 (flat valL vs)) :
    Calls Tryd.prog 23 #[.string ⟨#[110, 101, 103]⟩, .slice pa 0 pc, .slice ia vs.length ic] w fun e w' => e = .returned (.tuple #[.agg #[.int .i64 1, .int .i64 (-((clV vs).getD 0 0))], .int .i64 0]) ∧ Below w.heap.size w w' := by
  have h := eval_ok 66 (fun (ps ns : List Int) => ∃ a : Int, ns = [a] ∧ -1000000000000 ≤ a ∧ a ≤ 1000000000000) (fun (ps ns : List Int) => -(ns.getD 0 0)) op_neg (fun _ _ => rfl) ⟨#[110, 101, 103]⟩ ⟨#[85]⟩ 1 0 [] [⟨⟨#[97]⟩, ⟨#[85]⟩⟩] (fun _ => true) (by unfold maxLen; decide) find_neg (agree_neg _) at_op_neg.1 at_op_neg.2.1 at_op_neg.2.2.1 at_op_neg.2.2.2 [] vs (rfl) (rfl) (by decide) (by decide) (by decide) (by decide) (by simpa using hlo) (by simp; omega) 1 (by decide) (fit_unif (kd := 1) (by decide) (by intro p hp; simp at hp; subst hp; decide) (by intro v hv; exact hvs v hv) 1) hG pa pc ia ic w hm hp hv
  exact h
set_option maxRecDepth 100000 in
theorem ev_abs  (vs : List (Int × Int)) (hlo : 1 ≤ vs.length) (hhi : vs.length ≤ 1) (hvs : ∀ v ∈ vs, PossP v.1 v.2 ∧ v.1 = 1) (hG : ∃ a : Int, (clV vs) = [a] ∧ -1000000000000 ≤ a ∧ a ≤ 1000000000000) (pa : Option Addr) (pc : Nat) (ia : Option Addr) (ic : Nat) (w : World) (hm : MaxAt w) (hp : InS w pa 0 1 (flat iL [])) (hv : InS w ia vs.length 2 (flat valL vs)) :
    Calls Tryd.prog 23 #[.string ⟨#[97, 98, 115]⟩, .slice pa 0 pc, .slice ia vs.length ic] w fun e w' => e = .returned (.tuple #[.agg #[.int .i64 1, .int .i64 (max ((clV vs).getD 0 0) (-((clV vs).getD 0 0)))], .int .i64 0]) ∧ Below w.heap.size w w' := by
  have h := eval_ok 48 (fun (ps ns : List Int) => ∃ a : Int, ns = [a] ∧ -1000000000000 ≤ a ∧ a ≤ 1000000000000) (fun (ps ns : List Int) => max (ns.getD 0 0) (-(ns.getD 0 0))) op_abs (fun _ _ => rfl) ⟨#[97, 98, 115]⟩ ⟨#[85]⟩ 1 0 [] [⟨⟨#[97]⟩, ⟨#[85]⟩⟩] (fun _ => true) (by unfold maxLen; decide) find_abs (agree_abs _) at_op_abs.1 at_op_abs.2.1 at_op_abs.2.2.1 at_op_abs.2.2.2 [] vs (rfl) (rfl) (by decide) (by decide) (by decide) (by decide) (by simpa using hlo) (by simp; omega) 1 (by decide) (fit_unif (kd := 1) (by decide) (by intro p hp; simp at hp; subst hp; decide) (by intro v hv; exact hvs v hv) 1) hG pa pc ia ic w hm hp hv
  exact h
set_option maxRecDepth 100000 in
theorem ev_and  (vs : List (Int × Int)) (hlo : 2 ≤ vs.length) (hhi : vs.length ≤ 8) (hvs : ∀ v ∈ vs, PossP v.1 v.2 ∧ v.1 = 2) (hG : 1 ≤ (clV vs).length) (pa : Option Addr) (pc : Nat) (ia : Option Addr) (ic : Nat) (w : World) (hm : MaxAt w) (hp : InS w pa 0 1 (flat iL [])) (hv : InS w ia vs.length 2 (flat valL vs)) :
    Calls Tryd.prog 23 #[.string ⟨#[97, 110, 100]⟩, .slice pa 0 pc, .slice ia vs.length ic] w fun e w' => e = .returned (.tuple #[.agg #[.int .i64 2, .int .i64 (minK (clV vs) (clV vs).length)], .int .i64 0]) ∧ Below w.heap.size w w' := by
  have h := eval_ok 51 (fun (ps ns : List Int) => 1 ≤ ns.length) (fun (ps ns : List Int) => minK ns ns.length) op_and (fun _ _ => rfl) ⟨#[97, 110, 100]⟩ ⟨#[98, 105, 110, 97, 114, 121]⟩ 7 0 [] [⟨⟨#[97]⟩, ⟨#[98, 105, 110, 97, 114, 121]⟩⟩, ⟨⟨#[98]⟩, ⟨#[98, 105, 110, 97, 114, 121]⟩⟩] (fun _ => true) (by unfold maxLen; decide) find_and (agree_and _) at_op_and.1 at_op_and.2.1 at_op_and.2.2.1 at_op_and.2.2.2 [] vs (rfl) (rfl) (by decide) (by decide) (by decide) (by decide) (by simpa using hlo) (by simp; omega) 1 (by decide) (fit_unif (kd := 2) (by decide) (by intro p hp; simp at hp; rcases hp with rfl | rfl <;> decide) (by intro v hv; exact hvs v hv) 1) hG pa pc ia ic w hm hp hv
  exact h
set_option maxRecDepth 100000 in
theorem ev_or  (vs : List (Int × Int)) (hlo : 2 ≤ vs.length) (hhi : vs.length ≤ 8) (hvs : ∀ v ∈ vs, PossP v.1 v.2 ∧ v.1 = 2) (hG : 1 ≤ (clV vs).length) (pa : Option Addr) (pc : Nat) (ia : Option Addr) (ic : Nat) (w : World) (hm : MaxAt w) (hp : InS w pa 0 1 (flat iL [])) (hv : InS w ia vs.length 2 (flat valL vs)) :
    Calls Tryd.prog 23 #[.string ⟨#[111, 114]⟩, .slice pa 0 pc, .slice ia vs.length ic] w fun e w' => e = .returned (.tuple #[.agg #[.int .i64 2, .int .i64 (maxK (clV vs) (clV vs).length)], .int .i64 0]) ∧ Below w.heap.size w w' := by
  have h := eval_ok 68 (fun (ps ns : List Int) => 1 ≤ ns.length) (fun (ps ns : List Int) => maxK ns ns.length) op_or (fun _ _ => rfl) ⟨#[111, 114]⟩ ⟨#[98, 105, 110, 97, 114, 121]⟩ 7 0 [] [⟨⟨#[97]⟩, ⟨#[98, 105, 110, 97, 114, 121]⟩⟩, ⟨⟨#[98]⟩, ⟨#[98, 105, 110, 97, 114, 121]⟩⟩] (fun _ => true) (by unfold maxLen; decide) find_or (agree_or _) at_op_or.1 at_op_or.2.1 at_op_or.2.2.1 at_op_or.2.2.2 [] vs (rfl) (rfl) (by decide) (by decide) (by decide) (by decide) (by simpa using hlo) (by simp; omega) 1 (by decide) (fit_unif (kd := 2) (by decide) (by intro p hp; simp at hp; rcases hp with rfl | rfl <;> decide) (by intro v hv; exact hvs v hv) 1) hG pa pc ia ic w hm hp hv
  exact h
set_option maxRecDepth 100000 in
theorem ev_max  (vs : List (Int × Int)) (hlo : 2 ≤ vs.length) (hhi : vs.length ≤ 2) (hvs : ∀ v ∈ vs, PossP v.1 v.2 ∧ v.1 = 1) (hG : 1 ≤ (clV vs).length) (pa : Option Addr) (pc : Nat) (ia : Option Addr) (ic : Nat) (w : World) (hm : MaxAt w) (hp : InS w pa 0 1 (flat iL [])) (hv : InS w ia vs.length 2 (flat valL vs)) :
    Calls Tryd.prog 23 #[.string ⟨#[109, 97, 120]⟩, .slice pa 0 pc, .slice ia vs.length ic] w fun e w' => e = .returned (.tuple #[.agg #[.int .i64 1, .int .i64 (maxK (clV vs) (clV vs).length)], .int .i64 0]) ∧ Below w.heap.size w w' := by
  have h := eval_ok 59 (fun (ps ns : List Int) => 1 ≤ ns.length) (fun (ps ns : List Int) => maxK ns ns.length) op_max (fun _ _ => rfl) ⟨#[109, 97, 120]⟩ ⟨#[85]⟩ 1 0 [] [⟨⟨#[97]⟩, ⟨#[85]⟩⟩, ⟨⟨#[98]⟩, ⟨#[85]⟩⟩] (fun _ => true) (by unfold maxLen; decide) find_max (agree_max _) at_op_max.1 at_op_max.2.1 at_op_max.2.2.1 at_op_max.2.2.2 [] vs (rfl) (rfl) (by decide) (by decide) (by decide) (by decide) (by simpa using hlo) (by simp; omega) 1 (by decide) (fit_unif (kd := 1) (by decide) (by intro p hp; simp at hp; rcases hp with rfl | rfl <;> decide) (by intro v hv; exact hvs v hv) 1) hG pa pc ia ic w hm hp hv
  exact h
set_option maxRecDepth 100000 in
theorem ev_min  (vs : List (Int × Int)) (hlo : 2 ≤ vs.length) (hhi : vs.length ≤ 2) (hvs : ∀ v ∈ vs, PossP v.1 v.2 ∧ v.1 = 1) (hG : 1 ≤ (clV vs).length) (pa : Option Addr) (pc : Nat) (ia : Option Addr) (ic : Nat) (w : World) (hm : MaxAt w) (hp : InS w pa 0 1 (flat iL [])) (hv : InS w ia vs.length 2 (flat valL vs)) :
    Calls Tryd.prog 23 #[.string ⟨#[109, 105, 110]⟩, .slice pa 0 pc, .slice ia vs.length ic] w fun e w' => e = .returned (.tuple #[.agg #[.int .i64 1, .int .i64 (minK (clV vs) (clV vs).length)], .int .i64 0]) ∧ Below w.heap.size w w' := by
  have h := eval_ok 63 (fun (ps ns : List Int) => 1 ≤ ns.length) (fun (ps ns : List Int) => minK ns ns.length) op_min (fun _ _ => rfl) ⟨#[109, 105, 110]⟩ ⟨#[85]⟩ 1 0 [] [⟨⟨#[97]⟩, ⟨#[85]⟩⟩, ⟨⟨#[98]⟩, ⟨#[85]⟩⟩] (fun _ => true) (by unfold maxLen; decide) find_min (agree_min _) at_op_min.1 at_op_min.2.1 at_op_min.2.2.1 at_op_min.2.2.2 [] vs (rfl) (rfl) (by decide) (by decide) (by decide) (by decide) (by simpa using hlo) (by simp; omega) 1 (by decide) (fit_unif (kd := 1) (by decide) (by intro p hp; simp at hp; rcases hp with rfl | rfl <;> decide) (by intro v hv; exact hvs v hv) 1) hG pa pc ia ic w hm hp hv
  exact h
set_option maxRecDepth 100000 in
theorem ev_mean  (vs : List (Int × Int)) (hlo : 2 ≤ vs.length) (hhi : vs.length ≤ 8) (hvs : ∀ v ∈ vs, PossP v.1 v.2 ∧ v.1 = 1) (hG : (clV vs).length ≤ 20) (pa : Option Addr) (pc : Nat) (ia : Option Addr) (ic : Nat) (w : World) (hm : MaxAt w) (hp : InS w pa 0 1 (flat iL [])) (hv : InS w ia vs.length 2 (flat valL vs)) :
    Calls Tryd.prog 23 #[.string ⟨#[109, 101, 97, 110]⟩, .slice pa 0 pc, .slice ia vs.length ic] w fun e w' => e = .returned (.tuple #[.agg #[.int .i64 1, .int .i64 (meanI (clV vs))], .int .i64 0]) ∧ Below w.heap.size w w' := by
  have h := eval_ok 61 (fun (ps ns : List Int) => ns.length ≤ 20) (fun (ps ns : List Int) => meanI ns) op_mean (fun _ _ => rfl) ⟨#[109, 101, 97, 110]⟩ ⟨#[85]⟩ 7 0 [] [⟨⟨#[97]⟩, ⟨#[85]⟩⟩, ⟨⟨#[98]⟩, ⟨#[85]⟩⟩] (fun _ => true) (by unfold maxLen; decide) find_mean (agree_mean _) at_op_mean.1 at_op_mean.2.1 at_op_mean.2.2.1 at_op_mean.2.2.2 [] vs (rfl) (rfl) (by decide) (by decide) (by decide) (by decide) (by simpa using hlo) (by simp; omega) 1 (by decide) (fit_unif (kd := 1) (by decide) (by intro p hp; simp at hp; rcases hp with rfl | rfl <;> decide) (by intro v hv; exact hvs v hv) 1) hG pa pc ia ic w hm hp hv
  exact h
set_option maxRecDepth 100000 in
theorem ev_xor  (vs : List (Int × Int)) (hlo : 2 ≤ vs.length) (hhi : vs.length ≤ 2) (hvs : ∀ v ∈ vs, PossP v.1 v.2 ∧ v.1 = 2) (hG : ∃ a c : Int, (clV vs) = [a, c] ∧ (a = 0 ∨ a = 1) ∧ (c = 0 ∨ c = 1)) (pa : Option Addr) (pc : Nat) (ia : Option Addr) (ic : Nat) (w : World) (hm : MaxAt w) (hp : InS w pa 0 1 (flat iL [])) (hv : InS w ia vs.length 2 (flat valL vs)) :
    Calls Tryd.prog 23 #[.string ⟨#[120, 111, 114]⟩, .slice pa 0 pc, .slice ia vs.length ic] w fun e w' => e = .returned (.tuple #[.agg #[.int .i64 2, .int .i64 (if (clV vs).getD 0 0 = (clV vs).getD 1 0 then 0 else 1)], .int .i64 0]) ∧ Below w.heap.size w w' := by
  have h := eval_ok 71 (fun (ps ns : List Int) => ∃ a c : Int, ns = [a, c] ∧ (a = 0 ∨ a = 1) ∧ (c = 0 ∨ c = 1)) (fun (ps ns : List Int) => if ns.getD 0 0 = ns.getD 1 0 then 0 else 1) op_xor (fun _ _ => rfl) ⟨#[120, 111, 114]⟩ ⟨#[98, 105, 110, 97, 114, 121]⟩ 1 0 [] [⟨⟨#[97]⟩, ⟨#[98, 105, 110, 97, 114, 121]⟩⟩, ⟨⟨#[98]⟩, ⟨#[98, 105, 110, 97, 114, 121]⟩⟩] (fun _ => true) (by unfold maxLen; decide) find_xor (agree_xor _) at_op_xor.1 at_op_xor.2.1 at_op_xor.2.2.1 at_op_xor.2.2.2 [] vs (rfl) (rfl) (by decide) (by decide) (by decide) (by decide) (by simpa using hlo) (by simp; omega) 1 (by decide) (fit_unif (kd := 2) (by decide) (by intro p hp; simp at hp; rcases hp with rfl | rfl <;> decide) (by intro v hv; exact hvs v hv) 1) hG pa pc ia ic w hm hp hv
  exact h
set_option maxRecDepth 100000 in
theorem ev_add  (vs : List (Int × Int)) (hlo : 2 ≤ vs.length) (hhi : vs.length ≤ 2) (hvs : ∀ v ∈ vs, PossP v.1 v.2 ∧ v.1 = 1) (hG : ∃ a c : Int, (clV vs) = [a, c]) (pa : Option Addr) (pc : Nat) (ia : Option Addr) (ic : Nat) (w : World) (hm : MaxAt w) (hp : InS w pa 0 1 (flat iL [])) (hv : InS w ia vs.length 2 (flat valL vs)) :
    Calls Tryd.prog 23 #[.string ⟨#[97, 100, 100]⟩, .slice pa 0 pc, .slice ia vs.length ic] w fun e w' => e = .returned (.tuple #[.agg #[.int .i64 1, .int .i64 (addI ((clV vs).getD 0 0) ((clV vs).getD 1 0))], .int .i64 0]) ∧ Below w.heap.size w w' := by
  have h := eval_ok 49 (fun (ps ns : List Int) => ∃ a c : Int, ns = [a, c]) (fun (ps ns : List Int) => addI (ns.getD 0 0) (ns.getD 1 0)) op_add (fun _ _ => rfl) ⟨#[97, 100, 100]⟩ ⟨#[85]⟩ 1 0 [] [⟨⟨#[97]⟩, ⟨#[85]⟩⟩, ⟨⟨#[98]⟩, ⟨#[85]⟩⟩] (fun _ => true) (by unfold maxLen; decide) find_add (agree_add _) at_op_add.1 at_op_add.2.1 at_op_add.2.2.1 at_op_add.2.2.2 [] vs (rfl) (rfl) (by decide) (by decide) (by decide) (by decide) (by simpa using hlo) (by simp; omega) 1 (by decide) (fit_unif (kd := 1) (by decide) (by intro p hp; simp at hp; rcases hp with rfl | rfl <;> decide) (by intro v hv; exact hvs v hv) 1) hG pa pc ia ic w hm hp hv
  exact h
set_option maxRecDepth 100000 in
theorem ev_sub  (vs : List (Int × Int)) (hlo : 2 ≤ vs.length) (hhi : vs.length ≤ 2) (hvs : ∀ v ∈ vs, PossP v.1 v.2 ∧ v.1 = 1) (hG : ∃ a c : Int, (clV vs) = [a, c]) (pa : Option Addr) (pc : Nat) (ia : Option Addr) (ic : Nat) (w : World) (hm : MaxAt w) (hp : InS w pa 0 1 (flat iL [])) (hv : InS w ia vs.length 2 (flat valL vs)) :
    Calls Tryd.prog 23 #[.string ⟨#[115, 117, 98]⟩, .slice pa 0 pc, .slice ia vs.length ic] w fun e w' => e = .returned (.tuple #[.agg #[.int .i64 1, .int .i64 (subI ((clV vs).getD 0 0) ((clV vs).getD 1 0))], .int .i64 0]) ∧ Below w.heap.size w w' := by
  have h := eval_ok 69 (fun (ps ns : List Int) => ∃ a c : Int, ns = [a, c]) (fun (ps ns : List Int) => subI (ns.getD 0 0) (ns.getD 1 0)) op_sub (fun _ _ => rfl) ⟨#[115, 117, 98]⟩ ⟨#[85]⟩ 1 0 [] [⟨⟨#[97]⟩, ⟨#[85]⟩⟩, ⟨⟨#[98]⟩, ⟨#[85]⟩⟩] (fun _ => true) (by unfold maxLen; decide) find_sub (agree_sub _) at_op_sub.1 at_op_sub.2.1 at_op_sub.2.2.1 at_op_sub.2.2.2 [] vs (rfl) (rfl) (by decide) (by decide) (by decide) (by decide) (by simpa using hlo) (by simp; omega) 1 (by decide) (fit_unif (kd := 1) (by decide) (by intro p hp; simp at hp; rcases hp with rfl | rfl <;> decide) (by intro v hv; exact hvs v hv) 1) hG pa pc ia ic w hm hp hv
  exact h
set_option maxRecDepth 100000 in
theorem ev_mul  (vs : List (Int × Int)) (hlo : 2 ≤ vs.length) (hhi : vs.length ≤ 2) (hvs : ∀ v ∈ vs, PossP v.1 v.2 ∧ v.1 = 1) (hG : ∃ a c : Int, (clV vs) = [a, c]) (pa : Option Addr) (pc : Nat) (ia : Option Addr) (ic : Nat) (w : World) (hm : MaxAt w) (hp : InS w pa 0 1 (flat iL [])) (hv : InS w ia vs.length 2 (flat valL vs)) :
    Calls Tryd.prog 23 #[.string ⟨#[109, 117, 108]⟩, .slice pa 0 pc, .slice ia vs.length ic] w fun e w' => e = .returned (.tuple #[.agg #[.int .i64 1, .int .i64 (mulDivI ((clV vs).getD 0 0) ((clV vs).getD 1 0) 1000)], .int .i64 0]) ∧ Below w.heap.size w w' := by
  have h := eval_ok 64 (fun (ps ns : List Int) => ∃ a c : Int, ns = [a, c]) (fun (ps ns : List Int) => mulDivI (ns.getD 0 0) (ns.getD 1 0) 1000) op_mul (fun _ _ => rfl) ⟨#[109, 117, 108]⟩ ⟨#[85, 42, 86]⟩ 1 0 [] [⟨⟨#[97]⟩, ⟨#[85]⟩⟩, ⟨⟨#[98]⟩, ⟨#[86]⟩⟩] (fun _ => true) (by unfold maxLen; decide) find_mul (agree_mul _) at_op_mul.1 at_op_mul.2.1 at_op_mul.2.2.1 at_op_mul.2.2.2 [] vs (rfl) (rfl) (by decide) (by decide) (by decide) (by decide) (by simpa using hlo) (by simp; omega) 1 (by decide) (fit_unif (kd := 1) (by decide) (by intro p hp; simp at hp; rcases hp with rfl | rfl <;> decide) (by intro v hv; exact hvs v hv) 1) hG pa pc ia ic w hm hp hv
  exact h
set_option maxRecDepth 100000 in
theorem ev_limit (l h : Int) (hl : -1000000000000 ≤ l) (hh : h ≤ 1000000000000) (hlh : l ≤ h) (vs : List (Int × Int)) (hlo : 1 ≤ vs.length) (hhi : vs.length ≤ 1) (hvs : ∀ v ∈ vs, PossP v.1 v.2 ∧ v.1 = 1) (hG : ∃ a x y : Int, (clV vs) = [a] ∧ ([l, h] : List Int) = [x, y]) (pa : Option Addr) (pc : Nat) (ia : Option Addr) (ic : Nat) (w : World) (hm : MaxAt w) (hp : InS w pa 2 1 (flat iL [l, h])) (hv : InS w ia vs.length 2 (flat valL vs)) :
    Calls Tryd.prog 23 #[.string ⟨#[108, 105, 109, 105, 116]⟩, .slice pa 2 pc, .slice ia vs.length ic] w fun e w' => e = .returned (.tuple #[.agg #[.int .i64 1, .int .i64 (min (max ((clV vs).getD 0 0) (([l, h] : List Int).getD 0 0)) (([l, h] : List Int).getD 1 0))], .int .i64 0]) ∧ Below w.heap.size w w' := by
  have h := eval_ok 56 (fun (ps ns : List Int) => ∃ a x y : Int, ns = [a] ∧ ps = [x, y]) (fun (ps ns : List Int) => min (max (ns.getD 0 0) (ps.getD 0 0)) (ps.getD 1 0)) op_limit (fun _ _ => rfl) ⟨#[108, 105, 109, 105, 116]⟩ ⟨#[85]⟩ 1 0 [⟨⟨#[108, 111, 119]⟩, (-1000000000000), 1000000000000, (-1000000000000)⟩, ⟨⟨#[104, 105, 103, 104]⟩, (-1000000000000), 1000000000000, 1000000000000⟩] [⟨⟨#[97]⟩, ⟨#[85]⟩⟩] agLe (by unfold maxLen; decide) find_limit agree_limit at_op_limit.1 at_op_limit.2.1 at_op_limit.2.2.1 at_op_limit.2.2.2 [l, h] vs (by simp [inB]; omega) (decide_eq_true hlh) (by decide) (by decide) (by decide) (by decide) (by simpa using hlo) (by simp; omega) 1 (by decide) (fit_unif (kd := 1) (by decide) (by intro p hp; simp at hp; subst hp; decide) (by intro v hv; exact hvs v hv) 1) hG pa pc ia ic w hm hp hv
  exact h
theorem ev_limit_inv (l h : Int) (hbad : l < -1000000000000 ∨ 1000000000000 < h ∨ h < l) (vs : List (Int × Int)) (pa : Option Addr) (pc : Nat) (ia : Option Addr) (ic : Nat) (w : World) (hm : MaxAt w) (hp : InS w pa 2 1 (flat iL [l, h])) (hv : InS w ia vs.length 2 (flat valL vs)) :
    Calls Tryd.prog 23 #[.string ⟨#[108, 105, 109, 105, 116]⟩, .slice pa 2 pc, .slice ia vs.length ic] w fun e w' => e = .returned (.tuple #[.agg #[.int .i64 0, .int .i64 0], .int .i64 1]) ∧ Below w.heap.size w w' := by
  have hb : inB [⟨⟨#[108, 111, 119]⟩, (-1000000000000), 1000000000000, (-1000000000000)⟩, ⟨⟨#[104, 105, 103, 104]⟩, (-1000000000000), 1000000000000, 1000000000000⟩] [l, h] = false ∨ (inB [⟨⟨#[108, 111, 119]⟩, (-1000000000000), 1000000000000, (-1000000000000)⟩, ⟨⟨#[104, 105, 103, 104]⟩, (-1000000000000), 1000000000000, 1000000000000⟩] [l, h] = true ∧ agLe [l, h] = false) := by
    by_cases hin : -1000000000000 ≤ l ∧ l ≤ 1000000000000 ∧ -1000000000000 ≤ h ∧ h ≤ 1000000000000
    · refine .inr ⟨by simp [inB]; omega, decide_eq_false (by omega)⟩
    · refine .inl ?_
      simp only [inB, Bool.and_true, Bool.and_eq_false_iff, decide_eq_false_iff_not]
      omega
  exact eval_inv 56 ⟨#[108, 105, 109, 105, 116]⟩ ⟨#[85]⟩ 1 0 [⟨⟨#[108, 111, 119]⟩, (-1000000000000), 1000000000000, (-1000000000000)⟩, ⟨⟨#[104, 105, 103, 104]⟩, (-1000000000000), 1000000000000, 1000000000000⟩] [⟨⟨#[97]⟩, ⟨#[85]⟩⟩] agLe (by unfold maxLen; decide) find_limit agree_limit at_op_limit.1 at_op_limit.2.1 at_op_limit.2.2.1 at_op_limit.2.2.2 [l, h] vs hb pa pc ia ic w hm hp hv
theorem getD_at {il : List PortD} {i : Nat} {p : PortD} (h : il[i]? = some p) : il.getD i zP = p := by rw [List.getD_eq_getElem?_getD, h]; rfl
set_option maxRecDepth 100000 in
theorem ev_pick (s κ x y : Int) (hs : s = 0 ∨ s = 1) (hκ : ¬ κ = 0) (hx : PossP κ x) (hy : PossP κ y) (pa : Option Addr) (pc : Nat) (ia : Option Addr) (ic : Nat) (w : World) (hm : MaxAt w) (hp : InS w pa 0 1 (flat iL [])) (hv : InS w ia 3 2 (flat valL [(2, s), (κ, x), (κ, y)])) :
    Calls Tryd.prog 23 #[.string ⟨#[112, 105, 99, 107]⟩, .slice pa 0 pc, .slice ia 3 ic] w fun e w' => e = .returned (.tuple #[.agg #[.int .i64 κ, .int .i64 (if s = 1 then x else y)], .int .i64 0]) ∧ Below w.heap.size w w' := by
  have hfit : ∀ (i : Nat) (p : PortD) (v : Int × Int), (insK [⟨⟨#[115]⟩, ⟨#[98, 105, 110, 97, 114, 121]⟩⟩, ⟨⟨#[97]⟩, ⟨#[84]⟩⟩, ⟨⟨#[98]⟩, ⟨#[84]⟩⟩] [(2, s), (κ, x), (κ, y)].length)[i]? = some p → [(2, s), (κ, x), (κ, y)][i]? = some v → PortOk κ p v := by
    intro i p v hi hj
    have hi3 : i < 3 := (List.getElem?_eq_some_iff.1 hj).1
    have h3 : i = 0 ∨ i = 1 ∨ i = 2 := by omega
    rcases h3 with rfl | rfl | rfl
    · obtain rfl : _ = p := Option.some.inj hi
      obtain rfl : _ = v := Option.some.inj hj
      exact ⟨.inr (.inl ⟨rfl, hs⟩), fun e => absurd e (by decide), fun _ => rfl⟩
    · obtain rfl : _ = p := Option.some.inj hi
      obtain rfl : _ = v := Option.some.inj hj
      exact ⟨hx, fun _ => rfl, fun e => absurd rfl e⟩
    · obtain rfl : _ = p := Option.some.inj hi
      obtain rfl : _ = v := Option.some.inj hj
      exact ⟨hy, fun _ => rfl, fun e => absurd rfl e⟩
  rcases hs with rfl | rfl
  · exact eval_sel 73 (fun _ _ => rfl) ⟨#[112, 105, 99, 107]⟩ ⟨#[84]⟩ 1 0 [] [⟨⟨#[115]⟩, ⟨#[98, 105, 110, 97, 114, 121]⟩⟩, ⟨⟨#[97]⟩, ⟨#[84]⟩⟩, ⟨⟨#[98]⟩, ⟨#[84]⟩⟩] (fun _ => true) (by unfold maxLen; decide) find_pick (agree_pick _) at_op_pick.1 at_op_pick.2.1 at_op_pick.2.2.1 at_op_pick.2.2.2 [] [(2, 0), (κ, x), (κ, y)] rfl rfl (by decide) (by decide) (by decide) (by decide) (by simp) (by simp) κ hκ hfit 2 (by simp) 2 0 κ y rfl rfl (fun w => sel_pick 0 2 (by decide) (by decide) (by decide) (by decide) w) pa pc ia ic w hm hp hv
  · exact eval_sel 73 (fun _ _ => rfl) ⟨#[112, 105, 99, 107]⟩ ⟨#[84]⟩ 1 0 [] [⟨⟨#[115]⟩, ⟨#[98, 105, 110, 97, 114, 121]⟩⟩, ⟨⟨#[97]⟩, ⟨#[84]⟩⟩, ⟨⟨#[98]⟩, ⟨#[84]⟩⟩] (fun _ => true) (by unfold maxLen; decide) find_pick (agree_pick _) at_op_pick.1 at_op_pick.2.1 at_op_pick.2.2.1 at_op_pick.2.2.2 [] [(2, 1), (κ, x), (κ, y)] rfl rfl (by decide) (by decide) (by decide) (by decide) (by simp) (by simp) κ hκ hfit 1 (by simp) 2 1 κ x rfl rfl (fun w => sel_pick 1 2 (by decide) (by decide) (by decide) (by decide) w) pa pc ia ic w hm hp hv
theorem insT_at (c i : Nat) (p : PortD) (hi : 1 ≤ i) (h : (insK [⟨⟨#[109]⟩, ⟨#[109, 117, 108, 116, 105]⟩⟩, ⟨⟨#[97]⟩, ⟨#[84]⟩⟩] c)[i]? = some p) : p.ty = ⟨#[84]⟩ := by
  unfold insK at h
  by_cases h1 : i = 1
  · subst h1
    rw [List.getElem?_append_left (by decide)] at h
    obtain rfl : _ = p := Option.some.inj h
    rfl
  · rw [List.getElem?_append_right (by simp; omega)] at h
    have := List.mem_of_getElem? h
    rw [(List.mem_replicate.1 this).2]
    rfl
set_option maxRecDepth 100000 in
theorem ev_choose (st κ : Int) (h1 : 1 ≤ st) (h2 : st ≤ 16) (hκ : ¬ κ = 0) (xs : List Int) (hx0 : 1 ≤ xs.length) (hx1 : xs.length ≤ 7) (hx : ∀ x ∈ xs, PossP κ x) (j : Nat) (r : Int) (hj : (j : Int) = min st xs.length) (hr : xs[j - 1]? = some r) (pa : Option Addr) (pc : Nat) (ia : Option Addr) (ic : Nat) (w : World) (hm : MaxAt w) (hp : InS w pa 0 1 (flat iL [])) (hv : InS w ia (xs.length + 1) 2 (flat valL ((3, st) :: xs.map fun x => (κ, x)))) :
    Calls Tryd.prog 23 #[.string ⟨#[99, 104, 111, 111, 115, 101]⟩, .slice pa 0 pc, .slice ia (xs.length + 1) ic] w fun e w' => e = .returned (.tuple #[.agg #[.int .i64 κ, .int .i64 r], .int .i64 0]) ∧ Below w.heap.size w w' := by
  have hl : ((3, st) :: xs.map fun x => (κ, x)).length = xs.length + 1 := by simp
  have hfit : ∀ (i : Nat) (p : PortD) (v : Int × Int), (insK [⟨⟨#[109]⟩, ⟨#[109, 117, 108, 116, 105]⟩⟩, ⟨⟨#[97]⟩, ⟨#[84]⟩⟩] ((3, st) :: xs.map fun x => (κ, x)).length)[i]? = some p → ((3, st) :: xs.map fun x => (κ, x))[i]? = some v → PortOk κ p v := by
    intro i p v hi hv
    cases i with
    | zero =>
      have e : insK [⟨⟨#[109]⟩, ⟨#[109, 117, 108, 116, 105]⟩⟩, ⟨⟨#[97]⟩, ⟨#[84]⟩⟩] ((3, st) :: xs.map fun x => (κ, x)).length = [⟨⟨#[109]⟩, ⟨#[109, 117, 108, 116, 105]⟩⟩, ⟨⟨#[97]⟩, ⟨#[84]⟩⟩] ++ List.replicate ((((3, st) :: xs.map fun x => (κ, x)).length) - 2) ⟨⟨#[97]⟩, ⟨#[84]⟩⟩ := rfl
      rw [e] at hi
      obtain rfl : _ = p := Option.some.inj hi
      obtain rfl : _ = v := Option.some.inj hv
      exact ⟨.inr (.inr ⟨rfl, h1, h2⟩), fun e => absurd e (by decide), fun _ => rfl⟩
    | succ i =>
      have ht := insT_at _ (i + 1) p (by omega) hi
      have hm := List.mem_of_getElem? (show (xs.map fun x => (κ, x))[i]? = some v from hv)
      obtain ⟨x, hxm, rfl⟩ := List.mem_map.1 hm
      exact ⟨hx x hxm, fun _ => rfl, fun e => absurd ht e⟩
  have hj1 : 1 ≤ j := by omega
  have h := eval_sel 72 (fun _ _ => rfl) ⟨#[99, 104, 111, 111, 115, 101]⟩ ⟨#[84]⟩ 7 0 [] [⟨⟨#[109]⟩, ⟨#[109, 117, 108, 116, 105]⟩⟩, ⟨⟨#[97]⟩, ⟨#[84]⟩⟩] (fun _ => true) (by unfold maxLen; decide) find_choose (agree_choose _) at_op_choose.1 at_op_choose.2.1 at_op_choose.2.2.1 at_op_choose.2.2.2 [] ((3, st) :: xs.map fun x => (κ, x)) rfl rfl (by decide) (by decide) (by decide) (by decide) (by simp; omega) (by simp; omega) κ hκ hfit j (by rw [hl]; omega) 3 st κ r rfl (by
      rw [show j = (j - 1) + 1 by omega]
      show (xs.map fun x => (κ, x))[j - 1]? = _
      rw [List.getElem?_map, hr]; rfl) (fun w => by
      have h := sel_choose st xs.length h1 h2 w
      rw [hl, show ((xs.length + 1 : Nat) : Int) - 1 = xs.length by omega, hj]
      exact h) pa pc ia ic w hm hp (by rw [hl]; exact hv)
  rw [hl] at h
  exact h
set_option maxHeartbeats 1000000 in
theorem analog_any (n : Int) (w : World) : Calls Tryd.prog 25 #[.int .i64 n] w fun e w' => e = .returned (.agg #[.int .i64 1, .int .i64 n]) ∧ Below w.heap.size w w' := by
  obtain ⟨W, g, hW, hg, R, B, sz⟩ := box1 w #[.int .i64 0, .int .i64 0] 51
  have hwg : w.heap.size ≤ g := by omega
  go_enter Tryd.func25, Tryd.ntmps25
  go_upto_region 1 with fail
  rw [← hW]
  try rw [← hg]
  clear hW hg sz
  have q_0 := R.c 0 _ rfl
  have q_1 := R.c 1 _ rfl
  have q_z := R.fz
  go_wp2_with fail
  have hs := R.setRow [.int .i64 1, .int .i64 n] rfl
  have y0 : ((W.setCell ⟨g, 0, none⟩ (.int .i64 1)).setCell ⟨g, 1, none⟩ (.int .i64 n)).cell? ⟨g, 0, none⟩ = some (.int .i64 1) := hs.c 0 _ rfl
  have y1 : ((W.setCell ⟨g, 0, none⟩ (.int .i64 1)).setCell ⟨g, 1, none⟩ (.int .i64 n)).cell? ⟨g, 1, none⟩ = some (.int .i64 n) := hs.c 1 _ rfl
  (try simp only [Exit.inBlock, Exit.then])
  refine bodyPost_ret (by simp [results, Tryd.results25, go_sem, y0, y1]; try rfl) rfl ?_
  exact ⟨rfl, set_below B hwg [.int .i64 1, .int .i64 n]⟩
def bI (x : Bool) : Int := if x = true then 1 else 0
set_option maxHeartbeats 1000000 in
theorem binary_any (x : Bool) (w : World) : Calls Tryd.prog 22 #[.bool x] w fun e w' => e = .returned (.agg #[.int .i64 2, .int .i64 (bI x)]) ∧ Below w.heap.size w w' := by
  cases x
  · obtain ⟨W, g, hW, hg, R, B, sz⟩ := box1 w #[.int .i64 0, .int .i64 0] 51
    have hwg : w.heap.size ≤ g := by omega
    go_enter Tryd.func22, Tryd.ntmps22
    go_upto_region 1 with fail
    rw [← hW]
    try rw [← hg]
    clear hW hg sz
    have q_0 := R.c 0 _ rfl
    have q_1 := R.c 1 _ rfl
    have q_z := R.fz
    go_wp2_with fail
    have hs := R.setRow [.int .i64 2, .int .i64 0] rfl
    have y0 : ((W.setCell ⟨g, 0, none⟩ (.int .i64 2)).setCell ⟨g, 1, none⟩ (.int .i64 0)).cell? ⟨g, 0, none⟩ = some (.int .i64 2) := hs.c 0 _ rfl
    have y1 : ((W.setCell ⟨g, 0, none⟩ (.int .i64 2)).setCell ⟨g, 1, none⟩ (.int .i64 0)).cell? ⟨g, 1, none⟩ = some (.int .i64 0) := hs.c 1 _ rfl
    (try simp only [Exit.inBlock, Exit.then])
    refine bodyPost_ret (by simp [results, Tryd.results22, go_sem, y0, y1]; try rfl) rfl ?_
    exact ⟨rfl, set_below B hwg [.int .i64 2, .int .i64 0]⟩
  · obtain ⟨W, g, hW, hg, R, B, sz⟩ := box1 w #[.int .i64 0, .int .i64 0] 51
    have hwg : w.heap.size ≤ g := by omega
    go_enter Tryd.func22, Tryd.ntmps22
    go_upto_region 1 with fail
    rw [← hW]
    try rw [← hg]
    clear hW hg sz
    have q_0 := R.c 0 _ rfl
    have q_1 := R.c 1 _ rfl
    have q_z := R.fz
    go_wp2_with fail
    have hs := R.setRow [.int .i64 2, .int .i64 1] rfl
    have y0 : ((W.setCell ⟨g, 0, none⟩ (.int .i64 2)).setCell ⟨g, 1, none⟩ (.int .i64 1)).cell? ⟨g, 0, none⟩ = some (.int .i64 2) := hs.c 0 _ rfl
    have y1 : ((W.setCell ⟨g, 0, none⟩ (.int .i64 2)).setCell ⟨g, 1, none⟩ (.int .i64 1)).cell? ⟨g, 1, none⟩ = some (.int .i64 1) := hs.c 1 _ rfl
    (try simp only [Exit.inBlock, Exit.then])
    refine bodyPost_ret (by simp [results, Tryd.results22, go_sem, y0, y1]; try rfl) rfl ?_
    exact ⟨rfl, set_below B hwg [.int .i64 2, .int .i64 1]⟩
set_option maxHeartbeats 1000000 in
theorem rclamp_any (n : Int) (w : World) : Calls Tryd.prog 24 #[.int .i64 n] w fun e w' => e = .returned (.int .i64 (clampI n)) ∧ w = w' := by
  go_enter Tryd.func24, Tryd.ntmps24
  go_wp2_with fail
  go_ret
  exact ⟨ret_int (by unfold clampI; omega), rfl⟩
set_option maxHeartbeats 1000000 in
theorem plain_yes (k n : Int) (h : PossP k n) (w : World) : Calls Tryd.prog 26 #[.agg #[.int .i64 k, .int .i64 n]] w fun e w' => e = .returned (.bool true) ∧ Below w.heap.size w w' := by
  rcases h with rfl | ⟨rfl, rfl | rfl⟩ | ⟨rfl, h1, h2⟩
  · obtain ⟨W, g, hW, hg, R, B, sz⟩ := box1 w #[.int .i64 1, .int .i64 n] 51
    have c0 := R.c 0 _ rfl
    have c1 := R.c 1 _ rfl
    have HB := Lib.hid B
    clear R B sz
    go_enter Tryd.func26, Tryd.ntmps26
    go_upto_region 1 with fail
    rw [← hW]
    try rw [← hg]
    clear hW hg
    go_wp2_with fail
    go_ret
    exact ⟨rfl, HB.out⟩
  · obtain ⟨W, g, hW, hg, R, B, sz⟩ := box1 w #[.int .i64 2, .int .i64 0] 51
    have c0 := R.c 0 _ rfl
    have c1 := R.c 1 _ rfl
    have HB := Lib.hid B
    clear R B sz
    go_enter Tryd.func26, Tryd.ntmps26
    go_upto_region 1 with fail
    rw [← hW]
    try rw [← hg]
    clear hW hg
    go_wp2_with fail
    go_ret
    exact ⟨rfl, HB.out⟩
  · obtain ⟨W, g, hW, hg, R, B, sz⟩ := box1 w #[.int .i64 2, .int .i64 1] 51
    have c0 := R.c 0 _ rfl
    have c1 := R.c 1 _ rfl
    have HB := Lib.hid B
    clear R B sz
    go_enter Tryd.func26, Tryd.ntmps26
    go_upto_region 1 with fail
    rw [← hW]
    try rw [← hg]
    clear hW hg
    go_wp2_with fail
    go_ret
    exact ⟨rfl, HB.out⟩
  · have e1 : decide ((1 : Int) ≤ n) = true := decide_eq_true h1
    have e2 : decide (n ≤ (16 : Int)) = true := decide_eq_true h2
    obtain ⟨W, g, hW, hg, R, B, sz⟩ := box1 w #[.int .i64 3, .int .i64 n] 51
    have c0 := R.c 0 _ rfl
    have c1 := R.c 1 _ rfl
    have HB := Lib.hid B
    clear R B sz
    go_enter Tryd.func26, Tryd.ntmps26
    go_upto_region 1 with fail
    rw [← hW]
    try rw [← hg]
    clear hW hg
    go_wp2_with fail
    go_ret
    exact ⟨rfl, HB.out⟩
set_option maxHeartbeats 2000000 in
theorem plain_no (k n : Int) (h : ¬ PossP k n) (w : World) : Calls Tryd.prog 26 #[.agg #[.int .i64 k, .int .i64 n]] w fun e w' => e = .returned (.bool false) ∧ Below w.heap.size w w' := by
  have h1 : ¬ k = 1 := fun e => h (.inl e)
  by_cases h2 : k = 2
  · subst h2
    have f0 : ¬ n = 0 := fun e => h (.inr (.inl ⟨rfl, .inl e⟩))
    have f1 : ¬ n = 1 := fun e => h (.inr (.inl ⟨rfl, .inr e⟩))
    have e1 : (n == 0) = false := beq_eq_false_iff_ne.2 f0
    have e2 : (n == 1) = false := beq_eq_false_iff_ne.2 f1
    clear f0 f1 h h1
    obtain ⟨W, g, hW, hg, R, B, sz⟩ := box1 w #[.int .i64 2, .int .i64 n] 51
    have c0 := R.c 0 _ rfl
    have c1 := R.c 1 _ rfl
    have HB := Lib.hid B
    clear R B sz
    go_enter Tryd.func26, Tryd.ntmps26
    go_upto_region 1 with fail
    rw [← hW]
    try rw [← hg]
    clear hW hg
    go_wp2_with fail
    go_ret
    exact ⟨rfl, HB.out⟩
  · by_cases h3 : k = 3
    · by_cases h4 : 1 ≤ n
      · subst h3
        have f1 : ¬ n ≤ 16 := fun e => h (.inr (.inr ⟨rfl, h4, e⟩))
        have e1 : decide ((1 : Int) ≤ n) = true := decide_eq_true h4
        have e2 : decide (n ≤ (16 : Int)) = false := decide_eq_false f1
        clear h h1 h2 f1
        obtain ⟨W, g, hW, hg, R, B, sz⟩ := box1 w #[.int .i64 3, .int .i64 n] 51
        have c0 := R.c 0 _ rfl
        have c1 := R.c 1 _ rfl
        have HB := Lib.hid B
        clear R B sz
        go_enter Tryd.func26, Tryd.ntmps26
        go_upto_region 1 with fail
        rw [← hW]
        try rw [← hg]
        clear hW hg
        go_wp2_with fail
        go_ret
        exact ⟨rfl, HB.out⟩
      · subst h3
        have e1 : decide ((1 : Int) ≤ n) = false := decide_eq_false h4
        clear h h1 h2 h4
        obtain ⟨W, g, hW, hg, R, B, sz⟩ := box1 w #[.int .i64 3, .int .i64 n] 51
        have c0 := R.c 0 _ rfl
        have c1 := R.c 1 _ rfl
        have HB := Lib.hid B
        clear R B sz
        go_enter Tryd.func26, Tryd.ntmps26
        go_upto_region 1 with fail
        rw [← hW]
        try rw [← hg]
        clear hW hg
        go_wp2_with fail
        go_ret
        exact ⟨rfl, HB.out⟩
    · have e1 : (k == 1) = false := beq_eq_false_iff_ne.2 h1
      have e2 : (k == 2) = false := beq_eq_false_iff_ne.2 h2
      have e3 : (k == 3) = false := beq_eq_false_iff_ne.2 h3
      clear h h1 h2 h3
      obtain ⟨W, g, hW, hg, R, B, sz⟩ := box1 w #[.int .i64 k, .int .i64 n] 51
      have c0 := R.c 0 _ rfl
      have c1 := R.c 1 _ rfl
      have HB := Lib.hid B
      clear R B sz
      go_enter Tryd.func26, Tryd.ntmps26
      go_upto_region 1 with fail
      rw [← hW]
      try rw [← hg]
      clear hW hg
      go_wp2_with fail
      go_ret
      exact ⟨rfl, HB.out⟩
set_option maxHeartbeats 4000000 in
set_option maxRecDepth 100000 in
theorem same_yes (xs : List Int) (N : Nat) (hN : N = xs.length) (a a2 : Option Addr) (c c2 : Nat) (w : World) (h1 : InS w a N 1 (flat iL xs)) (h2 : InS w a2 N 1 (flat iL xs)) :
    Calls Tryd.prog 18 #[.slice a N c, .slice a2 N c2] w fun e w' => e = .returned (.bool true) ∧ Below w.heap.size w w' := by
  have H1 := Lib.hid h1
  have H2 := Lib.hid h2
  have HN := Lib.hid hN
  have HL := Lib.hid (show N ≤ 9223372036854775807 from h1.2.1)
  have e0 : ((N : Int) != N) = false := by simp
  clear h1 h2 hN
  go_enter Tryd.func18, Tryd.ntmps18
  go_wp2_with fail
  go_loopw [5] (fun i wr => ∃ k : Nat, k ≤ N ∧ i = .int .i64 k ∧ Hid (Below w.heap.size w wr)) (fun i _ => N - (intOf i).toNat)
  case atStart => exact ⟨0, Nat.zero_le _, rfl, Lib.hid (Below.refl _ _)⟩
  case round =>
    obtain ⟨k, hk, rfl, HB⟩ := hrel
    by_cases hlt : k < N
    · have n0 := HL.out
      obtain ⟨lb, lo, rfl, hll, hc⟩ := (show InS wr a xs.length 1 (flat iL xs) by rw [← HN.out]; exact H1.out.keep HB.out).at iL_len (by have := HN.out; omega)
      obtain ⟨mb, mo, rfl, hml, mc⟩ := (show InS wr a2 xs.length 1 (flat iL xs) by rw [← HN.out]; exact H2.out.keep HB.out).at iL_len (by have := HN.out; omega)
      obtain ⟨x, hx⟩ : ∃ x, xs[k]? = some x := ⟨_, List.getElem?_eq_getElem (by have := HN.out; omega)⟩
      have l0 := iL_cells hc k x hx
      have m0 := iL_cells mc k x hx
      have kk : (k : Int) < (N : Int) := by omega
      have kd : decide (k < N) = true := decide_eq_true hlt
      have e1 : (x != x) = false := by simp
      clear hx hc mc hll hml
      go_wp2_with fail
      go_quiet ((fail))
      (try simp only [Exit.then])
      go_wp2_with fail
      go_roundw
      case rel => exact ⟨k + 1, by omega, by go_num, Lib.hid (bdrewN HB.out _)⟩
      case measure => (simp [intOf]) <;> omega
    · obtain rfl : k = N := by omega
      go_wp2_with fail
      go_ret
      exact ⟨rfl, HB.out⟩
set_option maxHeartbeats 4000000 in
set_option maxRecDepth 100000 in
theorem ports_yes (xs : List PortD) (N : Nat) (hN : N = xs.length) (a a2 : Option Addr) (c c2 : Nat) (w : World) (h1 : InS w a N 2 (flat portL xs)) (h2 : InS w a2 N 2 (flat portL xs)) :
    Calls Tryd.prog 21 #[.slice a N c, .slice a2 N c2] w fun e w' => e = .returned (.bool true) ∧ Below w.heap.size w w' := by
  have H1 := Lib.hid h1
  have H2 := Lib.hid h2
  have HN := Lib.hid hN
  have HL := Lib.hid (show N ≤ 9223372036854775807 from h1.2.1)
  have e0 : ((N : Int) != N) = false := by simp
  clear h1 h2 hN
  go_enter Tryd.func21, Tryd.ntmps21
  go_wp2_with fail
  go_loopw [5] (fun i wr => ∃ k : Nat, k ≤ N ∧ i = .int .i64 k ∧ Hid (Below w.heap.size w wr)) (fun i _ => N - (intOf i).toNat)
  case atStart => exact ⟨0, Nat.zero_le _, rfl, Lib.hid (Below.refl _ _)⟩
  case round =>
    obtain ⟨k, hk, rfl, HB⟩ := hrel
    by_cases hlt : k < N
    · have n0 := HL.out
      obtain ⟨lb, lo, rfl, hll, hc⟩ := (show InS wr a xs.length 2 (flat portL xs) by rw [← HN.out]; exact H1.out.keep HB.out).at portL_len (by have := HN.out; omega)
      obtain ⟨mb, mo, rfl, hml, mc⟩ := (show InS wr a2 xs.length 2 (flat portL xs) by rw [← HN.out]; exact H2.out.keep HB.out).at portL_len (by have := HN.out; omega)
      obtain ⟨x, hx⟩ : ∃ x, xs[k]? = some x := ⟨_, List.getElem?_eq_getElem (by have := HN.out; omega)⟩
      obtain ⟨xn, xt⟩ := x
      have l0 : wr.cell? ⟨lb, lo + k * 2 + 0, none⟩ = some (.string xn) := hc k _ hx 0 _ rfl
      have l1 : wr.cell? ⟨lb, lo + k * 2 + 1, none⟩ = some (.string xt) := hc k _ hx 1 _ rfl
      have m0 : wr.cell? ⟨mb, mo + k * 2 + 0, none⟩ = some (.string xn) := mc k _ hx 0 _ rfl
      have m1 : wr.cell? ⟨mb, mo + k * 2 + 1, none⟩ = some (.string xt) := mc k _ hx 1 _ rfl
      simp only [Nat.add_zero] at l0 m0
      have kk : (k : Int) < (N : Int) := by omega
      have kd : decide (k < N) = true := decide_eq_true hlt
      clear hx hc mc hll hml
      go_wp2_with fail
      go_quiet ((fail))
      (try simp only [Exit.then])
      go_wp2_with fail
      go_roundw
      case rel => exact ⟨k + 1, by omega, by go_num, Lib.hid (bdrewN HB.out _)⟩
      case measure => (simp [intOf]) <;> omega
    · obtain rfl : k = N := by omega
      go_wp2_with fail
      go_ret
      exact ⟨rfl, HB.out⟩
end Go.Proofs.YtaobbedajgkmiaaDoor
