/- The two closures of checkMembers. -/
import Derived.Test.YtojbhbifbennfaaCf
namespace Go.Proofs.Ytojbhbifbennfaa
open Go.RowKit Go.Shelf Go.Maps Go.WideMaps

theorem zeroBool (w : World) : (zeroValue 4).run Try.prog w = .ok (.bool false) w := by
  kernel_rfl
theorem ownsMap_below {H : Type} {w W : World} {k b n B : Nat} {R : Value → Option (DataW H × List MemPlace)} {D : DataW H} (h : w.ownsMap Try.prog k R b n D) (hB : Below B w W) (hb : b < B) : W.ownsMap Try.prog k R b n D := by
  obtain ⟨es, clock, h1, h2⟩ := h
  exact ⟨es, clock, by rw [hB.block b hb]; exact h1, h2⟩
/-- the box of a map and the map -/
structure FitsAt (w : World) (bb mb n : Nat) (ps : List PtD) (k : Nat) : Prop where
  box : w.cell? ⟨bb, 0, none⟩ = some (.map (some mb))
  own : w.ownsMap Try.prog 9 (plainElem (H := Unit) Try.prog 4) mb n (fitD ps k)
theorem FitsAt.keep {w W : World} {bb mb n k B : Nat} {ps : List PtD} (h : FitsAt w bb mb n ps k) (hB : Below B w W) (h1 : bb < B) (h2 : mb < B) : FitsAt W bb mb n ps k := ⟨by rw [hB.cell (p := ⟨bb, 0, none⟩) h1]; exact h.box, ownsMap_below h.own hB h2⟩
theorem fit_has {ps : List PtD} (s : ByteArray) : Maps.has (fitD (H := Unit) ps ps.length) (keyB s) = knownB ps s := by rw [(fitD_says ps ps.length s).1, List.take_length]
theorem fit_at {ps : List PtD} (s : ByteArray) : (fitD (H := Unit) ps ps.length).atKey (keyB s) (.lit (.bool false)) = .lit (.bool (fitB ps s)) := by rw [(fitD_says ps ps.length s).2, List.take_length]
set_option maxHeartbeats 4000000 in
theorem unknown_any (bb mb n : Nat) (ps : List PtD) (s : ByteArray) (w : World) (hs : s.size ≤ maxLen) (hf : FitsAt w bb mb n ps ps.length) : Calls Try.prog 76 #[.string s, .pointer (some ⟨bb, 0, none⟩)] w fun e w' => e = .returned (.bool (!knownB ps s)) ∧ Below w.heap.size w w' := by
  have HO := Lib.hid hf.own
  have b0 := hf.box
  have HKEY := Lib.hid (keyB_ok hs)
  have HAT := Lib.hid (fit_at (ps := ps) s)
  have HHAS := Lib.hid (fit_has (ps := ps) s)
  obtain ⟨F, hF⟩ : ∃ F, F = fitB ps s := ⟨_, rfl⟩
  obtain ⟨K, hK⟩ : ∃ K, K = knownB ps s := ⟨_, rfl⟩
  rw [← hF] at HAT
  rw [← hK] at HHAS
  try rw [← hF]
  try rw [← hK]
  clear hF hK hf hs
  go_enter Try.func76, Try.ntmps76
  go_wp2_with (at_lookup; refine wpList_lookup_ok_bool _ rfl _ _ 116 rfl 9 4 lawS Try.underlying116 Try.underlying4 (zeroBool _) mb n _ rfl HO.out _ _ rfl HKEY.out _ HAT.out ?_; rw [HHAS.out])
  go_ret
  exact ⟨by (first | rfl | simp), by first | exact Below.refl _ _ | exact (Below.refl _ _).drew⟩
set_option maxHeartbeats 4000000 in
theorem unfit_any (bb mb n : Nat) (ps : List PtD) (s : ByteArray) (w : World) (hs : s.size ≤ maxLen) (hf : FitsAt w bb mb n ps ps.length) : Calls Try.prog 77 #[.string s, .pointer (some ⟨bb, 0, none⟩)] w fun e w' => e = .returned (.bool (!fitB ps s)) ∧ Below w.heap.size w w' := by
  have HO := Lib.hid hf.own
  have b0 := hf.box
  have HKEY := Lib.hid (keyB_ok hs)
  have HAT := Lib.hid (fit_at (ps := ps) s)
  have HHAS := Lib.hid (fit_has (ps := ps) s)
  obtain ⟨F, hF⟩ : ∃ F, F = fitB ps s := ⟨_, rfl⟩
  obtain ⟨K, hK⟩ : ∃ K, K = knownB ps s := ⟨_, rfl⟩
  rw [← hF] at HAT
  rw [← hK] at HHAS
  try rw [← hF]
  try rw [← hK]
  clear hF hK hf hs
  go_enter Try.func77, Try.ntmps77
  go_wp2_with (at_lookup; refine wpList_lookup_bool _ rfl _ _ 116 rfl 9 4 lawS Try.underlying116 Try.underlying4 (zeroBool _) mb n _ rfl HO.out _ _ rfl HKEY.out _ HAT.out ?_)
  go_ret
  exact ⟨by (first | rfl | simp), by first | exact Below.refl _ _ | exact (Below.refl _ _).drew⟩
theorem eg_mem1 : ∀ args w, (callFunc 76 args).run Try.prog w = .ok (.enter 76 args) w := enters_of Try.func76 (by kernel_rfl) rfl
theorem eg_mem2 : ∀ args w, (callFunc 77 args).run Try.prog w = .ok (.enter 77 args) w := enters_of Try.func77 (by kernel_rfl) rfl
end Go.Proofs.Ytojbhbifbennfaa
