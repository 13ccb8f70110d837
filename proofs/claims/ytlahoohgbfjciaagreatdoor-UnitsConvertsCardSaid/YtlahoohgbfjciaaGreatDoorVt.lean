/- awake's texts, evaluated on the plain functions. -/
import Derived.Test.YtlahoohgbfjciaaGreatDoorVf
import Derived.Test.YtlahoohgbfjciaaGreatDoorVc
namespace Go.Proofs.YtlahoohgbfjciaaGreatDoor
open Go.RowKit Go.Shelf
def bytesOf (l : List UInt8) : ByteArray := ⟨l.toArray⟩
theorem unit_eq {r : UnitD × Int} {e0 e1 e2 e3 n d o c : Int} (h : (fun r : UnitD × Int => (r.1.e0, r.1.e1, r.1.e2, r.1.e3, r.1.n, r.1.d, r.1.o, r.2)) r = (e0, e1, e2, e3, n, d, o, c)) : r = (⟨e0, e1, e2, e3, n, d, o⟩, c) := by
  obtain ⟨⟨a0, a1, a2, a3, an, ad, ao⟩, b⟩ := r
  simp only [Prod.mk.injEq] at h
  obtain ⟨rfl, rfl, rfl, rfl, rfl, rfl, rfl, rfl⟩ := h
  rfl
theorem ex1 : parseR (bytesOf [107, 74, 47, 107, 103, 46, 75]) = (⟨2, 0, -2, -1, 1000, 1, 0⟩, 0) := unit_eq (by kernel_rfl)
theorem ex2 : printR ⟨2, 0, -2, -1, 1000, 1, 0⟩ = ([49, 48, 48, 48, 42, 109, 50, 47, 115, 50, 46, 75], 0) := by kernel_rfl
theorem ex3 : parseR (bytesOf [100, 101, 103, 67]) = (⟨0, 0, 0, 1, 1, 1, 273150⟩, 0) := unit_eq (by kernel_rfl)
theorem ex4 : parseR (bytesOf [75]) = (⟨0, 0, 0, 1, 1, 1, 0⟩, 0) := unit_eq (by kernel_rfl)
theorem ex5 : convR 20000 ⟨0, 0, 0, 1, 1, 1, 273150⟩ ⟨0, 0, 0, 1, 1, 1, 0⟩ = (293150, 0) := by decide +kernel
theorem ex6 : parseR (bytesOf [108, 47, 115]) = (⟨3, 0, -1, 0, 1, 1000, 0⟩, 0) := unit_eq (by kernel_rfl)
theorem ex7 : parseR (bytesOf [109, 51, 47, 104]) = (⟨3, 0, -1, 0, 1, 3600, 0⟩, 0) := unit_eq (by kernel_rfl)
theorem ex8 : convR 1000 ⟨3, 0, -1, 0, 1, 1000, 0⟩ ⟨3, 0, -1, 0, 1, 3600, 0⟩ = (3600, 0) := by decide +kernel
theorem ex9 : parseR (bytesOf [100, 101, 103, 67, 47, 115]) = (zeroU, 11) := unit_eq (by kernel_rfl)
theorem ex10 : parseR (bytesOf [109, 47, 47, 115]) = (zeroU, 2) := unit_eq (by kernel_rfl)
end Go.Proofs.YtlahoohgbfjciaaGreatDoor
