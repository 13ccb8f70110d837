/- Rows of factors, plain: what stands where; a unit set in a row; what findUnits answers. -/
import Derived.Test.YtlahoohgbfjciaaGreatDoorVe
namespace Go.Proofs.YtlahoohgbfjciaaGreatDoor
open Go.RowKit Go.Shelf

theorem factC_len (f : FactD) : (factC f).length = 10 := rfl
theorem rowsC_cons (f : FactD) (fs : List FactD) : rowsC (f :: fs) = factC f ++ rowsC fs := rfl
theorem rowsC_len : ∀ fs : List FactD, (rowsC fs).length = fs.length * 10
  | [] => rfl
  | f :: fs => by rw [rowsC_cons, List.length_append, factC_len, rowsC_len fs, List.length_cons]; omega
theorem rows_at : ∀ (fs : List FactD) (k c : Nat) (f : FactD), fs[k]? = some f → c < 10 → (rowsC fs)[k * 10 + c]? = (factC f)[c]?
  | [], k, c, f, h, _ => by simp at h
  | g :: fs, 0, c, f, h, hc => by
    simp at h
    subst h
    rw [rowsC_cons, Nat.zero_mul, Nat.zero_add, List.getElem?_append_left (by rw [factC_len]; exact hc)]
  | g :: fs, k + 1, c, f, h, hc => by
    rw [rowsC_cons, List.getElem?_append_right (by rw [factC_len]; omega), factC_len, show (k + 1) * 10 + c - 10 = k * 10 + c by omega]
    exact rows_at fs k c f (by simpa using h) hc
def withU (f : FactD) (u : UnitD) : FactD := ⟨f.nm, u, f.p, f.b⟩
/-- the seven stores of a unit into row k -/
def setRowU (xs : List Value) (k : Nat) (u : UnitD) : List Value := ((((((xs.set (k * 10 + 1) (.int .i64 u.e0)).set (k * 10 + 2) (.int .i64 u.e1)).set (k * 10 + 3) (.int .i64 u.e2)).set (k * 10 + 4) (.int .i64 u.e3)).set (k * 10 + 5) (.int .i64 u.n)).set (k * 10 + 6) (.int .i64 u.d)).set (k * 10 + 7) (.int .i64 u.o)
theorem set_row_u : ∀ (fs : List FactD) (k : Nat) (f : FactD) (u : UnitD), fs[k]? = some f → setRowU (rowsC fs) k u = rowsC (fs.set k (withU f u))
  | [], k, f, u, h => by simp at h
  | g :: fs, 0, f, u, h => by
    simp at h
    subst h
    rfl
  | g :: fs, k + 1, f, u, h => by
    have ih := set_row_u fs k f u (by simpa using h)
    have e : ∀ (xs : List Value) (c : Nat) (v : Value), (factC g ++ xs).set ((k + 1) * 10 + c) v = factC g ++ xs.set (k * 10 + c) v := fun xs c v => by
      rw [List.set_append_right _ _ (by rw [factC_len]; omega), factC_len, show (k + 1) * 10 + c - 10 = k * 10 + c by omega]
    rw [List.set_cons_succ, rowsC_cons, rowsC_cons, ← ih]
    unfold setRowU
    rw [e, e, e, e, e, e, e]
/-- the factors, each with the unit of its name; or the error: a name that is none, a unit with an offset -/
def known (fs : List FactD) : Bool := fs.all fun f => (unitOfL f.nm).isSome
def unitsF (fs : List FactD) : List FactD := fs.map fun f => withU f ((unitOfL f.nm).getD zeroU)
def findE (fs : List FactD) : Int := if known fs = false then 3 else if (unitsF fs).any (fun f => decide (f.u.o ≠ 0)) = true then 11 else 0
/-- the product of a unit and the powers of all factors -/
def powR (u v : UnitD) (b : Bool) : Nat → UnitD × Int
  | 0 => (u, 0)
  | k + 1 => let r := if b = true then divR u v else mulR u v; if r.2 = 0 then powR r.1 v b k else (zeroU, r.2)
def multR (u : UnitD) : List FactD → UnitD × Int
  | [] => (u, 0)
  | f :: fs => let r := powR u f.u f.b f.p.toNat; if r.2 = 0 then multR r.1 fs else (zeroU, r.2)
/-- the unit of a text, or the error -/
def parseR (s : ByteArray) : UnitD × Int := match readTextL s with
  | none => (zeroU, 2)
  | some (u, fs) => match unitOfL s with
    | some v => (v, 0)
    | none => if findE fs = 0 then multR u (unitsF fs) else (zeroU, findE fs)
end Go.Proofs.YtlahoohgbfjciaaGreatDoor
