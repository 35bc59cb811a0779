/-
  Picked rows of a matrix, in plain words.
-/
import Derived.Test.YtoklibbefjnlhabRight
namespace Go.Proofs.Ytoklibbefjnlhab.pick
open Go.RowKit Go.Joins
open Go.Proofs.Ytoklibbefjnlhab.base Go.Proofs.Ytoklibbefjnlhab.ints Go.Proofs.Ytoklibbefjnlhab.mats Go.Proofs.Ytoklibbefjnlhab.right
set_option linter.unusedVariables false

def inR (R r : Int) : Bool := decide (0 ≤ r ∧ r < R)
def rowL (C : Nat) (zs : List Int) (r : Int) : List Int := (zs.drop (r.toNat * C)).take C
def pickL (C : Nat) (zs rs : List Int) : List Int := rs.flatMap (rowL C zs)
/-- what MatrixPick answers: rows, columns, cells, code -/
def pick (R C : Int) (zs rs : List Int) : Int × Int × List Int × Int :=
  if 400 < rs.length then (0, 0, [], 2)
  else if right R C zs = false ∨ rs.length < 1 ∨ 16 < rs.length then (0, 0, [], 1)
  else if rs.all (inR R) then ((rs.length : Int), C, pickL C.toNat zs rs, 0)
  else (0, 0, [], 1)

theorem row_fit {R C n r : Nat} (hn : n = R * C) (hr : r < R) : r * C + C ≤ n := by
  have h := Nat.mul_le_mul_right C (show r + 1 ≤ R by omega)
  rw [Nat.add_mul] at h
  omega
theorem rowL_len {R C : Nat} {zs : List Int} {r : Nat} (hn : zs.length = R * C) (hr : r < R) : (rowL C zs (r : Int)).length = C := by
  have h := row_fit hn hr
  simp [rowL]
  omega
theorem rowL_at {C : Nat} {zs : List Int} {r j : Nat} {z : Int} (h : (rowL C zs (r : Int))[j]? = some z) : zs[r * C + j]? = some z := by
  have hj : j < C := by
    have h1 := (List.getElem?_eq_some_iff.1 h).1
    simp [rowL] at h1
    omega
  simp only [rowL, Int.toNat_natCast] at h
  rw [List.getElem?_take_of_lt hj, List.getElem?_drop] at h
  exact h
theorem pickL_next (C : Nat) (zs rs : List Int) (k : Nat) (r : Int) (hr : rs[k]? = some r) : pickL C zs (rs.take (k + 1)) = pickL C zs (rs.take k) ++ rowL C zs r := by
  unfold pickL
  rw [List.take_add_one, hr]
  simp
theorem pickL_len {R C : Nat} {zs : List Int} (hn : zs.length = R * C) : ∀ (rs : List Int), rs.all (inR R) = true → (pickL C zs rs).length = rs.length * C := by
  intro rs
  induction rs with
  | nil => intro _; simp [pickL]
  | cons r rs ih =>
    intro h
    simp only [List.all_cons, Bool.and_eq_true] at h
    have h1 : 0 ≤ r ∧ r < (R : Int) := by simpa [inR] using h.1
    obtain ⟨q, rfl⟩ := Int.eq_ofNat_of_zero_le h1.1
    have e : pickL C zs ((q : Int) :: rs) = rowL C zs (q : Int) ++ pickL C zs rs := by simp [pickL]
    rw [e, List.length_append, ih h.2, rowL_len hn (by omega), List.length_cons, Nat.add_mul]
    omega
theorem all_next {p : Int → Bool} {zs : List Int} {k : Nat} {z : Int} (hz : zs[k]? = some z) (h : (zs.take k).all p = true) (hb : p z = true) : (zs.take (k + 1)).all p = true := by
  rw [List.take_add_one, hz, List.all_append, h]
  simp [hb]
theorem all_not {p : Int → Bool} {zs : List Int} {k : Nat} {z : Int} (hz : zs[k]? = some z) (hb : p z = false) : zs.all p = false := by
  rw [List.all_eq_false]
  exact ⟨z, List.mem_of_getElem? hz, by simp [hb]⟩

theorem pick_big {R C : Int} {zs rs : List Int} (h : 400 < rs.length) : pick R C zs rs = (0, 0, [], 2) := by simp [pick, h]
theorem pick_ill {R C : Int} {zs rs : List Int} (h : ¬ 400 < rs.length) (h2 : right R C zs = false ∨ rs.length < 1 ∨ 16 < rs.length) : pick R C zs rs = (0, 0, [], 1) := by simp only [pick, h, if_false, h2, if_true]
theorem pick_not {R C : Int} {zs rs : List Int} (h : ¬ 400 < rs.length) (h2 : ¬ (right R C zs = false ∨ rs.length < 1 ∨ 16 < rs.length)) (h3 : rs.all (inR R) = false) : pick R C zs rs = (0, 0, [], 1) := by unfold pick; rw [if_neg h, if_neg h2, h3]; rfl
theorem pick_ok {R C : Int} {zs rs : List Int} (h : ¬ 400 < rs.length) (h2 : ¬ (right R C zs = false ∨ rs.length < 1 ∨ 16 < rs.length)) (h3 : rs.all (inR R) = true) : pick R C zs rs = ((rs.length : Int), C, pickL C.toNat zs rs, 0) := by unfold pick; rw [if_neg h, if_neg h2, h3]; rfl

theorem right_nat {R C : Int} {zs : List Int} (h : right R C zs = true) : ∃ r c : Nat, R = r ∧ C = c ∧ 1 ≤ r ∧ r ≤ 16 ∧ 1 ≤ c ∧ c ≤ 16 ∧ zs.length = r * c := by
  simp only [right, Bool.and_eq_true, decide_eq_true_eq] at h
  obtain ⟨⟨h1, h2, h3⟩, _⟩ := h
  obtain ⟨r, rfl⟩ := Int.eq_ofNat_of_zero_le (show 0 ≤ R by omega)
  obtain ⟨c, rfl⟩ := Int.eq_ofNat_of_zero_le (show 0 ≤ C by omega)
  refine ⟨r, c, rfl, rfl, by omega, by omega, by omega, by omega, ?_⟩
  exact_mod_cast h3

theorem ok_cond {R C : Int} {zs rs : List Int} (h : right R C zs = true) (h1 : 1 ≤ rs.length) (h2 : rs.length ≤ 16) : ¬ (right R C zs = false ∨ rs.length < 1 ∨ 16 < rs.length) := by
  rw [h]
  intro k
  rcases k with k | k | k
  · cases k
  · omega
  · omega

/-- new memory: no block that was there -/
def Fresh (w : World) (a : Option Addr) : Prop := ∀ b o s, a = some ⟨b, o, s⟩ → w.heap.size ≤ b
/-- what a call of MatrixPick answers and leaves, where its cells are read -/
def SPost (w : World) (p : Int × Int × List Int × Int) (e : Ending) (w' : World) : Prop :=
  ∃ a c, e = .returned (mout p.1 p.2.1 a p.2.2.1.length c p.2.2.2) ∧ Rd w' a p.2.2.1 ∧ Fresh w a ∧ Below w.heap.size w w'
/-- .. and where its cells are written -/
def IPost (w : World) (p : Int × Int × List Int × Int) (e : Ending) (w' : World) : Prop :=
  ∃ a c, e = .returned (mout p.1 p.2.1 a p.2.2.1.length c p.2.2.2) ∧ OwnV w' a p.2.2.1 ∧ Fresh w a ∧ Below w.heap.size w w'
theorem spost_ill {w w' : World} {p : Int × Int × List Int × Int} {k : Int} (hp : p = (0, 0, [], k)) (hb : Below w.heap.size w w') : SPost w p (.returned (mout 0 0 none 0 0 k)) w' := by
  subst hp
  exact ⟨none, 0, rfl, Rd.nil w', fun b o s h => by simp at h, hb⟩
theorem ipost_ill {w w' : World} {p : Int × Int × List Int × Int} {k : Int} (hp : p = (0, 0, [], k)) (hb : Below w.heap.size w w') : IPost w p (.returned (mout 0 0 none 0 0 k)) w' := by
  subst hp
  exact ⟨none, 0, rfl, .inl ⟨rfl, rfl⟩, fun b o s h => by simp at h, hb⟩

end Go.Proofs.Ytoklibbefjnlhab.pick
