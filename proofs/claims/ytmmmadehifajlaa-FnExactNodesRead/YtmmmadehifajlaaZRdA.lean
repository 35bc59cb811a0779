/-
  What impl.readNums answers and leaves, wherever the cells lie: numbers that stand one behind the other are read into cells. Conditions: a text of at most 20,000 bytes; the places that are handed in lie in another block than the cells.
  Three numbers that stand one behind the other: read at once, or with a flag. No condition.
  What impl.readNode answers and leaves. Conditions: a text of at most 20,000 bytes, a place within it.
  What impl.readNode answers and leaves: the walk. Conditions: a text of at most 20,000 bytes, a place within it.
-/
import Derived.Test.YtmmmadehifajlaaNumBk
import Derived.Test.YtmmmadehifajlaaGetR
import Derived.Test.YtmmmadehifajlaaCells
import Derived.Test.YtmmmadehifajlaaRrS
import Derived.Test.YtmmmadehifajlaaZLawA
import Derived.Test.YtmmmadehifajlaaRdKey
namespace Go.Proofs.Ytmmmadehifajlaa.rdg
open Go.RowKit Go.Joins
open Go.Proofs.Ytmmmadehifajlaa.base Go.Proofs.Ytmmmadehifajlaa.blk Go.Proofs.Ytmmmadehifajlaa.aid
open Go.Proofs.Ytmmmadehifajlaa.row (Rd)
open Go.Proofs.Ytmmmadehifajlaa.nbk (rdA rdA_ok rdA_err G_nat)
set_option linter.unusedVariables false

/-- these numbers lie in these cells -/
def setP (w : World) (ps : List (Nat × Nat)) (l : List Int) : World := (ps.zip l).foldl (fun (q : World) x => q.setCell ⟨x.1.1, x.1.2, none⟩ (.int .i64 x.2)) w
theorem setP_nil (w : World) (ps : List (Nat × Nat)) : setP w ps [] = w := by simp [setP]
theorem zip_snoc {α β : Type} : ∀ (ps : List α) (l : List β) (p : α) (z : β), ps[l.length]? = some p → ps.zip (l ++ [z]) = ps.zip l ++ [(p, z)]
  | [], l, p, z, h => by simp at h
  | a :: ps, [], p, z, h => by simp at h; subst h; simp
  | a :: ps, b :: l, p, z, h => by
    simp only [List.cons_append, List.zip_cons_cons]
    rw [zip_snoc ps l p z (by simpa using h)]
theorem setP_snoc (w : World) (ps : List (Nat × Nat)) (l : List Int) (p : Nat × Nat) (z : Int) (h : ps[l.length]? = some p) : setP w ps (l ++ [z]) = (setP w ps l).setCell ⟨p.1, p.2, none⟩ (.int .i64 z) := by
  unfold setP
  rw [zip_snoc ps l p z h, List.foldl_append]
  rfl
theorem fold_block : ∀ (xs : List ((Nat × Nat) × Int)) (w : World) (j : Nat), (∀ x ∈ xs, x.1.1 ≠ j) → (xs.foldl (fun (q : World) x => q.setCell ⟨x.1.1, x.1.2, none⟩ (.int .i64 x.2)) w).heap[j]? = w.heap[j]?
  | [], w, j, h => rfl
  | x :: xs, w, j, h => by
    rw [List.foldl_cons, fold_block xs _ j (fun y hy => h y (List.mem_cons_of_mem _ hy))]
    exact Below.heap_setCell _ ⟨x.1.1, x.1.2, none⟩ _ j (fun e => h x (by simp) e.symm)
theorem setP_block (w : World) (ps : List (Nat × Nat)) (l : List Int) (j : Nat) (hj : ∀ p ∈ ps, p.1 ≠ j) : (setP w ps l).heap[j]? = w.heap[j]? :=
  fold_block _ w j (fun x hx => hj x.1 (List.of_mem_zip hx).1)
theorem fold_cells : ∀ (xs : List ((Nat × Nat) × Int)) (w : World) (g : Nat) (cs : Array Value) (T : TypeId), w.heap[g]? = some (.cells cs T) → ∃ cs', (xs.foldl (fun (q : World) x => q.setCell ⟨x.1.1, x.1.2, none⟩ (.int .i64 x.2)) w).heap[g]? = some (.cells cs' T) ∧ cs'.size = cs.size
  | [], w, g, cs, T, h => ⟨cs, h, rfl⟩
  | x :: xs, w, g, cs, T, h => by
    rw [List.foldl_cons]
    by_cases e : x.1.1 = g
    · have h1 : (w.setCell ⟨x.1.1, x.1.2, none⟩ (.int .i64 x.2)).heap[g]? = some (.cells (cs.setIfInBounds x.1.2 (.int .i64 x.2)) T) := by
        rw [e]
        exact heap_setCell_same w g x.1.2 cs T _ h
      obtain ⟨cs', h2, h3⟩ := fold_cells xs _ g _ T h1
      exact ⟨cs', h2, by simpa using h3⟩
    · have h1 : (w.setCell ⟨x.1.1, x.1.2, none⟩ (.int .i64 x.2)).heap[g]? = some (.cells cs T) := (Below.heap_setCell w ⟨x.1.1, x.1.2, none⟩ _ g (fun q => e q.symm)).trans h
      exact fold_cells xs _ g cs T h1
theorem setP_cells (w : World) (ps : List (Nat × Nat)) (l : List Int) (g : Nat) (cs : Array Value) (T : TypeId) (hb : w.heap[g]? = some (.cells cs T)) : ∃ cs', (setP w ps l).heap[g]? = some (.cells cs' T) ∧ cs'.size = cs.size :=
  fold_cells _ w g cs T hb
theorem fold_below {B : Nat} {w : World} : ∀ (xs : List ((Nat × Nat) × Int)) (W : World), (∀ x ∈ xs, B ≤ x.1.1) → Below B w W → Below B w (xs.foldl (fun (q : World) x => q.setCell ⟨x.1.1, x.1.2, none⟩ (.int .i64 x.2)) W)
  | [], W, _, h => h
  | x :: xs, W, hx, h => fold_below xs _ (fun y hy => hx y (List.mem_cons_of_mem _ hy)) (h.setCell (p := ⟨x.1.1, x.1.2, none⟩) (hx x (by simp)) _)
theorem setP_below {B : Nat} {w W : World} (ps : List (Nat × Nat)) (l : List Int) (hp : ∀ p ∈ ps, B ≤ p.1) (h : Below B w W) : Below B w (setP W ps l) :=
  fold_below _ W (fun x hx => hp x.1 (List.of_mem_zip hx).1) h
/-- the places of cells -/
def ptrP (ps : List (Nat × Nat)) : List Value := ps.map (fun p => .pointer (some ⟨p.1, p.2, none⟩))
theorem ptrP_at {ps : List (Nat × Nat)} {i : Nat} {p : Nat × Nat} (h : ps[i]? = some p) : (ptrP ps)[i]? = some (.pointer (some ⟨p.1, p.2, none⟩)) := by simp [ptrP, h]
/-- what readNums answers: n numbers are read from p on -/
def NsPost (s : ByteArray) (p : Nat) (w : World) (ps : List (Nat × Nat)) (e : Ending) (w' : World) : Prop :=
  (∃ (q : Nat) (l : List Int), e = .returned (.tuple #[.int .i64 q, .nilIface]) ∧ rdA s ps.length p [] = some (l, q) ∧ l.length = ps.length ∧ q ≤ s.size ∧ w' = setP w ps l) ∨
  (∃ (T : TypeId) (v : Value) (l : List Int), e = .returned (.tuple #[.int .i64 0, .iface T v]) ∧ rdA s ps.length p [] = none ∧ l.length ≤ ps.length ∧ w' = setP w ps l)
set_option maxRecDepth 100000 in
set_option maxHeartbeats 2000000 in
theorem nums_any (s : ByteArray) (p hb n cap : Nat) (ps : List (Nat × Nat)) (w : World) (hs : s.size ≤ 20000) (hp : p ≤ s.size) (hn : n ≤ 100) (hps : ps.length = n) (hr : Rd w (some ⟨hb, 0, none⟩) (ptrP ps)) (hne : ∀ p ∈ ps, p.1 ≠ hb) (hbl : ∀ p ∈ ps, ∃ cs T, w.heap[p.1]? = some (.cells cs T) ∧ p.2 < cs.size) :
    Calls Try.prog 69 #[.string s, .int .i64 (p : Int), .slice (some ⟨hb, 0, none⟩) n cap] w (NsPost s p w ps) := by
  have HRd := mkHid (fun (p : Nat) wx (hp : (p : Int) ≤ 9223372036854775807) => num.read_any s p wx hs hp)
  have hs' : (s.size : Int) ≤ 20000 := by omega
  have hn' : (n : Int) ≤ 100 := by omega
  have HR := mkHid hr
  have HB := mkHid hbl
  have HPs := mkHid hps
  clear hr hbl hps
  go_enter Try.func69, Try.ntmps69
  go_wp2
  go_loopw [1, 13] (fun a i wr => ∃ (k p' : Nat) (l : List Int), k ≤ n ∧ i = .int .i64 k ∧ a = .int .i64 p' ∧ p' ≤ s.size ∧ Hid (l.length = k ∧ rdA s n p [] = rdA s (n - k) p' l ∧ wr = setP w ps l))
    (fun _ i _ => n - (intOf i).toNat)
  case atStart => exact ⟨0, p, [], by omega, rfl, rfl, hp, mkHid ⟨rfl, rfl, (setP_nil w ps).symm⟩⟩
  case round =>
    obtain ⟨k, p', l, hk, rfl, rfl, hp', hl⟩ := hrel
    have hpi : (p' : Int) ≤ 20000 := by omega
    by_cases hlt : k < n
    · have hki : (k : Int) < (n : Int) := by omega
      obtain ⟨⟨g, o⟩, hq0⟩ : ∃ q, ps[k]? = some q := ⟨_, List.getElem?_eq_getElem (by have := HPs.out; omega)⟩
      have hmem := List.mem_of_getElem? hq0
      obtain ⟨cs, T, hbl, hcs⟩ := HB.out _ hmem
      simp only at hbl hcs
      obtain ⟨b, off, e0, c0⟩ := HR.out k _ (ptrP_at hq0)
      have HQ := mkHid hq0
      clear hq0 hmem
      simp at e0
      obtain ⟨rfl, rfl⟩ := e0
      have g0 : wr.cell? ⟨hb, k, none⟩ = some (.pointer (some ⟨g, o, none⟩)) := by
        rw [hl.out.2.2, World.cell?_of_block (w := w) (a := ⟨hb, k, none⟩) (setP_block w ps l hb hne)]
        simpa using c0
      obtain ⟨cs', hcb, hcz⟩ := setP_cells w ps l g cs T hbl
      rw [← hl.out.2.2] at hcb
      have e1 := unfrozen hcb
      have g1 : ∃ v, wr.cell? ⟨g, o, none⟩ = some v := by
        have h1 : o < cs'.size := by omega
        rw [cell_of_block hcb]
        exact ⟨_, Array.getElem?_eq_getElem h1⟩
      obtain ⟨g1v, g1⟩ := g1
      cases hq : num.G s p' with
      | error c =>
        have hN := mkHid (show rdA s n p [] = none by rw [hl.out.2.1, show n - k = (n - k - 1) + 1 by omega, rdA_err hq])
        have HW := mkHid (show wr.setCell ⟨g, o, none⟩ (.int .i64 0) = setP w ps (l ++ [0]) by rw [setP_snoc _ _ _ (g, o) _ (by rw [hl.out.1]; exact HQ.out), ← hl.out.2.2])
        have HL := mkHid (show (l ++ [(0 : Int)]).length ≤ n by simp; have := hl.out.1; omega)
        have HRd1 := HRd.out p' wr (by omega)
        rw [hq] at HRd1
        unfold num.tup at HRd1
        have HRd1 := mkHid HRd1
        clear HRd hl hq hcb c0 HR HB hbl
        go_wp2_with fail
        refine HRd1.out.mono ?_
        rintro e w2 ⟨rfl, rfl⟩
        go_wp2
        refine bodyPost_ret (v := .tuple #[.int .i64 0, .iface 129 (.agg #[.int .i64 c])]) (by simp [results, Try.results69, go_sem]) rfl ?_
        exact .inr ⟨_, _, _, rfl, by rw [HPs.out]; exact hN.out, by rw [HPs.out]; exact HL.out, HW.out⟩
      | ok oo =>
        obtain ⟨z, q⟩ := oo
        obtain ⟨Q, rfl, hQ1, hQ2, _⟩ := G_nat hq
        have HRd1 := HRd.out p' wr (by omega)
        rw [hq] at HRd1
        unfold num.tup at HRd1
        have HRd1 := mkHid HRd1
        have N1 : Hid ((l ++ [z]).length = k + 1 ∧ rdA s n p [] = rdA s (n - (k + 1)) Q (l ++ [z]) ∧ wr.setCell ⟨g, o, none⟩ (.int .i64 z) = setP w ps (l ++ [z])) := mkHid ⟨by have := hl.out.1; simp; omega, by rw [hl.out.2.1, show n - k = (n - (k + 1)) + 1 by omega, rdA_ok hq], by rw [setP_snoc _ _ _ (g, o) _ (by rw [hl.out.1]; exact HQ.out), ← hl.out.2.2]⟩
        clear HRd hl hq hcb c0 hbl
        go_wp2_with fail
        refine HRd1.out.mono ?_
        rintro e w2 ⟨rfl, rfl⟩
        go_wp2
        go_roundw
        case rel => exact ⟨k + 1, Q, l ++ [z], by omega, by go_num, rfl, hQ2, N1⟩
        case measure => simp [intOf]; omega
    · obtain rfl : k = n := by omega
      have hN := mkHid (show rdA s k p [] = some (l, p') by rw [hl.out.2.1, Nat.sub_self]; rfl)
      have HL := mkHid hl.out.1
      have HW := mkHid hl.out.2.2
      clear hl HRd HR HB
      go_wp2
      refine bodyPost_ret (v := .tuple #[.int .i64 (p' : Int), .nilIface]) (by simp [results, Try.results69, go_sem]) rfl ?_
      exact .inl ⟨_, _, rfl, by rw [HPs.out]; exact hN.out, by rw [HPs.out]; exact HL.out, hp', HW.out⟩
end Go.Proofs.Ytmmmadehifajlaa.rdg
namespace Go.Proofs.Ytmmmadehifajlaa.rd3
open Go.RowKit Go.Joins
open Go.Proofs.Ytmmmadehifajlaa.num (G T)
open Go.Proofs.Ytmmmadehifajlaa.nbk (rdA rdA_ok rdA_err)
open Go.Proofs.Ytmmmadehifajlaa.plc (St numS numS_bad numS_yes)
set_option linter.unusedVariables false
set_option linter.unusedSimpArgs false

theorem numS_err {s : ByteArray} {a : Nat} {c : Int} (h : G s (a : Int) = .error c) : numS s (a, false) = (0, (a, true)) := by unfold plc.numS; simp only [Bool.false_eq_true, if_false, h]
/-- three numbers, one behind the other -/
theorem three_no {s : ByteArray} {p : Nat} (h : rdA s 3 p [] = none) : (numS s (numS s (numS s (p, false)).2).2).2.2 = true := by
  cases h1 : G s (p : Int) with
  | error c => rw [numS_err h1]; simp only; rw [numS_bad]; simp only; rw [numS_bad]
  | ok r =>
    obtain ⟨n1, p1⟩ := r
    obtain ⟨P1, rfl, _, e1⟩ := numS_yes s p n1 p1 h1
    rw [rdA_ok h1] at h
    rw [e1]
    simp only
    cases h2 : G s (P1 : Int) with
    | error c => rw [numS_err h2]; simp only; rw [numS_bad]
    | ok r =>
      obtain ⟨n2, p2⟩ := r
      obtain ⟨P2, rfl, _, e2⟩ := numS_yes s P1 n2 p2 h2
      rw [rdA_ok h2] at h
      rw [e2]
      simp only
      cases h3 : G s (P2 : Int) with
      | error c => rw [numS_err h3]
      | ok r =>
        obtain ⟨n3, p3⟩ := r
        obtain ⟨P3, rfl, _, e3⟩ := numS_yes s P2 n3 p3 h3
        rw [rdA_ok h3] at h
        simp [rdA] at h
theorem three_yes {s : ByteArray} {p q : Nat} {l : List Int} (h : rdA s 3 p [] = some (l, q)) : ∃ n1 n2 n3, l = [n1, n2, n3] ∧ (numS s (p, false)).1 = n1 ∧ (numS s (numS s (p, false)).2).1 = n2 ∧ numS s (numS s (numS s (p, false)).2).2 = (n3, (q, false)) := by
  cases h1 : G s (p : Int) with
  | error c => rw [rdA_err h1] at h; cases h
  | ok r =>
    obtain ⟨n1, p1⟩ := r
    obtain ⟨P1, rfl, _, e1⟩ := numS_yes s p n1 p1 h1
    rw [rdA_ok h1] at h
    rw [e1]
    simp only
    cases h2 : G s (P1 : Int) with
    | error c => rw [rdA_err h2] at h; cases h
    | ok r =>
      obtain ⟨n2, p2⟩ := r
      obtain ⟨P2, rfl, _, e2⟩ := numS_yes s P1 n2 p2 h2
      rw [rdA_ok h2] at h
      rw [e2]
      simp only
      cases h3 : G s (P2 : Int) with
      | error c => rw [rdA_err h3] at h; cases h
      | ok r =>
        obtain ⟨n3, p3⟩ := r
        obtain ⟨P3, rfl, _, e3⟩ := numS_yes s P2 n3 p3 h3
        rw [rdA_ok h3] at h
        simp [rdA] at h
        obtain ⟨rfl, rfl⟩ := h
        exact ⟨n1, n2, n3, rfl, rfl, rfl, e3⟩
end Go.Proofs.Ytmmmadehifajlaa.rd3
namespace Go.Proofs.Ytmmmadehifajlaa.nod
open Go.RowKit Go.Joins
open Go.Proofs.Ytmmmadehifajlaa.base Go.Proofs.Ytmmmadehifajlaa.blk Go.Proofs.Ytmmmadehifajlaa.aid
open Go.Proofs.Ytmmmadehifajlaa.row (Rd Own OwnV appSem app_fold)
open Go.Proofs.Ytmmmadehifajlaa.strs (tx)
open Go.Proofs.Ytmmmadehifajlaa.plc (St numS txtS bytS numS_bad txtS_bad numS_yes txtS_yes below_trans)
open Go.Proofs.Ytmmmadehifajlaa.num (G T ttup)
open Go.Proofs.Ytmmmadehifajlaa.nbk (rdA rdA_ok rdA_err)
open Go.Proofs.Ytmmmadehifajlaa.rdg (setP ptrP ptrP_at nums_any)
set_option linter.unusedVariables false
set_option linter.unusedSimpArgs false
attribute [local go_sem ↓] app_fold

theorem own_base {w : World} {T B B' size n : Nat} {v : Value} {xs : List Value} (h : w.ownsRow B T size v n xs) (hb : B' ≤ B) : w.ownsRow B' T size v n xs := by
  obtain ⟨h1, h2⟩ := h
  refine ⟨h1, ?_⟩
  rcases h2 with h2 | ⟨g, cap, cur, e, h3, h4⟩
  · exact .inl h2
  · exact .inr ⟨g, cap, cur, e, by omega, h4⟩
/-- three numbers, one behind the other, at the head of a node -/
theorem head_no {s t : ByteArray} {a P : Nat} (hT : txtS s (a, false) = (t, (P, false))) (h : rdA s 3 P [] = none) : (headS s (a, false)).2.2 = true := by
  unfold headS
  rw [hT]
  exact rd3.three_no h
theorem head_yes {s t : ByteArray} {a P q : Nat} {d z m : Int} (hT : txtS s (a, false) = (t, (P, false))) (h : rdA s 3 P [] = some ([d, z, m], q)) : headS s (a, false) = ((t, d, z, m), (q, false)) := by
  obtain ⟨n1, n2, n3, e0, e1, e2, e3⟩ := rd3.three_yes h
  simp at e0
  obtain ⟨rfl, rfl, rfl⟩ := e0
  unfold headS
  rw [hT]
  simp only
  rw [e3, e1, e2]
theorem head_text {s : ByteArray} {a : Nat} {c : Int} (hT : T s (a : Int) = .error c) : (headS s (a, false)).2.2 = true := by
  have e : txtS s (a, false) = (⟨#[]⟩, (a, true)) := by unfold plc.txtS; simp only [Bool.false_eq_true, if_false, hT]
  unfold headS
  rw [e]
  simp only
  rw [numS_bad]
  simp only
  rw [numS_bad]
  simp only
  rw [numS_bad]
theorem nodeI_bad {s : ByteArray} {a : Nat} (h : (headS s (a, false)).2.2 = true) : (nodeI s (a, false)).2.2 = true := by
  unfold nodeI keysH
  cases hh : headS s (a, false) with
  | mk r st =>
    obtain ⟨q, f⟩ := st
    rw [hh] at h
    simp only at h
    subst h
    simp only [Bool.true_or]
    rw [keysS_bad]
theorem nodeI_is {s t : ByteArray} {a P : Nat} {d z m : Int} (h : headS s (a, false) = ((t, d, z, m), (P, false))) : nodeI s (a, false) = ((t, decide (d = 1), z, (keysS s m.toNat (P, false) []).1), (keysS s m.toNat (P, false) []).2) := by
  unfold nodeI keysH
  rw [h]
  simp only [Bool.or_false]
def zN : Obj := .cells #[.string ⟨#[]⟩, .bool false, .int .i64 0, .slice none 0 0] 59
/-- what readNode answers and leaves -/
def NdPost (s : ByteArray) (a : Nat) (w : World) (e : Ending) (w' : World) : Prop :=
  ((∃ (x0 : ByteArray) (x1 : Bool) (x2 : Int) (ka : Option Addr) (kc : Nat) (ks : Tx) (q : Nat), nodeI s (a, false) = ((x0, x1, x2, ks), (q, false)) ∧ e = .returned (.tuple #[.agg #[.string x0, .bool x1, .int .i64 x2, .slice ka ks.length kc], .int .i64 (q : Int), .nilIface]) ∧ w'.ownsRow w.heap.size 9 1 (.slice ka ks.length kc) ks.length (tx ks)) ∨
   ((nodeI s (a, false)).2.2 = true ∧ ∃ T v, e = .returned (.tuple #[.agg #[.string ⟨#[]⟩, .bool false, .int .i64 0, .slice none 0 0], .int .i64 0, .iface T v]))) ∧ Below w.heap.size w w'
theorem nd_no {s : ByteArray} {a : Nat} {w w' : World} (T : TypeId) (v : Value) (h : (nodeI s (a, false)).2.2 = true) (hb : Below w.heap.size w w') : NdPost s a w (.returned (.tuple #[.agg #[.string ⟨#[]⟩, .bool false, .int .i64 0, .slice none 0 0], .int .i64 0, .iface T v])) w' := ⟨.inr ⟨h, T, v, rfl⟩, hb⟩
theorem below4r {w w1 : World} {g : Nat} (hb : Below w.heap.size w w1) (hg : w.heap.size ≤ g) (x0 x1 x2 x3 : Value) : Below w.heap.size w ((((w1.setCell ⟨g, 0, none⟩ x0).setCell ⟨g, 1, none⟩ x1).setCell ⟨g, 2, none⟩ x2).setCell ⟨g, 3, none⟩ x3) :=
  (((hb.setCell (p := ⟨g, 0, none⟩) hg x0).setCell (p := ⟨g, 1, none⟩) hg x1).setCell (p := ⟨g, 2, none⟩) hg x2).setCell (p := ⟨g, 3, none⟩) hg x3
theorem grew4 (w : World) (X : Nat) (x0 x1 x2 x3 : Value) : w.grownBy ((((w.setCell ⟨X, 0, none⟩ x0).setCell ⟨X, 1, none⟩ x1).setCell ⟨X, 2, none⟩ x2).setCell ⟨X, 3, none⟩ x3) (some X) :=
  grew_grew (grew_grew (grew_grew (grew_cell w X 0 x0) (grew_cell _ X 1 x1)) (grew_cell _ X 2 x2)) (grew_cell _ X 3 x3)
/-- what holds while keys are read -/
structure Ri (w : World) (Q B : Nat) (x0 : ByteArray) (x1 : Bool) (x2 : Int) (ka : Option Addr) (ks : Tx) (kc : Nat) (W : World) : Prop where
  below : Below w.heap.size w W
  r : W.heap[w.heap.size]? = some (.cells #[.string ⟨#[]⟩, .bool false, .int .i64 0, .slice none 0 0] 59)
  q : W.heap[Q]? = some (.cells #[.string x0, .bool x1, .int .i64 x2, .slice ka ks.length kc] 59)
  krow : W.ownsRow B 9 1 (.slice ka ks.length kc) ks.length (tx ks)
  lt : w.heap.size < Q ∧ Q < B ∧ B ≤ W.heap.size
variable {w W W' : World} {Q B : Nat} {x0 : ByteArray} {x1 : Bool} {x2 : Int} {ka : Option Addr} {ks : Tx} {kc : Nat}
theorem Ri.next (h : Ri w Q B x0 x1 x2 ka ks kc W) (hb : Below W.heap.size W W') : Ri w Q B x0 x1 x2 ka ks kc W' :=
  ⟨below_trans h.below hb, blk_below h.r hb, blk_below h.q hb, row_keep h.krow (below_grew hb none) (fun _ _ e => by cases e), h.lt.1, h.lt.2.1, Nat.le_trans h.lt.2.2 hb.size⟩
theorem Ri.app (h : Ri w Q B x0 x1 x2 ka ks kc W) (t : ByteArray) (hl : ks.length ≤ 1048576) :
    ∃ g' c' w2, (appSem #[57, 57] 57 #[.slice ka ks.length kc, .slice (some ⟨W.heap.size, 0, none⟩) 1 1]).run Try.prog (W.alloc (.cells #[.string t] 9)) = .ok (.slice (some ⟨g', 0, none⟩) (ks.length + 1) c') w2 ∧ w2.heap[Q]? = some (.cells #[.string x0, .bool x1, .int .i64 x2, .slice ka ks.length kc] 59) ∧ Ri w Q B x0 x1 x2 (some ⟨g', 0, none⟩) (ks ++ [t]) c' (w2.setCell ⟨Q, 3, none⟩ (.slice (some ⟨g', 0, none⟩) (ks.length + 1) c')) := by
  obtain ⟨l1, l2, l3⟩ := h.lt
  obtain ⟨g', c', w2, happ, hown, hg⟩ := appK W B (.slice ka ks.length kc) ks.length ks t rfl h.krow l3 hl
  have hlen : (ks ++ [t]).length = ks.length + 1 := by simp
  have hoff : ∀ X, X < B → some X ≠ (Value.slice ka ks.length kc).ownBlock := fun X hX e => by have := (h.krow.lt X e.symm).1; omega
  have hv2 : w2.heap[Q]? = some (.cells #[.string x0, .bool x1, .int .i64 x2, .slice ka ks.length kc] 59) := (hg.block Q (by simp; omega) (hoff Q l2)).trans (blk_old h.q _)
  have hr2 := (hg.block w.heap.size (by simp; omega) (hoff _ (by omega))).trans (blk_old h.r (.cells #[.string t] 9))
  have hb2 := (h.below.alloc h.below.size (.cells #[.string t] 9)).grown hg (h.below.alloc h.below.size (.cells #[.string t] 9)).size (fun j hj => by have := (h.krow.lt j hj).1; omega)
  refine ⟨g', c', w2, happ, hv2, hb2.setCell (p := ⟨Q, 3, none⟩) (by show w.heap.size ≤ Q; omega) _, blk_set hr2 _ _ (by show w.heap.size ≠ Q; omega), ?_, ?_, l1, l2, ?_⟩
  · rw [heap_setCell_same w2 Q 3 _ _ _ hv2, hlen]
    rfl
  · rw [hlen]
    exact row_keep hown (grew_cell w2 Q 3 _) (fun g hgg e => by
      have := (hown.lt g hgg).1
      simp at e
      omega)
  · have := hg.size
    simp at this ⊢
    omega
theorem Ri.fin (h : Ri w Q B x0 x1 x2 ka ks kc W) {s : ByteArray} {a q : Nat} (hn : nodeI s (a, false) = ((x0, x1, x2, ks), (q, false))) : NdPost s a w (.returned (.tuple #[.agg #[.string x0, .bool x1, .int .i64 x2, .slice ka ks.length kc], .int .i64 (q : Int), .nilIface])) ((((W.setCell ⟨w.heap.size, 0, none⟩ (.string x0)).setCell ⟨w.heap.size, 1, none⟩ (.bool x1)).setCell ⟨w.heap.size, 2, none⟩ (.int .i64 x2)).setCell ⟨w.heap.size, 3, none⟩ (.slice ka ks.length kc)) := by
  obtain ⟨l1, l2, l3⟩ := h.lt
  refine ⟨.inl ⟨x0, x1, x2, ka, kc, ks, q, hn, rfl, own_base (row_keep h.krow (grew4 W w.heap.size _ _ _ _) (fun g hg e => ?_)) (by omega)⟩, below4r h.below (Nat.le_refl _) _ _ _ _⟩
  have := (h.krow.lt g hg).1
  simp at e
  omega
theorem Ri.no (h : Ri w Q B x0 x1 x2 ka ks kc W) {s : ByteArray} {a : Nat} (T : TypeId) (v : Value) (hn : (nodeI s (a, false)).2.2 = true) : NdPost s a w (.returned (.tuple #[.agg #[.string ⟨#[]⟩, .bool false, .int .i64 0, .slice none 0 0], .int .i64 0, .iface T v])) ((((W.setCell ⟨w.heap.size, 0, none⟩ (.string ⟨#[]⟩)).setCell ⟨w.heap.size, 1, none⟩ (.bool false)).setCell ⟨w.heap.size, 2, none⟩ (.int .i64 0)).setCell ⟨w.heap.size, 3, none⟩ (.slice none 0 0)) :=
  nd_no T v hn (below4r h.below (Nat.le_refl _) _ _ _ _)
theorem ptr_rd3 {w : World} {hb : Nat} {ps : List (Nat × Nat)} {a b c : Nat × Nat} (hps : ps = [a, b, c]) (h : w.heap[hb]? = some (.cells #[.pointer (some ⟨a.1, a.2, none⟩), .pointer (some ⟨b.1, b.2, none⟩), .pointer (some ⟨c.1, c.2, none⟩)] 105)) : Rd w (some ⟨hb, 0, none⟩) (ptrP ps) := by
  subst hps
  intro i u hi
  refine ⟨hb, 0, rfl, ?_⟩
  have h1 := cel3 h
  have hlt : i < 3 := by have := (List.getElem?_eq_some_iff.1 hi).1; simpa [rdg.ptrP] using this
  rcases (show i = 0 ∨ i = 1 ∨ i = 2 by omega) with rfl | rfl | rfl
  · simp [rdg.ptrP] at hi
    subst hi
    exact h1.1
  · simp [rdg.ptrP] at hi
    subst hi
    exact h1.2.1
  · simp [rdg.ptrP] at hi
    subst hi
    exact h1.2.2
theorem setP3 (w : World) (a b c : Nat × Nat) (x y z : Int) : setP w [a, b, c] [x, y, z] = ((w.setCell ⟨a.1, a.2, none⟩ (.int .i64 x)).setCell ⟨b.1, b.2, none⟩ (.int .i64 y)).setCell ⟨c.1, c.2, none⟩ (.int .i64 z) := rfl
end Go.Proofs.Ytmmmadehifajlaa.nod
namespace Go.Proofs.Ytmmmadehifajlaa.nod
open Go.RowKit Go.Joins
open Go.Proofs.Ytmmmadehifajlaa.base Go.Proofs.Ytmmmadehifajlaa.blk Go.Proofs.Ytmmmadehifajlaa.aid
open Go.Proofs.Ytmmmadehifajlaa.row (Rd Own OwnV appSem app_fold)
open Go.Proofs.Ytmmmadehifajlaa.strs (tx)
open Go.Proofs.Ytmmmadehifajlaa.plc (St numS txtS bytS numS_bad txtS_bad numS_yes txtS_yes below_trans)
open Go.Proofs.Ytmmmadehifajlaa.num (G T ttup)
open Go.Proofs.Ytmmmadehifajlaa.nbk (rdA rdA_ok rdA_err)
open Go.Proofs.Ytmmmadehifajlaa.rdg (setP ptrP ptrP_at nums_any)
set_option linter.unusedVariables false
set_option linter.unusedSimpArgs false
attribute [local go_sem ↓] app_fold

theorem bytS_short {s : ByteArray} {a : Nat} (h : s.size < a + 32) : bytS s (a, false) = (⟨#[]⟩, (a, true)) := by unfold plc.bytS; rw [if_pos (.inr h)]
theorem bytS_long {s : ByteArray} {a : Nat} (h : ¬ s.size < a + 32) : bytS s (a, false) = (s.extract a (a + 32), (a + 32, false)) := by unfold plc.bytS; rw [if_neg (by simp; omega)]
/-- what stands in memory at the start -/
structure Rs (w W : World) : Prop where
  below : Below w.heap.size w W
  r : W.heap[w.heap.size]? = some (.cells #[.string ⟨#[]⟩, .bool false, .int .i64 0, .slice none 0 0] 59)
  q : W.heap[w.heap.size + 1]? = some (.cells #[.string ⟨#[]⟩, .bool false, .int .i64 0, .slice none 0 0] 59)
  d : W.heap[w.heap.size + 1 + 1]? = some (.cells #[.int .i64 0] 2)
  c : W.heap[w.heap.size + 1 + 1 + 1]? = some (.cells #[.int .i64 0] 2)
theorem Rs.next {w W W' : World} (h : Rs w W) (hb : Below W.heap.size W W') : Rs w W' := ⟨below_trans h.below hb, blk_below h.r hb, blk_below h.q hb, blk_below h.d hb, blk_below h.c hb⟩
set_option maxRecDepth 100000 in
set_option maxHeartbeats 8000000 in
theorem readNode_any (s : ByteArray) (a : Nat) (w : World) (hs : s.size ≤ 20000) (ha : a ≤ s.size) :
    Calls Try.prog 37 #[.string s, .int .i64 (a : Int)] w (NdPost s a w) := by
  have hsi : (s.size : Int) ≤ 20000 := by omega
  have hai : (a : Int) ≤ 20000 := by omega
  have S0 : Hid (Rs w ((((w.alloc (.cells #[.string ⟨#[]⟩, .bool false, .int .i64 0, .slice none 0 0] 59)).alloc (.cells #[.string ⟨#[]⟩, .bool false, .int .i64 0, .slice none 0 0] 59)).alloc (.cells #[.int .i64 0] 2)).alloc (.cells #[.int .i64 0] 2))) := mkHid (by
    refine ⟨(((below_alloc1 w _).alloc (by simp) _).alloc (by simp; omega) _).alloc (by simp; omega) _, ?_, ?_, ?_, ?_⟩
    · exact blk_old (blk_old (blk_old (blk_new w _ _ rfl) _) _) _
    · exact blk_old (blk_old (blk_new _ _ _ (by simp)) _) _
    · exact blk_old (blk_new _ _ _ (by simp)) _
    · exact blk_new _ _ _ (by simp))
  have HT := mkHid (fun wx => num.rtext_any s (a : Int) wx (by omega) (by omega) (by omega))
  cases hT : T s (a : Int) with
  | error c =>
    rw [hT] at HT
    have HE := mkHid (nodeI_bad (head_text hT))
    clear hT
    go_enter Try.func37, Try.ntmps37
    go_wp2_with fail
    generalize (((w.alloc (.cells #[.string ⟨#[]⟩, .bool false, .int .i64 0, .slice none 0 0] 59)).alloc (.cells #[.string ⟨#[]⟩, .bool false, .int .i64 0, .slice none 0 0] 59)).alloc (.cells #[.int .i64 0] 2)).alloc (.cells #[.int .i64 0] 2) = W0 at *
    refine (HT.out _).mono ?_
    rintro e w1 ⟨rfl, hb⟩
    have S1 := mkHid (S0.out.next hb)
    obtain ⟨y0, y1, y2, y3⟩ := cel4 S1.out.q
    have uy := unfrozen S1.out.q
    have r1 := blk_set S1.out.r ⟨w.heap.size + 1, 0, none⟩ (.string ⟨#[]⟩) (by simp)
    obtain ⟨z0, z1, z2, z3⟩ := cel4 r1
    have uf := unfrozen r1
    have F := mkHid (nd_no (w := w) 129 (.agg #[.int .i64 c]) HE.out (below4r (S1.out.below.setCell (p := ⟨w.heap.size + 1, 0, none⟩) (by simp) (.string ⟨#[]⟩)) (Nat.le_refl _) (.string ⟨#[]⟩) (.bool false) (.int .i64 0) (.slice none 0 0)))
    clear hb S0 S1 HE HT r1
    unfold ttup
    go_wp2
    refine bodyPost_ret (v := .tuple #[.agg #[.string ⟨#[]⟩, .bool false, .int .i64 0, .slice none 0 0], .int .i64 0, .iface 129 (.agg #[.int .i64 c])]) ?_ rfl ?_
    rotate_left
    · exact F.out
    · simp [results, Try.results37, go_sem, z0, z1, z2, z3]
  | ok r =>
    obtain ⟨t, p⟩ := r
    obtain ⟨P, rfl, hP, hTx⟩ := txtS_yes s a t p hT
    rw [hT] at HT
    have hPi : (P : Int) ≤ 20000 := by omega
    have HX := mkHid hTx
    clear hT hTx
    go_enter Try.func37, Try.ntmps37
    go_wp2_with fail
    generalize (((w.alloc (.cells #[.string ⟨#[]⟩, .bool false, .int .i64 0, .slice none 0 0] 59)).alloc (.cells #[.string ⟨#[]⟩, .bool false, .int .i64 0, .slice none 0 0] 59)).alloc (.cells #[.int .i64 0] 2)).alloc (.cells #[.int .i64 0] 2) = W0 at *
    refine (HT.out _).mono ?_
    rintro e w1 ⟨rfl, hb⟩
    have S1 := S0.out.next hb
    have s1r := mkHid S1.r
    have s1q := mkHid S1.q
    have s1d := mkHid S1.d
    have s1c := mkHid S1.c
    have s1b := mkHid S1.below
    have hC1 : w.heap.size + 1 + 1 + 1 < w1.heap.size := (Array.getElem?_eq_some_iff.1 S1.c).1
    clear S0 S1 hb HT
    have hRQ : w.heap.size < w.heap.size + 1 := by omega
    generalize hQ : w.heap.size + 1 = Q at *
    have hQD : Q < Q + 1 := by omega
    generalize hD : Q + 1 = D at *
    have hDC : D < D + 1 := by omega
    generalize hC : D + 1 = C at *
    have B2 := mkHid (s1b.out.setCell (p := ⟨Q, 0, none⟩) (by show w.heap.size ≤ Q; omega) (.string t))
    have r2 := mkHid (blk_set s1r.out ⟨Q, 0, none⟩ (.string t) (by show w.heap.size ≠ Q; omega))
    have d2 := mkHid (blk_set s1d.out ⟨Q, 0, none⟩ (.string t) (by show D ≠ Q; omega))
    have c2 := mkHid (blk_set s1c.out ⟨Q, 0, none⟩ (.string t) (by show C ≠ Q; omega))
    have q2 : Hid ((w1.setCell ⟨Q, 0, none⟩ (.string t)).heap[Q]? = some (.cells #[.string t, .bool false, .int .i64 0, .slice none 0 0] 59)) := mkHid (by have h := heap_setCell_same w1 Q 0 _ _ (.string t) s1q.out; simpa using h)
    have sz2 : (w1.setCell ⟨Q, 0, none⟩ (.string t)).heap.size = w1.heap.size := by simp
    obtain ⟨y0, y1, y2, y3⟩ := cel4 s1q.out
    have uy := unfrozen s1q.out
    have HNs := mkHid (nums_any s P w1.heap.size 3 3 [(D, 0), (Q, 2), (C, 0)] ((w1.setCell ⟨Q, 0, none⟩ (.string t)).alloc (.cells #[.pointer (some ⟨D, 0, none⟩), .pointer (some ⟨Q, 2, none⟩), .pointer (some ⟨C, 0, none⟩)] 105)) hs hP (by omega) rfl (ptr_rd3 (a := (D, 0)) (b := (Q, 2)) (c := (C, 0)) rfl (blk_new (w1.setCell ⟨Q, 0, none⟩ (.string t)) _ w1.heap.size sz2.symm)) (by intro p hp; simp at hp; rcases hp with rfl | rfl | rfl <;> simp only <;> omega) (by
      intro p hp
      simp at hp
      rcases hp with rfl | rfl | rfl
      · exact ⟨_, _, blk_old d2.out _, by simp⟩
      · exact ⟨_, _, blk_old q2.out _, by simp⟩
      · exact ⟨_, _, blk_old c2.out _, by simp⟩))
    clear s1r s1q s1d s1c s1b hQ hD hC
    unfold ttup
    go_wp2_with fail
    clear y0 y1 y2 y3 uy
    have B3 := mkHid (B2.out.alloc B2.out.size (.cells #[.pointer (some ⟨D, 0, none⟩), .pointer (some ⟨Q, 2, none⟩), .pointer (some ⟨C, 0, none⟩)] 105))
    have r3 := mkHid (blk_old r2.out (.cells #[.pointer (some ⟨D, 0, none⟩), .pointer (some ⟨Q, 2, none⟩), .pointer (some ⟨C, 0, none⟩)] 105))
    have d3 := mkHid (blk_old d2.out (.cells #[.pointer (some ⟨D, 0, none⟩), .pointer (some ⟨Q, 2, none⟩), .pointer (some ⟨C, 0, none⟩)] 105))
    have c3 := mkHid (blk_old c2.out (.cells #[.pointer (some ⟨D, 0, none⟩), .pointer (some ⟨Q, 2, none⟩), .pointer (some ⟨C, 0, none⟩)] 105))
    have q3 := mkHid (blk_old q2.out (.cells #[.pointer (some ⟨D, 0, none⟩), .pointer (some ⟨Q, 2, none⟩), .pointer (some ⟨C, 0, none⟩)] 105))
    have sz3 : C < ((w1.setCell ⟨Q, 0, none⟩ (.string t)).alloc (.cells #[.pointer (some ⟨D, 0, none⟩), .pointer (some ⟨Q, 2, none⟩), .pointer (some ⟨C, 0, none⟩)] 105)).heap.size := by simp; omega
    clear B2 r2 d2 c2 q2 sz2
    generalize (w1.setCell ⟨Q, 0, none⟩ (.string t)).alloc (.cells #[.pointer (some ⟨D, 0, none⟩), .pointer (some ⟨Q, 2, none⟩), .pointer (some ⟨C, 0, none⟩)] 105) = W3 at *
    refine HNs.out.mono ?_
    rintro e w3 (⟨q, l, rfl, hrd, hlen, hq, hw3⟩ | ⟨TT, v, l, rfl, hrd, hlen, hw3⟩)
    · simp only [List.length_cons, List.length_nil, Nat.zero_add, Nat.reduceAdd] at hrd hlen
      obtain ⟨d, z, m, rfl, _⟩ := rd3.three_yes hrd
      have hh := head_yes HX.out hrd
      have hn := nodeI_is hh
      have hB : Below w.heap.size w w3 := by rw [hw3]; exact rdg.setP_below _ _ (by intro p hp; simp at hp; rcases hp with rfl | rfl | rfl <;> simp only <;> omega) B3.out
      have hr : w3.heap[w.heap.size]? = some (.cells #[.string ⟨#[]⟩, .bool false, .int .i64 0, .slice none 0 0] 59) := by rw [hw3, rdg.setP_block _ _ _ _ (by intro p hp; simp at hp; rcases hp with rfl | rfl | rfl <;> simp only <;> omega)]; exact r3.out
      have hqq : w3.heap[Q]? = some (.cells #[.string t, .bool false, .int .i64 z, .slice none 0 0] 59) := by
        rw [hw3, setP3]
        have h1 := heap_setCell_same _ Q 2 _ _ (.int .i64 z) (blk_set q3.out ⟨D, 0, none⟩ (.int .i64 d) (by show Q ≠ D; omega))
        have h2 := blk_set h1 ⟨C, 0, none⟩ (.int .i64 m) (by show Q ≠ C; omega)
        simpa using h2
      have hdd : w3.heap[D]? = some (.cells #[.int .i64 d] 2) := by
        rw [hw3, setP3]
        have h1 := heap_setCell_same _ D 0 _ _ (.int .i64 d) d3.out
        have h2 := blk_set (blk_set h1 ⟨Q, 2, none⟩ (.int .i64 z) (by show D ≠ Q; omega)) ⟨C, 0, none⟩ (.int .i64 m) (by show D ≠ C; omega)
        simpa using h2
      have hcc : w3.heap[C]? = some (.cells #[.int .i64 m] 2) := by
        rw [hw3, setP3]
        have h1 := heap_setCell_same _ C 0 _ _ (.int .i64 m) (blk_set (blk_set c3.out ⟨D, 0, none⟩ (.int .i64 d) (by show C ≠ D; omega)) ⟨Q, 2, none⟩ (.int .i64 z) (by show C ≠ Q; omega))
        simpa using h1
      have hsz3 : C < w3.heap.size := (Array.getElem?_eq_some_iff.1 hcc).1
      have hm : m = m := rfl
      clear hw3 HNs B3 r3 d3 c3 q3 hrd hlen hh HX
      have e0 := cel1 hdd
      obtain ⟨y0, y1, y2, y3⟩ := cel4 hqq
      have uy := unfrozen hqq
      have hcc4 := blk_set hcc ⟨Q, 1, none⟩ (.bool (decide (d = 1))) (by show C ≠ Q; omega)
      have f0 := cel1 hcc4
      have f1 := cel1 hcc
      have hCQ : ¬ C = Q := by omega
      have hQC : ¬ Q = C := by omega
      have T0 : Hid (Ri w Q (C + 1) t (decide (d = 1)) z none [] 0 (w3.setCell ⟨Q, 1, none⟩ (.bool (decide (d = 1))))) := mkHid ⟨hB.setCell (p := ⟨Q, 1, none⟩) (by show w.heap.size ≤ Q; omega) _, blk_set hr _ _ (by show w.heap.size ≠ Q; omega), by have h := heap_setCell_same w3 Q 1 _ _ (.bool (decide (d = 1))) hqq; simpa using h, World.ownsRow_nil _ _ _ _, hRQ, by omega, by simp; omega⟩
      have HN := mkHid hn
      clear hcc hdd hqq hr hB hn hcc4 sz3
      go_wp2_with fail
      clear e0 f0 f1 y0 y1 y2 y3 uy
      generalize w3.setCell ⟨Q, 1, none⟩ (.bool (decide (d = 1))) = W4 at *
      have hqi : (q : Int) ≤ 20000 := by omega
      go_loopw [1, 10, 11, 40] (fun av ev kv i wr => ∃ (k q' : Nat) (ks : Tx) (ka : Option Addr) (kc : Nat), i = .int .i64 k ∧ av = .int .i64 q' ∧ q' ≤ s.size ∧ ks.length = k ∧ (k : Int) ≤ max m 0 ∧ 32 * k ≤ q' ∧ Hid (keysS s m.toNat (q, false) [] = keysS s (m.toNat - k) (q', false) ks) ∧ Hid (Ri w Q (C + 1) t (decide (d = 1)) z ka ks kc wr))
        (fun _ _ _ i _ => m.toNat - (intOf i).toNat)
      case atStart => exact ⟨0, q, [], none, 0, rfl, rfl, hq, rfl, by omega, by omega, mkHid rfl, T0⟩
      case round =>
        clear T0
        obtain ⟨k, q', ks, ka, kc, rfl, rfl, hq', hkl, hkm, hfar, HK, S⟩ := hrel
        have hqi' : (q' : Int) ≤ 20000 := by omega
        have hki : (k : Int) ≤ 1000 := by omega
        by_cases hlt : (k : Int) < m
        · obtain ⟨n, hn⟩ : ∃ n, m.toNat - k = n + 1 := ⟨m.toNat - k - 1, by omega⟩
          have hst := HK.out
          rw [hn, keysS_step] at hst
          by_cases hsh : s.size < q' + 32
          · have HKy := mkHid (rdk.key_no s q' wr hs hq' hsh)
            have HE : Hid ((nodeI s (a, false)).2.2 = true) := mkHid (by
              rw [HN.out]
              show (keysS s m.toNat (q, false) []).2.2 = true
              rw [hst, bytS_short hsh]
              rw [keysS_bad])
            obtain ⟨z0, z1, z2, z3⟩ := cel4 S.out.r
            have uf := unfrozen S.out.r
            have F := mkHid (S.out.no 129 (.agg #[.int .i64 4]) HE.out)
            clear S HK HE hst hkl hkm hfar
            go_wp2_with fail
            refine HKy.out.mono ?_
            rintro e w5 ⟨rfl, rfl⟩
            clear HKy
            go_wp2
            refine bodyPost_ret (v := .tuple #[.agg #[.string ⟨#[]⟩, .bool false, .int .i64 0, .slice none 0 0], .int .i64 0, .iface 129 (.agg #[.int .i64 4])]) ?_ rfl ?_
            rotate_left
            · exact F.out
            · simp [results, Try.results37, go_sem, z0, z1, z2, z3]
          · have HKy := mkHid (rdk.key_yes s q' wr hs (by omega))
            rw [bytS_long hsh] at hst
            have HK2 : Hid (keysS s m.toNat (q, false) [] = keysS s (m.toNat - (k + 1)) (q' + 32, false) (ks ++ [s.extract q' (q' + 32)])) := mkHid (by
              rw [hst]
              have e : m.toNat - (k + 1) = n := by omega
              rw [e])
            generalize s.extract q' (q' + 32) = key at *
            clear hst HK
            go_wp2_with fail
            refine HKy.out.mono ?_
            rintro e w5 ⟨rfl, hb⟩
            have S2 := mkHid (S.out.next hb)
            obtain ⟨g', c', w8, happ, hvar, hZ⟩ := S2.out.app key (by omega)
            have S3 := mkHid hZ
            obtain ⟨y0, y1, y2, y3⟩ := cel4 S2.out.q
            obtain ⟨m0, m1, m2, m3⟩ := cel4 hvar
            have uf := unfrozen hvar
            have hl3 : (ks ++ [key]).length = k + 1 := by simp [hkl]
            clear hb S S2 hZ hvar HKy
            subst hkl
            go_wp2
            exact ⟨⟨ks.length + 1, q' + 32, ks ++ [key], some ⟨g', 0, none⟩, c', by go_num, by go_num, by omega, hl3, by omega, by omega, HK2, S3⟩, by simp [intOf]; omega⟩
        · have e0 : m.toNat - k = 0 := by omega
          have hst := HK.out
          rw [e0] at hst
          have hfin : nodeI s (a, false) = ((t, (decide (d = 1)), z, ks), (q', false)) := by
            rw [HN.out, hst]
            rfl
          obtain ⟨y0, y1, y2, y3⟩ := cel4 S.out.q
          obtain ⟨z0, z1, z2, z3⟩ := cel4 S.out.r
          have uf := unfrozen S.out.r
          have F := mkHid (S.out.fin hfin)
          have hm' : m ≤ (k : Int) := by omega
          clear S HK hst hfin HN
          subst hkl
          go_wp2
          refine bodyPost_ret (v := .tuple #[.agg #[.string t, .bool (decide (d = 1)), .int .i64 z, .slice ka ks.length kc], .int .i64 (q' : Int), .nilIface]) ?_ rfl ?_
          rotate_left
          · exact F.out
          · simp [results, Try.results37, go_sem, z0, z1, z2, z3]
    · simp only [List.length_cons, List.length_nil, Nat.zero_add, Nat.reduceAdd] at hrd hlen
      have HE := nodeI_bad (head_no HX.out hrd)
      have hB : Below w.heap.size w w3 := by rw [hw3]; exact rdg.setP_below _ _ (by intro p hp; simp at hp; rcases hp with rfl | rfl | rfl <;> simp only <;> omega) B3.out
      have hr : w3.heap[w.heap.size]? = some (.cells #[.string ⟨#[]⟩, .bool false, .int .i64 0, .slice none 0 0] 59) := by rw [hw3, rdg.setP_block _ _ _ _ (by intro p hp; simp at hp; rcases hp with rfl | rfl | rfl <;> simp only <;> omega)]; exact r3.out
      obtain ⟨z0, z1, z2, z3⟩ := cel4 hr
      have uf := unfrozen hr
      have F := mkHid (nd_no (w := w) TT v HE (below4r hB (Nat.le_refl _) (.string ⟨#[]⟩) (.bool false) (.int .i64 0) (.slice none 0 0)))
      clear hw3 HNs B3 r3 d3 c3 q3 hrd hlen HE HX hB hr sz3
      go_wp2
      refine bodyPost_ret (v := .tuple #[.agg #[.string ⟨#[]⟩, .bool false, .int .i64 0, .slice none 0 0], .int .i64 0, .iface TT v]) ?_ rfl ?_
      rotate_left
      · exact F.out
      · simp [results, Try.results37, go_sem, z0, z1, z2, z3]
end Go.Proofs.Ytmmmadehifajlaa.nod
