/-
  What impl.readNums answers and leaves, wherever the cells lie: numbers that stand one behind the other are read into cells. Conditions: a text of at most 20,000 bytes; the places that are handed in lie in another block than the cells.
  Three numbers that stand one behind the other: read at once, or with a flag. No condition.
  What impl.readNode answers and leaves. Conditions: a text of at most 20,000 bytes, a place within it.
  What impl.readNode answers and leaves: the walk. Conditions: a text of at most 20,000 bytes, a place within it.
  What impl.readCounted of nodes and impl.NodesRead answer and leave. Condition: a text of at most 1,048,576 bytes.
  What impl.NodesRead answers and leaves, with the room that the rows have. Condition: a text of at most 1,048,576 bytes.
-/
import Derived.Test.YtmmmadehifajlaaNumBk
import Derived.Test.YtmmmadehifajlaaGetR
import Derived.Test.YtmmmadehifajlaaCells
import Derived.Test.YtmmmadehifajlaaZRrA
import Derived.Test.YtmmmadehifajlaaZLawA
import Derived.Test.YtmmmadehifajlaaRdKey
import Derived.Test.YtmmmadehifajlaaZBytA
import Derived.Test.YtmmmadehifajlaaGetB
namespace Go.Proofs.Ytmmmadehifajlaa.rdg
open Go.RowKit Go.Joins
open Go.Proofs.Ytmmmadehifajlaa.base Go.Proofs.Ytmmmadehifajlaa.blk Go.Proofs.Ytmmmadehifajlaa.aid
open Go.Proofs.Ytmmmadehifajlaa.row (Rd)
open Go.Proofs.Ytmmmadehifajlaa.nbk (rdA rdA_ok rdA_err G_nat)
set_option linter.unusedVariables false

/-- these numbers lie in these cells -/
def setP (w : World) (ps : List (Nat × Nat)) (l : List Int) : World := (ps.zip l).foldl (fun (q : World) x => q.setCell ⟨x.1.1, x.1.2, none⟩ (.int .i64 x.2)) w
theorem setP_nil (w : World) (ps : List (Nat × Nat)) : setP w ps [] = w := by simp [setP]
theorem zip_snoc {α β : Type} : ∀ (ps : List α) (l : List β) (p : α) (z : β), ps[l.length]? = some p → ps.zip (l ++ [z]) = ps.zip l ++ [(p, z)]
  | [], l, p, z, h => by simp at h
  | a :: ps, [], p, z, h => by simp at h; subst h; simp
  | a :: ps, b :: l, p, z, h => by
    simp only [List.cons_append, List.zip_cons_cons]
    rw [zip_snoc ps l p z (by simpa using h)]
theorem setP_snoc (w : World) (ps : List (Nat × Nat)) (l : List Int) (p : Nat × Nat) (z : Int) (h : ps[l.length]? = some p) : setP w ps (l ++ [z]) = (setP w ps l).setCell ⟨p.1, p.2, none⟩ (.int .i64 z) := by
  unfold setP
  rw [zip_snoc ps l p z h, List.foldl_append]
  rfl
theorem fold_block : ∀ (xs : List ((Nat × Nat) × Int)) (w : World) (j : Nat), (∀ x ∈ xs, x.1.1 ≠ j) → (xs.foldl (fun (q : World) x => q.setCell ⟨x.1.1, x.1.2, none⟩ (.int .i64 x.2)) w).heap[j]? = w.heap[j]?
  | [], w, j, h => rfl
  | x :: xs, w, j, h => by
    rw [List.foldl_cons, fold_block xs _ j (fun y hy => h y (List.mem_cons_of_mem _ hy))]
    exact Below.heap_setCell _ ⟨x.1.1, x.1.2, none⟩ _ j (fun e => h x (by simp) e.symm)
theorem setP_block (w : World) (ps : List (Nat × Nat)) (l : List Int) (j : Nat) (hj : ∀ p ∈ ps, p.1 ≠ j) : (setP w ps l).heap[j]? = w.heap[j]? :=
  fold_block _ w j (fun x hx => hj x.1 (List.of_mem_zip hx).1)
theorem fold_cells : ∀ (xs : List ((Nat × Nat) × Int)) (w : World) (g : Nat) (cs : Array Value) (T : TypeId), w.heap[g]? = some (.cells cs T) → ∃ cs', (xs.foldl (fun (q : World) x => q.setCell ⟨x.1.1, x.1.2, none⟩ (.int .i64 x.2)) w).heap[g]? = some (.cells cs' T) ∧ cs'.size = cs.size
  | [], w, g, cs, T, h => ⟨cs, h, rfl⟩
  | x :: xs, w, g, cs, T, h => by
    rw [List.foldl_cons]
    by_cases e : x.1.1 = g
    · have h1 : (w.setCell ⟨x.1.1, x.1.2, none⟩ (.int .i64 x.2)).heap[g]? = some (.cells (cs.setIfInBounds x.1.2 (.int .i64 x.2)) T) := by
        rw [e]
        exact heap_setCell_same w g x.1.2 cs T _ h
      obtain ⟨cs', h2, h3⟩ := fold_cells xs _ g _ T h1
      exact ⟨cs', h2, by simpa using h3⟩
    · have h1 : (w.setCell ⟨x.1.1, x.1.2, none⟩ (.int .i64 x.2)).heap[g]? = some (.cells cs T) := (Below.heap_setCell w ⟨x.1.1, x.1.2, none⟩ _ g (fun q => e q.symm)).trans h
      exact fold_cells xs _ g cs T h1
theorem setP_cells (w : World) (ps : List (Nat × Nat)) (l : List Int) (g : Nat) (cs : Array Value) (T : TypeId) (hb : w.heap[g]? = some (.cells cs T)) : ∃ cs', (setP w ps l).heap[g]? = some (.cells cs' T) ∧ cs'.size = cs.size :=
  fold_cells _ w g cs T hb
theorem fold_below {B : Nat} {w : World} : ∀ (xs : List ((Nat × Nat) × Int)) (W : World), (∀ x ∈ xs, B ≤ x.1.1) → Below B w W → Below B w (xs.foldl (fun (q : World) x => q.setCell ⟨x.1.1, x.1.2, none⟩ (.int .i64 x.2)) W)
  | [], W, _, h => h
  | x :: xs, W, hx, h => fold_below xs _ (fun y hy => hx y (List.mem_cons_of_mem _ hy)) (h.setCell (p := ⟨x.1.1, x.1.2, none⟩) (hx x (by simp)) _)
theorem setP_below {B : Nat} {w W : World} (ps : List (Nat × Nat)) (l : List Int) (hp : ∀ p ∈ ps, B ≤ p.1) (h : Below B w W) : Below B w (setP W ps l) :=
  fold_below _ W (fun x hx => hp x.1 (List.of_mem_zip hx).1) h
/-- the places of cells -/
def ptrP (ps : List (Nat × Nat)) : List Value := ps.map (fun p => .pointer (some ⟨p.1, p.2, none⟩))
theorem ptrP_at {ps : List (Nat × Nat)} {i : Nat} {p : Nat × Nat} (h : ps[i]? = some p) : (ptrP ps)[i]? = some (.pointer (some ⟨p.1, p.2, none⟩)) := by simp [ptrP, h]
/-- what readNums answers: n numbers are read from p on -/
def NsPost (s : ByteArray) (p : Nat) (w : World) (ps : List (Nat × Nat)) (e : Ending) (w' : World) : Prop :=
  (∃ (q : Nat) (l : List Int), e = .returned (.tuple #[.int .i64 q, .nilIface]) ∧ rdA s ps.length p [] = some (l, q) ∧ l.length = ps.length ∧ q ≤ s.size ∧ w' = setP w ps l) ∨
  (∃ (T : TypeId) (v : Value) (l : List Int), e = .returned (.tuple #[.int .i64 0, .iface T v]) ∧ rdA s ps.length p [] = none ∧ l.length ≤ ps.length ∧ w' = setP w ps l)
set_option maxRecDepth 100000 in
set_option maxHeartbeats 2000000 in
theorem nums_any (s : ByteArray) (p hb n cap : Nat) (ps : List (Nat × Nat)) (w : World) (hs : s.size ≤ 20000) (hp : p ≤ s.size) (hn : n ≤ 100) (hps : ps.length = n) (hr : Rd w (some ⟨hb, 0, none⟩) (ptrP ps)) (hne : ∀ p ∈ ps, p.1 ≠ hb) (hbl : ∀ p ∈ ps, ∃ cs T, w.heap[p.1]? = some (.cells cs T) ∧ p.2 < cs.size) :
    Calls Try.prog 69 #[.string s, .int .i64 (p : Int), .slice (some ⟨hb, 0, none⟩) n cap] w (NsPost s p w ps) := by
  have HRd := mkHid (fun (p : Nat) wx (hp : (p : Int) ≤ 9223372036854775807) => num.read_any s p wx hs hp)
  have hs' : (s.size : Int) ≤ 20000 := by omega
  have hn' : (n : Int) ≤ 100 := by omega
  have HR := mkHid hr
  have HB := mkHid hbl
  have HPs := mkHid hps
  clear hr hbl hps
  go_enter Try.func69, Try.ntmps69
  go_wp2
  go_loopw [1, 13] (fun a i wr => ∃ (k p' : Nat) (l : List Int), k ≤ n ∧ i = .int .i64 k ∧ a = .int .i64 p' ∧ p' ≤ s.size ∧ Hid (l.length = k ∧ rdA s n p [] = rdA s (n - k) p' l ∧ wr = setP w ps l))
    (fun _ i _ => n - (intOf i).toNat)
  case atStart => exact ⟨0, p, [], by omega, rfl, rfl, hp, mkHid ⟨rfl, rfl, (setP_nil w ps).symm⟩⟩
  case round =>
    obtain ⟨k, p', l, hk, rfl, rfl, hp', hl⟩ := hrel
    have hpi : (p' : Int) ≤ 20000 := by omega
    by_cases hlt : k < n
    · have hki : (k : Int) < (n : Int) := by omega
      obtain ⟨⟨g, o⟩, hq0⟩ : ∃ q, ps[k]? = some q := ⟨_, List.getElem?_eq_getElem (by have := HPs.out; omega)⟩
      have hmem := List.mem_of_getElem? hq0
      obtain ⟨cs, T, hbl, hcs⟩ := HB.out _ hmem
      simp only at hbl hcs
      obtain ⟨b, off, e0, c0⟩ := HR.out k _ (ptrP_at hq0)
      have HQ := mkHid hq0
      clear hq0 hmem
      simp at e0
      obtain ⟨rfl, rfl⟩ := e0
      have g0 : wr.cell? ⟨hb, k, none⟩ = some (.pointer (some ⟨g, o, none⟩)) := by
        rw [hl.out.2.2, World.cell?_of_block (w := w) (a := ⟨hb, k, none⟩) (setP_block w ps l hb hne)]
        simpa using c0
      obtain ⟨cs', hcb, hcz⟩ := setP_cells w ps l g cs T hbl
      rw [← hl.out.2.2] at hcb
      have e1 := unfrozen hcb
      have g1 : ∃ v, wr.cell? ⟨g, o, none⟩ = some v := by
        have h1 : o < cs'.size := by omega
        rw [cell_of_block hcb]
        exact ⟨_, Array.getElem?_eq_getElem h1⟩
      obtain ⟨g1v, g1⟩ := g1
      cases hq : num.G s p' with
      | error c =>
        have hN := mkHid (show rdA s n p [] = none by rw [hl.out.2.1, show n - k = (n - k - 1) + 1 by omega, rdA_err hq])
        have HW := mkHid (show wr.setCell ⟨g, o, none⟩ (.int .i64 0) = setP w ps (l ++ [0]) by rw [setP_snoc _ _ _ (g, o) _ (by rw [hl.out.1]; exact HQ.out), ← hl.out.2.2])
        have HL := mkHid (show (l ++ [(0 : Int)]).length ≤ n by simp; have := hl.out.1; omega)
        have HRd1 := HRd.out p' wr (by omega)
        rw [hq] at HRd1
        unfold num.tup at HRd1
        have HRd1 := mkHid HRd1
        clear HRd hl hq hcb c0 HR HB hbl
        go_wp2_with fail
        refine HRd1.out.mono ?_
        rintro e w2 ⟨rfl, rfl⟩
        go_wp2
        refine bodyPost_ret (v := .tuple #[.int .i64 0, .iface 129 (.agg #[.int .i64 c])]) (by simp [results, Try.results69, go_sem]) rfl ?_
        exact .inr ⟨_, _, _, rfl, by rw [HPs.out]; exact hN.out, by rw [HPs.out]; exact HL.out, HW.out⟩
      | ok oo =>
        obtain ⟨z, q⟩ := oo
        obtain ⟨Q, rfl, hQ1, hQ2, _⟩ := G_nat hq
        have HRd1 := HRd.out p' wr (by omega)
        rw [hq] at HRd1
        unfold num.tup at HRd1
        have HRd1 := mkHid HRd1
        have N1 : Hid ((l ++ [z]).length = k + 1 ∧ rdA s n p [] = rdA s (n - (k + 1)) Q (l ++ [z]) ∧ wr.setCell ⟨g, o, none⟩ (.int .i64 z) = setP w ps (l ++ [z])) := mkHid ⟨by have := hl.out.1; simp; omega, by rw [hl.out.2.1, show n - k = (n - (k + 1)) + 1 by omega, rdA_ok hq], by rw [setP_snoc _ _ _ (g, o) _ (by rw [hl.out.1]; exact HQ.out), ← hl.out.2.2]⟩
        clear HRd hl hq hcb c0 hbl
        go_wp2_with fail
        refine HRd1.out.mono ?_
        rintro e w2 ⟨rfl, rfl⟩
        go_wp2
        go_roundw
        case rel => exact ⟨k + 1, Q, l ++ [z], by omega, by go_num, rfl, hQ2, N1⟩
        case measure => simp [intOf]; omega
    · obtain rfl : k = n := by omega
      have hN := mkHid (show rdA s k p [] = some (l, p') by rw [hl.out.2.1, Nat.sub_self]; rfl)
      have HL := mkHid hl.out.1
      have HW := mkHid hl.out.2.2
      clear hl HRd HR HB
      go_wp2
      refine bodyPost_ret (v := .tuple #[.int .i64 (p' : Int), .nilIface]) (by simp [results, Try.results69, go_sem]) rfl ?_
      exact .inl ⟨_, _, rfl, by rw [HPs.out]; exact hN.out, by rw [HPs.out]; exact HL.out, hp', HW.out⟩
end Go.Proofs.Ytmmmadehifajlaa.rdg
namespace Go.Proofs.Ytmmmadehifajlaa.rd3
open Go.RowKit Go.Joins
open Go.Proofs.Ytmmmadehifajlaa.num (G T)
open Go.Proofs.Ytmmmadehifajlaa.nbk (rdA rdA_ok rdA_err)
open Go.Proofs.Ytmmmadehifajlaa.plc (St numS numS_bad numS_yes)
set_option linter.unusedVariables false
set_option linter.unusedSimpArgs false

theorem numS_err {s : ByteArray} {a : Nat} {c : Int} (h : G s (a : Int) = .error c) : numS s (a, false) = (0, (a, true)) := by unfold plc.numS; simp only [Bool.false_eq_true, if_false, h]
/-- three numbers, one behind the other -/
theorem three_no {s : ByteArray} {p : Nat} (h : rdA s 3 p [] = none) : (numS s (numS s (numS s (p, false)).2).2).2.2 = true := by
  cases h1 : G s (p : Int) with
  | error c => rw [numS_err h1]; simp only; rw [numS_bad]; simp only; rw [numS_bad]
  | ok r =>
    obtain ⟨n1, p1⟩ := r
    obtain ⟨P1, rfl, _, e1⟩ := numS_yes s p n1 p1 h1
    rw [rdA_ok h1] at h
    rw [e1]
    simp only
    cases h2 : G s (P1 : Int) with
    | error c => rw [numS_err h2]; simp only; rw [numS_bad]
    | ok r =>
      obtain ⟨n2, p2⟩ := r
      obtain ⟨P2, rfl, _, e2⟩ := numS_yes s P1 n2 p2 h2
      rw [rdA_ok h2] at h
      rw [e2]
      simp only
      cases h3 : G s (P2 : Int) with
      | error c => rw [numS_err h3]
      | ok r =>
        obtain ⟨n3, p3⟩ := r
        obtain ⟨P3, rfl, _, e3⟩ := numS_yes s P2 n3 p3 h3
        rw [rdA_ok h3] at h
        simp [rdA] at h
theorem three_yes {s : ByteArray} {p q : Nat} {l : List Int} (h : rdA s 3 p [] = some (l, q)) : ∃ n1 n2 n3, l = [n1, n2, n3] ∧ (numS s (p, false)).1 = n1 ∧ (numS s (numS s (p, false)).2).1 = n2 ∧ numS s (numS s (numS s (p, false)).2).2 = (n3, (q, false)) := by
  cases h1 : G s (p : Int) with
  | error c => rw [rdA_err h1] at h; cases h
  | ok r =>
    obtain ⟨n1, p1⟩ := r
    obtain ⟨P1, rfl, _, e1⟩ := numS_yes s p n1 p1 h1
    rw [rdA_ok h1] at h
    rw [e1]
    simp only
    cases h2 : G s (P1 : Int) with
    | error c => rw [rdA_err h2] at h; cases h
    | ok r =>
      obtain ⟨n2, p2⟩ := r
      obtain ⟨P2, rfl, _, e2⟩ := numS_yes s P1 n2 p2 h2
      rw [rdA_ok h2] at h
      rw [e2]
      simp only
      cases h3 : G s (P2 : Int) with
      | error c => rw [rdA_err h3] at h; cases h
      | ok r =>
        obtain ⟨n3, p3⟩ := r
        obtain ⟨P3, rfl, _, e3⟩ := numS_yes s P2 n3 p3 h3
        rw [rdA_ok h3] at h
        simp [rdA] at h
        obtain ⟨rfl, rfl⟩ := h
        exact ⟨n1, n2, n3, rfl, rfl, rfl, e3⟩
end Go.Proofs.Ytmmmadehifajlaa.rd3
namespace Go.Proofs.Ytmmmadehifajlaa.nod
open Go.RowKit Go.Joins
open Go.Proofs.Ytmmmadehifajlaa.base Go.Proofs.Ytmmmadehifajlaa.blk Go.Proofs.Ytmmmadehifajlaa.aid
open Go.Proofs.Ytmmmadehifajlaa.row (Rd Own OwnV appSem app_fold)
open Go.Proofs.Ytmmmadehifajlaa.strs (tx)
open Go.Proofs.Ytmmmadehifajlaa.plc (St numS txtS bytS numS_bad txtS_bad numS_yes txtS_yes below_trans)
open Go.Proofs.Ytmmmadehifajlaa.num (G T ttup)
open Go.Proofs.Ytmmmadehifajlaa.nbk (rdA rdA_ok rdA_err)
open Go.Proofs.Ytmmmadehifajlaa.rdg (setP ptrP ptrP_at nums_any)
set_option linter.unusedVariables false
set_option linter.unusedSimpArgs false
attribute [local go_sem ↓] app_fold

theorem own_base {w : World} {T B B' size n : Nat} {v : Value} {xs : List Value} (h : w.ownsRow B T size v n xs) (hb : B' ≤ B) : w.ownsRow B' T size v n xs := by
  obtain ⟨h1, h2⟩ := h
  refine ⟨h1, ?_⟩
  rcases h2 with h2 | ⟨g, cap, cur, e, h3, h4⟩
  · exact .inl h2
  · exact .inr ⟨g, cap, cur, e, by omega, h4⟩
/-- three numbers, one behind the other, at the head of a node -/
theorem head_no {s t : ByteArray} {a P : Nat} (hT : txtS s (a, false) = (t, (P, false))) (h : rdA s 3 P [] = none) : (headS s (a, false)).2.2 = true := by
  unfold headS
  rw [hT]
  exact rd3.three_no h
theorem head_yes {s t : ByteArray} {a P q : Nat} {d z m : Int} (hT : txtS s (a, false) = (t, (P, false))) (h : rdA s 3 P [] = some ([d, z, m], q)) : headS s (a, false) = ((t, d, z, m), (q, false)) := by
  obtain ⟨n1, n2, n3, e0, e1, e2, e3⟩ := rd3.three_yes h
  simp at e0
  obtain ⟨rfl, rfl, rfl⟩ := e0
  unfold headS
  rw [hT]
  simp only
  rw [e3, e1, e2]
theorem head_text {s : ByteArray} {a : Nat} {c : Int} (hT : T s (a : Int) = .error c) : (headS s (a, false)).2.2 = true := by
  have e : txtS s (a, false) = (⟨#[]⟩, (a, true)) := by unfold plc.txtS; simp only [Bool.false_eq_true, if_false, hT]
  unfold headS
  rw [e]
  simp only
  rw [numS_bad]
  simp only
  rw [numS_bad]
  simp only
  rw [numS_bad]
theorem nodeI_bad {s : ByteArray} {a : Nat} (h : (headS s (a, false)).2.2 = true) : (nodeI s (a, false)).2.2 = true := by
  unfold nodeI keysH
  cases hh : headS s (a, false) with
  | mk r st =>
    obtain ⟨q, f⟩ := st
    rw [hh] at h
    simp only at h
    subst h
    simp only [Bool.true_or]
    rw [keysS_bad]
theorem nodeI_is {s t : ByteArray} {a P : Nat} {d z m : Int} (h : headS s (a, false) = ((t, d, z, m), (P, false))) : nodeI s (a, false) = ((t, decide (d = 1), z, (keysS s m.toNat (P, false) []).1), (keysS s m.toNat (P, false) []).2) := by
  unfold nodeI keysH
  rw [h]
  simp only [Bool.or_false]
def zN : Obj := .cells #[.string ⟨#[]⟩, .bool false, .int .i64 0, .slice none 0 0] 59
/-- what readNode answers and leaves -/
def NdPost (s : ByteArray) (a : Nat) (w : World) (e : Ending) (w' : World) : Prop :=
  ((∃ (x0 : ByteArray) (x1 : Bool) (x2 : Int) (ka : Option Addr) (kc : Nat) (ks : Tx) (q : Nat), nodeI s (a, false) = ((x0, x1, x2, ks), (q, false)) ∧ e = .returned (.tuple #[.agg #[.string x0, .bool x1, .int .i64 x2, .slice ka ks.length kc], .int .i64 (q : Int), .nilIface]) ∧ w'.ownsRow w.heap.size 9 1 (.slice ka ks.length kc) ks.length (tx ks)) ∨
   ((nodeI s (a, false)).2.2 = true ∧ ∃ T v, e = .returned (.tuple #[.agg #[.string ⟨#[]⟩, .bool false, .int .i64 0, .slice none 0 0], .int .i64 0, .iface T v]))) ∧ Below w.heap.size w w'
theorem nd_no {s : ByteArray} {a : Nat} {w w' : World} (T : TypeId) (v : Value) (h : (nodeI s (a, false)).2.2 = true) (hb : Below w.heap.size w w') : NdPost s a w (.returned (.tuple #[.agg #[.string ⟨#[]⟩, .bool false, .int .i64 0, .slice none 0 0], .int .i64 0, .iface T v])) w' := ⟨.inr ⟨h, T, v, rfl⟩, hb⟩
theorem below4r {w w1 : World} {g : Nat} (hb : Below w.heap.size w w1) (hg : w.heap.size ≤ g) (x0 x1 x2 x3 : Value) : Below w.heap.size w ((((w1.setCell ⟨g, 0, none⟩ x0).setCell ⟨g, 1, none⟩ x1).setCell ⟨g, 2, none⟩ x2).setCell ⟨g, 3, none⟩ x3) :=
  (((hb.setCell (p := ⟨g, 0, none⟩) hg x0).setCell (p := ⟨g, 1, none⟩) hg x1).setCell (p := ⟨g, 2, none⟩) hg x2).setCell (p := ⟨g, 3, none⟩) hg x3
theorem grew4 (w : World) (X : Nat) (x0 x1 x2 x3 : Value) : w.grownBy ((((w.setCell ⟨X, 0, none⟩ x0).setCell ⟨X, 1, none⟩ x1).setCell ⟨X, 2, none⟩ x2).setCell ⟨X, 3, none⟩ x3) (some X) :=
  grew_grew (grew_grew (grew_grew (grew_cell w X 0 x0) (grew_cell _ X 1 x1)) (grew_cell _ X 2 x2)) (grew_cell _ X 3 x3)
/-- what holds while keys are read -/
structure Ri (w : World) (Q B : Nat) (x0 : ByteArray) (x1 : Bool) (x2 : Int) (ka : Option Addr) (ks : Tx) (kc : Nat) (W : World) : Prop where
  below : Below w.heap.size w W
  r : W.heap[w.heap.size]? = some (.cells #[.string ⟨#[]⟩, .bool false, .int .i64 0, .slice none 0 0] 59)
  q : W.heap[Q]? = some (.cells #[.string x0, .bool x1, .int .i64 x2, .slice ka ks.length kc] 59)
  krow : W.ownsRow B 9 1 (.slice ka ks.length kc) ks.length (tx ks)
  lt : w.heap.size < Q ∧ Q < B ∧ B ≤ W.heap.size
variable {w W W' : World} {Q B : Nat} {x0 : ByteArray} {x1 : Bool} {x2 : Int} {ka : Option Addr} {ks : Tx} {kc : Nat}
theorem Ri.next (h : Ri w Q B x0 x1 x2 ka ks kc W) (hb : Below W.heap.size W W') : Ri w Q B x0 x1 x2 ka ks kc W' :=
  ⟨below_trans h.below hb, blk_below h.r hb, blk_below h.q hb, row_keep h.krow (below_grew hb none) (fun _ _ e => by cases e), h.lt.1, h.lt.2.1, Nat.le_trans h.lt.2.2 hb.size⟩
theorem Ri.app (h : Ri w Q B x0 x1 x2 ka ks kc W) (t : ByteArray) (hl : ks.length ≤ 1048576) :
    ∃ g' c' w2, (appSem #[57, 57] 57 #[.slice ka ks.length kc, .slice (some ⟨W.heap.size, 0, none⟩) 1 1]).run Try.prog (W.alloc (.cells #[.string t] 9)) = .ok (.slice (some ⟨g', 0, none⟩) (ks.length + 1) c') w2 ∧ w2.heap[Q]? = some (.cells #[.string x0, .bool x1, .int .i64 x2, .slice ka ks.length kc] 59) ∧ Ri w Q B x0 x1 x2 (some ⟨g', 0, none⟩) (ks ++ [t]) c' (w2.setCell ⟨Q, 3, none⟩ (.slice (some ⟨g', 0, none⟩) (ks.length + 1) c')) := by
  obtain ⟨l1, l2, l3⟩ := h.lt
  obtain ⟨g', c', w2, happ, hown, hg⟩ := appK W B (.slice ka ks.length kc) ks.length ks t rfl h.krow l3 hl
  have hlen : (ks ++ [t]).length = ks.length + 1 := by simp
  have hoff : ∀ X, X < B → some X ≠ (Value.slice ka ks.length kc).ownBlock := fun X hX e => by have := (h.krow.lt X e.symm).1; omega
  have hv2 : w2.heap[Q]? = some (.cells #[.string x0, .bool x1, .int .i64 x2, .slice ka ks.length kc] 59) := (hg.block Q (by simp; omega) (hoff Q l2)).trans (blk_old h.q _)
  have hr2 := (hg.block w.heap.size (by simp; omega) (hoff _ (by omega))).trans (blk_old h.r (.cells #[.string t] 9))
  have hb2 := (h.below.alloc h.below.size (.cells #[.string t] 9)).grown hg (h.below.alloc h.below.size (.cells #[.string t] 9)).size (fun j hj => by have := (h.krow.lt j hj).1; omega)
  refine ⟨g', c', w2, happ, hv2, hb2.setCell (p := ⟨Q, 3, none⟩) (by show w.heap.size ≤ Q; omega) _, blk_set hr2 _ _ (by show w.heap.size ≠ Q; omega), ?_, ?_, l1, l2, ?_⟩
  · rw [heap_setCell_same w2 Q 3 _ _ _ hv2, hlen]
    rfl
  · rw [hlen]
    exact row_keep hown (grew_cell w2 Q 3 _) (fun g hgg e => by
      have := (hown.lt g hgg).1
      simp at e
      omega)
  · have := hg.size
    simp at this ⊢
    omega
theorem Ri.fin (h : Ri w Q B x0 x1 x2 ka ks kc W) {s : ByteArray} {a q : Nat} (hn : nodeI s (a, false) = ((x0, x1, x2, ks), (q, false))) : NdPost s a w (.returned (.tuple #[.agg #[.string x0, .bool x1, .int .i64 x2, .slice ka ks.length kc], .int .i64 (q : Int), .nilIface])) ((((W.setCell ⟨w.heap.size, 0, none⟩ (.string x0)).setCell ⟨w.heap.size, 1, none⟩ (.bool x1)).setCell ⟨w.heap.size, 2, none⟩ (.int .i64 x2)).setCell ⟨w.heap.size, 3, none⟩ (.slice ka ks.length kc)) := by
  obtain ⟨l1, l2, l3⟩ := h.lt
  refine ⟨.inl ⟨x0, x1, x2, ka, kc, ks, q, hn, rfl, own_base (row_keep h.krow (grew4 W w.heap.size _ _ _ _) (fun g hg e => ?_)) (by omega)⟩, below4r h.below (Nat.le_refl _) _ _ _ _⟩
  have := (h.krow.lt g hg).1
  simp at e
  omega
theorem Ri.no (h : Ri w Q B x0 x1 x2 ka ks kc W) {s : ByteArray} {a : Nat} (T : TypeId) (v : Value) (hn : (nodeI s (a, false)).2.2 = true) : NdPost s a w (.returned (.tuple #[.agg #[.string ⟨#[]⟩, .bool false, .int .i64 0, .slice none 0 0], .int .i64 0, .iface T v])) ((((W.setCell ⟨w.heap.size, 0, none⟩ (.string ⟨#[]⟩)).setCell ⟨w.heap.size, 1, none⟩ (.bool false)).setCell ⟨w.heap.size, 2, none⟩ (.int .i64 0)).setCell ⟨w.heap.size, 3, none⟩ (.slice none 0 0)) :=
  nd_no T v hn (below4r h.below (Nat.le_refl _) _ _ _ _)
theorem ptr_rd3 {w : World} {hb : Nat} {ps : List (Nat × Nat)} {a b c : Nat × Nat} (hps : ps = [a, b, c]) (h : w.heap[hb]? = some (.cells #[.pointer (some ⟨a.1, a.2, none⟩), .pointer (some ⟨b.1, b.2, none⟩), .pointer (some ⟨c.1, c.2, none⟩)] 105)) : Rd w (some ⟨hb, 0, none⟩) (ptrP ps) := by
  subst hps
  intro i u hi
  refine ⟨hb, 0, rfl, ?_⟩
  have h1 := cel3 h
  have hlt : i < 3 := by have := (List.getElem?_eq_some_iff.1 hi).1; simpa [rdg.ptrP] using this
  rcases (show i = 0 ∨ i = 1 ∨ i = 2 by omega) with rfl | rfl | rfl
  · simp [rdg.ptrP] at hi
    subst hi
    exact h1.1
  · simp [rdg.ptrP] at hi
    subst hi
    exact h1.2.1
  · simp [rdg.ptrP] at hi
    subst hi
    exact h1.2.2
theorem setP3 (w : World) (a b c : Nat × Nat) (x y z : Int) : setP w [a, b, c] [x, y, z] = ((w.setCell ⟨a.1, a.2, none⟩ (.int .i64 x)).setCell ⟨b.1, b.2, none⟩ (.int .i64 y)).setCell ⟨c.1, c.2, none⟩ (.int .i64 z) := rfl
end Go.Proofs.Ytmmmadehifajlaa.nod
namespace Go.Proofs.Ytmmmadehifajlaa.nod
open Go.RowKit Go.Joins
open Go.Proofs.Ytmmmadehifajlaa.base Go.Proofs.Ytmmmadehifajlaa.blk Go.Proofs.Ytmmmadehifajlaa.aid
open Go.Proofs.Ytmmmadehifajlaa.row (Rd Own OwnV appSem app_fold)
open Go.Proofs.Ytmmmadehifajlaa.strs (tx)
open Go.Proofs.Ytmmmadehifajlaa.plc (St numS txtS bytS numS_bad txtS_bad numS_yes txtS_yes below_trans)
open Go.Proofs.Ytmmmadehifajlaa.num (G T ttup)
open Go.Proofs.Ytmmmadehifajlaa.nbk (rdA rdA_ok rdA_err)
open Go.Proofs.Ytmmmadehifajlaa.rdg (setP ptrP ptrP_at nums_any)
set_option linter.unusedVariables false
set_option linter.unusedSimpArgs false
attribute [local go_sem ↓] app_fold

theorem bytS_short {s : ByteArray} {a : Nat} (h : s.size < a + 32) : bytS s (a, false) = (⟨#[]⟩, (a, true)) := by unfold plc.bytS; rw [if_pos (.inr h)]
theorem bytS_long {s : ByteArray} {a : Nat} (h : ¬ s.size < a + 32) : bytS s (a, false) = (s.extract a (a + 32), (a + 32, false)) := by unfold plc.bytS; rw [if_neg (by simp; omega)]
/-- what stands in memory at the start -/
structure Rs (w W : World) : Prop where
  below : Below w.heap.size w W
  r : W.heap[w.heap.size]? = some (.cells #[.string ⟨#[]⟩, .bool false, .int .i64 0, .slice none 0 0] 59)
  q : W.heap[w.heap.size + 1]? = some (.cells #[.string ⟨#[]⟩, .bool false, .int .i64 0, .slice none 0 0] 59)
  d : W.heap[w.heap.size + 1 + 1]? = some (.cells #[.int .i64 0] 2)
  c : W.heap[w.heap.size + 1 + 1 + 1]? = some (.cells #[.int .i64 0] 2)
theorem Rs.next {w W W' : World} (h : Rs w W) (hb : Below W.heap.size W W') : Rs w W' := ⟨below_trans h.below hb, blk_below h.r hb, blk_below h.q hb, blk_below h.d hb, blk_below h.c hb⟩
set_option maxRecDepth 100000 in
set_option maxHeartbeats 8000000 in
theorem readNode_any (s : ByteArray) (a : Nat) (w : World) (hs : s.size ≤ 20000) (ha : a ≤ s.size) :
    Calls Try.prog 37 #[.string s, .int .i64 (a : Int)] w (NdPost s a w) := by
  have hsi : (s.size : Int) ≤ 20000 := by omega
  have hai : (a : Int) ≤ 20000 := by omega
  have S0 : Hid (Rs w ((((w.alloc (.cells #[.string ⟨#[]⟩, .bool false, .int .i64 0, .slice none 0 0] 59)).alloc (.cells #[.string ⟨#[]⟩, .bool false, .int .i64 0, .slice none 0 0] 59)).alloc (.cells #[.int .i64 0] 2)).alloc (.cells #[.int .i64 0] 2))) := mkHid (by
    refine ⟨(((below_alloc1 w _).alloc (by simp) _).alloc (by simp; omega) _).alloc (by simp; omega) _, ?_, ?_, ?_, ?_⟩
    · exact blk_old (blk_old (blk_old (blk_new w _ _ rfl) _) _) _
    · exact blk_old (blk_old (blk_new _ _ _ (by simp)) _) _
    · exact blk_old (blk_new _ _ _ (by simp)) _
    · exact blk_new _ _ _ (by simp))
  have HT := mkHid (fun wx => num.rtext_any s (a : Int) wx (by omega) (by omega) (by omega))
  cases hT : T s (a : Int) with
  | error c =>
    rw [hT] at HT
    have HE := mkHid (nodeI_bad (head_text hT))
    clear hT
    go_enter Try.func37, Try.ntmps37
    go_wp2_with fail
    generalize (((w.alloc (.cells #[.string ⟨#[]⟩, .bool false, .int .i64 0, .slice none 0 0] 59)).alloc (.cells #[.string ⟨#[]⟩, .bool false, .int .i64 0, .slice none 0 0] 59)).alloc (.cells #[.int .i64 0] 2)).alloc (.cells #[.int .i64 0] 2) = W0 at *
    refine (HT.out _).mono ?_
    rintro e w1 ⟨rfl, hb⟩
    have S1 := mkHid (S0.out.next hb)
    obtain ⟨y0, y1, y2, y3⟩ := cel4 S1.out.q
    have uy := unfrozen S1.out.q
    have r1 := blk_set S1.out.r ⟨w.heap.size + 1, 0, none⟩ (.string ⟨#[]⟩) (by simp)
    obtain ⟨z0, z1, z2, z3⟩ := cel4 r1
    have uf := unfrozen r1
    have F := mkHid (nd_no (w := w) 129 (.agg #[.int .i64 c]) HE.out (below4r (S1.out.below.setCell (p := ⟨w.heap.size + 1, 0, none⟩) (by simp) (.string ⟨#[]⟩)) (Nat.le_refl _) (.string ⟨#[]⟩) (.bool false) (.int .i64 0) (.slice none 0 0)))
    clear hb S0 S1 HE HT r1
    unfold ttup
    go_wp2
    refine bodyPost_ret (v := .tuple #[.agg #[.string ⟨#[]⟩, .bool false, .int .i64 0, .slice none 0 0], .int .i64 0, .iface 129 (.agg #[.int .i64 c])]) ?_ rfl ?_
    rotate_left
    · exact F.out
    · simp [results, Try.results37, go_sem, z0, z1, z2, z3]
  | ok r =>
    obtain ⟨t, p⟩ := r
    obtain ⟨P, rfl, hP, hTx⟩ := txtS_yes s a t p hT
    rw [hT] at HT
    have hPi : (P : Int) ≤ 20000 := by omega
    have HX := mkHid hTx
    clear hT hTx
    go_enter Try.func37, Try.ntmps37
    go_wp2_with fail
    generalize (((w.alloc (.cells #[.string ⟨#[]⟩, .bool false, .int .i64 0, .slice none 0 0] 59)).alloc (.cells #[.string ⟨#[]⟩, .bool false, .int .i64 0, .slice none 0 0] 59)).alloc (.cells #[.int .i64 0] 2)).alloc (.cells #[.int .i64 0] 2) = W0 at *
    refine (HT.out _).mono ?_
    rintro e w1 ⟨rfl, hb⟩
    have S1 := S0.out.next hb
    have s1r := mkHid S1.r
    have s1q := mkHid S1.q
    have s1d := mkHid S1.d
    have s1c := mkHid S1.c
    have s1b := mkHid S1.below
    have hC1 : w.heap.size + 1 + 1 + 1 < w1.heap.size := (Array.getElem?_eq_some_iff.1 S1.c).1
    clear S0 S1 hb HT
    have hRQ : w.heap.size < w.heap.size + 1 := by omega
    generalize hQ : w.heap.size + 1 = Q at *
    have hQD : Q < Q + 1 := by omega
    generalize hD : Q + 1 = D at *
    have hDC : D < D + 1 := by omega
    generalize hC : D + 1 = C at *
    have B2 := mkHid (s1b.out.setCell (p := ⟨Q, 0, none⟩) (by show w.heap.size ≤ Q; omega) (.string t))
    have r2 := mkHid (blk_set s1r.out ⟨Q, 0, none⟩ (.string t) (by show w.heap.size ≠ Q; omega))
    have d2 := mkHid (blk_set s1d.out ⟨Q, 0, none⟩ (.string t) (by show D ≠ Q; omega))
    have c2 := mkHid (blk_set s1c.out ⟨Q, 0, none⟩ (.string t) (by show C ≠ Q; omega))
    have q2 : Hid ((w1.setCell ⟨Q, 0, none⟩ (.string t)).heap[Q]? = some (.cells #[.string t, .bool false, .int .i64 0, .slice none 0 0] 59)) := mkHid (by have h := heap_setCell_same w1 Q 0 _ _ (.string t) s1q.out; simpa using h)
    have sz2 : (w1.setCell ⟨Q, 0, none⟩ (.string t)).heap.size = w1.heap.size := by simp
    obtain ⟨y0, y1, y2, y3⟩ := cel4 s1q.out
    have uy := unfrozen s1q.out
    have HNs := mkHid (nums_any s P w1.heap.size 3 3 [(D, 0), (Q, 2), (C, 0)] ((w1.setCell ⟨Q, 0, none⟩ (.string t)).alloc (.cells #[.pointer (some ⟨D, 0, none⟩), .pointer (some ⟨Q, 2, none⟩), .pointer (some ⟨C, 0, none⟩)] 105)) hs hP (by omega) rfl (ptr_rd3 (a := (D, 0)) (b := (Q, 2)) (c := (C, 0)) rfl (blk_new (w1.setCell ⟨Q, 0, none⟩ (.string t)) _ w1.heap.size sz2.symm)) (by intro p hp; simp at hp; rcases hp with rfl | rfl | rfl <;> simp only <;> omega) (by
      intro p hp
      simp at hp
      rcases hp with rfl | rfl | rfl
      · exact ⟨_, _, blk_old d2.out _, by simp⟩
      · exact ⟨_, _, blk_old q2.out _, by simp⟩
      · exact ⟨_, _, blk_old c2.out _, by simp⟩))
    clear s1r s1q s1d s1c s1b hQ hD hC
    unfold ttup
    go_wp2_with fail
    clear y0 y1 y2 y3 uy
    have B3 := mkHid (B2.out.alloc B2.out.size (.cells #[.pointer (some ⟨D, 0, none⟩), .pointer (some ⟨Q, 2, none⟩), .pointer (some ⟨C, 0, none⟩)] 105))
    have r3 := mkHid (blk_old r2.out (.cells #[.pointer (some ⟨D, 0, none⟩), .pointer (some ⟨Q, 2, none⟩), .pointer (some ⟨C, 0, none⟩)] 105))
    have d3 := mkHid (blk_old d2.out (.cells #[.pointer (some ⟨D, 0, none⟩), .pointer (some ⟨Q, 2, none⟩), .pointer (some ⟨C, 0, none⟩)] 105))
    have c3 := mkHid (blk_old c2.out (.cells #[.pointer (some ⟨D, 0, none⟩), .pointer (some ⟨Q, 2, none⟩), .pointer (some ⟨C, 0, none⟩)] 105))
    have q3 := mkHid (blk_old q2.out (.cells #[.pointer (some ⟨D, 0, none⟩), .pointer (some ⟨Q, 2, none⟩), .pointer (some ⟨C, 0, none⟩)] 105))
    have sz3 : C < ((w1.setCell ⟨Q, 0, none⟩ (.string t)).alloc (.cells #[.pointer (some ⟨D, 0, none⟩), .pointer (some ⟨Q, 2, none⟩), .pointer (some ⟨C, 0, none⟩)] 105)).heap.size := by simp; omega
    clear B2 r2 d2 c2 q2 sz2
    generalize (w1.setCell ⟨Q, 0, none⟩ (.string t)).alloc (.cells #[.pointer (some ⟨D, 0, none⟩), .pointer (some ⟨Q, 2, none⟩), .pointer (some ⟨C, 0, none⟩)] 105) = W3 at *
    refine HNs.out.mono ?_
    rintro e w3 (⟨q, l, rfl, hrd, hlen, hq, hw3⟩ | ⟨TT, v, l, rfl, hrd, hlen, hw3⟩)
    · simp only [List.length_cons, List.length_nil, Nat.zero_add, Nat.reduceAdd] at hrd hlen
      obtain ⟨d, z, m, rfl, _⟩ := rd3.three_yes hrd
      have hh := head_yes HX.out hrd
      have hn := nodeI_is hh
      have hB : Below w.heap.size w w3 := by rw [hw3]; exact rdg.setP_below _ _ (by intro p hp; simp at hp; rcases hp with rfl | rfl | rfl <;> simp only <;> omega) B3.out
      have hr : w3.heap[w.heap.size]? = some (.cells #[.string ⟨#[]⟩, .bool false, .int .i64 0, .slice none 0 0] 59) := by rw [hw3, rdg.setP_block _ _ _ _ (by intro p hp; simp at hp; rcases hp with rfl | rfl | rfl <;> simp only <;> omega)]; exact r3.out
      have hqq : w3.heap[Q]? = some (.cells #[.string t, .bool false, .int .i64 z, .slice none 0 0] 59) := by
        rw [hw3, setP3]
        have h1 := heap_setCell_same _ Q 2 _ _ (.int .i64 z) (blk_set q3.out ⟨D, 0, none⟩ (.int .i64 d) (by show Q ≠ D; omega))
        have h2 := blk_set h1 ⟨C, 0, none⟩ (.int .i64 m) (by show Q ≠ C; omega)
        simpa using h2
      have hdd : w3.heap[D]? = some (.cells #[.int .i64 d] 2) := by
        rw [hw3, setP3]
        have h1 := heap_setCell_same _ D 0 _ _ (.int .i64 d) d3.out
        have h2 := blk_set (blk_set h1 ⟨Q, 2, none⟩ (.int .i64 z) (by show D ≠ Q; omega)) ⟨C, 0, none⟩ (.int .i64 m) (by show D ≠ C; omega)
        simpa using h2
      have hcc : w3.heap[C]? = some (.cells #[.int .i64 m] 2) := by
        rw [hw3, setP3]
        have h1 := heap_setCell_same _ C 0 _ _ (.int .i64 m) (blk_set (blk_set c3.out ⟨D, 0, none⟩ (.int .i64 d) (by show C ≠ D; omega)) ⟨Q, 2, none⟩ (.int .i64 z) (by show C ≠ Q; omega))
        simpa using h1
      have hsz3 : C < w3.heap.size := (Array.getElem?_eq_some_iff.1 hcc).1
      have hm : m = m := rfl
      clear hw3 HNs B3 r3 d3 c3 q3 hrd hlen hh HX
      have e0 := cel1 hdd
      obtain ⟨y0, y1, y2, y3⟩ := cel4 hqq
      have uy := unfrozen hqq
      have hcc4 := blk_set hcc ⟨Q, 1, none⟩ (.bool (decide (d = 1))) (by show C ≠ Q; omega)
      have f0 := cel1 hcc4
      have f1 := cel1 hcc
      have hCQ : ¬ C = Q := by omega
      have hQC : ¬ Q = C := by omega
      have T0 : Hid (Ri w Q (C + 1) t (decide (d = 1)) z none [] 0 (w3.setCell ⟨Q, 1, none⟩ (.bool (decide (d = 1))))) := mkHid ⟨hB.setCell (p := ⟨Q, 1, none⟩) (by show w.heap.size ≤ Q; omega) _, blk_set hr _ _ (by show w.heap.size ≠ Q; omega), by have h := heap_setCell_same w3 Q 1 _ _ (.bool (decide (d = 1))) hqq; simpa using h, World.ownsRow_nil _ _ _ _, hRQ, by omega, by simp; omega⟩
      have HN := mkHid hn
      clear hcc hdd hqq hr hB hn hcc4 sz3
      go_wp2_with fail
      clear e0 f0 f1 y0 y1 y2 y3 uy
      generalize w3.setCell ⟨Q, 1, none⟩ (.bool (decide (d = 1))) = W4 at *
      have hqi : (q : Int) ≤ 20000 := by omega
      go_loopw [1, 10, 11, 40] (fun av ev kv i wr => ∃ (k q' : Nat) (ks : Tx) (ka : Option Addr) (kc : Nat), i = .int .i64 k ∧ av = .int .i64 q' ∧ q' ≤ s.size ∧ ks.length = k ∧ (k : Int) ≤ max m 0 ∧ 32 * k ≤ q' ∧ Hid (keysS s m.toNat (q, false) [] = keysS s (m.toNat - k) (q', false) ks) ∧ Hid (Ri w Q (C + 1) t (decide (d = 1)) z ka ks kc wr))
        (fun _ _ _ i _ => m.toNat - (intOf i).toNat)
      case atStart => exact ⟨0, q, [], none, 0, rfl, rfl, hq, rfl, by omega, by omega, mkHid rfl, T0⟩
      case round =>
        clear T0
        obtain ⟨k, q', ks, ka, kc, rfl, rfl, hq', hkl, hkm, hfar, HK, S⟩ := hrel
        have hqi' : (q' : Int) ≤ 20000 := by omega
        have hki : (k : Int) ≤ 1000 := by omega
        by_cases hlt : (k : Int) < m
        · obtain ⟨n, hn⟩ : ∃ n, m.toNat - k = n + 1 := ⟨m.toNat - k - 1, by omega⟩
          have hst := HK.out
          rw [hn, keysS_step] at hst
          by_cases hsh : s.size < q' + 32
          · have HKy := mkHid (rdk.key_no s q' wr hs hq' hsh)
            have HE : Hid ((nodeI s (a, false)).2.2 = true) := mkHid (by
              rw [HN.out]
              show (keysS s m.toNat (q, false) []).2.2 = true
              rw [hst, bytS_short hsh]
              rw [keysS_bad])
            obtain ⟨z0, z1, z2, z3⟩ := cel4 S.out.r
            have uf := unfrozen S.out.r
            have F := mkHid (S.out.no 129 (.agg #[.int .i64 4]) HE.out)
            clear S HK HE hst hkl hkm hfar
            go_wp2_with fail
            refine HKy.out.mono ?_
            rintro e w5 ⟨rfl, rfl⟩
            clear HKy
            go_wp2
            refine bodyPost_ret (v := .tuple #[.agg #[.string ⟨#[]⟩, .bool false, .int .i64 0, .slice none 0 0], .int .i64 0, .iface 129 (.agg #[.int .i64 4])]) ?_ rfl ?_
            rotate_left
            · exact F.out
            · simp [results, Try.results37, go_sem, z0, z1, z2, z3]
          · have HKy := mkHid (rdk.key_yes s q' wr hs (by omega))
            rw [bytS_long hsh] at hst
            have HK2 : Hid (keysS s m.toNat (q, false) [] = keysS s (m.toNat - (k + 1)) (q' + 32, false) (ks ++ [s.extract q' (q' + 32)])) := mkHid (by
              rw [hst]
              have e : m.toNat - (k + 1) = n := by omega
              rw [e])
            generalize s.extract q' (q' + 32) = key at *
            clear hst HK
            go_wp2_with fail
            refine HKy.out.mono ?_
            rintro e w5 ⟨rfl, hb⟩
            have S2 := mkHid (S.out.next hb)
            obtain ⟨g', c', w8, happ, hvar, hZ⟩ := S2.out.app key (by omega)
            have S3 := mkHid hZ
            obtain ⟨y0, y1, y2, y3⟩ := cel4 S2.out.q
            obtain ⟨m0, m1, m2, m3⟩ := cel4 hvar
            have uf := unfrozen hvar
            have hl3 : (ks ++ [key]).length = k + 1 := by simp [hkl]
            clear hb S S2 hZ hvar HKy
            subst hkl
            go_wp2
            exact ⟨⟨ks.length + 1, q' + 32, ks ++ [key], some ⟨g', 0, none⟩, c', by go_num, by go_num, by omega, hl3, by omega, by omega, HK2, S3⟩, by simp [intOf]; omega⟩
        · have e0 : m.toNat - k = 0 := by omega
          have hst := HK.out
          rw [e0] at hst
          have hfin : nodeI s (a, false) = ((t, (decide (d = 1)), z, ks), (q', false)) := by
            rw [HN.out, hst]
            rfl
          obtain ⟨y0, y1, y2, y3⟩ := cel4 S.out.q
          obtain ⟨z0, z1, z2, z3⟩ := cel4 S.out.r
          have uf := unfrozen S.out.r
          have F := mkHid (S.out.fin hfin)
          have hm' : m ≤ (k : Int) := by omega
          clear S HK hst hfin HN
          subst hkl
          go_wp2
          refine bodyPost_ret (v := .tuple #[.agg #[.string t, .bool (decide (d = 1)), .int .i64 z, .slice ka ks.length kc], .int .i64 (q' : Int), .nilIface]) ?_ rfl ?_
          rotate_left
          · exact F.out
          · simp [results, Try.results37, go_sem, z0, z1, z2, z3]
    · simp only [List.length_cons, List.length_nil, Nat.zero_add, Nat.reduceAdd] at hrd hlen
      have HE := nodeI_bad (head_no HX.out hrd)
      have hB : Below w.heap.size w w3 := by rw [hw3]; exact rdg.setP_below _ _ (by intro p hp; simp at hp; rcases hp with rfl | rfl | rfl <;> simp only <;> omega) B3.out
      have hr : w3.heap[w.heap.size]? = some (.cells #[.string ⟨#[]⟩, .bool false, .int .i64 0, .slice none 0 0] 59) := by rw [hw3, rdg.setP_block _ _ _ _ (by intro p hp; simp at hp; rcases hp with rfl | rfl | rfl <;> simp only <;> omega)]; exact r3.out
      obtain ⟨z0, z1, z2, z3⟩ := cel4 hr
      have uf := unfrozen hr
      have F := mkHid (nd_no (w := w) TT v HE (below4r hB (Nat.le_refl _) (.string ⟨#[]⟩) (.bool false) (.int .i64 0) (.slice none 0 0)))
      clear hw3 HNs B3 r3 d3 c3 q3 hrd hlen HE HX hB hr sz3
      go_wp2
      refine bodyPost_ret (v := .tuple #[.agg #[.string ⟨#[]⟩, .bool false, .int .i64 0, .slice none 0 0], .int .i64 0, .iface TT v]) ?_ rfl ?_
      rotate_left
      · exact F.out
      · simp [results, Try.results37, go_sem, z0, z1, z2, z3]
end Go.Proofs.Ytmmmadehifajlaa.nod
namespace Go.Proofs.Ytmmmadehifajlaa.nod
open Go.RowKit Go.Joins
open Go.Proofs.Ytmmmadehifajlaa.base Go.Proofs.Ytmmmadehifajlaa.blk Go.Proofs.Ytmmmadehifajlaa.aid
open Go.Proofs.Ytmmmadehifajlaa.row (Rd Own OwnV appSem app_fold)
open Go.Proofs.Ytmmmadehifajlaa.strs (tx)
open Go.Proofs.Ytmmmadehifajlaa.mem (Mem Mine Off)
open Go.Proofs.Ytmmmadehifajlaa.plc (below_trans)
open Go.Proofs.Ytmmmadehifajlaa.num (G tup)
set_option linter.unusedVariables false
set_option linter.unusedSimpArgs false
attribute [local go_sem ↓] app_fold

/-- so many nodes, one behind the other -/
def rcN (s : ByteArray) : Option (List Vn) :=
  match G s 0 with
  | .error _ => none
  | .ok (n, p) => if (runI s n.toNat (p.toNat, false) []).2.2 = true then none else some (runI s n.toNat (p.toNat, false) []).1
theorem implR_is (s : ByteArray) : implR s = match rcN s with | none => none | some l => if bytesN l = s then some l else none := by
  unfold implR rcN
  cases G s 0 with
  | error c => rfl
  | ok r =>
    obtain ⟨n, p⟩ := r
    simp only
    by_cases h : (runI s n.toNat (p.toNat, false) []).2.2 = true
    · simp [h]
    · simp [h]
/-- what readCounted answers and leaves -/
def RcPost (s : ByteArray) (w : World) (e : Ending) (w' : World) : Prop :=
  (∃ T v, e = .returned (.tuple #[.slice none 0 0, .iface T v]) ∧ rcN s = none ∧ Below w.heap.size w w') ∨
   (∃ (a : Option Addr) (c : Nat) (ds : List Nd), e = .returned (.tuple #[.slice a ds.length c, .nilIface]) ∧ rcN s = some (ds.map val) ∧ ds.length ≤ 1048576 ∧ SmallN ds ∧ CapN ds ∧ Mem w [] [] (⟨59, a, ncs ds⟩ :: mines ds) w')
/-- what holds on the way -/
structure Rj (w : World) (s : ByteArray) (N P at_ : Nat) (acc : List Nd) (a : Option Addr) (c : Nat) (W : World) : Prop where
  run : runI s N (P, false) [] = runI s (N - acc.length) (at_, false) (acc.map val)
  le : acc.length ≤ N
  far : 3 * acc.length ≤ at_
  in_ : at_ ≤ s.size
  cap : CapN acc
  rn : Rn w [] acc a c w.heap.size W
theorem ds_of {acc : List Nd} {m : List Vn} (h : acc.map val = m) {P : Vn → Prop} (hp : ∀ v ∈ m, P v) : ∀ d ∈ acc, P (val d) := fun d hd => hp _ (by rw [← h]; exact List.mem_map_of_mem hd)
set_option maxRecDepth 100000 in
set_option maxHeartbeats 8000000 in
theorem rcN_any (s : ByteArray) (w : World) (hs : s.size ≤ 20000) :
    Calls Try.prog 36 #[.string s, .func (.func 37) #[] #[]] w (RcPost s w) := by
  have hsi : (s.size : Int) ≤ 20000 := by omega
  have HN := mkHid (fun wx => num.read_any s 0 wx hs (by simp))
  have HP := mkHid (fun at_ wx (h : at_ ≤ s.size) => readNode_any s at_ wx hs h)
  cases hG : G s ((0 : Nat) : Int) with
  | error c =>
    rw [hG] at HN
    have hI := mkHid (show rcN s = none by
      unfold rcN
      have : G s 0 = .error c := hG
      rw [this])
    have F : Hid (∀ T v, RcPost s w (.returned (.tuple #[.slice none 0 0, .iface T v])) w) := mkHid (fun T v => .inl ⟨T, v, rfl, hI.out, Below.refl _ _⟩)
    clear hG hI
    go_enter Try.func36, Try.ntmps36
    go_wp2_with fail
    refine (HN.out _).mono ?_
    rintro e w1 ⟨rfl, rfl⟩
    unfold tup
    go_wp2
    exact bodyPost_ret (v := .tuple #[.slice none 0 0, .iface 129 (.agg #[.int .i64 c])]) (by simp [results, Try.results36, go_sem]) rfl (F.out _ _)
  | ok r =>
    obtain ⟨z, p⟩ := r
    obtain ⟨P, rfl, _, hP, _⟩ := nbk.G_nat hG
    rw [hG] at HN
    have hPi : (P : Int) ≤ 20000 := by omega
    have hI := mkHid (show rcN s = if (runI s z.toNat (P, false) []).2.2 = true then none else some (runI s z.toNat (P, false) []).1 by
      unfold rcN
      have : G s 0 = .ok (z, (P : Int)) := hG
      rw [this]
      have e : ((P : Nat) : Int).toNat = P := by omega
      simp only [e])
    have S0 : Hid (Rj w s z.toNat P P [] none 0 w) := mkHid ⟨rfl, Nat.zero_le _, by simp, hP, by intro d hd; simp at hd, ⟨mem.start w, Nat.le_refl _, World.ownsRow_nil _ _ _ _, by simp⟩⟩
    clear hG
    go_enter Try.func36, Try.ntmps36
    go_wp2_with fail
    refine (HN.out _).mono ?_
    rintro e w1 ⟨rfl, rfl⟩
    unfold tup
    clear HN
    go_wp2_with fail
    go_loopw [7, 8, 9, 21] (fun at_ ev v i wr => ∃ (at' : Nat) (acc : List Nd) (a : Option Addr) (c : Nat), i = .int .i64 acc.length ∧ at_ = .int .i64 at' ∧ v = .slice a acc.length c ∧ Hid (Rj w s z.toNat P at' acc a c wr))
      (fun _ _ _ i _ => z.toNat - (intOf i).toNat)
    case atStart => exact ⟨P, [], none, 0, rfl, rfl, rfl, S0⟩
    case round =>
      obtain ⟨q, acc, a, c, rfl, rfl, rfl, S⟩ := hrel
      clear S0
      have hk := S.out.far
      have hq := S.out.in_
      by_cases hlt : (acc.length : Int) < z
      · obtain ⟨m, hm⟩ : ∃ m, z.toNat - acc.length = m + 1 := ⟨z.toNat - acc.length - 1, by omega⟩
        have hki : (acc.length : Int) ≤ 10000 := by omega
        have hqi : (q : Int) ≤ 20000 := by omega
        have hrun := S.out.run
        rw [hm, runI_step] at hrun
        have HR := mkHid hrun
        have hbx := mkHid (blk_new wr (.cells #[.string ⟨#[]⟩, .bool false, .int .i64 0, .slice none 0 0] 59) wr.heap.size rfl)
        have HPx := mkHid (HP.out q (wr.alloc (.cells #[.string ⟨#[]⟩, .bool false, .int .i64 0, .slice none 0 0] 59)) hq)
        clear hrun
        go_wp2_with fail
        refine HPx.out.mono ?_
        rintro e w1 ⟨⟨x0, x1, x2, ka, kc, ks, q', hpl, rfl, hkr⟩ | ⟨hpl, TT, ev, rfl⟩, hb⟩
        · have hrun := HR.out
          rw [hpl] at hrun
          simp only at hrun
          obtain ⟨_, hq1, hq2, _, _, _⟩ := nodeI_ok hpl
          simp only at hq1
          have hsz0 : (wr.alloc (.cells #[.string ⟨#[]⟩, .bool false, .int .i64 0, .slice none 0 0] 59)).heap.size = wr.heap.size + 1 := by simp
          rw [hsz0] at hkr
          have hfr := S.out.rn.fresh
          have rn1 := ((S.out.rn.next (below_alloc1 wr (.cells #[.string ⟨#[]⟩, .bool false, .int .i64 0, .slice none 0 0] 59))).next hb).grow (grew4 w1 wr.heap.size (.string x0) (.bool x1) (.int .i64 x2) (.slice ka ks.length kc)) (fun b e => by cases e; exact hfr _ (Nat.le_refl _))
          have hk2 := row_keep hkr (grew4 w1 wr.heap.size (.string x0) (.bool x1) (.int .i64 x2) (.slice ka ks.length kc)) (fun g hg e => by
            have := (hkr.lt g hg).1
            simp at e
            omega)
          have hb1 := blk_below hbx.out hb
          obtain ⟨y0, y1, y2, y3⟩ := cel4 hb1
          have uf := unfrozen hb1
          have hsz : ((((w1.setCell ⟨wr.heap.size, 0, none⟩ (.string x0)).setCell ⟨wr.heap.size, 1, none⟩ (.bool x1)).setCell ⟨wr.heap.size, 2, none⟩ (.int .i64 x2)).setCell ⟨wr.heap.size, 3, none⟩ (.slice ka ks.length kc)).heap.size = w1.heap.size := by simp
          obtain ⟨g', c', w2, happ, hown, hg⟩ := appN _ w.heap.size (.slice a acc.length c) acc.length acc (x0, x1, x2, ka, kc, ks) rfl rn1.row rn1.mem.below.size (by omega)
          rw [hsz] at happ
          have rn2 := rn1.push (X := wr.heap.size) (d := (x0, x1, x2, ka, kc, ks)) hk2 (S.out.rn.mem.below.size) (fun b hb => hfr b (by omega)) hown hg
          have hkc := (cap_of hkr).2
          have hl2 : (acc ++ [(x0, x1, x2, ka, kc, ks)]).length = acc.length + 1 := by simp
          have N1 : Hid (Rj w s z.toNat P q' (acc ++ [(x0, x1, x2, ka, kc, ks)]) (some ⟨g', 0, none⟩) c' w2) := mkHid ⟨by
            rw [hrun, hl2, List.map_append]
            have e : z.toNat - (acc.length + 1) = m := by omega
            rw [e]
            rfl, by rw [hl2]; omega, by rw [hl2]; omega, hq2, fun d hd => by
            rcases List.mem_append.1 hd with hd | hd
            · exact S.out.cap d hd
            · simp at hd
              subst hd
              exact hkc, rn2⟩
          have hlh := mkHid hl2
          clear hpl hb hrun rn1 hk2 hkr hb1 hsz hown hg rn2 hkc hfr hsz0 S HR HPx hbx hl2
          go_wp2
          exact ⟨⟨q', acc ++ [(x0, x1, x2, ka, kc, ks)], some ⟨g', 0, none⟩, c', by rw [hlh.out]; go_num, rfl, by rw [hlh.out], N1⟩, by simp [intOf]; omega⟩
        · have hno : rcN s = none := by
            rw [hI.out, if_pos]
            rw [HR.out]
            generalize nodeI s (q, false) = pr at *
            obtain ⟨pp, q', f⟩ := pr
            have hf : f = true := hpl
            subst hf
            rw [runI_bad]
          have hb1 := blk_below hbx.out hb
          obtain ⟨y0, y1, y2, y3⟩ := cel4 hb1
          have uf := unfrozen hb1
          have hB := S.out.rn.mem.below
          have hX := hB.size
          have F : Hid (RcPost s w (.returned (.tuple #[.slice none 0 0, .iface TT ev])) _) := mkHid (.inl ⟨TT, ev, rfl, hno, below4r (below_trans (hB.alloc hX (.cells #[.string ⟨#[]⟩, .bool false, .int .i64 0, .slice none 0 0] 59)) hb) hX (.string ⟨#[]⟩) (.bool false) (.int .i64 0) (.slice none 0 0)⟩)
          clear S hb hpl HR hno hb1 hX HPx hbx hB
          go_wp2
          refine bodyPost_ret (v := .tuple #[.slice none 0 0, .iface TT ev]) ?_ rfl F.out
          simp [results, Try.results36, go_sem]
      · have hkN : z.toNat - acc.length = 0 := by omega
        have hrun := S.out.run
        rw [hkN] at hrun
        have hrun2 : runI s z.toNat (P, false) [] = (acc.map val, (q, false)) := hrun
        obtain ⟨m, hm1, hm2, _, _, hm3⟩ := runI_ok s z.toNat P [] (acc.map val) q hrun2 hP
        simp only [List.nil_append] at hm1
        have hge : ((z : Int) ≤ (acc.length : Int)) := by omega
        have hsm : SmallN acc := fun d hd => by
          have h3 := ds_of hm1 hm3 d hd
          obtain ⟨h4, h5, h6⟩ := h3
          simp only [val] at h4 h5 h6
          exact ⟨by omega, by omega, fun t ht => by rw [h6 t ht]; omega⟩
        have F : Hid (RcPost s w (.returned (.tuple #[.slice a acc.length c, .nilIface])) wr) := mkHid (.inr ⟨a, c, acc, rfl, by rw [hI.out, hrun2]; simp, by omega, hsm, S.out.cap, S.out.rn.done⟩)
        clear hI S hrun hrun2 hm3 hsm hm2 hkN hm1
        go_wp2
        exact bodyPost_ret (v := .tuple #[.slice a acc.length c, .nilIface]) (by simp [results, Try.results36, go_sem]) rfl F.out
set_option maxRecDepth 100000 in
set_option maxHeartbeats 4000000 in
theorem readI_any (s : ByteArray) (w : World) (hs : s.size ≤ 1048576) :
    Calls Try.prog 12 #[.string s] w (NPost w (readA s)) := by
  have hb0 := blk_new w (.cells #[.slice none 0 0, .int .i64 0] 28) w.heap.size rfl
  have HB0 := mkHid (below_alloc1 w (.cells #[.slice none 0 0, .int .i64 0] 28))
  have hsi : (s.size : Int) ≤ 1048576 := by omega
  by_cases h1 : 20000 < s.size
  · have F : Hid (NPost w (readA s) _ _) := mkHid (npost_new (k := 2) (by unfold readA; rw [if_pos h1]))
    have h1i : (20000 : Int) < (s.size : Int) := by omega
    clear hb0 HB0
    go_enter Try.func12, Try.ntmps12
    go_wp2
    refine bodyPost_ret (v := .agg #[.slice none 0 0, .int .i64 2]) ?_ rfl F.out
    simp [results, Try.results12, go_sem]
  have h1i : (s.size : Int) ≤ 20000 := by omega
  have HA := mkHid (agree s (by omega))
  rw [implR_is] at HA
  have HR := mkHid (rcN_any s (w.alloc (.cells #[.slice none 0 0, .int .i64 0] 28)) (by omega))
  have hbk := mkHid hb0
  clear hb0
  go_enter Try.func12, Try.ntmps12
  go_wp2_with fail
  refine HR.out.mono ?_
  rintro e w1 (⟨TT, ev, rfl, hrc, hb⟩ | ⟨a, c, ds, rfl, hrc, hrl, hsm, hcap, hM⟩)
  · have hB1 := below_trans HB0.out hb
    have hb1 := blk_below hbk.out hb
    obtain ⟨z0, z1⟩ := cel2 hb1
    have uf := unfrozen hb1
    have F : Hid (NPost w (readA s) _ _) := mkHid (npost_no (k := 3) hB1 (by rw [HA.out, hrc]; rfl))
    clear hrc hb hB1 hb1 HA HR HB0 hbk
    go_wp2
    refine bodyPost_ret (v := .agg #[.slice none 0 0, .int .i64 3]) ?_ rfl F.out
    simp [results, Try.results12, go_sem, z0, z1]
  · have hro : RdN w1 a ds := ⟨hM.o0.rd, fun d hd => (hM.o ⟨9, d.2.2.2.1, tx d.2.2.2.2.2⟩ (.tail _ (List.mem_map.2 ⟨d, hd, rfl⟩))).rd⟩
    have HB := mkHid (bytesI_any a c ds w1 hrl hsm hcap hro)
    rw [hrc] at HA
    simp only at HA
    have HF := mkHid (fun w' (hb2 : Below w1.heap.size w1 w') => And.intro (hM.next hb2) (blk_below (blk_below hbk.out hM.below) hb2))
    by_cases heq : bytesN (ds.map val) = s
    · rw [heq] at HB
      have hss : (s.toList == s.toList) = true := by simp
      rw [if_pos heq] at HA
      clear hM hrc hro hsm heq hcap
      go_wp2_with fail
      refine HB.out.mono ?_
      rintro e w2 ⟨rfl, hb⟩
      have F0 := HF.out _ hb
      obtain ⟨z0, z1⟩ := cel2 F0.2
      have uf := unfrozen F0.2
      have hE : readA s = (ds.map val, 0) := HA.out
      have F : Hid (NPost w (readA s) (.returned (.agg #[.slice a ds.length c, .int .i64 0])) _) := mkHid ⟨a, c, ds, by rw [hE], by rw [hE], mem_low2 F0.1 HB0.out (Nat.le_refl _) (by simp) (.slice a ds.length c) (.int .i64 0)⟩
      clear hb HF HB F0 hE HA HR HB0 hbk
      go_wp2
      refine bodyPost_ret (v := .agg #[.slice a ds.length c, .int .i64 0]) ?_ rfl F.out
      simp [results, Try.results12, go_sem, z0, z1]
    · have hss := strs.bytes_ne heq
      rw [if_neg heq] at HA
      clear hM hrc hro hsm heq hcap
      generalize bytesN (ds.map val) = t at *
      go_wp2_with fail
      refine HB.out.mono ?_
      rintro e w2 ⟨rfl, hb⟩
      have F0 := HF.out _ hb
      obtain ⟨z0, z1⟩ := cel2 F0.2
      have uf := unfrozen F0.2
      have F : Hid (NPost w (readA s) _ _) := mkHid (npost_no (k := 3) (HB0.out.trans (F0.1.below.mono HB0.out.size)) HA.out)
      clear hb HF HB F0 HA HR HB0 hbk
      go_wp2
      refine bodyPost_ret (v := .agg #[.slice none 0 0, .int .i64 3]) ?_ rfl F.out
      simp [results, Try.results12, go_sem, z0, z1]
end Go.Proofs.Ytmmmadehifajlaa.nod
namespace Go.Proofs.Ytmmmadehifajlaa.nod
open Go.RowKit Go.Joins
open Go.Proofs.Ytmmmadehifajlaa.base Go.Proofs.Ytmmmadehifajlaa.blk Go.Proofs.Ytmmmadehifajlaa.aid
open Go.Proofs.Ytmmmadehifajlaa.row (Rd Own OwnV appSem app_fold)
open Go.Proofs.Ytmmmadehifajlaa.strs (tx)
open Go.Proofs.Ytmmmadehifajlaa.mem (Mem Mine Off)
open Go.Proofs.Ytmmmadehifajlaa.plc (below_trans)
open Go.Proofs.Ytmmmadehifajlaa.num (G tup)
set_option linter.unusedVariables false
set_option linter.unusedSimpArgs false
attribute [local go_sem ↓] app_fold

/-- what NodesRead answers and leaves: nodes of our own, with room -/
def NPostC (w : World) (r : List Vn × Int) (e : Ending) (w' : World) : Prop :=
  ∃ (a : Option Addr) (c : Nat) (ds : List Nd), e = .returned (.agg #[.slice a ds.length c, .int .i64 r.2]) ∧ ds.map val = r.1 ∧ CapN ds ∧ Mem w [] [] (⟨59, a, ncs ds⟩ :: mines ds) w'
theorem npostC_no {w w' : World} {k : Int} {r : List Vn × Int} {e : Ending} (h : NPost w r e w') (hr : r = ([], k)) : NPostC w r e w' := by
  obtain ⟨a, c, ds, h1, h2, h3⟩ := h
  refine ⟨a, c, ds, h1, h2, ?_, h3⟩
  rw [hr] at h2
  have e : ds = [] := List.map_eq_nil_iff.1 h2
  subst e
  intro d hd
  simp at hd
set_option maxRecDepth 100000 in
set_option maxHeartbeats 4000000 in
theorem readC_any (s : ByteArray) (w : World) (hs : s.size ≤ 1048576) :
    Calls Try.prog 12 #[.string s] w (NPostC w (readA s)) := by
  have hb0 := blk_new w (.cells #[.slice none 0 0, .int .i64 0] 28) w.heap.size rfl
  have HB0 := mkHid (below_alloc1 w (.cells #[.slice none 0 0, .int .i64 0] 28))
  have hsi : (s.size : Int) ≤ 1048576 := by omega
  by_cases h1 : 20000 < s.size
  · have F : Hid (NPostC w (readA s) _ _) := mkHid (npostC_no (k := 2) (npost_new (k := 2) (by unfold readA; rw [if_pos h1])) (by unfold readA; rw [if_pos h1]))
    have h1i : (20000 : Int) < (s.size : Int) := by omega
    clear hb0 HB0
    go_enter Try.func12, Try.ntmps12
    go_wp2
    refine bodyPost_ret (v := .agg #[.slice none 0 0, .int .i64 2]) ?_ rfl F.out
    simp [results, Try.results12, go_sem]
  have h1i : (s.size : Int) ≤ 20000 := by omega
  have HA := mkHid (agree s (by omega))
  rw [implR_is] at HA
  have HR := mkHid (rcN_any s (w.alloc (.cells #[.slice none 0 0, .int .i64 0] 28)) (by omega))
  have hbk := mkHid hb0
  clear hb0
  go_enter Try.func12, Try.ntmps12
  go_wp2_with fail
  refine HR.out.mono ?_
  rintro e w1 (⟨TT, ev, rfl, hrc, hb⟩ | ⟨a, c, ds, rfl, hrc, hrl, hsm, hcap, hM⟩)
  · have hB1 := below_trans HB0.out hb
    have hb1 := blk_below hbk.out hb
    obtain ⟨z0, z1⟩ := cel2 hb1
    have uf := unfrozen hb1
    have F : Hid (NPostC w (readA s) _ _) := mkHid (npostC_no (k := 3) (npost_no (k := 3) hB1 (by rw [HA.out, hrc]; rfl)) (by rw [HA.out, hrc]; rfl))
    clear hrc hb hB1 hb1 HA HR HB0 hbk
    go_wp2
    refine bodyPost_ret (v := .agg #[.slice none 0 0, .int .i64 3]) ?_ rfl F.out
    simp [results, Try.results12, go_sem, z0, z1]
  · have hro : RdN w1 a ds := ⟨hM.o0.rd, fun d hd => (hM.o ⟨9, d.2.2.2.1, tx d.2.2.2.2.2⟩ (.tail _ (List.mem_map.2 ⟨d, hd, rfl⟩))).rd⟩
    have HB := mkHid (bytesI_any a c ds w1 hrl hsm hcap hro)
    rw [hrc] at HA
    simp only at HA
    have HCap := mkHid hcap
    have HF := mkHid (fun w' (hb2 : Below w1.heap.size w1 w') => And.intro (hM.next hb2) (blk_below (blk_below hbk.out hM.below) hb2))
    by_cases heq : bytesN (ds.map val) = s
    · rw [heq] at HB
      have hss : (s.toList == s.toList) = true := by simp
      rw [if_pos heq] at HA
      clear hM hrc hro hsm heq hcap
      go_wp2_with fail
      refine HB.out.mono ?_
      rintro e w2 ⟨rfl, hb⟩
      have F0 := HF.out _ hb
      obtain ⟨z0, z1⟩ := cel2 F0.2
      have uf := unfrozen F0.2
      have hE : readA s = (ds.map val, 0) := HA.out
      have F : Hid (NPostC w (readA s) (.returned (.agg #[.slice a ds.length c, .int .i64 0])) _) := mkHid ⟨a, c, ds, by rw [hE], by rw [hE], HCap.out, mem_low2 F0.1 HB0.out (Nat.le_refl _) (by simp) (.slice a ds.length c) (.int .i64 0)⟩
      clear hb HF HB F0 hE HA HR HB0 hbk
      go_wp2
      refine bodyPost_ret (v := .agg #[.slice a ds.length c, .int .i64 0]) ?_ rfl F.out
      simp [results, Try.results12, go_sem, z0, z1]
    · have hss := strs.bytes_ne heq
      rw [if_neg heq] at HA
      clear hM hrc hro hsm heq hcap
      generalize bytesN (ds.map val) = t at *
      go_wp2_with fail
      refine HB.out.mono ?_
      rintro e w2 ⟨rfl, hb⟩
      have F0 := HF.out _ hb
      obtain ⟨z0, z1⟩ := cel2 F0.2
      have uf := unfrozen F0.2
      have F : Hid (NPostC w (readA s) _ _) := mkHid (npostC_no (k := 3) (npost_no (k := 3) (HB0.out.trans (F0.1.below.mono HB0.out.size)) HA.out) HA.out)
      clear hb HF HB F0 HA HR HB0 hbk
      go_wp2
      refine bodyPost_ret (v := .agg #[.slice none 0 0, .int .i64 3]) ?_ rfl F.out
      simp [results, Try.results12, go_sem, z0, z1]
end Go.Proofs.Ytmmmadehifajlaa.nod
