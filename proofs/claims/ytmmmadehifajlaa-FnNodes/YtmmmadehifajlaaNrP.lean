/-
  Reading nodes from a text, in plain words: what the specification reads, that holding the bytes of what was read against the text tells the same, and that right nodes are read back from their bytes. No condition.
-/
import Derived.Test.YtmmmadehifajlaaNdP
import Derived.Test.YtmmmadehifajlaaRdBk
namespace Go.Proofs.Ytmmmadehifajlaa.nod
open Go.RowKit Go.Joins
open Go.Proofs.Ytmmmadehifajlaa.base
open Go.Proofs.Ytmmmadehifajlaa.num (G T)
open Go.Proofs.Ytmmmadehifajlaa.plc (St numS txtS bytS numS_ok txtS_ok bytS_ok numS_bad txtS_bad)
open Go.Proofs.Ytmmmadehifajlaa.rbk
set_option linter.unusedVariables false
set_option linter.unusedSimpArgs false

/-- keys that stand one behind the other -/
def keysS (s : ByteArray) : Nat → St → Tx → Tx × St
  | 0, st, l => (l, st)
  | n + 1, st, l => if st.2 = true then (l, st) else keysS s n (bytS s st).2 (l ++ [(bytS s st).1])
/-- no node has these -/
def out_ (d m : Int) : Bool := decide (d < 0) || decide (1 < d) || decide (m < 0) || decide (100 < m)
/-- what stands ahead of a node's keys: its name, the number that tells a directory, its size, how many keys -/
def headS (s : ByteArray) (st : St) : (ByteArray × Int × Int × Int) × St :=
  (((txtS s st).1, (numS s (txtS s st).2).1, (numS s (numS s (txtS s st).2).2).1, (numS s (numS s (numS s (txtS s st).2).2).2).1), (numS s (numS s (numS s (txtS s st).2).2).2).2)
def keysH (s : ByteArray) (h : (ByteArray × Int × Int × Int) × St) (b : Bool) : Vn × St :=
  ((h.1.1, decide (h.1.2.1 = 1), h.1.2.2.1, (keysS s h.1.2.2.2.toNat (h.2.1, h.2.2 || b) []).1), (keysS s h.1.2.2.2.toNat (h.2.1, h.2.2 || b) []).2)
/-- a node, as the specification reads it -/
def nodeS (s : ByteArray) (st : St) : Vn × St := keysH s (headS s st) (out_ (headS s st).1.2.1 (headS s st).1.2.2.2)
/-- a node, as the program reads it -/
def nodeI (s : ByteArray) (st : St) : Vn × St := keysH s (headS s st) false
def runS (s : ByteArray) : Nat → St → List Vn → List Vn × St
  | 0, st, l => (l, st)
  | n + 1, st, l => if st.2 = true then (l, st) else runS s n (nodeS s st).2 (l ++ [(nodeS s st).1])
def runI (s : ByteArray) : Nat → St → List Vn → List Vn × St
  | 0, st, l => (l, st)
  | n + 1, st, l => if st.2 = true then (l, st) else runI s n (nodeI s st).2 (l ++ [(nodeI s st).1])
/-- what NodesRead answers -/
def fin (s : ByteArray) (r : List Vn × St) : List Vn × Int := if r.2.2 = true ∨ r.2.1 ≠ s.size ∨ nodesB r.1 = false then ([], 3) else (r.1, 0)
def readA (s : ByteArray) : List Vn × Int :=
  if 20000 < s.size then ([], 2) else fin s (runS s (numS s (0, false)).1.toNat ((numS s (0, false)).2.1, (numS s (0, false)).2.2 || (decide ((numS s (0, false)).1 < 0) || decide (20 < (numS s (0, false)).1))) [])
theorem keysS_bad (s : ByteArray) (n a : Nat) (l : Tx) : keysS s n (a, true) l = (l, (a, true)) := by cases n <;> simp [keysS]
theorem keysS_step (s : ByteArray) (n a : Nat) (l : Tx) : keysS s (n + 1) (a, false) l = keysS s n (bytS s (a, false)).2 (l ++ [(bytS s (a, false)).1]) := by simp [keysS]
theorem runS_bad (s : ByteArray) (n a : Nat) (l : List Vn) : runS s n (a, true) l = (l, (a, true)) := by cases n <;> simp [runS]
theorem runS_step (s : ByteArray) (n a : Nat) (l : List Vn) : runS s (n + 1) (a, false) l = runS s n (nodeS s (a, false)).2 (l ++ [(nodeS s (a, false)).1]) := by simp [runS]
theorem runI_bad (s : ByteArray) (n a : Nat) (l : List Vn) : runI s n (a, true) l = (l, (a, true)) := by cases n <;> simp [runI]
theorem runI_step (s : ByteArray) (n a : Nat) (l : List Vn) : runI s (n + 1) (a, false) l = runI s n (nodeI s (a, false)).2 (l ++ [(nodeI s (a, false)).1]) := by simp [runI]
theorem keysS_ok (s : ByteArray) : ∀ (n a : Nat) (l r : Tx) (q : Nat), keysS s n (a, false) l = (r, (q, false)) → a ≤ s.size → ∃ m, r = l ++ m ∧ m.length = n ∧ q = a + 32 * n ∧ q ≤ s.size ∧ (∀ t ∈ m, t.size = 32) ∧ (s.extract a q).data.toList = catT m
  | 0, a, l, r, q, h, ha => by
    simp only [keysS, Prod.mk.injEq, and_true] at h
    obtain ⟨rfl, rfl⟩ := h
    exact ⟨[], by simp, rfl, by omega, ha, by simp, by simp [catT]⟩
  | n + 1, a, l, r, q, h, ha => by
    rw [keysS_step] at h
    cases hp : bytS s (a, false) with
    | mk t st =>
      obtain ⟨b, f⟩ := st
      rw [hp] at h
      simp only at h
      cases f with
      | true => rw [keysS_bad] at h; cases h
      | false =>
        obtain ⟨_, h2, h3, h4⟩ := bytS_ok hp
        simp only at h2 h4
        obtain ⟨m, e1, e2, e3, e4, e5, e6⟩ := keysS_ok s n b _ r q h h3
        have hts : t.size = 32 := by rw [h4, ByteArray.size_extract]; omega
        refine ⟨t :: m, by rw [e1, List.append_assoc]; rfl, by simp [e2], by omega, e4, ?_, ?_⟩
        · intro x hx
          rcases List.mem_cons.1 hx with rfl | hx
          · exact hts
          · exact e5 x hx
        · rw [← nbk.cat s (show a ≤ b by omega) (show b ≤ q by omega), app_list, e6, ← h4]
          simp [catT]
theorem headS_ok {s : ByteArray} {st : St} {n : ByteArray} {d z m : Int} {q : Nat} (h : headS s st = ((n, d, z, m), (q, false))) : st.2 = false ∧ st.1 + 3 ≤ q ∧ q ≤ s.size ∧ n.size ≤ s.size ∧ (0 ≤ d → 0 ≤ z → 0 ≤ m → s.extract st.1 q = (fnExactPutText.pre n.size ++ n) ++ nbk.numB d ++ nbk.numB z ++ nbk.numB m) := by
  unfold headS at h
  simp only [Prod.mk.injEq] at h
  obtain ⟨⟨h0, h1, h2, h3⟩, h5⟩ := h
  obtain ⟨n3, z3⟩ : ∃ n3, numS s (numS s (numS s (txtS s st).2).2).2 = (n3, (q, false)) := ⟨_, Prod.ext rfl h5⟩
  obtain ⟨b1, _, b2, b3, b4⟩ := numS_ok z3
  obtain ⟨n2, z2⟩ : ∃ n2, numS s (numS s (txtS s st).2).2 = (n2, ((numS s (numS s (txtS s st).2).2).2.1, false)) := ⟨_, Prod.ext rfl (Prod.ext rfl b1)⟩
  obtain ⟨c1, _, c2, c3, c4⟩ := numS_ok z2
  obtain ⟨n1, z1⟩ : ∃ n1, numS s (txtS s st).2 = (n1, ((numS s (txtS s st).2).2.1, false)) := ⟨_, Prod.ext rfl (Prod.ext rfl c1)⟩
  obtain ⟨d1, _, d2, d3, d4⟩ := numS_ok z1
  obtain ⟨t, zt⟩ : ∃ t, txtS s st = (t, ((txtS s st).2.1, false)) := ⟨_, Prod.ext rfl (Prod.ext rfl d1)⟩
  obtain ⟨e1, _, e2, e3, e4⟩ := txtS_ok zt
  have g3 := congrArg Prod.fst z3
  have g2 := congrArg Prod.fst z2
  have g1 := congrArg Prod.fst z1
  have gt := congrArg Prod.fst zt
  simp only at g3 g2 g1 gt
  rw [g3] at h3
  rw [g2] at h2
  rw [g1] at h1
  rw [gt] at h0
  subst h0 h1 h2 h3
  generalize hB : (txtS s st).2.1 = B at *
  generalize hC : (numS s (txtS s st).2).2.1 = C at *
  generalize hD : (numS s (numS s (txtS s st).2).2).2.1 = D at *
  refine ⟨e1, by omega, b3, ?_, fun p1 p2 p3 => ?_⟩
  · have := congrArg ByteArray.size e4
    rw [ByteArray.size_extract, ByteArray.size_append] at this
    omega
  · rw [← e4, ← d4 p1, ← c4 p2, ← b4 p3]
    rw [nbk.cat s (by omega) (by omega), nbk.cat s (by omega) (by omega), nbk.cat s (by omega) (by omega)]
theorem keysH_ok {s : ByteArray} {st : St} {b : Bool} {v : Vn} {q : Nat} (h : keysH s (headS s st) b = (v, (q, false))) : b = false ∧ ∃ d z m P, headS s st = ((v.1, d, z, m), (P, false)) ∧ v.2.1 = decide (d = 1) ∧ v.2.2.1 = z ∧ v.2.2.2.length = m.toNat ∧ P ≤ q ∧ q ≤ s.size ∧ (∀ t ∈ v.2.2.2, t.size = 32) ∧ (s.extract P q).data.toList = catT v.2.2.2 ∧ q = P + 32 * m.toNat := by
  cases hh : headS s st with
  | mk r st' =>
    obtain ⟨n, d, z, m⟩ := r
    obtain ⟨P, f⟩ := st'
    rw [hh] at h
    unfold keysH at h
    simp only at h
    cases hf : (f || b) with
    | true =>
      rw [hf, keysS_bad] at h
      cases h
    | false =>
      rw [hf] at h
      simp only [Bool.or_eq_false_iff] at hf
      obtain ⟨rfl, rfl⟩ := hf
      obtain ⟨_, h2, h3, _⟩ := headS_ok hh
      cases hk : keysS s m.toNat (P, false) [] with
      | mk ks st2 =>
        rw [hk] at h
        simp only [Prod.mk.injEq] at h
        obtain ⟨rfl, rfl⟩ := h
        obtain ⟨m', e1, e2, e3, e4, e5, e6⟩ := keysS_ok s m.toNat P [] ks q hk h3
        simp only [List.nil_append] at e1
        subst e1
        exact ⟨rfl, d, z, m, P, rfl, rfl, rfl, e2, by omega, e4, e5, e6, e3⟩
theorem nodeS_ok {s : ByteArray} {st : St} {v : Vn} {q : Nat} (h : nodeS s st = (v, (q, false))) : st.2 = false ∧ st.1 + 3 ≤ q ∧ q ≤ s.size ∧ nodeI s st = (v, (q, false)) ∧ (nodeB v = true → (s.extract st.1 q).data.toList = recN v) := by
  unfold nodeS at h
  have hb := (keysH_ok h).1
  rw [hb] at h
  obtain ⟨_, d, z, m, P, hh, hv1, hv2, hv3, h5, h6, h7, h8, _⟩ := keysH_ok h
  obtain ⟨g1, g2, g3, _, g5⟩ := headS_ok hh
  rw [hh] at hb
  simp only [out_, Bool.or_eq_false_iff, decide_eq_false_iff_not] at hb
  refine ⟨g1, by omega, h6, h, fun hn => ?_⟩
  obtain ⟨n, b, z', ks⟩ := v
  simp only at hv1 hv2 hv3 h7 h8 hh g5
  obtain ⟨_, p2, p3, p4, _⟩ := nodeB_small hn
  simp only at p2 p3 p4
  have hd : dirN b = d := by
    subst hv1
    unfold dirN
    by_cases h1 : d = 1
    · simp [h1]
    · simp [h1]; omega
  have hm : m = (ks.length : Int) := by omega
  have g6 := g5 (by omega) (by omega) (by omega)
  rw [← nbk.cat s (show st.1 ≤ P by omega) h5, app_list, h8, g6]
  unfold recN headN
  simp only
  rw [hd, hm, hv2]
theorem nodeI_ok {s : ByteArray} {st : St} {v : Vn} {q : Nat} (h : nodeI s st = (v, (q, false))) : st.2 = false ∧ st.1 + 3 ≤ q ∧ q ≤ s.size ∧ v.1.size ≤ s.size ∧ v.2.2.2.length ≤ s.size ∧ ∀ t ∈ v.2.2.2, t.size = 32 := by
  unfold nodeI at h
  obtain ⟨_, d, z, m, P, hh, _, _, hv3, h5, h6, h7, _, h9⟩ := keysH_ok h
  obtain ⟨g1, g2, g3, g4, _⟩ := headS_ok hh
  exact ⟨g1, by omega, h6, g4, by omega, h7⟩
/-- what a run reads -/
theorem runS_ok (s : ByteArray) : ∀ (n a : Nat) (l r : List Vn) (q : Nat), runS s n (a, false) l = (r, (q, false)) → a ≤ s.size → ∃ m, r = l ++ m ∧ m.length = n ∧ a ≤ q ∧ q ≤ s.size ∧ runI s n (a, false) l = (r, (q, false)) ∧ ((∀ p ∈ m, nodeB p = true) → (s.extract a q).data.toList = recsN m)
  | 0, a, l, r, q, h, ha => by
    simp only [runS, Prod.mk.injEq, and_true] at h
    obtain ⟨rfl, rfl⟩ := h
    exact ⟨[], by simp, rfl, Nat.le_refl _, ha, rfl, fun _ => by simp [recsN]⟩
  | n + 1, a, l, r, q, h, ha => by
    rw [runS_step] at h
    cases hp : nodeS s (a, false) with
    | mk p st =>
      obtain ⟨b, f⟩ := st
      rw [hp] at h
      simp only at h
      cases f with
      | true => rw [runS_bad] at h; cases h
      | false =>
        obtain ⟨_, h2, h3, h4, h5⟩ := nodeS_ok hp
        simp only at h2 h5
        obtain ⟨m, e1, e2, e3, e4, e5, e6⟩ := runS_ok s n b _ r q h h3
        refine ⟨p :: m, by rw [e1, List.append_assoc]; rfl, by simp [e2], by omega, e4, ?_, fun hm => ?_⟩
        · rw [runI_step, h4]
          exact e5
        · have h7 := h5 (hm p (by simp))
          have h8 := e6 (fun x hx => hm x (List.mem_cons_of_mem _ hx))
          rw [← nbk.cat s (show a ≤ b by omega) (show b ≤ q by omega), app_list, h8, h7]
          simp [recsN]
theorem runI_ok (s : ByteArray) : ∀ (n a : Nat) (l r : List Vn) (q : Nat), runI s n (a, false) l = (r, (q, false)) → a ≤ s.size → ∃ m, r = l ++ m ∧ m.length = n ∧ a + 3 * n ≤ q ∧ q ≤ s.size ∧ ∀ p ∈ m, p.1.size ≤ s.size ∧ p.2.2.2.length ≤ s.size ∧ ∀ t ∈ p.2.2.2, t.size = 32
  | 0, a, l, r, q, h, ha => by
    simp only [runI, Prod.mk.injEq, and_true] at h
    obtain ⟨rfl, rfl⟩ := h
    exact ⟨[], by simp, rfl, by omega, ha, by simp⟩
  | n + 1, a, l, r, q, h, ha => by
    rw [runI_step] at h
    cases hp : nodeI s (a, false) with
    | mk p st =>
      obtain ⟨b, f⟩ := st
      rw [hp] at h
      simp only at h
      cases f with
      | true => rw [runI_bad] at h; cases h
      | false =>
        obtain ⟨_, h2, h3, h4, h5, h6⟩ := nodeI_ok hp
        simp only at h2
        obtain ⟨m, e1, e2, e3, e4, e5⟩ := runI_ok s n b _ r q h h3
        refine ⟨p :: m, by rw [e1, List.append_assoc]; rfl, by simp [e2], by omega, e4, ?_⟩
        intro x hx
        rcases List.mem_cons.1 hx with rfl | hx
        · exact ⟨h4, h5, h6⟩
        · exact e5 x hx
/-- right nodes are read back -/
theorem keys_back {s : ByteArray} : ∀ (ks l : Tx) (a : Nat) (rest : List UInt8), (∀ t ∈ ks, t.size = 32) → s.data.toList.drop a = catT ks ++ rest → keysS s ks.length (a, false) l = (l ++ ks, (a + 32 * ks.length, false))
  | [], l, a, rest, _, _ => by simp [keysS]
  | t :: ks, l, a, rest, ht, h => by
    have e : catT (t :: ks) = t.data.toList ++ catT ks := by simp [catT]
    rw [e, List.append_assoc] at h
    have h32 := ht t (by simp)
    have hb := byt_back h32 h
    have hd := drop_more h
    rw [size_list, h32] at hd
    have ih := keys_back ks (l ++ [t]) (a + 32) rest (fun x hx => ht x (List.mem_cons_of_mem _ hx)) hd
    rw [List.length_cons, keysS_step, hb]
    simp only
    rw [ih]
    simp only [List.append_assoc, List.singleton_append]
    congr 2
    omega
theorem node_back {s : ByteArray} {a : Nat} {v : Vn} {rest : List UInt8} (hs : s.size ≤ 20000) (hv : nodeB v = true) (h : s.data.toList.drop a = recN v ++ rest) : nodeS s (a, false) = (v, (a + (recN v).length, false)) := by
  obtain ⟨p1, p2, p3, p4, p5⟩ := nodeB_small hv
  have p6 := dirN_small v.2.1
  obtain ⟨n, b, z, ks⟩ := v
  simp only at p1 p2 p3 p4 p5 p6
  unfold recN headN at h
  simp only [app_list, List.append_assoc] at h
  have h1 : s.data.toList.drop a = (fnExactPutText.pre n.size ++ n).data.toList ++ ((nbk.numB (dirN b)).data.toList ++ ((nbk.numB z).data.toList ++ ((nbk.numB (ks.length : Int)).data.toList ++ (catT ks ++ rest)))) := by
    rw [app_list, List.append_assoc]
    exact h
  have t1 := txt_back hs h1
  have d1 := drop_more h1
  generalize hL1 : a + (fnExactPutText.pre n.size ++ n).data.toList.length = A1 at *
  have t2 := num_back hs p6.1 (by omega) d1
  have d2 := drop_more d1
  generalize hL2 : A1 + (nbk.numB (dirN b)).data.toList.length = A2 at *
  have t3 := num_back hs p3 (by omega) d2
  have d3 := drop_more d2
  generalize hL3 : A2 + (nbk.numB z).data.toList.length = A3 at *
  have t4 := num_back hs (k := (ks.length : Int)) (by omega) (by omega) d3
  have d4 := drop_more d3
  generalize hL4 : A3 + (nbk.numB (ks.length : Int)).data.toList.length = A4 at *
  have t5 := keys_back ks [] A4 rest p5 d4
  have hh : headS s (a, false) = ((n, dirN b, z, (ks.length : Int)), (A4, false)) := by
    unfold headS
    rw [t1]
    simp only
    rw [t2]
    simp only
    rw [t3]
    simp only
    rw [t4]
  have hout : out_ (dirN b) (ks.length : Int) = false := by
    unfold out_
    simp
    omega
  have hlen : a + (recN (n, b, z, ks)).length = A4 + 32 * ks.length := by
    unfold recN headN
    rw [List.length_append, catT_len _ p5]
    simp only [app_list, List.length_append] at *
    omega
  unfold nodeS
  rw [hh]
  simp only
  rw [hout]
  unfold keysH
  simp only
  have e : (ks.length : Int).toNat = ks.length := by omega
  rw [e, Bool.or_false, t5, hlen]
  simp only [List.nil_append]
  congr 2
  cases b <;> simp [dirN]
theorem run_back {s : ByteArray} (hs : s.size ≤ 20000) : ∀ (vs l : List Vn) (a : Nat) (rest : List UInt8), (∀ v ∈ vs, nodeB v = true) → s.data.toList.drop a = recsN vs ++ rest → runS s vs.length (a, false) l = (l ++ vs, (a + (recsN vs).length, false))
  | [], l, a, rest, _, _ => by simp [runS, recsN]
  | v :: vs, l, a, rest, hv, h => by
    have e : recsN (v :: vs) = recN v ++ recsN vs := by simp [recsN]
    rw [e, List.append_assoc] at h
    have hb := node_back hs (hv v (by simp)) h
    have hd := drop_more h
    have ih := run_back hs vs (l ++ [v]) (a + (recN v).length) rest (fun x hx => hv x (List.mem_cons_of_mem _ hx)) hd
    rw [List.length_cons, runS_step, hb]
    simp only
    rw [ih, e, List.length_append]
    simp only [List.append_assoc, List.singleton_append]
    congr 2
    omega
theorem bytes_list {l : List Vn} (h : nodesB l = true) : (bytesN l).data.toList = bytesL l := by unfold bytesN; rw [if_pos h]
theorem read_back {l : List Vn} (h : nodesB l = true) (hs : (bytesN l).size ≤ 20000) : readA (bytesN l) = (l, 0) := by
  obtain ⟨h20, hall⟩ := nodesB_parts h
  have e := bytes_list h
  generalize hB : bytesN l = s at *
  have e0 : s.data.toList.drop 0 = (nbk.numB (l.length : Int)).data.toList ++ (recsN l ++ []) := by
    rw [List.drop_zero, e, List.append_nil]
    rfl
  have t1 := num_back hs (k := (l.length : Int)) (by omega) (by omega) e0
  have d1 := drop_more e0
  have t2 := run_back hs l [] _ [] hall d1
  unfold readA
  rw [if_neg (by omega), t1]
  simp only
  have e1 : (l.length : Int).toNat = l.length := by omega
  have e2 : (decide ((l.length : Int) < 0) || decide (20 < (l.length : Int))) = false := by simp; omega
  rw [e1, e2, Bool.or_false, t2]
  unfold fin
  simp only [List.nil_append]
  have hsz : 0 + (nbk.numB (l.length : Int)).data.toList.length + (recsN l).length = s.size := by
    rw [← size_list s, e]
    unfold bytesL
    rw [List.length_append]
    omega
  rw [if_neg]
  rintro (h1 | h1 | h1)
  · cases h1
  · exact h1 hsz
  · rw [h] at h1
    cases h1
/-- what the program tells: nothing, or nodes whose bytes are the text -/
def implR (s : ByteArray) : Option (List Vn) :=
  match G s 0 with
  | .error _ => none
  | .ok (n, p) => if (runI s n.toNat (p.toNat, false) []).2.2 = true then none else if bytesN (runI s n.toNat (p.toNat, false) []).1 = s then some (runI s n.toNat (p.toNat, false) []).1 else none
def outA (o : Option (List Vn)) : List Vn × Int := match o with | none => ([], 3) | some l => (l, 0)
theorem readA_cases (s : ByteArray) (hs : s.size ≤ 20000) : readA s = ([], 3) ∨ ∃ l, readA s = (l, 0) := by
  unfold readA
  rw [if_neg (by omega)]
  unfold fin
  split
  · exact .inl rfl
  · exact .inr ⟨_, rfl⟩
theorem impl_of {s : ByteArray} {l : List Vn} (hs : s.size ≤ 20000) (h : readA s = (l, 0)) : implR s = some l ∧ nodesB l = true ∧ bytesN l = s := by
  unfold readA at h
  rw [if_neg (by omega)] at h
  cases hn : numS s (0, false) with
  | mk z st =>
    obtain ⟨q0, f0⟩ := st
    rw [hn] at h
    simp only at h
    unfold fin at h
    split at h
    · cases h
    · rename_i hf
      simp only [not_or, Bool.not_eq_true, ne_eq, Classical.not_not, Bool.not_eq_false] at hf
      obtain ⟨f1, f2, f3⟩ := hf
      simp only [Prod.mk.injEq, and_true] at h
      subst h
      cases hb : (f0 || (decide (z < 0) || decide (20 < z))) with
      | true =>
        rw [hb, runS_bad] at f1
        cases f1
      | false =>
        simp only [Bool.or_eq_false_iff, decide_eq_false_iff_not] at hb
        obtain ⟨rfl, hz1, hz2⟩ := hb
        have hfl : (false || (decide (z < 0) || decide (20 < z))) = false := by simp; omega
        rw [hfl] at f1 f2 f3
        obtain ⟨_, hG, g2, g3, g4⟩ := numS_ok hn
        simp only at hG g2 g4
        cases hr : runS s z.toNat (q0, false) [] with
        | mk r st =>
          obtain ⟨q, f⟩ := st
          rw [hr] at f1 f2 f3
          simp only at f1 f2 f3 ⊢
          subst f1
          obtain ⟨m, e1, e2, e3, e4, e5, e6⟩ := runS_ok s z.toNat q0 [] r q hr g3
          simp only [List.nil_append] at e1
          subst e1
          obtain ⟨h20, hall⟩ := nodesB_parts f3
          have h7 := e6 hall
          have h8 := g4 (by omega)
          have hzl : z = (r.length : Int) := by omega
          have hbs : bytesN r = s := by
            apply plc.eq_of_list
            rw [bytes_list f3]
            unfold bytesL
            rw [← h7, ← hzl, ← h8, ← app_list, nbk.cat s (by omega) (by omega), f2]
            simp
          refine ⟨?_, f3, hbs⟩
          unfold implR
          have hG' : G s 0 = .ok (z, (q0 : Int)) := hG
          rw [hG']
          simp only
          have eq0 : (q0 : Int).toNat = q0 := by omega
          rw [eq0, e5]
          simp [hbs]
theorem agree (s : ByteArray) (hs : s.size ≤ 20000) : readA s = outA (implR s) := by
  cases hI : implR s with
  | none =>
    rcases readA_cases s hs with h | ⟨l, h⟩
    · rw [h]; rfl
    · have := (impl_of hs h).1
      rw [hI] at this
      cases this
  | some l =>
    have hb : bytesN l = s := by
      unfold implR at hI
      split at hI
      · cases hI
      · split at hI
        · cases hI
        · split at hI
          · rename_i hbs
            cases hI
            exact hbs
          · cases hI
    have hn : nodesB l = true := by
      cases hn : nodesB l with
      | true => rfl
      | false =>
        rw [bytesN_no hn] at hb
        have : G s 0 = .error 4 := by rw [← hb]; rfl
        unfold implR at hI
        rw [this] at hI
        cases hI
    have := read_back hn (by rw [hb]; exact hs)
    rw [hb] at this
    rw [this]
    rfl
theorem readA_small (s : ByteArray) : (readA s).1.length ≤ 20 ∧ ∀ v ∈ (readA s).1, nodeB v = true := by
  unfold readA
  split
  · simp
  · unfold fin
    split
    · simp
    · rename_i h
      simp only [not_or, Bool.not_eq_false] at h
      exact nodesB_parts h.2.2
end Go.Proofs.Ytmmmadehifajlaa.nod
