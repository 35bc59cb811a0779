/-
  What laws.markNodeS, heldNodeS, eqNodesOut, markNodesOut and heldNodesOut answer and leave. Conditions: at most 1,000 nodes of at most 1,000 keys each; rows that are written are our own.
  laws.FnExactNodesRead answers true at every text, and leaves what was there as it was. No condition.
-/
import Derived.Test.YtmmmadehifajlaaZNodA
import Derived.Test.YtmmmadehifajlaaZNrJ
import Derived.Test.YtmmmadehifajlaaZLawA
namespace Go.Proofs.Ytmmmadehifajlaa.nod
open Go.RowKit Go.Joins
open Go.Proofs.Ytmmmadehifajlaa.base Go.Proofs.Ytmmmadehifajlaa.blk Go.Proofs.Ytmmmadehifajlaa.aid
open Go.Proofs.Ytmmmadehifajlaa.row (Rd Own OwnV)
open Go.Proofs.Ytmmmadehifajlaa.strs (tx strV mk from_ from_len)
open Go.Proofs.Ytmmmadehifajlaa.mem (Mem Mine Off)
set_option linter.unusedVariables false
set_option linter.unusedSimpArgs false

/-- the mark of a number in a bool -/
def b3 (k : Nat) : Bool := ((k : Int) + 1) % 3 == 0
def mk1 (k : Nat) (d : Nd) : Nd := (mk k, b3 k, (k : Int) + 1 + 1, d.2.2.2.1, d.2.2.2.2.1, from_ (k + 3) d.2.2.2.2.2.length)
/-- marked from k on -/
def mkN : Nat → List Nd → List Nd
  | _, [] => []
  | k, d :: r => mk1 k d :: mkN (k + 3 + d.2.2.2.2.2.length) r
def endK : Nat → List Nd → Nat
  | k, [] => k
  | k, d :: r => endK (k + 3 + d.2.2.2.2.2.length) r
theorem mkN_len : ∀ (k : Nat) (l : List Nd), (mkN k l).length = l.length
  | _, [] => rfl
  | k, d :: r => by simp [mkN, mkN_len _ r]
theorem mkN_snoc : ∀ (k : Nat) (l : List Nd) (d : Nd), mkN k (l ++ [d]) = mkN k l ++ [mk1 (endK k l) d] ∧ endK k (l ++ [d]) = endK k l + 3 + d.2.2.2.2.2.length
  | k, [], d => ⟨rfl, rfl⟩
  | k, e :: r, d => by
    obtain ⟨h1, h2⟩ := mkN_snoc (k + 3 + e.2.2.2.2.2.length) r d
    exact ⟨by simp [mkN, endK, h1], by simp [endK, h2]⟩
theorem mkN_take {k : Nat} {l : List Nd} {q : Nat} {d : Nd} (h : l[q]? = some d) : mkN k (l.take (q + 1)) = mkN k (l.take q) ++ [mk1 (endK k (l.take q)) d] ∧ endK k (l.take (q + 1)) = endK k (l.take q) + 3 + d.2.2.2.2.2.length := by
  have e : l.take (q + 1) = l.take q ++ [d] := by rw [List.take_add_one, h]; rfl
  rw [e]
  exact mkN_snoc k _ d
theorem mkN_at : ∀ (k : Nat) (l : List Nd) (q : Nat) (d : Nd), l[q]? = some d → (mkN k l)[q]? = some (mk1 (endK k (l.take q)) d)
  | k, [], q, d, h => by simp at h
  | k, e :: r, 0, d, h => by
    simp at h
    subst h
    simp [mkN, endK]
  | k, e :: r, q + 1, d, h => by
    have := mkN_at (k + 3 + e.2.2.2.2.2.length) r q d (by simpa using h)
    simpa [mkN, endK] using this
theorem endK_le : ∀ (k : Nat) (l : List Nd), (∀ d ∈ l, d.2.2.2.2.2.length ≤ 1000) → endK k l ≤ k + 1003 * l.length
  | k, [], _ => by simp [endK]
  | k, d :: r, h => by
    have h1 := endK_le (k + 3 + d.2.2.2.2.2.length) r (fun x hx => h x (List.mem_cons_of_mem _ hx))
    have h2 := h d (by simp)
    simp only [endK, List.length_cons]
    omega
theorem endK_ge : ∀ (k : Nat) (l : List Nd), k ≤ endK k l
  | k, [] => Nat.le_refl _
  | k, d :: r => by
    have := endK_ge (k + 3 + d.2.2.2.2.2.length) r
    simp only [endK]
    omega
theorem up_perm (D x : Mine) (A B os : List Mine) : (D :: ((A ++ x :: B) ++ os)).Perm (x :: D :: ((A ++ B) ++ os)) := by
  rw [List.append_assoc, List.cons_append, List.append_assoc]
  exact (List.Perm.cons D List.perm_middle).trans (List.Perm.swap x D _)
theorem mines_mid (A B : List Nd) (d : Nd) : mines (A ++ d :: B) = mines A ++ ⟨9, d.2.2.2.1, tx d.2.2.2.2.2⟩ :: mines B := by simp [mines]
theorem ncs_head (A B : List Nd) (x0 y0 : ByteArray) (x1 y1 : Bool) (x2 y2 : Int) (ka : Option Addr) (kc : Nat) (ks ks' : Tx) (h : ks'.length = ks.length) : (((ncs (A ++ (x0, x1, x2, ka, kc, ks) :: B)).set (A.length * 4) (.string y0)).set (A.length * 4 + 1) (.bool y1)).set (A.length * 4 + 2) (.int .i64 y2) = ncs (A ++ (y0, y1, y2, ka, kc, ks') :: B) := by
  have e := ncs_set (A ++ (x0, x1, x2, ka, kc, ks) :: B) A.length (y0, y1, y2, ka, kc, ks) (by simp)
  have e2 : (A ++ (x0, x1, x2, ka, kc, ks) :: B).set A.length (y0, y1, y2, ka, kc, ks) = A ++ (y0, y1, y2, ka, kc, ks) :: B := by
    rw [List.set_append_right _ _ (Nat.le_refl _), Nat.sub_self]
    rfl
  rw [e2] at e
  simp only at e
  have e3 : ncs (A ++ (y0, y1, y2, ka, kc, ks') :: B) = ncs (A ++ (y0, y1, y2, ka, kc, ks) :: B) := by
    rw [ncs_app, ncs_app, ncs_cons, ncs_cons]
    simp [h]
  rw [e3, ← e]
  have hat : (ncs (A ++ (x0, x1, x2, ka, kc, ks) :: B))[A.length * 4 + 3]? = some (.slice ka ks.length kc) := (ncs_at _ A.length (x0, x1, x2, ka, kc, ks) (by simp)).2.2.2
  symm
  apply List.ext_getElem?
  intro i
  rw [List.getElem?_set]
  split
  · rename_i hi
    subst hi
    rw [if_pos (by
      have := (List.getElem?_eq_some_iff.1 hat).1
      simpa using this)]
    rw [List.getElem?_set_ne (by omega), List.getElem?_set_ne (by omega), List.getElem?_set_ne (by omega)]
    exact hat.symm
  · rfl
theorem ncs_same (A B : List Nd) (y0 : ByteArray) (y1 : Bool) (y2 : Int) (ka : Option Addr) (kc : Nat) (ks ks' : Tx) (h : ks'.length = ks.length) : ncs (A ++ (y0, y1, y2, ka, kc, ks) :: B) = ncs (A ++ (y0, y1, y2, ka, kc, ks') :: B) := by
  rw [ncs_app, ncs_app, ncs_cons, ncs_cons]
  simp [h]
theorem own_n {wx : World} {G : Nat} {xs : List Value} (h1 : xs ≠ []) (h2 : OwnV 59 wx (some ⟨G, 0, none⟩) xs) : Own 59 wx G xs := by
  rcases h2 with h2 | ⟨g, e, h2⟩
  · exact absurd h2 h1
  · cases e; exact h2
set_option maxRecDepth 100000 in
set_option maxHeartbeats 4000000 in
theorem markS_any (W : World) (bs : List (Nat × Obj)) (rs : List (Option Addr × List Value)) (os : List Mine) (G c : Nat) (ds : List Nd) (m : Nat) (w : World) (hm : m ≤ 10) (hl : ds.length ≤ 1000) (hk : ∀ d ∈ ds, d.2.2.2.2.2.length ≤ 1000) (hM : Mem W bs rs (⟨59, some ⟨G, 0, none⟩, ncs ds⟩ :: (mines ds ++ os)) w) :
    Calls Try.prog 55 #[.slice (some ⟨G, 0, none⟩) ds.length c, .int .i64 m] w fun e w' => e = .returned (.int .i64 (endK m ds)) ∧ Mem W bs rs (⟨59, some ⟨G, 0, none⟩, ncs (mkN m ds)⟩ :: (mines (mkN m ds) ++ os)) w' := by
  have hli : (ds.length : Int) ≤ 1000 := by omega
  have M0 : Hid (Mem W bs rs (⟨59, some ⟨G, 0, none⟩, ncs (mkN m (ds.take 0) ++ ds.drop 0)⟩ :: (mines (mkN m (ds.take 0) ++ ds.drop 0) ++ os)) w) := mkHid hM
  have HKs := mkHid hk
  clear hM hk
  go_enter Try.func55, Try.ntmps55
  go_wp2_with fail
  go_loopw [1, 5] (fun kv i wr => ∃ (q k : Nat), q ≤ ds.length ∧ i = .int .i64 q ∧ kv = .int .i64 k ∧ Hid (k = endK m (ds.take q)) ∧ k ≤ m + 1003 * q ∧ Hid (Mem W bs rs (⟨59, some ⟨G, 0, none⟩, ncs (mkN m (ds.take q) ++ ds.drop q)⟩ :: (mines (mkN m (ds.take q) ++ ds.drop q) ++ os)) wr))
    (fun _ i _ => ds.length - (intOf i).toNat)
  case atStart => exact ⟨0, m, Nat.zero_le _, rfl, rfl, mkHid rfl, by omega, M0⟩
  case round =>
    clear M0
    obtain ⟨q, k, hq, rfl, rfl, hkk, hkb, hM⟩ := hrel
    by_cases hlt : q < ds.length
    · have hlti : (q : Int) < (ds.length : Int) := by omega
      have hkb2 : k ≤ 1003010 := by omega
      have hki : (k : Int) ≤ 1003010 := by omega
      obtain ⟨d, hx⟩ : ∃ y, ds[q]? = some y := ⟨_, List.getElem?_eq_getElem hlt⟩
      have hkd := HKs.out d (List.mem_of_getElem? hx)
      obtain ⟨tk1, tk2⟩ := mkN_take (k := m) hx
      have hdr : ds.drop q = d :: ds.drop (q + 1) := by rw [List.drop_eq_getElem_cons hlt, (List.getElem?_eq_some_iff.1 hx).2]
      obtain ⟨x0, x1, x2, ka, kc, ks⟩ := d
      simp only at hkd tk2
      have hA : (mkN m (ds.take q)).length = q := by rw [mkN_len]; simp; omega
      have M1 := hM.out
      rw [hdr] at M1
      generalize hAA : mkN m (ds.take q) = A at *
      have hne : ∀ (y0 : ByteArray) (y1 : Bool) (y2 : Int) (ks' : Tx), ncs (A ++ (y0, y1, y2, ka, kc, ks') :: ds.drop (q + 1)) ≠ [] := fun y0 y1 y2 ks' => by rw [ncs_app, ncs_cons]; simp
      have hat : (A ++ (x0, x1, x2, ka, kc, ks) :: ds.drop (q + 1))[q]? = some (x0, x1, x2, ka, kc, ks) := by rw [← hA]; simp
      obtain ⟨v0, v1, v2, v3⟩ := ncs_at _ _ _ hat
      simp only at v0 v1 v2 v3
      have HT := mkHid (fun wx => strs.markText_any k wx (by omega))
      have HX := mkHid (And.intro v0 (And.intro v1 (And.intro v2 v3)))
      have HH := mkHid (ncs_head A (ds.drop (q + 1)) x0 (mk k) x1 (b3 k) x2 ((k : Int) + 1 + 1) ka kc ks ks rfl)
      rw [hA] at HH
      have HMX := fun wx (h : OwnV 9 wx ka (tx ks)) => strs.markX_any ka kc ks (k + 3) wx (by omega) (by omega) h
      rw [show ((k + 3 : Nat) : Int) = (k : Int) + 1 + 1 + 1 from by push_cast; omega] at HMX
      replace HMX := mkHid HMX
      have HM1 := mkHid M1
      clear hM M1 hx v0 v1 v2 v3 hat hdr
      go_wp2_with fail
      refine (HT.out _).mono ?_
      rintro e w1 ⟨rfl, hb⟩
      have M2 := HM1.out.next hb
      have O2 := own_n (hne _ _ _ _) M2.o0
      have lz : q * 4 + 3 < (ncs (A ++ (x0, x1, x2, ka, kc, ks) :: ds.drop (q + 1))).length := (List.getElem?_eq_some_iff.1 HX.out.2.2.2).1
      have y0 := O2.cell HX.out.1
      have y1 := O2.cell HX.out.2.1
      have y2 := O2.cell HX.out.2.2.1
      have y3 := O2.cell HX.out.2.2.2
      have uf := O2.free
      have O3 := ((O2.set (q * 4) (by omega) (.string (mk k))).set (q * 4 + 1) (by simp; omega) (.bool (b3 k))).set (q * 4 + 2) (by simp; omega) (.int .i64 ((k : Int) + 1 + 1))
      rw [HH.out] at O3
      have M3 := M2.mark (grew_grew (grew_grew (grew_cell w1 G (q * 4) (.string (mk k))) (grew_cell _ G (q * 4 + 1) (.bool (b3 k)))) (grew_cell _ G (q * 4 + 2) (.int .i64 ((k : Int) + 1 + 1)))) (fun b e => by cases e; exact ⟨hne _ _ _ _, 0, none, rfl⟩) (.inr ⟨G, rfl, O3⟩) (fun _ => hne _ _ _ _)
      rw [mines_mid] at M3
      have M4 := mkHid (memPerm M3 (up_perm _ _ _ _ _))
      clear hb M2 O2 O3 M3 HM1
      go_wp2_with fail
      refine (HMX.out _ M4.out.o0).mono ?_
      rintro e w2 ⟨rfl, ox, r5, hg5, hq5⟩
      have M5 := memPerm (M4.out.mark hg5 hq5 ox (strs.from_ne rfl)) (up_perm _ _ _ _ _).symm
      have hB : A ++ (mk k, b3 k, (k : Int) + 1 + 1, ka, kc, from_ (k + 3) ks.length) :: ds.drop (q + 1) = mkN m (ds.take (q + 1)) ++ ds.drop (q + 1) := by
        rw [tk1, ← hkk.out]
        simp [mk1]
      rw [ncs_same _ _ _ _ _ _ _ ks (from_ (k + 3) ks.length) (by simp [from_len])] at M5
      have eqm := mines_mid A (ds.drop (q + 1)) (mk k, b3 k, (k : Int) + 1 + 1, ka, kc, from_ (k + 3) ks.length)
      simp only at eqm
      rw [← eqm, hB] at M5
      have M6 := mkHid M5
      have hk2 : Hid (k + 3 + ks.length = endK m (ds.take (q + 1))) := mkHid (by rw [tk2, ← hkk.out])
      clear ox hg5 hq5 M5 M4 eqm hB tk1 tk2 HT HX HH HMX hne hkk hAA
      go_wp2
      exact ⟨⟨q + 1, k + 3 + ks.length, by omega, by go_num, by go_num, hk2, by omega, M6⟩, by simp [intOf]; omega⟩
    · obtain rfl : q = ds.length := by omega
      have R : Hid (k = endK m ds ∧ Mem W bs rs (⟨59, some ⟨G, 0, none⟩, ncs (mkN m ds)⟩ :: (mines (mkN m ds) ++ os)) wr) := mkHid (by
        have h1 := hM.out
        have h2 := hkk.out
        rw [List.take_of_length_le (Nat.le_refl _)] at h1 h2
        rw [List.drop_of_length_le (Nat.le_refl _), List.append_nil] at h1
        exact ⟨h2, h1⟩)
      clear hM hkk HKs
      go_wp2
      go_ret
      exact ⟨by rw [R.out.1]; rfl, R.out.2⟩
set_option maxRecDepth 100000 in
theorem markS_nil (a : Option Addr) (c : Nat) (m : Int) (w : World) : Calls Try.prog 55 #[.slice a 0 c, .int .i64 m] w fun e w' => e = .returned (.int .i64 m) ∧ w' = w := by
  go_enter Try.func55, Try.ntmps55
  go_wp2
  go_loopw [1, 5] (fun kv i wr => i = .int .i64 0 ∧ kv = .int .i64 m ∧ wr = w)
    (fun _ i _ => 0)
  case atStart => exact ⟨rfl, rfl, rfl⟩
  case round =>
    obtain ⟨rfl, rfl, rfl⟩ := hrel
    go_wp2
    go_ret
    exact ⟨rfl, rfl⟩
theorem markD_any (W : World) (bs : List (Nat × Obj)) (rs : List (Option Addr × List Value)) (os : List Mine) (a : Option Addr) (c : Nat) (ds : List Nd) (m : Nat) (w : World) (hm : m ≤ 10) (hl : ds.length ≤ 1000) (hk : ∀ d ∈ ds, d.2.2.2.2.2.length ≤ 1000) (hM : Mem W bs rs (⟨59, a, ncs ds⟩ :: (mines ds ++ os)) w) :
    Calls Try.prog 55 #[.slice a ds.length c, .int .i64 m] w fun e w' => e = .returned (.int .i64 (endK m ds)) ∧ Mem W bs rs (⟨59, a, ncs (mkN m ds)⟩ :: (mines (mkN m ds) ++ os)) w' := by
  cases ds with
  | nil =>
    refine (markS_nil a c m w).mono ?_
    rintro e w' ⟨rfl, rfl⟩
    exact ⟨rfl, hM⟩
  | cons d r =>
    rcases hM.o0 with h | ⟨g, e, _⟩
    · rw [ncs_cons] at h
      cases h
    · subst e
      exact markS_any W bs rs os g c (d :: r) m w hm hl hk hM
set_option maxRecDepth 100000 in
set_option maxHeartbeats 2000000 in
theorem heldS_any (a : Option Addr) (c : Nat) (ds : List Nd) (m n : Nat) (w : World) (hn : ds.length = n) (hm : m ≤ 10) (hl : n ≤ 1000) (hk : ∀ d ∈ ds, d.2.2.2.2.2.length ≤ 1000) (hr : RdN w a (mkN m ds)) :
    Calls Try.prog 56 #[.slice a n c, .int .i64 m] w fun e w' => e = .returned (.int .i64 (endK m ds)) ∧ Below w.heap.size w w' := by
  have hli : (n : Int) ≤ 1000 := by omega
  have HKs := mkHid hk
  clear hk
  go_enter Try.func56, Try.ntmps56
  go_wp2_with fail
  go_loopw [1, 5] (fun kv i wr => ∃ (q k : Nat), q ≤ n ∧ i = .int .i64 q ∧ kv = .int .i64 k ∧ Hid (k = endK m (ds.take q)) ∧ k ≤ m + 1003 * q ∧ Hid (Below w.heap.size w wr))
    (fun _ i _ => n - (intOf i).toNat)
  case atStart => exact ⟨0, m, Nat.zero_le _, rfl, rfl, mkHid rfl, by omega, mkHid (Below.refl _ _)⟩
  case round =>
    obtain ⟨q, k, hq, rfl, rfl, hkk, hkb, hB⟩ := hrel
    by_cases hlt : q < n
    · have hlti : (q : Int) < (n : Int) := by omega
      have hkb2 : k ≤ 1003010 := by omega
      have hki : (k : Int) ≤ 1003010 := by omega
      obtain ⟨d, hx⟩ : ∃ y, ds[q]? = some y := ⟨_, List.getElem?_eq_getElem (by omega)⟩
      have hkd := HKs.out d (List.mem_of_getElem? hx)
      have tk2 := (mkN_take (k := m) hx).2
      have hy := mkN_at m ds q d hx
      rw [← hkk.out] at hy
      have hry := hr.each _ (List.mem_of_getElem? hy)
      obtain ⟨x0, x1, x2, ka, kc, ks⟩ := d
      simp only at hkd tk2
      obtain ⟨g1, o1, rfl, c0, c1, c2, c3, l1⟩ := el hr.top hy
      simp only [mk1, from_len] at c0 c1 c2 c3 hry
      have e0 := (hB.out.cell (p := ⟨g1, o1 + q * 4, none⟩) l1).trans c0
      have e1 := (hB.out.cell (p := ⟨g1, o1 + q * 4 + 1, none⟩) l1).trans c1
      have e2 := (hB.out.cell (p := ⟨g1, o1 + q * 4 + 2, none⟩) l1).trans c2
      have e3 := (hB.out.cell (p := ⟨g1, o1 + q * 4 + 3, none⟩) l1).trans c3
      have HT0 := mkHid (fun wx => strs.markText_any k wx (by omega))
      have HX := fun wx (h : Below w.heap.size w wx) => strs.heldX_any ka kc ks.length (k + 3) wx (by omega) (by omega) (hry.below h)
      rw [show ((k + 3 : Nat) : Int) = (k : Int) + 1 + 1 + 1 from by push_cast; omega] at HX
      replace HX := mkHid HX
      have hk2 : Hid (k + 3 + ks.length = endK m (ds.take (q + 1))) := mkHid (by rw [tk2, ← hkk.out])
      unfold b3 at e1
      generalize mk k = t0 at *
      have ht0 : (!t0.toList == t0.toList) = false := by simp
      generalize hbb : (((k : Int) + 1) % 3 == 0) = bb at *
      have hb1 : (bb != bb) = false := by simp
      have hb2 : ((k : Int) + 1 + 1 != (k : Int) + 1 + 1) = false := by simp
      have hneg : ((k : Int) + 1 + 1 + 1 + (ks.length : Int) < 0) = False := eq_false (by omega)
      have HC := mkHid (And.intro e0 (And.intro e1 (And.intro e2 e3)))
      clear c0 c1 c2 c3 hry hx hy hr tk2 hkk
      go_wp2_with fail
      go_region_held3 (fun w' => w'.cell? ⟨g1, o1 + q * 4, none⟩ = some (.string t0)) (go_keep)
        ((go_at_call 77; refine Calls.mono (HT0.out _) ?_; rintro e w1 ⟨rfl, hb0⟩; have hr0 := re (w := wr) hb0 rfl rfl rfl rfl; have B0 := mkHid (hB.out.trans (hr0.mono hB.out.size)); have q0 := (hr0.cell (p := ⟨g1, o1 + q * 4, none⟩) (World.block_lt_of_cell? wr _ HC.out.1)).trans HC.out.1; have q1 := (hr0.cell (p := ⟨g1, o1 + q * 4 + 1, none⟩) (World.block_lt_of_cell? wr _ HC.out.2.1)).trans HC.out.2.1; have q2 := (hr0.cell (p := ⟨g1, o1 + q * 4 + 2, none⟩) (World.block_lt_of_cell? wr _ HC.out.2.2.1)).trans HC.out.2.2.1; have q3 := (hr0.cell (p := ⟨g1, o1 + q * 4 + 3, none⟩) (World.block_lt_of_cell? wr _ HC.out.2.2.2)).trans HC.out.2.2.2; clear hb0 hr0))
      go_wp2_with fail
      refine (HX.out _ B0.out).mono ?_
      rintro e w2 ⟨rfl, hb2⟩
      have B2 := mkHid (B0.out.trans (hb2.mono B0.out.size))
      clear hb2 B0 HC HT0 HX q0 q1 q2 q3 hB
      go_wp2
      exact ⟨⟨q + 1, k + 3 + ks.length, by omega, by go_num, by go_num, hk2, by omega, B2⟩, by simp [intOf]; omega⟩
    · obtain rfl : q = n := by omega
      have R : Hid (k = endK m ds) := mkHid (by
        have h2 := hkk.out
        rw [List.take_of_length_le (by omega)] at h2
        exact h2)
      clear hr hkk HKs
      go_wp2
      go_ret
      exact ⟨by rw [R.out]; rfl, hB.out⟩
set_option maxRecDepth 100000 in
theorem eqNOut_same (a b : Option Addr) (ca cb : Nat) (ds es : List Nd) (q : Int) (n : Nat) (w : World) (hn : ds.length = n) (hv : es.map val = ds.map val) (hl : n ≤ 1000) (hs : ∀ d ∈ ds, d.2.2.2.2.2.length ≤ 1000) (ha : RdN w a ds) (hb : RdN w b es) :
    Calls Try.prog 24 #[.agg #[.slice a n ca, .int .i64 q], .agg #[.slice b n cb, .int .i64 q]] w fun e w' => e = .returned (.bool true) ∧ Below w.heap.size w w' := by
  have B0 := mkHid ((below_alloc1 w (.cells #[.slice a n ca, .int .i64 q] 28)).alloc (by simp) (.cells #[.slice b n cb, .int .i64 q] 28))
  have b1 := mkHid (blk_old (blk_new w (.cells #[.slice a n ca, .int .i64 q] 28) w.heap.size rfl) (.cells #[.slice b n cb, .int .i64 q] 28))
  have b2 := mkHid (blk_new (w.alloc (.cells #[.slice a n ca, .int .i64 q] 28)) (.cells #[.slice b n cb, .int .i64 q] 28) (w.heap.size + 1) (by simp))
  have HE := mkHid (eqS_same a b ca cb ds es _ n hn hv (by omega) (fun d hd => Nat.le_trans (hs d hd) (by omega)) (ha.below B0.out) (hb.below B0.out))
  have h5 : (q != q) = false := by simp
  clear ha hb
  go_enter Try.func24, Try.ntmps24
  go_wp2_with fail
  refine HE.out.mono ?_
  rintro e w1 ⟨rfl, hb⟩
  obtain ⟨_, c5⟩ := cel2 (blk_below b1.out hb)
  obtain ⟨_, d5⟩ := cel2 (blk_below b2.out hb)
  have B1 := mkHid (B0.out.trans (hb.mono B0.out.size))
  clear hb b1 b2 B0 HE
  go_wp2
  go_ret
  exact ⟨rfl, B1.out⟩
set_option maxRecDepth 100000 in
theorem markNOut_any (W : World) (bs : List (Nat × Obj)) (rs : List (Option Addr × List Value)) (os : List Mine) (a : Option Addr) (c : Nat) (ds : List Nd) (q : Int) (n : Nat) (w : World) (hn : ds.length = n) (hl : n ≤ 1000) (hk : ∀ d ∈ ds, d.2.2.2.2.2.length ≤ 1000) (hM : Mem W bs rs (⟨59, a, ncs ds⟩ :: (mines ds ++ os)) w) :
    Calls Try.prog 25 #[.agg #[.slice a n c, .int .i64 q], .int .i64 1] w fun e w' => e = .returned (.int .i64 (endK 1 ds)) ∧ Mem W bs rs (⟨59, a, ncs (mkN 1 ds)⟩ :: (mines (mkN 1 ds) ++ os)) w' := by
  subst hn
  have HM := mkHid (markD_any W bs rs os a c ds 1 _ (by omega) hl hk (hM.alloc (.cells #[.slice a ds.length c, .int .i64 q] 28)))
  rw [show ((1 : Nat) : Int) = 1 from rfl] at HM
  clear hM
  go_enter Try.func25, Try.ntmps25
  go_wp2_with fail
  refine HM.out.mono ?_
  rintro e w1 ⟨rfl, h1⟩
  have F := mkHid h1
  clear h1 HM
  go_wp2
  go_ret
  exact ⟨rfl, F.out⟩
set_option maxRecDepth 100000 in
theorem heldNOut_any (a : Option Addr) (c : Nat) (ds : List Nd) (q : Int) (n : Nat) (w : World) (hn : ds.length = n) (hl : n ≤ 1000) (hk : ∀ d ∈ ds, d.2.2.2.2.2.length ≤ 1000) (hr : RdN w a (mkN 1 ds)) :
    Calls Try.prog 26 #[.agg #[.slice a n c, .int .i64 q], .int .i64 1] w fun e w' => e = .returned (.int .i64 (endK 1 ds)) ∧ Below w.heap.size w w' := by
  have HH := mkHid (heldS_any a c ds 1 n _ hn (by omega) hl hk (hr.alloc (.cells #[.slice a n c, .int .i64 q] 28)))
  rw [show ((1 : Nat) : Int) = 1 from rfl] at HH
  have h0 : (((endK 1 ds : Nat) : Int) < 0) = False := eq_false (by omega)
  clear hr
  go_enter Try.func26, Try.ntmps26
  go_wp2_with fail
  refine HH.out.mono ?_
  rintro e w1 ⟨rfl, hb⟩
  have B1 := mkHid ((below_alloc1 w (.cells #[.slice a n c, .int .i64 q] 28)).trans (hb.mono (by simp)))
  clear hb HH
  go_wp2
  go_ret
  exact ⟨rfl, B1.out⟩
theorem rdN_in {W wx : World} {bs : List (Nat × Obj)} {rs : List (Option Addr × List Value)} {os : List Mine} {a : Option Addr} {ds : List Nd} (h : Mem W bs rs os wx) (h0 : ⟨59, a, ncs ds⟩ ∈ os) (h1 : ∀ p ∈ mines ds, p ∈ os) : RdN wx a ds :=
  ⟨(h.o _ h0).rd, fun d hd => (h.o ⟨9, d.2.2.2.1, tx d.2.2.2.2.2⟩ (h1 _ (List.mem_map.2 ⟨d, hd, rfl⟩))).rd⟩
end Go.Proofs.Ytmmmadehifajlaa.nod
namespace Go.Proofs.Ytmmmadehifajlaa.nod
open Go.RowKit Go.Joins
open Go.Proofs.Ytmmmadehifajlaa.base Go.Proofs.Ytmmmadehifajlaa.blk Go.Proofs.Ytmmmadehifajlaa.aid
open Go.Proofs.Ytmmmadehifajlaa.row (Rd Own OwnV)
open Go.Proofs.Ytmmmadehifajlaa.strs (tx strV)
open Go.Proofs.Ytmmmadehifajlaa.mem (Mem Mine Off)
set_option linter.unusedVariables false
set_option linter.unusedSimpArgs false

theorem val_keys {ds es : List Nd} {P : Nat} (hv : es.map val = ds.map val) (h : ∀ d ∈ ds, d.2.2.2.2.2.length ≤ P) : ∀ d ∈ es, d.2.2.2.2.2.length ≤ P := val_all (P := fun v => v.2.2.2.length ≤ P) hv h
set_option maxRecDepth 100000 in
set_option maxHeartbeats 4000000 in
theorem read_walk (s : ByteArray) (w : World) (hs : (s.size : Int) ≤ 9223372036854775807) :
    Calls Try.prog 7 #[.string s] w fun e w' => e = .returned (.bool true) ∧ Below w.heap.size w w' := by
  by_cases hk1 : (1048576 : Int) < (s.size : Int)
  · go_enter Try.func7, Try.ntmps7
    go_wp2
    go_ret
    exact ⟨rfl, Below.refl _ _⟩
  have hk2 : (s.size : Int) ≤ 1048576 := by omega
  have hk3 : s.size ≤ 1048576 := by omega
  have S0 := mkHid (mem.start w)
  have HS := mkHid (fun wx => readS_any s wx hk3)
  have HI := mkHid (fun wx => readI_any s wx hk3)
  unfold NPost at HS HI
  have hsm := readA_small s
  generalize readA s = r at *
  obtain ⟨vs, q⟩ := r
  simp only at HS HI hsm
  have HLn := mkHid (fun (ds : List Nd) (h : ds.map val = vs) => by
    have h1 : ds.length = vs.length := by rw [← h]; simp
    have h2 : ∀ d ∈ ds, d.2.2.2.2.2.length ≤ 1000 := fun d hd => by
      have := hsm.2 (val d) (by rw [← h]; exact List.mem_map_of_mem hd)
      obtain ⟨_, p2, p3, p4, p5⟩ := nodeB_small this
      have p6 : d.2.2.2.2.2.length ≤ 100 := p2
      omega
    exact And.intro h1 h2)
  have hvl : vs.length ≤ 1000 := by omega
  have hvi : (vs.length : Int) ≤ 1000 := by omega
  have HE := mkHid (fun wx a1 c1 a2 c2 (ds es : List Nd) (h1 : ds.map val = vs) (h2 : es.map val = vs) (ha : RdN wx a1 ds) (hb : RdN wx a2 es) => eqNOut_same a1 a2 c1 c2 ds es q vs.length wx (HLn.out ds h1).1 (h2.trans h1.symm) hvl (HLn.out ds h1).2 ha hb)
  have HMG := mkHid (fun wx bs os a1 c1 (ds : List Nd) (h1 : ds.map val = vs) (h : Mem w bs [] (⟨59, a1, ncs ds⟩ :: (mines ds ++ os)) wx) => markNOut_any w bs [] os a1 c1 ds q vs.length wx (HLn.out ds h1).1 hvl (HLn.out ds h1).2 h)
  have HHG := mkHid (fun wx a1 c1 (ds : List Nd) (h1 : ds.map val = vs) (h : RdN wx a1 (mkN 1 ds)) => heldNOut_any a1 c1 ds q vs.length wx (HLn.out ds h1).1 hvl (HLn.out ds h1).2 h)
  clear hs hsm
  go_enter Try.func7, Try.ntmps7
  go_wp2_with fail
  refine (HS.out _).mono ?_
  rintro e w1 ⟨a1, c1, ds1, rfl, hv1, m1⟩
  rw [(HLn.out ds1 hv1).1]
  have S1 := mkHid ((memJoin S0.out m1).var (.cells #[.slice a1 vs.length c1, .int .i64 q] 28))
  clear m1 S0 HS
  go_wp2_with fail
  refine (HI.out _).mono ?_
  rintro e w2 ⟨a2, c2, ds2, rfl, hv2, m2⟩
  rw [(HLn.out ds2 hv2).1]
  have S2 := mkHid ((memJoin S1.out m2).var (.cells #[.slice a2 vs.length c2, .int .i64 q] 28))
  clear m2 S1
  obtain ⟨k2g00, k2g01⟩ := cel2 S2.out.b0
  obtain ⟨k2w00, k2w01⟩ := cel2 S2.out.b1
  have R21 : Hid (RdN _ a1 ds1) := mkHid (rdN_in S2.out (by simp) (fun p hp => by simp [hp]))
  have R22 : Hid (RdN _ a2 ds2) := mkHid (rdN_in S2.out (by simp) (fun p hp => by simp [hp]))
  go_wp2_with fail
  refine (HE.out _ _ _ _ _ ds2 ds1 hv2 hv1 R22.out R21.out).mono ?_
  rintro e w3 ⟨rfl, hb3⟩
  have S3 := mkHid (S2.out.next hb3)
  clear k2g00 k2g01 k2w00 k2w01
  clear hb3 S2 R21 R22
  obtain ⟨k3g00, k3g01⟩ := cel2 S3.out.b0
  go_wp2_with fail
  refine (HMG.out _ _ _ _ _ ds2 hv2 S3.out).mono ?_
  rintro e w4 ⟨rfl, h4⟩
  have S4 := mkHid h4
  clear k3g00 k3g01
  clear h4 S3 HMG
  obtain ⟨k4g00, k4g01⟩ := cel2 S4.out.b0
  have R4 : Hid (RdN _ a2 (mkN 1 ds2)) := mkHid (rdN_in S4.out (by simp) (fun p hp => by simp [hp]))
  go_wp2_with fail
  refine (HHG.out _ _ _ ds2 hv2 R4.out).mono ?_
  rintro e w5 ⟨rfl, hb5⟩
  have S5 := mkHid (S4.out.next hb5)
  clear k4g00 k4g01
  clear hb5 S4 R4
  have hk8 : (((endK 1 ds2 : Nat) : Int) < 0) = False := eq_false (by omega)
  have hk9 : (((endK 1 ds2 : Nat) : Int) != ((endK 1 ds2 : Nat) : Int)) = false := by simp
  go_wp2_with fail
  refine (HI.out _).mono ?_
  rintro e w6 ⟨a6, c6, ds6, rfl, hv6, m6⟩
  rw [(HLn.out ds6 hv6).1]
  have S6 := mkHid ((memJoin S5.out m6).var (.cells #[.slice a6 vs.length c6, .int .i64 q] 28))
  clear m6 S5 HI
  obtain ⟨k6h00, k6h01⟩ := cel2 S6.out.b0
  obtain ⟨k6w00, k6w01⟩ := cel2 S6.out.b2
  have R61 : Hid (RdN _ a1 ds1) := mkHid (rdN_in S6.out (by simp) (fun p hp => by simp [hp]))
  have R66 : Hid (RdN _ a6 ds6) := mkHid (rdN_in S6.out (by simp) (fun p hp => by simp [hp]))
  go_wp2_with fail
  refine (HE.out _ _ _ _ _ ds6 ds1 hv6 hv1 R66.out R61.out).mono ?_
  rintro e w7 ⟨rfl, hb7⟩
  have S7 := mkHid (S6.out.next hb7)
  clear k6h00 k6h01 k6w00 k6w01
  clear hb7 S6 R61 R66
  obtain ⟨k7g00, k7g01⟩ := cel2 S7.out.b1
  have R7 : Hid (RdN _ a2 (mkN 1 ds2)) := mkHid (rdN_in S7.out (by simp) (fun p hp => by simp [hp]))
  go_wp2_with fail
  refine (HHG.out _ _ _ ds2 hv2 R7.out).mono ?_
  rintro e w8 ⟨rfl, hb8⟩
  have S8 := mkHid (S7.out.next hb8)
  clear k7g00 k7g01
  clear hb8 S7 R7
  go_wp2
  go_ret
  exact ⟨rfl, S8.out.below⟩
end Go.Proofs.Ytmmmadehifajlaa.nod
