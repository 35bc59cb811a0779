/-
  What laws.markNodeS, heldNodeS, eqNodesOut, markNodesOut and heldNodesOut answer and leave. Conditions: at most 1,000 nodes of at most 1,000 keys each; rows that are written are our own.
  laws.FnNodes answers true at all bytes, and leaves what was there as it was. Condition: the bytes lie in memory.
-/
import Derived.Test.YtmmmadehifajlaaZNodA
import Derived.Test.YtmmmadehifajlaaZDwA
import Derived.Test.YtmmmadehifajlaaZRdA
import Derived.Deep.DeepCutAuto
namespace Go.Proofs.Ytmmmadehifajlaa.nod
open Go.RowKit Go.Joins
open Go.Proofs.Ytmmmadehifajlaa.base Go.Proofs.Ytmmmadehifajlaa.blk Go.Proofs.Ytmmmadehifajlaa.aid
open Go.Proofs.Ytmmmadehifajlaa.row (Rd Own OwnV)
open Go.Proofs.Ytmmmadehifajlaa.strs (tx strV mk from_ from_len)
open Go.Proofs.Ytmmmadehifajlaa.mem (Mem Mine Off)
set_option linter.unusedVariables false
set_option linter.unusedSimpArgs false

/-- the mark of a number in a bool -/
def b3 (k : Nat) : Bool := ((k : Int) + 1) % 3 == 0
def mk1 (k : Nat) (d : Nd) : Nd := (mk k, b3 k, (k : Int) + 1 + 1, d.2.2.2.1, d.2.2.2.2.1, from_ (k + 3) d.2.2.2.2.2.length)
/-- marked from k on -/
def mkN : Nat → List Nd → List Nd
  | _, [] => []
  | k, d :: r => mk1 k d :: mkN (k + 3 + d.2.2.2.2.2.length) r
def endK : Nat → List Nd → Nat
  | k, [] => k
  | k, d :: r => endK (k + 3 + d.2.2.2.2.2.length) r
theorem mkN_len : ∀ (k : Nat) (l : List Nd), (mkN k l).length = l.length
  | _, [] => rfl
  | k, d :: r => by simp [mkN, mkN_len _ r]
theorem mkN_snoc : ∀ (k : Nat) (l : List Nd) (d : Nd), mkN k (l ++ [d]) = mkN k l ++ [mk1 (endK k l) d] ∧ endK k (l ++ [d]) = endK k l + 3 + d.2.2.2.2.2.length
  | k, [], d => ⟨rfl, rfl⟩
  | k, e :: r, d => by
    obtain ⟨h1, h2⟩ := mkN_snoc (k + 3 + e.2.2.2.2.2.length) r d
    exact ⟨by simp [mkN, endK, h1], by simp [endK, h2]⟩
theorem mkN_take {k : Nat} {l : List Nd} {q : Nat} {d : Nd} (h : l[q]? = some d) : mkN k (l.take (q + 1)) = mkN k (l.take q) ++ [mk1 (endK k (l.take q)) d] ∧ endK k (l.take (q + 1)) = endK k (l.take q) + 3 + d.2.2.2.2.2.length := by
  have e : l.take (q + 1) = l.take q ++ [d] := by rw [List.take_add_one, h]; rfl
  rw [e]
  exact mkN_snoc k _ d
theorem mkN_at : ∀ (k : Nat) (l : List Nd) (q : Nat) (d : Nd), l[q]? = some d → (mkN k l)[q]? = some (mk1 (endK k (l.take q)) d)
  | k, [], q, d, h => by simp at h
  | k, e :: r, 0, d, h => by
    simp at h
    subst h
    simp [mkN, endK]
  | k, e :: r, q + 1, d, h => by
    have := mkN_at (k + 3 + e.2.2.2.2.2.length) r q d (by simpa using h)
    simpa [mkN, endK] using this
theorem endK_le : ∀ (k : Nat) (l : List Nd), (∀ d ∈ l, d.2.2.2.2.2.length ≤ 1000) → endK k l ≤ k + 1003 * l.length
  | k, [], _ => by simp [endK]
  | k, d :: r, h => by
    have h1 := endK_le (k + 3 + d.2.2.2.2.2.length) r (fun x hx => h x (List.mem_cons_of_mem _ hx))
    have h2 := h d (by simp)
    simp only [endK, List.length_cons]
    omega
theorem endK_ge : ∀ (k : Nat) (l : List Nd), k ≤ endK k l
  | k, [] => Nat.le_refl _
  | k, d :: r => by
    have := endK_ge (k + 3 + d.2.2.2.2.2.length) r
    simp only [endK]
    omega
theorem up_perm (D x : Mine) (A B os : List Mine) : (D :: ((A ++ x :: B) ++ os)).Perm (x :: D :: ((A ++ B) ++ os)) := by
  rw [List.append_assoc, List.cons_append, List.append_assoc]
  exact (List.Perm.cons D List.perm_middle).trans (List.Perm.swap x D _)
theorem mines_mid (A B : List Nd) (d : Nd) : mines (A ++ d :: B) = mines A ++ ⟨9, d.2.2.2.1, tx d.2.2.2.2.2⟩ :: mines B := by simp [mines]
theorem ncs_head (A B : List Nd) (x0 y0 : ByteArray) (x1 y1 : Bool) (x2 y2 : Int) (ka : Option Addr) (kc : Nat) (ks ks' : Tx) (h : ks'.length = ks.length) : (((ncs (A ++ (x0, x1, x2, ka, kc, ks) :: B)).set (A.length * 4) (.string y0)).set (A.length * 4 + 1) (.bool y1)).set (A.length * 4 + 2) (.int .i64 y2) = ncs (A ++ (y0, y1, y2, ka, kc, ks') :: B) := by
  have e := ncs_set (A ++ (x0, x1, x2, ka, kc, ks) :: B) A.length (y0, y1, y2, ka, kc, ks) (by simp)
  have e2 : (A ++ (x0, x1, x2, ka, kc, ks) :: B).set A.length (y0, y1, y2, ka, kc, ks) = A ++ (y0, y1, y2, ka, kc, ks) :: B := by
    rw [List.set_append_right _ _ (Nat.le_refl _), Nat.sub_self]
    rfl
  rw [e2] at e
  simp only at e
  have e3 : ncs (A ++ (y0, y1, y2, ka, kc, ks') :: B) = ncs (A ++ (y0, y1, y2, ka, kc, ks) :: B) := by
    rw [ncs_app, ncs_app, ncs_cons, ncs_cons]
    simp [h]
  rw [e3, ← e]
  have hat : (ncs (A ++ (x0, x1, x2, ka, kc, ks) :: B))[A.length * 4 + 3]? = some (.slice ka ks.length kc) := (ncs_at _ A.length (x0, x1, x2, ka, kc, ks) (by simp)).2.2.2
  symm
  apply List.ext_getElem?
  intro i
  rw [List.getElem?_set]
  split
  · rename_i hi
    subst hi
    rw [if_pos (by
      have := (List.getElem?_eq_some_iff.1 hat).1
      simpa using this)]
    rw [List.getElem?_set_ne (by omega), List.getElem?_set_ne (by omega), List.getElem?_set_ne (by omega)]
    exact hat.symm
  · rfl
theorem ncs_same (A B : List Nd) (y0 : ByteArray) (y1 : Bool) (y2 : Int) (ka : Option Addr) (kc : Nat) (ks ks' : Tx) (h : ks'.length = ks.length) : ncs (A ++ (y0, y1, y2, ka, kc, ks) :: B) = ncs (A ++ (y0, y1, y2, ka, kc, ks') :: B) := by
  rw [ncs_app, ncs_app, ncs_cons, ncs_cons]
  simp [h]
theorem own_n {wx : World} {G : Nat} {xs : List Value} (h1 : xs ≠ []) (h2 : OwnV 59 wx (some ⟨G, 0, none⟩) xs) : Own 59 wx G xs := by
  rcases h2 with h2 | ⟨g, e, h2⟩
  · exact absurd h2 h1
  · cases e; exact h2
set_option maxRecDepth 100000 in
set_option maxHeartbeats 4000000 in
theorem markS_any (W : World) (bs : List (Nat × Obj)) (rs : List (Option Addr × List Value)) (os : List Mine) (G c : Nat) (ds : List Nd) (m : Nat) (w : World) (hm : m ≤ 10) (hl : ds.length ≤ 1000) (hk : ∀ d ∈ ds, d.2.2.2.2.2.length ≤ 1000) (hM : Mem W bs rs (⟨59, some ⟨G, 0, none⟩, ncs ds⟩ :: (mines ds ++ os)) w) :
    Calls Try.prog 55 #[.slice (some ⟨G, 0, none⟩) ds.length c, .int .i64 m] w fun e w' => e = .returned (.int .i64 (endK m ds)) ∧ Mem W bs rs (⟨59, some ⟨G, 0, none⟩, ncs (mkN m ds)⟩ :: (mines (mkN m ds) ++ os)) w' := by
  have hli : (ds.length : Int) ≤ 1000 := by omega
  have M0 : Hid (Mem W bs rs (⟨59, some ⟨G, 0, none⟩, ncs (mkN m (ds.take 0) ++ ds.drop 0)⟩ :: (mines (mkN m (ds.take 0) ++ ds.drop 0) ++ os)) w) := mkHid hM
  have HKs := mkHid hk
  clear hM hk
  go_enter Try.func55, Try.ntmps55
  go_wp2_with fail
  go_loopw [1, 5] (fun kv i wr => ∃ (q k : Nat), q ≤ ds.length ∧ i = .int .i64 q ∧ kv = .int .i64 k ∧ Hid (k = endK m (ds.take q)) ∧ k ≤ m + 1003 * q ∧ Hid (Mem W bs rs (⟨59, some ⟨G, 0, none⟩, ncs (mkN m (ds.take q) ++ ds.drop q)⟩ :: (mines (mkN m (ds.take q) ++ ds.drop q) ++ os)) wr))
    (fun _ i _ => ds.length - (intOf i).toNat)
  case atStart => exact ⟨0, m, Nat.zero_le _, rfl, rfl, mkHid rfl, by omega, M0⟩
  case round =>
    clear M0
    obtain ⟨q, k, hq, rfl, rfl, hkk, hkb, hM⟩ := hrel
    by_cases hlt : q < ds.length
    · have hlti : (q : Int) < (ds.length : Int) := by omega
      have hkb2 : k ≤ 1003010 := by omega
      have hki : (k : Int) ≤ 1003010 := by omega
      obtain ⟨d, hx⟩ : ∃ y, ds[q]? = some y := ⟨_, List.getElem?_eq_getElem hlt⟩
      have hkd := HKs.out d (List.mem_of_getElem? hx)
      obtain ⟨tk1, tk2⟩ := mkN_take (k := m) hx
      have hdr : ds.drop q = d :: ds.drop (q + 1) := by rw [List.drop_eq_getElem_cons hlt, (List.getElem?_eq_some_iff.1 hx).2]
      obtain ⟨x0, x1, x2, ka, kc, ks⟩ := d
      simp only at hkd tk2
      have hA : (mkN m (ds.take q)).length = q := by rw [mkN_len]; simp; omega
      have M1 := hM.out
      rw [hdr] at M1
      generalize hAA : mkN m (ds.take q) = A at *
      have hne : ∀ (y0 : ByteArray) (y1 : Bool) (y2 : Int) (ks' : Tx), ncs (A ++ (y0, y1, y2, ka, kc, ks') :: ds.drop (q + 1)) ≠ [] := fun y0 y1 y2 ks' => by rw [ncs_app, ncs_cons]; simp
      have hat : (A ++ (x0, x1, x2, ka, kc, ks) :: ds.drop (q + 1))[q]? = some (x0, x1, x2, ka, kc, ks) := by rw [← hA]; simp
      obtain ⟨v0, v1, v2, v3⟩ := ncs_at _ _ _ hat
      simp only at v0 v1 v2 v3
      have HT := mkHid (fun wx => strs.markText_any k wx (by omega))
      have HX := mkHid (And.intro v0 (And.intro v1 (And.intro v2 v3)))
      have HH := mkHid (ncs_head A (ds.drop (q + 1)) x0 (mk k) x1 (b3 k) x2 ((k : Int) + 1 + 1) ka kc ks ks rfl)
      rw [hA] at HH
      have HMX := fun wx (h : OwnV 9 wx ka (tx ks)) => strs.markX_any ka kc ks (k + 3) wx (by omega) (by omega) h
      rw [show ((k + 3 : Nat) : Int) = (k : Int) + 1 + 1 + 1 from by push_cast; omega] at HMX
      replace HMX := mkHid HMX
      have HM1 := mkHid M1
      clear hM M1 hx v0 v1 v2 v3 hat hdr
      go_wp2_with fail
      refine (HT.out _).mono ?_
      rintro e w1 ⟨rfl, hb⟩
      have M2 := HM1.out.next hb
      have O2 := own_n (hne _ _ _ _) M2.o0
      have lz : q * 4 + 3 < (ncs (A ++ (x0, x1, x2, ka, kc, ks) :: ds.drop (q + 1))).length := (List.getElem?_eq_some_iff.1 HX.out.2.2.2).1
      have y0 := O2.cell HX.out.1
      have y1 := O2.cell HX.out.2.1
      have y2 := O2.cell HX.out.2.2.1
      have y3 := O2.cell HX.out.2.2.2
      have uf := O2.free
      have O3 := ((O2.set (q * 4) (by omega) (.string (mk k))).set (q * 4 + 1) (by simp; omega) (.bool (b3 k))).set (q * 4 + 2) (by simp; omega) (.int .i64 ((k : Int) + 1 + 1))
      rw [HH.out] at O3
      have M3 := M2.mark (grew_grew (grew_grew (grew_cell w1 G (q * 4) (.string (mk k))) (grew_cell _ G (q * 4 + 1) (.bool (b3 k)))) (grew_cell _ G (q * 4 + 2) (.int .i64 ((k : Int) + 1 + 1)))) (fun b e => by cases e; exact ⟨hne _ _ _ _, 0, none, rfl⟩) (.inr ⟨G, rfl, O3⟩) (fun _ => hne _ _ _ _)
      rw [mines_mid] at M3
      have M4 := mkHid (memPerm M3 (up_perm _ _ _ _ _))
      clear hb M2 O2 O3 M3 HM1
      go_wp2_with fail
      refine (HMX.out _ M4.out.o0).mono ?_
      rintro e w2 ⟨rfl, ox, r5, hg5, hq5⟩
      have M5 := memPerm (M4.out.mark hg5 hq5 ox (strs.from_ne rfl)) (up_perm _ _ _ _ _).symm
      have hB : A ++ (mk k, b3 k, (k : Int) + 1 + 1, ka, kc, from_ (k + 3) ks.length) :: ds.drop (q + 1) = mkN m (ds.take (q + 1)) ++ ds.drop (q + 1) := by
        rw [tk1, ← hkk.out]
        simp [mk1]
      rw [ncs_same _ _ _ _ _ _ _ ks (from_ (k + 3) ks.length) (by simp [from_len])] at M5
      have eqm := mines_mid A (ds.drop (q + 1)) (mk k, b3 k, (k : Int) + 1 + 1, ka, kc, from_ (k + 3) ks.length)
      simp only at eqm
      rw [← eqm, hB] at M5
      have M6 := mkHid M5
      have hk2 : Hid (k + 3 + ks.length = endK m (ds.take (q + 1))) := mkHid (by rw [tk2, ← hkk.out])
      clear ox hg5 hq5 M5 M4 eqm hB tk1 tk2 HT HX HH HMX hne hkk hAA
      go_wp2
      exact ⟨⟨q + 1, k + 3 + ks.length, by omega, by go_num, by go_num, hk2, by omega, M6⟩, by simp [intOf]; omega⟩
    · obtain rfl : q = ds.length := by omega
      have R : Hid (k = endK m ds ∧ Mem W bs rs (⟨59, some ⟨G, 0, none⟩, ncs (mkN m ds)⟩ :: (mines (mkN m ds) ++ os)) wr) := mkHid (by
        have h1 := hM.out
        have h2 := hkk.out
        rw [List.take_of_length_le (Nat.le_refl _)] at h1 h2
        rw [List.drop_of_length_le (Nat.le_refl _), List.append_nil] at h1
        exact ⟨h2, h1⟩)
      clear hM hkk HKs
      go_wp2
      go_ret
      exact ⟨by rw [R.out.1]; rfl, R.out.2⟩
set_option maxRecDepth 100000 in
theorem markS_nil (a : Option Addr) (c : Nat) (m : Int) (w : World) : Calls Try.prog 55 #[.slice a 0 c, .int .i64 m] w fun e w' => e = .returned (.int .i64 m) ∧ w' = w := by
  go_enter Try.func55, Try.ntmps55
  go_wp2
  go_loopw [1, 5] (fun kv i wr => i = .int .i64 0 ∧ kv = .int .i64 m ∧ wr = w)
    (fun _ i _ => 0)
  case atStart => exact ⟨rfl, rfl, rfl⟩
  case round =>
    obtain ⟨rfl, rfl, rfl⟩ := hrel
    go_wp2
    go_ret
    exact ⟨rfl, rfl⟩
theorem markD_any (W : World) (bs : List (Nat × Obj)) (rs : List (Option Addr × List Value)) (os : List Mine) (a : Option Addr) (c : Nat) (ds : List Nd) (m : Nat) (w : World) (hm : m ≤ 10) (hl : ds.length ≤ 1000) (hk : ∀ d ∈ ds, d.2.2.2.2.2.length ≤ 1000) (hM : Mem W bs rs (⟨59, a, ncs ds⟩ :: (mines ds ++ os)) w) :
    Calls Try.prog 55 #[.slice a ds.length c, .int .i64 m] w fun e w' => e = .returned (.int .i64 (endK m ds)) ∧ Mem W bs rs (⟨59, a, ncs (mkN m ds)⟩ :: (mines (mkN m ds) ++ os)) w' := by
  cases ds with
  | nil =>
    refine (markS_nil a c m w).mono ?_
    rintro e w' ⟨rfl, rfl⟩
    exact ⟨rfl, hM⟩
  | cons d r =>
    rcases hM.o0 with h | ⟨g, e, _⟩
    · rw [ncs_cons] at h
      cases h
    · subst e
      exact markS_any W bs rs os g c (d :: r) m w hm hl hk hM
set_option maxRecDepth 100000 in
set_option maxHeartbeats 2000000 in
theorem heldS_any (a : Option Addr) (c : Nat) (ds : List Nd) (m n : Nat) (w : World) (hn : ds.length = n) (hm : m ≤ 10) (hl : n ≤ 1000) (hk : ∀ d ∈ ds, d.2.2.2.2.2.length ≤ 1000) (hr : RdN w a (mkN m ds)) :
    Calls Try.prog 56 #[.slice a n c, .int .i64 m] w fun e w' => e = .returned (.int .i64 (endK m ds)) ∧ Below w.heap.size w w' := by
  have hli : (n : Int) ≤ 1000 := by omega
  have HKs := mkHid hk
  clear hk
  go_enter Try.func56, Try.ntmps56
  go_wp2_with fail
  go_loopw [1, 5] (fun kv i wr => ∃ (q k : Nat), q ≤ n ∧ i = .int .i64 q ∧ kv = .int .i64 k ∧ Hid (k = endK m (ds.take q)) ∧ k ≤ m + 1003 * q ∧ Hid (Below w.heap.size w wr))
    (fun _ i _ => n - (intOf i).toNat)
  case atStart => exact ⟨0, m, Nat.zero_le _, rfl, rfl, mkHid rfl, by omega, mkHid (Below.refl _ _)⟩
  case round =>
    obtain ⟨q, k, hq, rfl, rfl, hkk, hkb, hB⟩ := hrel
    by_cases hlt : q < n
    · have hlti : (q : Int) < (n : Int) := by omega
      have hkb2 : k ≤ 1003010 := by omega
      have hki : (k : Int) ≤ 1003010 := by omega
      obtain ⟨d, hx⟩ : ∃ y, ds[q]? = some y := ⟨_, List.getElem?_eq_getElem (by omega)⟩
      have hkd := HKs.out d (List.mem_of_getElem? hx)
      have tk2 := (mkN_take (k := m) hx).2
      have hy := mkN_at m ds q d hx
      rw [← hkk.out] at hy
      have hry := hr.each _ (List.mem_of_getElem? hy)
      obtain ⟨x0, x1, x2, ka, kc, ks⟩ := d
      simp only at hkd tk2
      obtain ⟨g1, o1, rfl, c0, c1, c2, c3, l1⟩ := el hr.top hy
      simp only [mk1, from_len] at c0 c1 c2 c3 hry
      have e0 := (hB.out.cell (p := ⟨g1, o1 + q * 4, none⟩) l1).trans c0
      have e1 := (hB.out.cell (p := ⟨g1, o1 + q * 4 + 1, none⟩) l1).trans c1
      have e2 := (hB.out.cell (p := ⟨g1, o1 + q * 4 + 2, none⟩) l1).trans c2
      have e3 := (hB.out.cell (p := ⟨g1, o1 + q * 4 + 3, none⟩) l1).trans c3
      have HT0 := mkHid (fun wx => strs.markText_any k wx (by omega))
      have HX := fun wx (h : Below w.heap.size w wx) => strs.heldX_any ka kc ks.length (k + 3) wx (by omega) (by omega) (hry.below h)
      rw [show ((k + 3 : Nat) : Int) = (k : Int) + 1 + 1 + 1 from by push_cast; omega] at HX
      replace HX := mkHid HX
      have hk2 : Hid (k + 3 + ks.length = endK m (ds.take (q + 1))) := mkHid (by rw [tk2, ← hkk.out])
      unfold b3 at e1
      generalize mk k = t0 at *
      have ht0 : (!t0.toList == t0.toList) = false := by simp
      generalize hbb : (((k : Int) + 1) % 3 == 0) = bb at *
      have hb1 : (bb != bb) = false := by simp
      have hb2 : ((k : Int) + 1 + 1 != (k : Int) + 1 + 1) = false := by simp
      have hneg : ((k : Int) + 1 + 1 + 1 + (ks.length : Int) < 0) = False := eq_false (by omega)
      have HC := mkHid (And.intro e0 (And.intro e1 (And.intro e2 e3)))
      clear c0 c1 c2 c3 hry hx hy hr tk2 hkk
      go_wp2_with fail
      go_region_held3 (fun w' => w'.cell? ⟨g1, o1 + q * 4, none⟩ = some (.string t0)) (go_keep)
        ((go_at_call 77; refine Calls.mono (HT0.out _) ?_; rintro e w1 ⟨rfl, hb0⟩; have hr0 := re (w := wr) hb0 rfl rfl rfl rfl; have B0 := mkHid (hB.out.trans (hr0.mono hB.out.size)); have q0 := (hr0.cell (p := ⟨g1, o1 + q * 4, none⟩) (World.block_lt_of_cell? wr _ HC.out.1)).trans HC.out.1; have q1 := (hr0.cell (p := ⟨g1, o1 + q * 4 + 1, none⟩) (World.block_lt_of_cell? wr _ HC.out.2.1)).trans HC.out.2.1; have q2 := (hr0.cell (p := ⟨g1, o1 + q * 4 + 2, none⟩) (World.block_lt_of_cell? wr _ HC.out.2.2.1)).trans HC.out.2.2.1; have q3 := (hr0.cell (p := ⟨g1, o1 + q * 4 + 3, none⟩) (World.block_lt_of_cell? wr _ HC.out.2.2.2)).trans HC.out.2.2.2; clear hb0 hr0))
      go_wp2_with fail
      refine (HX.out _ B0.out).mono ?_
      rintro e w2 ⟨rfl, hb2⟩
      have B2 := mkHid (B0.out.trans (hb2.mono B0.out.size))
      clear hb2 B0 HC HT0 HX q0 q1 q2 q3 hB
      go_wp2
      exact ⟨⟨q + 1, k + 3 + ks.length, by omega, by go_num, by go_num, hk2, by omega, B2⟩, by simp [intOf]; omega⟩
    · obtain rfl : q = n := by omega
      have R : Hid (k = endK m ds) := mkHid (by
        have h2 := hkk.out
        rw [List.take_of_length_le (by omega)] at h2
        exact h2)
      clear hr hkk HKs
      go_wp2
      go_ret
      exact ⟨by rw [R.out]; rfl, hB.out⟩
set_option maxRecDepth 100000 in
theorem eqNOut_same (a b : Option Addr) (ca cb : Nat) (ds es : List Nd) (q : Int) (n : Nat) (w : World) (hn : ds.length = n) (hv : es.map val = ds.map val) (hl : n ≤ 1000) (hs : ∀ d ∈ ds, d.2.2.2.2.2.length ≤ 1000) (ha : RdN w a ds) (hb : RdN w b es) :
    Calls Try.prog 24 #[.agg #[.slice a n ca, .int .i64 q], .agg #[.slice b n cb, .int .i64 q]] w fun e w' => e = .returned (.bool true) ∧ Below w.heap.size w w' := by
  have B0 := mkHid ((below_alloc1 w (.cells #[.slice a n ca, .int .i64 q] 28)).alloc (by simp) (.cells #[.slice b n cb, .int .i64 q] 28))
  have b1 := mkHid (blk_old (blk_new w (.cells #[.slice a n ca, .int .i64 q] 28) w.heap.size rfl) (.cells #[.slice b n cb, .int .i64 q] 28))
  have b2 := mkHid (blk_new (w.alloc (.cells #[.slice a n ca, .int .i64 q] 28)) (.cells #[.slice b n cb, .int .i64 q] 28) (w.heap.size + 1) (by simp))
  have HE := mkHid (eqS_same a b ca cb ds es _ n hn hv (by omega) (fun d hd => Nat.le_trans (hs d hd) (by omega)) (ha.below B0.out) (hb.below B0.out))
  have h5 : (q != q) = false := by simp
  clear ha hb
  go_enter Try.func24, Try.ntmps24
  go_wp2_with fail
  refine HE.out.mono ?_
  rintro e w1 ⟨rfl, hb⟩
  obtain ⟨_, c5⟩ := cel2 (blk_below b1.out hb)
  obtain ⟨_, d5⟩ := cel2 (blk_below b2.out hb)
  have B1 := mkHid (B0.out.trans (hb.mono B0.out.size))
  clear hb b1 b2 B0 HE
  go_wp2
  go_ret
  exact ⟨rfl, B1.out⟩
set_option maxRecDepth 100000 in
theorem markNOut_any (W : World) (bs : List (Nat × Obj)) (rs : List (Option Addr × List Value)) (os : List Mine) (a : Option Addr) (c : Nat) (ds : List Nd) (q : Int) (n : Nat) (w : World) (hn : ds.length = n) (hl : n ≤ 1000) (hk : ∀ d ∈ ds, d.2.2.2.2.2.length ≤ 1000) (hM : Mem W bs rs (⟨59, a, ncs ds⟩ :: (mines ds ++ os)) w) :
    Calls Try.prog 25 #[.agg #[.slice a n c, .int .i64 q], .int .i64 1] w fun e w' => e = .returned (.int .i64 (endK 1 ds)) ∧ Mem W bs rs (⟨59, a, ncs (mkN 1 ds)⟩ :: (mines (mkN 1 ds) ++ os)) w' := by
  subst hn
  have HM := mkHid (markD_any W bs rs os a c ds 1 _ (by omega) hl hk (hM.alloc (.cells #[.slice a ds.length c, .int .i64 q] 28)))
  rw [show ((1 : Nat) : Int) = 1 from rfl] at HM
  clear hM
  go_enter Try.func25, Try.ntmps25
  go_wp2_with fail
  refine HM.out.mono ?_
  rintro e w1 ⟨rfl, h1⟩
  have F := mkHid h1
  clear h1 HM
  go_wp2
  go_ret
  exact ⟨rfl, F.out⟩
set_option maxRecDepth 100000 in
theorem heldNOut_any (a : Option Addr) (c : Nat) (ds : List Nd) (q : Int) (n : Nat) (w : World) (hn : ds.length = n) (hl : n ≤ 1000) (hk : ∀ d ∈ ds, d.2.2.2.2.2.length ≤ 1000) (hr : RdN w a (mkN 1 ds)) :
    Calls Try.prog 26 #[.agg #[.slice a n c, .int .i64 q], .int .i64 1] w fun e w' => e = .returned (.int .i64 (endK 1 ds)) ∧ Below w.heap.size w w' := by
  have HH := mkHid (heldS_any a c ds 1 n _ hn (by omega) hl hk (hr.alloc (.cells #[.slice a n c, .int .i64 q] 28)))
  rw [show ((1 : Nat) : Int) = 1 from rfl] at HH
  have h0 : (((endK 1 ds : Nat) : Int) < 0) = False := eq_false (by omega)
  clear hr
  go_enter Try.func26, Try.ntmps26
  go_wp2_with fail
  refine HH.out.mono ?_
  rintro e w1 ⟨rfl, hb⟩
  have B1 := mkHid ((below_alloc1 w (.cells #[.slice a n c, .int .i64 q] 28)).trans (hb.mono (by simp)))
  clear hb HH
  go_wp2
  go_ret
  exact ⟨rfl, B1.out⟩
theorem rdN_in {W wx : World} {bs : List (Nat × Obj)} {rs : List (Option Addr × List Value)} {os : List Mine} {a : Option Addr} {ds : List Nd} (h : Mem W bs rs os wx) (h0 : ⟨59, a, ncs ds⟩ ∈ os) (h1 : ∀ p ∈ mines ds, p ∈ os) : RdN wx a ds :=
  ⟨(h.o _ h0).rd, fun d hd => (h.o ⟨9, d.2.2.2.1, tx d.2.2.2.2.2⟩ (h1 _ (List.mem_map.2 ⟨d, hd, rfl⟩))).rd⟩
end Go.Proofs.Ytmmmadehifajlaa.nod
namespace Go.Proofs.Ytmmmadehifajlaa.nod
open Go.RowKit Go.Joins
open Go.Proofs.Ytmmmadehifajlaa.base Go.Proofs.Ytmmmadehifajlaa.blk Go.Proofs.Ytmmmadehifajlaa.aid
open Go.Proofs.Ytmmmadehifajlaa.row (Rd Own OwnV)
open Go.Proofs.Ytmmmadehifajlaa.strs (tx)
open Go.Proofs.Ytmmmadehifajlaa.mem (Mem Mine Off)
open Go.Proofs.Ytmmmadehifajlaa.draw (Row)
set_option linter.unusedVariables false
set_option linter.unusedSimpArgs false

set_option maxRecDepth 100000 in
theorem out_code (a b : Value) (w : World) : (Instr.field 28 (.agg #[a, b]) 1).run Try.prog w = .ok b w := by rfl
attribute [local go_sem ↓] out_code
theorem read_tells (s : ByteArray) : (readA s).2 = 0 → bytesN (readA s).1 = s := by
  intro h
  by_cases hs : s.size ≤ 20000
  · rcases readA_cases s hs with e | ⟨l, e⟩
    · rw [e] at h
      simp at h
    · rw [e]
      exact (impl_of hs e).2.2
  · have e : readA s = ([], 2) := by unfold readA; rw [if_pos (by omega)]
    rw [e] at h
    simp at h
theorem small_vn {ds : List Nd} {vs : List Vn} (hv : ds.map val = vs) (h : ∀ v ∈ vs, nodeB v = true) : SmallN ds ∧ ds.length = vs.length := by
  refine ⟨fun d hd => ?_, by rw [← hv]; simp⟩
  obtain ⟨h1, h2, _, _, h5⟩ := nodeB_small (h (val d) (by rw [← hv]; exact List.mem_map_of_mem hd))
  have h1' : d.1.size ≤ 80 := h1
  have h2' : d.2.2.2.2.2.length ≤ 100 := h2
  exact ⟨by omega, by omega, fun t ht => by have : t.size = 32 := h5 t ht; omega⟩
set_option maxRecDepth 100000 in
set_option maxHeartbeats 8000000 in
theorem fnNodes_in (a : Option Addr) (len cap : Nat) (b : Option Addr) (lenb capb : Nat) (w : World) (hl : len ≤ 1048576) (hr : Row w a len) (hlb : lenb ≤ 1048576) (hrb : Row w b lenb) :
    Calls Try.prog 3 #[.slice a len cap, .slice b lenb capb] w fun e w' => e = .returned (.bool true) ∧ Below w.heap.size w w' := by
  have hli : (len : Int) ≤ 1048576 := by omega
  have hlbi : (lenb : Int) ≤ 1048576 := by omega
  have HD := mkHid (drawB_any a len cap w hl hr)
  have HR := mkHid (fun wx (h : Below w.heap.size w wx) => drawR_any b lenb capb wx hlb (hrb.below h))
  clear hl hr hlb hrb
  go_enter Try.func3, Try.ntmps3
  go_wp2_with fail
  refine HD.out.mono ?_
  rintro e w1 ⟨a1, c1, ds, rfl, hl4, hsd, m1⟩
  have S1 := mkHid m1
  have HBI := mkHid (fun wx (hx : RdN wx a1 ds) => bytesI_any a1 c1 ds wx (by omega) (sd_small hsd) (sd_cap hsd) hx)
  have HBS := mkHid (fun wx (hx : RdN wx a1 ds) => bytesS_any a1 c1 ds wx (by omega) (sd_small hsd) hx)
  have HRI := mkHid (fun wx (hx : RdN wx a1 ds) => rightI_any a1 c1 ds wx (by omega) (sd_small hsd) hx)
  have hlv : (ds.map val).length ≤ 4 := by simpa using hl4
  have hv : Hid (ds.map val = ds.map val) := mkHid rfl
  have ht20 := bytesN_four hlv
  generalize hvs : ds.map val = vs at *
  have htn := fun (h : nodesB vs = true) => bytesN_pos h
  have htz := fun (h : nodesB vs = false) => bytesN_no h
  have hback := fun (h : nodesB vs = true) => read_back h ht20
  have hvn := fun (h : nodesB vs = true) => (nodesB_parts h).2
  obtain ⟨t, ht⟩ : ∃ t, bytesN vs = t := ⟨_, rfl⟩
  rw [ht] at HBI HBS ht20 htn htz hback
  have httt : (!t.toList == t.toList) = false := by simp
  have hti : (t.size : Int) ≤ 20000 := by omega
  clear HD m1 hsd hlv
  go_wp2_with fail
  refine (HBI.out _ (rdN_own S1.out)).mono ?_
  rintro e w2 ⟨rfl, hb2⟩
  have S2 := mkHid (S1.out.next hb2)
  clear hb2 S1 HBI
  go_wp2_with fail
  refine (HBS.out _ (rdN_own S2.out)).mono ?_
  rintro e w3 ⟨rfl, hb3⟩
  have S3 := mkHid (S2.out.next hb3)
  clear hb3 S2 HBS
  go_wp2_with fail
  refine (HRI.out _ (rdN_own S3.out)).mono ?_
  rintro e w4 ⟨rfl, hb4⟩
  have S4 := mkHid (S3.out.next hb4)
  clear hb4 S3 HRI
  cases hnb : nodesB vs with
  | false =>
    have e0 := htz hnb
    subst e0
    clear htn htz hback hvn ht20
    go_wp2_with fail
    obtain ⟨bsT, osT, ST⟩ : ∃ bs os, Hid (Mem w bs [] os _) := ⟨_, _, S4⟩
    clear S4
    refine (HR.out _ ST.out.below).mono ?_
    rintro e w8 ⟨t8, rfl, ht8, hb8⟩
    have S8 := mkHid (ST.out.next hb8)
    have HI8 := mkHid (fun wx => readI_any t8 wx (by omega))
    have HS8 := mkHid (fun wx => readS_any t8 wx (by omega))
    unfold NPost at HI8 HS8
    have hsm := readA_small t8
    have hbk := read_tells t8
    generalize readA t8 = r8 at *
    obtain ⟨l8, q8⟩ := r8
    simp only at HI8 HS8 hsm hbk
    clear hb8 ST HR
    go_wp2_with fail
    refine (HI8.out _).mono ?_
    rintro e w9 ⟨a9, c9, ds9, rfl, hv9, m9⟩
    have S9 := mkHid ((memJoin S8.out m9).var (.cells #[.slice a9 ds9.length c9, .int .i64 q8] 28))
    have hs9 := small_vn hv9 hsm.2
    have HB9 := fun wx (hx : RdN wx a9 ds9) => bytesS_any a9 c9 ds9 wx (by omega) hs9.1 hx
    rw [hv9] at HB9
    have R9 := mkHid (rdN_in (a := a9) (ds := ds9) S9.out (by simp) (fun p hp => by simp [hp]))
    obtain ⟨c0, c1⟩ := cel2 S9.out.b0
    clear m9 S8 HI8 hs9 hv9
    by_cases hq : q8 = 0
    · subst hq
      rw [hbk rfl] at HB9
      replace HB9 := mkHid HB9
      have huu : (t8.toList == t8.toList) = true := by simp
      clear hbk hsm
      go_wp2_with fail
      generalize w9.alloc (.cells #[.slice a9 ds9.length c9, .int .i64 0] 28) = V at *
      go_region_held3 (fun w' => w'.cell? ⟨w9.heap.size, 0, none⟩ = some (.slice a9 ds9.length c9) ∧ w'.cell? ⟨w9.heap.size, 1, none⟩ = some (.int .i64 0)) (go_keep)
        ((first
          | (go_at_call 14; refine Calls.mono (HS8.out _) ?_; rintro e w10 ⟨a10, c10, ds10, rfl, hv10, m10⟩; have r10 := re (w := V) m10.below rfl rfl rfl rfl; have S10 := mkHid (S9.out.next r10); have R10 := mkHid (R9.out.below r10); obtain ⟨d0, d1⟩ := cel2 S10.out.b0; clear m10 r10 hv10)
          | (go_at_call 10; refine Calls.mono (HB9.out _ (by first | exact R10.out | exact R10.out.drew)) ?_; rintro e w11 ⟨rfl, hb11⟩; have r11 := re (w := w10) hb11 rfl rfl rfl rfl; have S11 := mkHid (S10.out.next r11); obtain ⟨e0, e1⟩ := cel2 S11.out.b0; clear hb11 r11)))
      go_wp2
      go_ret
      exact ⟨rfl, by first | exact S11.out.below | exact S11.out.drew.below⟩
    · have hcn : (q8 != 0) = true := by simpa using hq
      have hcn2 : (q8 == 0) = false := by simpa using hq
      have hcq : (q8 == q8) = true := by simp
      clear hq HB9 hbk hsm R9
      go_wp2_with fail
      generalize w9.alloc (.cells #[.slice a9 ds9.length c9, .int .i64 q8] 28) = V at *
      refine wp_region_held_drew (S := fun w' => w'.cell? ⟨w9.heap.size, 0, none⟩ = some (.slice a9 ds9.length c9) ∧ w'.cell? ⟨w9.heap.size, 1, none⟩ = some (.int .i64 q8)) (by kernel_rfl) (by exact ⟨c0, c1⟩) (fun hHeld => ?_)
      refine wpAnyH_take (i := 0) (oi := Oper.mk _ _ _ _ _ _) (v := ?_) rfl (by kernel_rfl) (by kernel_rfl) (by kernel_rfl) (fun _ _ _ h => h) (Or.inl ⟨by rfl, ?_⟩) (by assumption) ?_
      rotate_left
      · intro w hSw
        try dsimp only at hSw
        go_simp
        all_goals with_reducible rfl
      try simp only [Act.put, List.setIfInBounds_toArray, List.set_cons_zero, List.set_cons_succ]
      refine wpAnyH_take (i := 1) (oi := Oper.mk _ _ _ _ _ _) (v := ?_) rfl (by kernel_rfl) (by kernel_rfl) (by kernel_rfl) (fun _ _ _ h => h) (Or.inl ⟨by rfl, ?_⟩) (by assumption) ?_
      rotate_left
      · intro w hSw
        try dsimp only at hSw
        go_simp
        all_goals with_reducible rfl
      try simp only [Act.put, List.setIfInBounds_toArray, List.set_cons_zero, List.set_cons_succ]
      refine wpAnyH_take (i := 2) (oi := Oper.mk _ _ _ _ _ _) (v := ?_) rfl (by kernel_rfl) (by kernel_rfl) (by kernel_rfl) (fun _ _ _ h => h) (Or.inl ⟨by rfl, ?_⟩) (by assumption) ?_
      rotate_left
      · intro w hSw
        try dsimp only at hSw
        go_simp
        all_goals with_reducible rfl
      try simp only [Act.put, List.setIfInBounds_toArray, List.set_cons_zero, List.set_cons_succ]
      refine wpAnyH_ready (rs := [3]) (by kernel_rfl) (by simp) ?_
      refine AllReadyH.cons (o := Oper.mk _ _ _ _ _ _) rfl (fun K hK => ?_) AllReadyH.nil
      go_simp
      refine Calls.mono (HS8.out _) ?_
      rintro e w10 ⟨a10, c10, ds10, rfl, hv10, m10⟩
      have r10 := re (w := V) m10.below rfl rfl rfl rfl
      have S10 := mkHid (S9.out.next r10)
      obtain ⟨d0, d1⟩ := cel2 S10.out.b0
      clear m10 r10 hv10
      show K _ _
      refine hK.out _ _ ⟨d0, d1⟩ (fun hHeld => ?_)
      clear hK K
      try simp only [Act.put, List.setIfInBounds_toArray, List.set_cons_zero, List.set_cons_succ]
      refine wpAnyH_take (i := 4) (oi := Oper.mk _ _ _ _ _ _) (v := ?_) rfl (by kernel_rfl) (by kernel_rfl) (by kernel_rfl) (fun _ _ _ h => h) (Or.inl ⟨by rfl, ?_⟩) (by assumption) ?_
      rotate_left
      · intro w hSw
        try dsimp only at hSw
        go_simp
        all_goals with_reducible rfl
      try simp only [Act.put, List.setIfInBounds_toArray, List.set_cons_zero, List.set_cons_succ]
      refine wpAnyH_take (i := 5) (oi := Oper.mk _ _ _ _ _ _) (v := ?_) rfl (by kernel_rfl) (by kernel_rfl) (by kernel_rfl) (fun _ _ _ h => h) (Or.inl ⟨by rfl, ?_⟩) (by assumption) ?_
      rotate_left
      · intro w hSw
        try dsimp only at hSw
        go_simp
        all_goals with_reducible rfl
      try simp only [Act.put, List.setIfInBounds_toArray, List.set_cons_zero, List.set_cons_succ]
      refine wpAnyH_take (i := 6) (oi := Oper.mk _ _ _ _ _ _) (v := ?_) rfl (by kernel_rfl) (by kernel_rfl) (by kernel_rfl) (fun _ _ _ h => h) (Or.inl ⟨by rfl, ?_⟩) (by assumption) ?_
      rotate_left
      · intro w hSw
        try dsimp only at hSw
        go_simp
        all_goals with_reducible rfl
      try simp only [Act.put, List.setIfInBounds_toArray, List.set_cons_zero, List.set_cons_succ]
      refine wpAnyH_take (i := 7) (oi := Oper.mk _ _ _ _ _ _) (v := ?_) rfl (by kernel_rfl) (by kernel_rfl) (by kernel_rfl) (fun _ _ _ h => h) (Or.inl ⟨by rfl, ?_⟩) (by assumption) ?_
      rotate_left
      · intro w hSw
        try dsimp only at hSw
        go_simp
        all_goals with_reducible rfl
      try simp only [Act.put, List.setIfInBounds_toArray, List.set_cons_zero, List.set_cons_succ]
      refine wpAnyH_take (i := 8) (oi := Oper.mk _ _ _ _ _ _) (v := ?_) rfl (by kernel_rfl) (by kernel_rfl) (by kernel_rfl) (fun _ _ _ h => h) (Or.inl ⟨by rfl, ?_⟩) (by assumption) ?_
      rotate_left
      · intro w hSw
        try dsimp only at hSw
        go_simp
        all_goals with_reducible rfl
      try simp only [Act.put, List.setIfInBounds_toArray, List.set_cons_zero, List.set_cons_succ]
      refine wpAnyH_take (i := 9) (oi := Oper.mk _ _ _ _ _ _) (v := ?_) rfl (by kernel_rfl) (by kernel_rfl) (by kernel_rfl) (fun _ _ _ h => h) (Or.inl ⟨by rfl, ?_⟩) (by assumption) ?_
      rotate_left
      · intro w hSw
        try dsimp only at hSw
        go_simp
        all_goals with_reducible rfl
      try simp only [Act.put, List.setIfInBounds_toArray, List.set_cons_zero, List.set_cons_succ]
      refine wpAnyH_take (i := 10) (oi := Oper.mk _ _ _ _ _ _) (v := ?_) rfl (by kernel_rfl) (by kernel_rfl) (by kernel_rfl) (fun _ _ _ h => h) (Or.inl ⟨by rfl, ?_⟩) (by assumption) ?_
      rotate_left
      · intro w hSw
        try dsimp only at hSw
        go_simp
        all_goals with_reducible rfl
      try simp only [Act.put, List.setIfInBounds_toArray, List.set_cons_zero, List.set_cons_succ]
      refine wpAnyH_take (i := 11) (oi := Oper.mk _ _ _ _ _ _) (v := undef) rfl (by kernel_rfl) (by kernel_rfl) (by kernel_rfl) (fun _ _ _ h => h) (Or.inr ⟨by rfl, rfl⟩) (by assumption) ?_
      try simp only [Act.put, List.setIfInBounds_toArray, List.set_cons_zero, List.set_cons_succ]
      refine wpAnyH_take (i := 12) (oi := Oper.mk _ _ _ _ _ _) (v := undef) rfl (by kernel_rfl) (by kernel_rfl) (by kernel_rfl) (fun _ _ _ h => h) (Or.inr ⟨by rfl, rfl⟩) (by assumption) ?_
      try simp only [Act.put, List.setIfInBounds_toArray, List.set_cons_zero, List.set_cons_succ]
      refine wpAnyH_take (i := 13) (oi := Oper.mk _ _ _ _ _ _) (v := undef) rfl (by kernel_rfl) (by kernel_rfl) (by kernel_rfl) (fun _ _ _ h => h) (Or.inr ⟨by rfl, rfl⟩) (by assumption) ?_
      try simp only [Act.put, List.setIfInBounds_toArray, List.set_cons_zero, List.set_cons_succ]
      refine wpAnyH_take (i := 14) (oi := Oper.mk _ _ _ _ _ _) (v := undef) rfl (by kernel_rfl) (by kernel_rfl) (by kernel_rfl) (fun _ _ _ h => h) (Or.inr ⟨by rfl, rfl⟩) (by assumption) ?_
      try simp only [Act.put, List.setIfInBounds_toArray, List.set_cons_zero, List.set_cons_succ]
      refine wpAnyH_take (i := 15) (oi := Oper.mk _ _ _ _ _ _) (v := undef) rfl (by kernel_rfl) (by kernel_rfl) (by kernel_rfl) (fun _ _ _ h => h) (Or.inr ⟨by rfl, rfl⟩) (by assumption) ?_
      try simp only [Act.put, List.setIfInBounds_toArray, List.set_cons_zero, List.set_cons_succ]
      refine wpAnyH_take (i := 16) (oi := Oper.mk _ _ _ _ _ _) (v := ?_) rfl (by kernel_rfl) (by kernel_rfl) (by kernel_rfl) (fun _ _ _ h => h) (Or.inl ⟨by rfl, ?_⟩) (by assumption) ?_
      rotate_left
      · intro w hSw
        try dsimp only at hSw
        go_simp
        all_goals with_reducible rfl
      try simp only [Act.put, List.setIfInBounds_toArray, List.set_cons_zero, List.set_cons_succ]
      refine wpAnyH_take (i := 17) (oi := Oper.mk _ _ _ _ _ _) (v := ?_) rfl (by kernel_rfl) (by kernel_rfl) (by kernel_rfl) (fun _ _ _ h => h) (Or.inl ⟨by rfl, ?_⟩) (by assumption) ?_
      rotate_left
      · intro w hSw
        try dsimp only at hSw
        go_simp
        all_goals with_reducible rfl
      try simp only [Act.put, List.setIfInBounds_toArray, List.set_cons_zero, List.set_cons_succ]
      refine wpAnyH_take (i := 18) (oi := Oper.mk _ _ _ _ _ _) (v := ?_) rfl (by kernel_rfl) (by kernel_rfl) (by kernel_rfl) (fun _ _ _ h => h) (Or.inl ⟨by rfl, ?_⟩) (by assumption) ?_
      rotate_left
      · intro w hSw
        try dsimp only at hSw
        go_simp
        all_goals with_reducible rfl
      try simp only [Act.put, List.setIfInBounds_toArray, List.set_cons_zero, List.set_cons_succ]
      refine wpAnyH_done (by kernel_rfl) ?_ _
      go_wp2
      go_ret
      exact ⟨rfl, by first | exact S10.out.below | exact S10.out.drew.below⟩
  | true =>
    have hne := htn hnb
    have h1 := strs.bytes_ne hne
    have h2 : (t.toList == []) = false := by simpa using h1
    have HC := mkHid (fun wx => readC_any t wx (by omega))
    unfold NPostC at HC
    rw [hback hnb] at HC
    simp only at HC
    have HV := mkHid (hvn hnb)
    have HT := mkHid ht
    clear htn htz hback hvn hne
    go_wp2_with fail
    refine (HC.out _).mono ?_
    rintro e w5 ⟨a5, c5, ds5, rfl, hv5, hc5, m5⟩
    have S5 := mkHid ((memJoin S4.out m5).var (.cells #[.slice a5 ds5.length c5, .int .i64 0] 28))
    have hs5 := small_vn hv5 HV.out
    have hl5 : ds5.length ≤ 1048576 := by have := hs5.2; rw [← hvs] at this; simp at this; omega
    have HB5 := fun wx (hx : RdN wx a5 ds5) => bytesI_any a5 c5 ds5 wx hl5 hs5.1 hc5 hx
    rw [hv5, HT.out] at HB5
    replace HB5 := mkHid HB5
    have R5 := mkHid (rdN_in (a := a5) (ds := ds5) S5.out (by simp) (fun p hp => by simp [hp]))
    obtain ⟨c0, c1'⟩ := cel2 S5.out.b0
    clear m5 S4 HC hv5 hc5 hs5 HV HT
    go_wp2_with fail
    refine (HB5.out _ R5.out).mono ?_
    rintro e w6 ⟨rfl, hb6⟩
    have S6 := mkHid (S5.out.next hb6)
    clear hb6 S5 R5 HB5 c0 c1'
    go_wp2_with fail
    obtain ⟨bsT, osT, ST⟩ : ∃ bs os, Hid (Mem w bs [] os _) := ⟨_, _, S6⟩
    clear S6
    refine (HR.out _ ST.out.below).mono ?_
    rintro e w8 ⟨t8, rfl, ht8, hb8⟩
    have S8 := mkHid (ST.out.next hb8)
    have HI8 := mkHid (fun wx => readI_any t8 wx (by omega))
    have HS8 := mkHid (fun wx => readS_any t8 wx (by omega))
    unfold NPost at HI8 HS8
    have hsm := readA_small t8
    have hbk := read_tells t8
    generalize readA t8 = r8 at *
    obtain ⟨l8, q8⟩ := r8
    simp only at HI8 HS8 hsm hbk
    clear hb8 ST HR
    go_wp2_with fail
    refine (HI8.out _).mono ?_
    rintro e w9 ⟨a9, c9, ds9, rfl, hv9, m9⟩
    have S9 := mkHid ((memJoin S8.out m9).var (.cells #[.slice a9 ds9.length c9, .int .i64 q8] 28))
    have hs9 := small_vn hv9 hsm.2
    have HB9 := fun wx (hx : RdN wx a9 ds9) => bytesS_any a9 c9 ds9 wx (by omega) hs9.1 hx
    rw [hv9] at HB9
    have R9 := mkHid (rdN_in (a := a9) (ds := ds9) S9.out (by simp) (fun p hp => by simp [hp]))
    obtain ⟨c0, c1⟩ := cel2 S9.out.b0
    clear m9 S8 HI8 hs9 hv9
    by_cases hq : q8 = 0
    · subst hq
      rw [hbk rfl] at HB9
      replace HB9 := mkHid HB9
      have huu : (t8.toList == t8.toList) = true := by simp
      clear hbk hsm
      go_wp2_with fail
      generalize w9.alloc (.cells #[.slice a9 ds9.length c9, .int .i64 0] 28) = V at *
      go_region_held3 (fun w' => w'.cell? ⟨w9.heap.size, 0, none⟩ = some (.slice a9 ds9.length c9) ∧ w'.cell? ⟨w9.heap.size, 1, none⟩ = some (.int .i64 0)) (go_keep)
        ((first
          | (go_at_call 14; refine Calls.mono (HS8.out _) ?_; rintro e w10 ⟨a10, c10, ds10, rfl, hv10, m10⟩; have r10 := re (w := V) m10.below rfl rfl rfl rfl; have S10 := mkHid (S9.out.next r10); have R10 := mkHid (R9.out.below r10); obtain ⟨d0, d1⟩ := cel2 S10.out.b0; clear m10 r10 hv10)
          | (go_at_call 10; refine Calls.mono (HB9.out _ (by first | exact R10.out | exact R10.out.drew)) ?_; rintro e w11 ⟨rfl, hb11⟩; have r11 := re (w := w10) hb11 rfl rfl rfl rfl; have S11 := mkHid (S10.out.next r11); obtain ⟨e0, e1⟩ := cel2 S11.out.b0; clear hb11 r11)))
      go_wp2
      go_ret
      exact ⟨rfl, by first | exact S11.out.below | exact S11.out.drew.below⟩
    · have hcn : (q8 != 0) = true := by simpa using hq
      have hcn2 : (q8 == 0) = false := by simpa using hq
      have hcq : (q8 == q8) = true := by simp
      clear hq HB9 hbk hsm R9
      go_wp2_with fail
      generalize w9.alloc (.cells #[.slice a9 ds9.length c9, .int .i64 q8] 28) = V at *
      refine wp_region_held_drew (S := fun w' => w'.cell? ⟨w9.heap.size, 0, none⟩ = some (.slice a9 ds9.length c9) ∧ w'.cell? ⟨w9.heap.size, 1, none⟩ = some (.int .i64 q8)) (by kernel_rfl) (by exact ⟨c0, c1⟩) (fun hHeld => ?_)
      refine wpAnyH_take (i := 0) (oi := Oper.mk _ _ _ _ _ _) (v := ?_) rfl (by kernel_rfl) (by kernel_rfl) (by kernel_rfl) (fun _ _ _ h => h) (Or.inl ⟨by rfl, ?_⟩) (by assumption) ?_
      rotate_left
      · intro w hSw
        try dsimp only at hSw
        go_simp
        all_goals with_reducible rfl
      try simp only [Act.put, List.setIfInBounds_toArray, List.set_cons_zero, List.set_cons_succ]
      refine wpAnyH_take (i := 1) (oi := Oper.mk _ _ _ _ _ _) (v := ?_) rfl (by kernel_rfl) (by kernel_rfl) (by kernel_rfl) (fun _ _ _ h => h) (Or.inl ⟨by rfl, ?_⟩) (by assumption) ?_
      rotate_left
      · intro w hSw
        try dsimp only at hSw
        go_simp
        all_goals with_reducible rfl
      try simp only [Act.put, List.setIfInBounds_toArray, List.set_cons_zero, List.set_cons_succ]
      refine wpAnyH_take (i := 2) (oi := Oper.mk _ _ _ _ _ _) (v := ?_) rfl (by kernel_rfl) (by kernel_rfl) (by kernel_rfl) (fun _ _ _ h => h) (Or.inl ⟨by rfl, ?_⟩) (by assumption) ?_
      rotate_left
      · intro w hSw
        try dsimp only at hSw
        go_simp
        all_goals with_reducible rfl
      try simp only [Act.put, List.setIfInBounds_toArray, List.set_cons_zero, List.set_cons_succ]
      refine wpAnyH_ready (rs := [3]) (by kernel_rfl) (by simp) ?_
      refine AllReadyH.cons (o := Oper.mk _ _ _ _ _ _) rfl (fun K hK => ?_) AllReadyH.nil
      go_simp
      refine Calls.mono (HS8.out _) ?_
      rintro e w10 ⟨a10, c10, ds10, rfl, hv10, m10⟩
      have r10 := re (w := V) m10.below rfl rfl rfl rfl
      have S10 := mkHid (S9.out.next r10)
      obtain ⟨d0, d1⟩ := cel2 S10.out.b0
      clear m10 r10 hv10
      show K _ _
      refine hK.out _ _ ⟨d0, d1⟩ (fun hHeld => ?_)
      clear hK K
      try simp only [Act.put, List.setIfInBounds_toArray, List.set_cons_zero, List.set_cons_succ]
      refine wpAnyH_take (i := 4) (oi := Oper.mk _ _ _ _ _ _) (v := ?_) rfl (by kernel_rfl) (by kernel_rfl) (by kernel_rfl) (fun _ _ _ h => h) (Or.inl ⟨by rfl, ?_⟩) (by assumption) ?_
      rotate_left
      · intro w hSw
        try dsimp only at hSw
        go_simp
        all_goals with_reducible rfl
      try simp only [Act.put, List.setIfInBounds_toArray, List.set_cons_zero, List.set_cons_succ]
      refine wpAnyH_take (i := 5) (oi := Oper.mk _ _ _ _ _ _) (v := ?_) rfl (by kernel_rfl) (by kernel_rfl) (by kernel_rfl) (fun _ _ _ h => h) (Or.inl ⟨by rfl, ?_⟩) (by assumption) ?_
      rotate_left
      · intro w hSw
        try dsimp only at hSw
        go_simp
        all_goals with_reducible rfl
      try simp only [Act.put, List.setIfInBounds_toArray, List.set_cons_zero, List.set_cons_succ]
      refine wpAnyH_take (i := 6) (oi := Oper.mk _ _ _ _ _ _) (v := ?_) rfl (by kernel_rfl) (by kernel_rfl) (by kernel_rfl) (fun _ _ _ h => h) (Or.inl ⟨by rfl, ?_⟩) (by assumption) ?_
      rotate_left
      · intro w hSw
        try dsimp only at hSw
        go_simp
        all_goals with_reducible rfl
      try simp only [Act.put, List.setIfInBounds_toArray, List.set_cons_zero, List.set_cons_succ]
      refine wpAnyH_take (i := 7) (oi := Oper.mk _ _ _ _ _ _) (v := ?_) rfl (by kernel_rfl) (by kernel_rfl) (by kernel_rfl) (fun _ _ _ h => h) (Or.inl ⟨by rfl, ?_⟩) (by assumption) ?_
      rotate_left
      · intro w hSw
        try dsimp only at hSw
        go_simp
        all_goals with_reducible rfl
      try simp only [Act.put, List.setIfInBounds_toArray, List.set_cons_zero, List.set_cons_succ]
      refine wpAnyH_take (i := 8) (oi := Oper.mk _ _ _ _ _ _) (v := ?_) rfl (by kernel_rfl) (by kernel_rfl) (by kernel_rfl) (fun _ _ _ h => h) (Or.inl ⟨by rfl, ?_⟩) (by assumption) ?_
      rotate_left
      · intro w hSw
        try dsimp only at hSw
        go_simp
        all_goals with_reducible rfl
      try simp only [Act.put, List.setIfInBounds_toArray, List.set_cons_zero, List.set_cons_succ]
      refine wpAnyH_take (i := 9) (oi := Oper.mk _ _ _ _ _ _) (v := ?_) rfl (by kernel_rfl) (by kernel_rfl) (by kernel_rfl) (fun _ _ _ h => h) (Or.inl ⟨by rfl, ?_⟩) (by assumption) ?_
      rotate_left
      · intro w hSw
        try dsimp only at hSw
        go_simp
        all_goals with_reducible rfl
      try simp only [Act.put, List.setIfInBounds_toArray, List.set_cons_zero, List.set_cons_succ]
      refine wpAnyH_take (i := 10) (oi := Oper.mk _ _ _ _ _ _) (v := ?_) rfl (by kernel_rfl) (by kernel_rfl) (by kernel_rfl) (fun _ _ _ h => h) (Or.inl ⟨by rfl, ?_⟩) (by assumption) ?_
      rotate_left
      · intro w hSw
        try dsimp only at hSw
        go_simp
        all_goals with_reducible rfl
      try simp only [Act.put, List.setIfInBounds_toArray, List.set_cons_zero, List.set_cons_succ]
      refine wpAnyH_take (i := 11) (oi := Oper.mk _ _ _ _ _ _) (v := undef) rfl (by kernel_rfl) (by kernel_rfl) (by kernel_rfl) (fun _ _ _ h => h) (Or.inr ⟨by rfl, rfl⟩) (by assumption) ?_
      try simp only [Act.put, List.setIfInBounds_toArray, List.set_cons_zero, List.set_cons_succ]
      refine wpAnyH_take (i := 12) (oi := Oper.mk _ _ _ _ _ _) (v := undef) rfl (by kernel_rfl) (by kernel_rfl) (by kernel_rfl) (fun _ _ _ h => h) (Or.inr ⟨by rfl, rfl⟩) (by assumption) ?_
      try simp only [Act.put, List.setIfInBounds_toArray, List.set_cons_zero, List.set_cons_succ]
      refine wpAnyH_take (i := 13) (oi := Oper.mk _ _ _ _ _ _) (v := undef) rfl (by kernel_rfl) (by kernel_rfl) (by kernel_rfl) (fun _ _ _ h => h) (Or.inr ⟨by rfl, rfl⟩) (by assumption) ?_
      try simp only [Act.put, List.setIfInBounds_toArray, List.set_cons_zero, List.set_cons_succ]
      refine wpAnyH_take (i := 14) (oi := Oper.mk _ _ _ _ _ _) (v := undef) rfl (by kernel_rfl) (by kernel_rfl) (by kernel_rfl) (fun _ _ _ h => h) (Or.inr ⟨by rfl, rfl⟩) (by assumption) ?_
      try simp only [Act.put, List.setIfInBounds_toArray, List.set_cons_zero, List.set_cons_succ]
      refine wpAnyH_take (i := 15) (oi := Oper.mk _ _ _ _ _ _) (v := undef) rfl (by kernel_rfl) (by kernel_rfl) (by kernel_rfl) (fun _ _ _ h => h) (Or.inr ⟨by rfl, rfl⟩) (by assumption) ?_
      try simp only [Act.put, List.setIfInBounds_toArray, List.set_cons_zero, List.set_cons_succ]
      refine wpAnyH_take (i := 16) (oi := Oper.mk _ _ _ _ _ _) (v := ?_) rfl (by kernel_rfl) (by kernel_rfl) (by kernel_rfl) (fun _ _ _ h => h) (Or.inl ⟨by rfl, ?_⟩) (by assumption) ?_
      rotate_left
      · intro w hSw
        try dsimp only at hSw
        go_simp
        all_goals with_reducible rfl
      try simp only [Act.put, List.setIfInBounds_toArray, List.set_cons_zero, List.set_cons_succ]
      refine wpAnyH_take (i := 17) (oi := Oper.mk _ _ _ _ _ _) (v := ?_) rfl (by kernel_rfl) (by kernel_rfl) (by kernel_rfl) (fun _ _ _ h => h) (Or.inl ⟨by rfl, ?_⟩) (by assumption) ?_
      rotate_left
      · intro w hSw
        try dsimp only at hSw
        go_simp
        all_goals with_reducible rfl
      try simp only [Act.put, List.setIfInBounds_toArray, List.set_cons_zero, List.set_cons_succ]
      refine wpAnyH_take (i := 18) (oi := Oper.mk _ _ _ _ _ _) (v := ?_) rfl (by kernel_rfl) (by kernel_rfl) (by kernel_rfl) (fun _ _ _ h => h) (Or.inl ⟨by rfl, ?_⟩) (by assumption) ?_
      rotate_left
      · intro w hSw
        try dsimp only at hSw
        go_simp
        all_goals with_reducible rfl
      try simp only [Act.put, List.setIfInBounds_toArray, List.set_cons_zero, List.set_cons_succ]
      refine wpAnyH_done (by kernel_rfl) ?_ _
      go_wp2
      go_ret
      exact ⟨rfl, by first | exact S10.out.below | exact S10.out.drew.below⟩
set_option maxRecDepth 100000 in
theorem fnNodes_walk (a : Option Addr) (len cap : Nat) (b : Option Addr) (lenb capb : Nat) (w : World) (hl : (len : Int) ≤ 9223372036854775807) (hr : Row w a len) (hlb : (lenb : Int) ≤ 9223372036854775807) (hrb : Row w b lenb) :
    Calls Try.prog 3 #[.slice a len cap, .slice b lenb capb] w fun e w' => e = .returned (.bool true) ∧ Below w.heap.size w w' := by
  by_cases h0 : 1048576 < (len : Int)
  · clear hr hrb
    go_enter Try.func3, Try.ntmps3
    go_wp2
    go_ret
    exact ⟨rfl, Below.refl _ _⟩
  by_cases h1 : 1048576 < (lenb : Int)
  · have h0' : (len : Int) ≤ 1048576 := by omega
    clear hr hrb
    go_enter Try.func3, Try.ntmps3
    go_wp2
    go_ret
    exact ⟨rfl, Below.refl _ _⟩
  exact fnNodes_in a len cap b lenb capb w (by omega) hr (by omega) hrb
end Go.Proofs.Ytmmmadehifajlaa.nod
