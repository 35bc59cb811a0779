/-
  Parts of a row of texts; what spec.l09Put answers and leaves. Conditions: at most 1,048,576 texts, which lie in memory, in a slice that holds them.
-/
import Derived.Test.YtlcdbkelonbcfaaDrvO
import Derived.Test.YtlcdbkelonbcfaaStrM
import Derived.Test.YtlcdbkelonbcfaaDrvF
namespace Go.Proofs.Ytlcdbkelonbcfaa.nms
open Go.RowKit Go.Joins Go.Sort
open Go.Proofs.Ytlcdbkelonbcfaa.base Go.Proofs.Ytlcdbkelonbcfaa.blk Go.Proofs.Ytlcdbkelonbcfaa.aid
open Go.Proofs.Ytlcdbkelonbcfaa.row (Rd Own OwnV)
open Go.Proofs.Ytlcdbkelonbcfaa.strs (tx strV appSem app_fold appT infoS)
open Go.Proofs.Ytlcdbkelonbcfaa.drv (blt slice_fold sliceSem add_zero rd_add bytes_ne blt_trans blt_irr)
set_option linter.unusedVariables false

/-- the first of a list that is not less -/
def spot (n : ByteArray) : List ByteArray → Nat → Nat
  | [], i => i
  | f :: r, i => if blt f n = true then spot n r (i + 1) else i
theorem spot_step (l : List ByteArray) (n : ByteArray) (i : Nat) (f : ByteArray) (h : l[i]? = some f) : spot n (l.drop i) i = if blt f n = true then spot n (l.drop (i + 1)) (i + 1) else i := by
  have hlt := (List.getElem?_eq_some_iff.1 h).1
  have e : l.drop i = f :: l.drop (i + 1) := by rw [List.drop_eq_getElem_cons hlt, (List.getElem?_eq_some_iff.1 h).2]
  rw [e, spot]
/-- put into a rising list -/
def put (l : List ByteArray) (t : ByteArray) : List ByteArray :=
  if l[spot t l 0]? = some t then l else l.take (spot t l 0) ++ [t] ++ l.drop (spot t l 0)
theorem put_len (l : List ByteArray) (t : ByteArray) : (put l t).length ≤ l.length + 1 := by
  unfold put
  split
  · omega
  · simp; omega
theorem tx_app (a b : List ByteArray) : tx (a ++ b) = tx a ++ tx b := by simp [tx]
theorem tx_len (a : List ByteArray) : (tx a).length = a.length := by simp [tx]
theorem tx_one (l : List ByteArray) : ∀ u ∈ tx l, u.oneCell' = true := by
  intro u hu
  obtain ⟨f, _, hf⟩ := List.mem_map.1 hu
  subst hf
  rfl
theorem tx_at {l : List ByteArray} {i : Nat} {t : ByteArray} (h : l[i]? = some t) : (tx l)[i]? = some (.string t) := by simp [tx, h, strV]
/-- a row that can be read put behind a row of our own -/
theorem appR (W : World) (base g n cap : Nat) (acc : List ByteArray) (hn : acc.length = n) (hown : W.ownsRow base 9 1 (.slice (some ⟨g, 0, none⟩) n cap) n (tx acc)) (hb : base ≤ W.heap.size)
    (a : Option Addr) (c : Nat) (l : List ByteArray) (hr : Rd W a (tx l)) (hl : n + l.length ≤ 2097152) :
    ∃ g' cap' w2, (appSem #[26, 26] 26 #[.slice (some ⟨g, 0, none⟩) n cap, .slice a l.length c]).run Try.prog W = .ok (.slice (some ⟨g', 0, none⟩) (n + l.length) cap') w2 ∧
      w2.ownsRow base 9 1 (.slice (some ⟨g', 0, none⟩) (n + l.length) cap') (n + l.length) (tx (acc ++ l)) ∧ W.grownBy w2 (some g) := by
  obtain ⟨i0, hi, hz0, hz1, hz2⟩ := strs.info_parts infoS
  cases a with
  | none =>
    have h0 : l = [] := by
      cases l with
      | nil => rfl
      | cons f r =>
        obtain ⟨b, off, e, _⟩ := hr 0 _ rfl
        cases e
    subst h0
    have hcap : n ≤ cap := by
      obtain ⟨_, h2⟩ := hown
      rcases h2 with ⟨e, _⟩ | ⟨g', cap', cur, e, _, _, h3, _⟩
      · cases e
      · simp at e
        obtain ⟨_, rfl⟩ := e
        exact h3
    have h := run_append_room_src (P := Try.prog) W 26 26 26 9 i0 Try.underlying26 hi g 0 n cap (.slice none 0 c) 0 [] (Src.ofNil W Try.underlying26 c) (by omega) (by simp) (by simp)
    exact ⟨g, cap, W, h, by simpa using hown, grew_refl _ _⟩
  | some ad =>
    obtain ⟨v', w2, happ, hown2, hgr, hnil⟩ := run_append_own (P := Try.prog) W base 26 26 9 i0 (.string ⟨#[]⟩) 1 16 Try.underlying26 hi hz0 hz1 hz2 rfl (by decide) (.slice (some ⟨g, 0, none⟩) n cap) n (tx acc) hown ad l.length c (tx l) (by rw [tx_len]; omega) (rd_add hr) (tx_one l) (by unfold maxLen; omega) (by omega) hb
    rcases ownsRow_forms hown2 with ⟨rfl, h0⟩ | ⟨g', cap', rfl⟩
    · have := hnil.1 rfl
      simp at this
    · exact ⟨g', cap', w2, happ, by rw [tx_app]; exact hown2, hgr⟩

/-- where a slice begins from place j on -/
def lo (a : Option Addr) (j c : Nat) : Option Addr := if c = j then a else a.map (fun x => x.add (j * 1))
theorem elem_is : Try.prog.elem 26 = 9 := by kernel_rfl
theorem size_is (w : World) : (sizeOf 9).run Try.prog w = .ok 1 w := by kernel_rfl
theorem und_is : Try.prog.underlying 26 = some (.slice (Try.prog.elem 26)) := by rw [elem_is]; exact Try.underlying26
set_option maxRecDepth 100000 in
theorem sl_hi (a : Option Addr) (n c i : Nat) (h : i ≤ c) (wx : World) : (sliceSem 26 (.slice a n c) none (some (.int .i64 (i : Int))) none).run Try.prog wx = .ok (.slice a i c) wx := by
  have h1 := run_slice_h (P := Try.prog) wx 26 a n c und_is .i64 (i : Int) (by omega) (by omega)
  rw [elem_is, size_is] at h1
  refine h1.trans ?_
  simp only [Result.andThen, sliced]
  have e : (i : Int).toNat = i := by omega
  rw [e]
  congr 2
  · split
    · rfl
    · cases a with
      | none => rfl
      | some ad => simp [add_zero]
set_option maxRecDepth 100000 in
theorem sl_lo (a : Option Addr) (n c j : Nat) (h : j ≤ n) (wx : World) : (sliceSem 26 (.slice a n c) (some (.int .i64 (j : Int))) none none).run Try.prog wx = .ok (.slice (lo a j c) (n - j) (c - j)) wx := by
  have h1 := run_slice_l (P := Try.prog) wx 26 a n c und_is .i64 (j : Int) (by omega) (by omega)
  rw [elem_is, size_is] at h1
  refine h1.trans ?_
  simp only [Result.andThen, sliced]
  have e : (j : Int).toNat = j := by omega
  rw [e]
  unfold lo
  congr 2
theorem rd_take {w : World} {a : Option Addr} {l : List ByteArray} (h : Rd w a (tx l)) (i : Nat) : Rd w a (tx (l.take i)) := by
  intro j u hj
  refine h j u ?_
  have e : tx l = tx (l.take i) ++ tx (l.drop i) := by rw [← tx_app, List.take_append_drop]
  rw [e, List.getElem?_append_left (List.getElem?_eq_some_iff.1 hj).1]
  exact hj
theorem rd_drop {w : World} {a : Option Addr} {l : List ByteArray} {c : Nat} (h : Rd w a (tx l)) (j : Nat) (hj : j ≤ l.length) (hc : l.length ≤ c) : Rd w (lo a j c) (tx (l.drop j)) := by
  unfold lo
  split
  · have : l.drop j = [] := List.drop_of_length_le (by omega)
    rw [this]
    exact Rd.nil _ _
  · intro i u hi
    have e : tx l = tx (l.take j) ++ tx (l.drop j) := by rw [← tx_app, List.take_append_drop]
    have hl : (tx (l.take j)).length = j := by rw [tx_len, List.length_take]; omega
    obtain ⟨b, off, ea, hb⟩ := h (j + i) u (by rw [e, List.getElem?_append_right (by omega), hl]; simpa using hi)
    subst ea
    refine ⟨b, off + j * 1, by rw [Option.map_some, Addr.add_lit], ?_⟩
    have e2 : off + j * 1 + i = off + (j + i) := by omega
    rw [e2]
    exact hb
/-- texts that can be read are the answer: the argument's own or fresh ones -/
def PPost (w : World) (a : Option Addr) (ts : List ByteArray) (e : Ending) (w' : World) : Prop :=
  ∃ a' c', e = .returned (.slice a' ts.length c') ∧ Rd w' a' (tx ts) ∧ (a' = a ∨ ∀ b o s, a' = some ⟨b, o, s⟩ → w.heap.size ≤ b) ∧ Below w.heap.size w w' ∧ ts.length ≤ c'
/-- the first texts in a row of our own -/
theorem first_ (a : Option Addr) (c : Nat) (l : List ByteArray) (k : Nat) (w : World) (hk : k ≤ l.length) (hl : l.length ≤ 1048576) (hr : Rd w a (tx l)) :
    ∃ g cap w1, (appSem #[26, 26] 26 #[.slice (some ⟨w.heap.size, 0, none⟩) 0 0, .slice a k c]).run Try.prog (w.alloc (.cells #[] 9)) = .ok (.slice (some ⟨g, 0, none⟩) k cap) w1 ∧
      w1.ownsRow w.heap.size 9 1 (.slice (some ⟨g, 0, none⟩) k cap) k (tx (l.take k)) ∧ Below w.heap.size w w1 := by
  have O0 : (w.alloc (.cells #[] 9)).ownsRow w.heap.size 9 1 (.slice (some ⟨w.heap.size, 0, none⟩) 0 0) 0 (tx []) :=
    World.ownsRow_made (base := w.heap.size) (e := 9) (size := 1) w #[] 0 (Nat.le_refl _) (by decide) rfl
  have q1 : (l.take k).length = k := by simp; omega
  obtain ⟨g1, cap1, w1, happ1, hown1, hgr1⟩ := appR _ w.heap.size w.heap.size 0 0 [] rfl O0 (by simp) a c (l.take k) (rd_take (hr.alloc _) k) (by omega)
  rw [q1, Nat.zero_add] at happ1 hown1
  exact ⟨g1, cap1, w1, happ1, hown1, below_of_grew (below_alloc1 w _) (by simp) hgr1 (Nat.le_refl _)⟩
/-- first texts, one, and the rest, in a row of our own -/
theorem three (a : Option Addr) (c : Nat) (l : List ByteArray) (t : ByteArray) (k : Nat) (w : World) (hk : k ≤ l.length) (hl : l.length ≤ 1048576) (hc : l.length ≤ c) (hr : Rd w a (tx l)) :
    ∃ g1 cap1 w1 g2 cap2 w2 g3 cap3 w3, (appSem #[26, 26] 26 #[.slice (some ⟨w.heap.size, 0, none⟩) 0 0, .slice a k c]).run Try.prog (w.alloc (.cells #[] 9)) = .ok (.slice (some ⟨g1, 0, none⟩) k cap1) w1 ∧
      (appSem #[26, 26] 26 #[.slice (some ⟨g1, 0, none⟩) k cap1, .slice (some ⟨w1.heap.size, 0, none⟩) 1 1]).run Try.prog (w1.alloc (.cells #[.string t] 9)) = .ok (.slice (some ⟨g2, 0, none⟩) (k + 1) cap2) w2 ∧
      (appSem #[26, 26] 26 #[.slice (some ⟨g2, 0, none⟩) (k + 1) cap2, .slice (lo a k c) (l.length - k) (c - k)]).run Try.prog w2 = .ok (.slice (some ⟨g3, 0, none⟩) (k + 1 + (l.length - k)) cap3) w3 ∧
      OwnV 9 w3 (some ⟨g3, 0, none⟩) (tx (l.take k ++ [t] ++ l.drop k)) ∧ w.heap.size ≤ g3 ∧ Below w.heap.size w w3 ∧ k + 1 + (l.length - k) ≤ cap3 := by
  obtain ⟨g1, cap1, w1, happ1, hown1, hB1⟩ := first_ a c l k w hk hl hr
  have q1 : (l.take k).length = k := by simp; omega
  obtain ⟨g2, cap2, w2, happ2, hown2, hgr2⟩ := appT w1 w.heap.size (.slice (some ⟨g1, 0, none⟩) k cap1) k (l.take k) t q1 hown1 hB1.size (by omega)
  have hB2 : Below w.heap.size w w2 := (hB1.trans ((below_alloc1 w1 _).mono hB1.size)).grown hgr2 (by have := hB1.size; simp; omega) (fun j hj => by have := (hown1.lt j hj).1; omega)
  have q2 : (l.take k ++ [t]).length = k + 1 := by simp; omega
  have q3 : (l.drop k).length = l.length - k := by simp
  obtain ⟨g3, cap3, w3, happ3, hown3, hgr3⟩ := appR w2 w.heap.size g2 (k + 1) cap2 (l.take k ++ [t]) q2 hown2 hB2.size (lo a k c) (c - k) (l.drop k) (rd_drop (hr.below hB2) k hk hc) (by omega)
  rw [q3] at happ3 hown3
  have hB3 : Below w.heap.size w w3 := hB2.grown hgr3 hB2.size (fun j hj => by simp at hj; have := (hown2.lt g2 rfl).1; omega)
  refine ⟨g1, cap1, w1, g2, cap2, w2, g3, cap3, w3, happ1, happ2, happ3, .inr ⟨g3, rfl, Own.owns hown3⟩, (hown3.lt g3 rfl).1, hB3, ?_⟩
  obtain ⟨_, h2⟩ := hown3
  rcases h2 with ⟨e, _⟩ | ⟨g', cap', cur, e, _, _, h3, _⟩
  · cases e
  · simp at e
    obtain ⟨_, rfl⟩ := e
    exact h3
attribute [local go_sem ↓] app_fold slice_fold
set_option maxRecDepth 100000 in
set_option maxHeartbeats 4000000 in
theorem putS_any (a : Option Addr) (c : Nat) (l : List ByteArray) (t : ByteArray) (w : World) (hl : l.length ≤ 1048576) (hc : l.length ≤ c) (hr : Rd w a (tx l)) :
    Calls Try.prog 64 #[.slice a l.length c, .string t] w (PPost w a (put l t)) := by
  have HA := mkHid hr
  have hli : (l.length : Int) ≤ 1048576 := by omega
  clear hr
  go_enter Try.func64, Try.ntmps64
  go_wp2_with fail
  go_loopw [5] (fun i wr => ∃ k : Nat, k ≤ l.length ∧ i = .int .i64 k ∧ Hid (spot t l 0 = spot t (l.drop k) k) ∧ wr = w)
    (fun i _ => l.length - (intOf i).toNat)
  case atStart => exact ⟨0, Nat.zero_le _, rfl, mkHid (by simp), rfl⟩
  case round =>
    obtain ⟨k, hkl, rfl, hE, rfl⟩ := hrel
    have hkli : (k : Int) ≤ (l.length : Int) := by omega
    have hS1 := fun wx => sl_hi a l.length c k (by omega) wx
    have hS2 := fun wx => sl_lo a l.length c k (by omega) wx
    by_cases hlt : k < l.length
    · have hlti : (k : Int) < (l.length : Int) := by omega
      obtain ⟨x0, hx⟩ : ∃ y, l[k]? = some y := ⟨_, List.getElem?_eq_getElem hlt⟩
      obtain ⟨ga, oa, rfl, e0⟩ := HA.out k _ (tx_at hx)
      have hst := spot_step l t k _ hx
      cases hb : Op.bytesLess x0.toList t.toList with
      | true =>
        have N1 : Hid (spot t l 0 = spot t (l.drop (k + 1)) (k + 1)) := mkHid (by rw [hE.out, hst, if_pos (show blt x0 t = true from hb)])
        clear hx hst hE hS1 hS2
        go_wp2
        go_roundw
        case rel => exact ⟨k + 1, by omega, by go_num, N1, trivial⟩
        case measure => simp [intOf]; omega
      | false =>
        have hk : spot t l 0 = k := by rw [hE.out, hst, if_neg (show ¬ blt x0 t = true by unfold blt; rw [hb]; simp)]
        by_cases he : x0 = t
        · subst he
          have hp : put l x0 = l := by unfold put; rw [hk, hx]; simp
          have HP : Hid (PPost wr (some ⟨ga, oa, none⟩) (put l x0) (.returned (.slice (some ⟨ga, oa, none⟩) l.length c)) wr) := mkHid (by rw [hp]; exact ⟨_, c, rfl, HA.out, .inl rfl, Below.refl _ _, hc⟩)
          clear hst hE hk hx hp hS1 hS2
          go_wp2
          go_ret
          exact HP.out
        · have heq := bytes_ne he
          have hp : put l t = l.take k ++ [t] ++ l.drop k := by unfold put; rw [hk, hx]; simp [he]
          have hpl : (put l t).length = k + 1 + (l.length - k) := by rw [hp]; simp; omega
          obtain ⟨g1, cap1, w1, g2, cap2, w2, g3, cap3, w3, happ1, happ2, happ3, ho, hg, hB, hcap⟩ := three (some ⟨ga, oa, none⟩) c l t k wr hkl hl hc HA.out
          have HP : Hid (PPost wr (some ⟨ga, oa, none⟩) (put l t) (.returned (.slice (some ⟨g3, 0, none⟩) (k + 1 + (l.length - k)) cap3)) w3) := mkHid ⟨_, cap3, by rw [hpl], by rw [hp]; exact ho.rd, .inr (fun b o s e => by cases e; exact hg), hB, by rw [hpl]; exact hcap⟩
          clear hst hE hk hx hp hpl ho hg hB hcap
          go_wp2
          go_ret
          exact HP.out
    · obtain rfl : k = l.length := by omega
      have hltn : (l.length < l.length) = False := by simp
      have hk : spot t l 0 = l.length := by rw [hE.out, List.drop_of_length_le (Nat.le_refl _)]; rfl
      have hp : put l t = l.take l.length ++ [t] ++ l.drop l.length := by unfold put; rw [hk, List.getElem?_eq_none (by simp)]; simp
      have hpl : (put l t).length = l.length + 1 + (l.length - l.length) := by rw [hp]; simp
      obtain ⟨g1, cap1, w1, g2, cap2, w2, g3, cap3, w3, happ1, happ2, happ3, ho, hg, hB, hcap⟩ := three a c l t l.length wr hkl hl hc HA.out
      rw [Nat.sub_self] at hS2 happ3 hpl hcap
      rw [Nat.add_zero] at happ3 hpl hcap
      have HP : Hid (PPost wr a (put l t) (.returned (.slice (some ⟨g3, 0, none⟩) (l.length + 1) cap3)) w3) := mkHid ⟨_, cap3, by rw [hpl], by rw [hp]; exact ho.rd, .inr (fun b o s e => by cases e; exact hg), hB, by rw [hpl]; exact hcap⟩
      clear hE hk hp hpl ho hg hB hcap
      go_wp2
      go_ret
      exact HP.out
end Go.Proofs.Ytlcdbkelonbcfaa.nms
