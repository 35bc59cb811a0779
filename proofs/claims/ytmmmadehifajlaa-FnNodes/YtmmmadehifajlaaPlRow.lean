/-
  Rows of places of our own: append of one place, of a row, of empty ones; parts of a row. No condition.
-/
import Derived.Test.YtmmmadehifajlaaCmpI
import Derived.Lib.AppendZeros
import Derived.Lib.SliceRun
import Derived.Deep.Upon
namespace Go.Proofs.Ytmmmadehifajlaa.plc
open Go.RowKit Go.Joins
open Go.Proofs.Ytmmmadehifajlaa.base Go.Proofs.Ytmmmadehifajlaa.blk Go.Proofs.Ytmmmadehifajlaa.aid
open Go.Proofs.Ytmmmadehifajlaa.row (Rd Own OwnV appSem app_fold)
open Go.Proofs.Ytmmmadehifajlaa.rwPlace (cs)
set_option linter.unusedVariables false

theorem rd_add {w : World} {ad : Addr} {xs : List Value} (h : Rd w (some ad) xs) : ∀ j u, xs[j]? = some u → w.cell? (ad.add j) = some u := by
  intro j u hj
  obtain ⟨b, off, e, hc⟩ := h j u hj
  simp at e
  subst e
  rw [Addr.add_lit]
  exact hc
theorem cs_one (l : List Pl) : ∀ u ∈ cs l, u.oneCell' = true := by
  intro u hu
  obtain ⟨f, _, hf⟩ := List.mem_flatMap.1 hu
  simp at hf
  rcases hf with rfl | rfl | rfl | rfl | rfl <;> rfl
theorem cap_of {w : World} {base e n size : Nat} {a : Option Addr} {m c : Nat} {xs : List Value} (h : w.ownsRow base e size (.slice a m c) n xs) : m = n ∧ n ≤ c := by
  rcases h.2 with ⟨h1, h2⟩ | ⟨g, cap, cur, h1, _, _, h3, _⟩
  · simp at h1
    omega
  · simp at h1
    obtain ⟨_, rfl, rfl⟩ := h1
    exact ⟨rfl, h3⟩
theorem slice_of {w : World} {base e n size : Nat} {v : Value} {xs : List Value} (h : w.ownsRow base e size v n xs) : ∃ a c, v = .slice a n c := by
  rcases h.2 with ⟨h1, h2⟩ | ⟨g, cap, cur, h1, _⟩
  · exact ⟨none, 0, by rw [h1, h2]⟩
  · exact ⟨_, _, h1⟩
/-- append of a row that can be read to a row of our own -/
theorem appRP (W : World) (base : Nat) (v : Value) (n : Nat) (acc : List Pl) (hown : W.ownsRow base 75 5 v n (cs acc)) (hb : base ≤ W.heap.size)
    (a : Option Addr) (c : Nat) (l : List Pl) (hr : Rd W a (cs l)) (hl : n + l.length ≤ 2097152) :
    ∃ v' w2, (appSem #[32, 32] 32 #[v, .slice a l.length c]).run Try.prog W = .ok v' w2 ∧
      w2.ownsRow base 75 5 v' (n + l.length) (cs (acc ++ l)) ∧ W.grownBy w2 v.ownBlock := by
  obtain ⟨i0, hi, hz0, hz1, hz2⟩ := info_parts rwPlace.info
  cases a with
  | none =>
    have h0 : l = [] := by
      cases l with
      | nil => rfl
      | cons f r =>
        obtain ⟨b, off, e, _⟩ := hr 0 _ rfl
        cases e
    subst h0
    obtain ⟨a', c', rfl⟩ := slice_of hown
    obtain ⟨_, hc⟩ := cap_of hown
    have h := run_append_nothing (P := Try.prog) W 32 32 32 75 i0 Try.underlying32 hi a' n c' hc (.slice none 0 c) (Src.ofNil W Try.underlying32 c)
    exact ⟨_, W, h, by simpa using hown, grew_refl _ _⟩
  | some ad =>
    obtain ⟨v', w2, happ, hown2, hgr, hnil⟩ := run_append_own (P := Try.prog) W base 32 32 75 i0 (.agg #[.string ⟨#[]⟩, .string ⟨#[]⟩, .int .i64 0, .int .i64 0, .int .i64 0]) 5 56 Try.underlying32 hi hz0 hz1 hz2 rfl (by decide) v n (cs acc) hown ad l.length c (cs l) (by rw [rwPlace.cs_len]; omega) (rd_add hr) (cs_one l) (by unfold maxLen; omega) (by omega) hb
    exact ⟨v', w2, happ, by rw [rwPlace.cs_app]; exact hown2, hgr⟩
/-- append of n empty places to no row, of which none is kept -/
theorem app_zeros (w : World) (n : Nat) (h0 : 0 < n) (hn : n ≤ 1048576) :
    ∃ C w1, (appSem #[32, 3] 32 #[.slice none 0 0, .int .i64 (n : Int)]).run Try.prog w = .ok (.slice (some ⟨w.heap.size, 0, none⟩) n C) w1 ∧
      w1.ownsRow w.heap.size 75 5 (.slice (some ⟨w.heap.size, 0, none⟩) 0 C) 0 (cs []) ∧ n ≤ C ∧ Below w.heap.size w w1 := by
  obtain ⟨i0, hi0, hz0, hz1, hz2⟩ := info_parts rwPlace.info
  have h := Lib.run_append_nil_zeros (P := Try.prog) w 32 3 32 75 i0 _ .i64 .i64 Try.underlying32 Try.underlying3 hi0 hz0 n h0 (by rw [hz1]; decide) (by omega) (by rw [hz2]; omega)
  have hge := grownCap_ge w n 0 75
  have hle := grownCap_le_maxLen w n 0 75 (by unfold maxLen; omega)
  generalize grownCap w n 0 75 = C at *
  refine ⟨C, _, h, ?_, hge, re (w := w) (below_alloc1 w.drew _) rfl rfl rfl rfl⟩
  have q1 : ∀ m, (Builtin.zeroCells (Value.agg #[.string ⟨#[]⟩, .string ⟨#[]⟩, .int .i64 0, .int .i64 0, .int .i64 0]).cells m).size = m * 5 := fun m => by simp [Builtin.zeroCells]; rfl
  exact World.ownsRow_made (w := w.drew) (size := 5) _ C (Nat.le_refl _) hle (by rw [Array.size_append, q1, q1]; omega)

def sliceSem (t : TypeId) (v : Value) (a b c : Option Value) : Sem Value := Instr.slice t v a b c
theorem slice_fold (t : TypeId) (v : Value) (a b c : Option Value) : Instr.slice t v a b c = sliceSem t v a b c := rfl
/-- where a slice begins from place j on -/
def lo (a : Option Addr) (j c : Nat) : Option Addr := if c = j then a else a.map (fun x => x.add (j * 5))
theorem elem_is : Try.prog.elem 32 = 75 := by kernel_rfl
theorem size_is (w : World) : (sizeOf 75).run Try.prog w = .ok 5 w := by kernel_rfl
theorem und_is : Try.prog.underlying 32 = some (.slice (Try.prog.elem 32)) := by rw [elem_is]; exact Try.underlying32
theorem add_zero (a : Addr) : a.add 0 = a := by
  obtain ⟨b, o, s⟩ := a
  rfl
set_option maxRecDepth 100000 in
theorem sl_hi (a : Option Addr) (n c i : Nat) (h : i ≤ c) (wx : World) : (sliceSem 32 (.slice a n c) none (some (.int .i64 (i : Int))) none).run Try.prog wx = .ok (.slice a i c) wx := by
  have h1 := run_slice_h (P := Try.prog) wx 32 a n c und_is .i64 (i : Int) (by omega) (by omega)
  rw [elem_is, size_is] at h1
  refine h1.trans ?_
  simp only [Result.andThen, sliced]
  have e : (i : Int).toNat = i := by omega
  rw [e]
  congr 2
  · split
    · rfl
    · cases a with
      | none => rfl
      | some ad => simp [add_zero]
set_option maxRecDepth 100000 in
theorem sl_lo (a : Option Addr) (n c j : Nat) (h : j ≤ n) (wx : World) : (sliceSem 32 (.slice a n c) (some (.int .i64 (j : Int))) none none).run Try.prog wx = .ok (.slice (lo a j c) (n - j) (c - j)) wx := by
  have h1 := run_slice_l (P := Try.prog) wx 32 a n c und_is .i64 (j : Int) (by omega) (by omega)
  rw [elem_is, size_is] at h1
  refine h1.trans ?_
  simp only [Result.andThen, sliced]
  have e : (j : Int).toNat = j := by omega
  rw [e]
  unfold lo
  congr 2
theorem rd_take {w : World} {a : Option Addr} {l : List Pl} (h : Rd w a (cs l)) (i : Nat) : Rd w a (cs (l.take i)) := by
  intro j u hj
  refine h j u ?_
  have e : cs l = cs (l.take i) ++ cs (l.drop i) := by rw [← rwPlace.cs_app, List.take_append_drop]
  rw [e, List.getElem?_append_left (List.getElem?_eq_some_iff.1 hj).1]
  exact hj
theorem rd_drop {w : World} {a : Option Addr} {l : List Pl} {c : Nat} (h : Rd w a (cs l)) (j : Nat) (hj : j ≤ l.length) (hc : l.length ≤ c) : Rd w (lo a j c) (cs (l.drop j)) := by
  unfold lo
  split
  · have : l.drop j = [] := List.drop_of_length_le (by omega)
    rw [this]
    exact Rd.nil _ _
  · intro i u hi
    have e : cs l = cs (l.take j) ++ cs (l.drop j) := by rw [← rwPlace.cs_app, List.take_append_drop]
    have hl : (cs (l.take j)).length = j * 5 := by rw [rwPlace.cs_len, List.length_take]; omega
    obtain ⟨b, off, ea, hb⟩ := h (j * 5 + i) u (by rw [e, List.getElem?_append_right (by omega), hl]; simpa using hi)
    subst ea
    refine ⟨b, off + j * 5, by rw [Option.map_some, Addr.add_lit], ?_⟩
    have e2 : off + j * 5 + i = off + (j * 5 + i) := by omega
    rw [e2]
    exact hb
end Go.Proofs.Ytmmmadehifajlaa.plc
