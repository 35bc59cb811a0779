/-
  Rows of files that are written in place: append where there is room, copy, clear; what slices.Delete answers and leaves of one file. Conditions: a row of our own of at most 1,048,576 files.
-/
import Derived.Test.YtfckgpmphcadeaaDrvO
import Derived.Laws.CopyRow
namespace Go.Proofs.Ytfckgpmphcadeaa.drv
open Go.RowKit Go.Joins Go.Sort
open Go.Proofs.Ytfckgpmphcadeaa.base Go.Proofs.Ytfckgpmphcadeaa.blk Go.Proofs.Ytfckgpmphcadeaa.aid
open Go.Proofs.Ytfckgpmphcadeaa.row (Rd Own OwnV appSem app_fold)
open Go.Proofs.Ytfckgpmphcadeaa.rwStored (cs)
set_option linter.unusedVariables false
set_option linter.unusedSimpArgs false

def copySem (ts : Array TypeId) (ty : TypeId) (vs : Array Value) : Sem Value := Builtin.copy_ ts ty vs
theorem copy_fold (ts : Array TypeId) (ty : TypeId) (vs : Array Value) : Builtin.copy_ ts ty vs = copySem ts ty vs := rfl
def clearSem (ts : Array TypeId) (ty : TypeId) (vs : Array Value) : Sem Value := Builtin.clear_ ts ty vs
theorem clear_fold (ts : Array TypeId) (ty : TypeId) (vs : Array Value) : Builtin.clear_ ts ty vs = clearSem ts ty vs := rfl

/-- a block of files with all its cells -/
def B3 (w : World) (g c : Nat) (xs : List Value) : Prop := w.heap[g]? = some (.cells xs.toArray 39 (0, 0)) ∧ xs.length = c * 3
/-- some cells are written -/
def lay3 (xs : List Value) (o : Nat) (news : List Value) : List Value := xs.take o ++ news ++ xs.drop (o + news.length)
theorem lay3_len {xs news : List Value} {o : Nat} (h : o + news.length ≤ xs.length) : (lay3 xs o news).length = xs.length := by
  unfold lay3
  simp
  omega
theorem lay3_app {a b news : List Value} {o : Nat} (h : a.length = o) : lay3 (a ++ b) o news = a ++ news ++ b.drop news.length := by
  unfold lay3
  subst h
  rw [List.take_left, List.drop_append]
  simp
theorem B3.of {w : World} {base g n c : Nat} {l : List File} (h : w.ownsRow base 39 3 (.slice (some ⟨g, 0, none⟩) n c) n (cs l)) : ∃ ex, B3 w g c (cs l ++ ex) ∧ base ≤ g ∧ n ≤ c ∧ c ≤ maxLen ∧ l.length = n := by
  obtain ⟨h1, h2⟩ := h
  rcases h2 with ⟨e, _⟩ | ⟨g', cap, cur, e, hB, hg, hn, hm, hs, ht⟩
  · cases e
  · simp at e
    obtain ⟨rfl, rfl⟩ := e
    refine ⟨cur.toList.drop (n * 3), ⟨?_, ?_⟩, hB, hn, hm, ?_⟩
    · rw [← ht, List.take_append_drop]
      exact hg
    · rw [← ht, List.take_append_drop]
      simpa using hs
    · rw [rwStored.cs_len] at h1
      omega
theorem B3.owns {w : World} {base g n c : Nat} {l : List File} {ex : List Value} (h : B3 w g c (cs l ++ ex)) (hb : base ≤ g) (hn : l.length = n) (hc : n ≤ c) (hm : c ≤ maxLen) : w.ownsRow base 39 3 (.slice (some ⟨g, 0, none⟩) n c) n (cs l) := by
  have hl : (cs l).length = n * 3 := by rw [rwStored.cs_len]; omega
  refine ⟨hl, .inr ⟨g, c, _, rfl, hb, h.1, hc, hm, by simpa using h.2, ?_⟩⟩
  rw [← hl]
  exact List.take_left
theorem B3.lt {w : World} {g c : Nat} {xs : List Value} (h : B3 w g c xs) : g < w.heap.size := (Array.getElem?_eq_some_iff.1 h.1).1
theorem B3.below {w w' : World} {g c : Nat} {xs : List Value} (h : B3 w g c xs) (hb : Below w.heap.size w w') : B3 w' g c xs := ⟨(hb.block g h.lt).trans h.1, h.2⟩
theorem B3.rd {w : World} {g c : Nat} {xs ys zs : List Value} {o : Nat} (h : B3 w g c xs) (ho : ys.length = o) (hx : ∃ ex, xs = ys ++ (zs ++ ex)) : Rd w (some ⟨g, o, none⟩) zs := by
  obtain ⟨ex, rfl⟩ := hx
  intro i u hu
  refine ⟨g, o, rfl, ?_⟩
  rw [cell_of_block h.1]
  have hi := (List.getElem?_eq_some_iff.1 hu).1
  subst ho
  simp [List.getElem?_append_right, List.getElem?_append_left, hi, List.getElem?_append]
  exact (List.getElem?_eq_some_iff.1 hu).2
theorem B3.set {w : World} {g c o : Nat} {xs news : List Value} (h : B3 w g c xs) (hf : o + news.length ≤ xs.length) : B3 (w.setRow g (lay3 xs o news).toArray) g c (lay3 xs o news) ∧ w.grownBy (w.setRow g (lay3 xs o news).toArray) (some g) :=
  ⟨⟨setRow_heap w g _ _ _ _ h.1, by rw [lay3_len hf]; exact h.2⟩, ⟨rfl, rfl, rfl, by simp, fun k hk hne => setRow_other w g k _ (fun e => hne (by rw [e]))⟩⟩
theorem rd_none {w : World} {xs : List Value} (h : Rd w none xs) : xs = [] := by
  cases xs with
  | nil => rfl
  | cons u r =>
    obtain ⟨b, off, e, _⟩ := h 0 _ rfl
    cases e
/-- append where there is room -/
theorem put_app {w : World} {g c i m tot : Nat} {xs : List Value} (h : B3 w g c xs) (a : Option Addr) (c2 : Nat) (news : List Value) (hl : news.length = m * 3) (hr : Rd w a news) (h1 : ∀ u ∈ news, u.oneCell' = true) (hroom : i + m ≤ c) (ht : i + m = tot) :
    ∃ w', (appSem #[23, 23] 23 #[.slice (some ⟨g, 0, none⟩) i c, .slice a m c2]).run Try.prog w = .ok (.slice (some ⟨g, 0, none⟩) tot c) w' ∧ B3 w' g c (lay3 xs (i * 3) news) ∧ w.grownBy w' (some g) := by
  obtain ⟨i0, hi, hz0, hz1, hz2⟩ := info_parts rwStored.info
  subst ht
  cases a with
  | none =>
    have h0 := rd_none hr
    subst h0
    have hm : m = 0 := by simp at hl; omega
    subst hm
    have h := run_append_room_src (P := Try.prog) w 23 23 23 39 i0 Try.underlying23 hi g 0 i c (.slice none 0 c2) 0 [] (Src.ofNil w Try.underlying23 c2) (by omega) (by simp) (by simp)
    refine ⟨w, h, ?_, grew_refl _ _⟩
    unfold lay3
    simpa using ‹B3 w g c xs›
  | some ad =>
    have hs := h.set (o := i * 3) (news := news) (by rw [hl, h.2]; omega)
    have hr2 := run_append_room (P := Try.prog) w 23 23 39 i0 Try.underlying23 hi g i c xs.toArray h.1 ad m c2 news (by rw [hz1]; exact hl) (rd_add hr) h1 hroom (by rw [hz1, hl]; simp [h.2]; omega)
    rw [hz1] at hr2
    refine ⟨_, hr2, ?_, ?_⟩
    · simpa [lay3] using hs.1
    · simpa [lay3] using hs.2
/-- copy -/
theorem put_copy {w : World} {g c o m : Nat} {xs : List Value} (h : B3 w g c xs) (dLen dCap : Nat) (a : Option Addr) (sLen sCap : Nat) (news : List Value) (hm : Nat.min sLen dLen = m) (hl : news.length = m * 3) (hr : Rd w a news) (h1 : ∀ u ∈ news, u.oneCell' = true) (hroom : o * 3 + news.length ≤ c * 3) :
    ∃ v w', (∀ ty, (copySem #[23, 23] ty #[.slice (some ⟨g, o * 3, none⟩) dLen dCap, .slice a sLen sCap]).run Try.prog w = .ok v w') ∧ B3 w' g c (lay3 xs (o * 3) news) ∧ w.grownBy w' (some g) := by
  obtain ⟨i0, hi, hz0, hz1, hz2⟩ := info_parts rwStored.info
  have hs := h.set (o := o * 3) (news := news) (by rw [h.2]; omega)
  have hst := run_storeCells_at Try.prog g (o * 3) 39 news 0 xs.toArray w h.1 (by simp [h.2]; omega) h1
  cases a with
  | none =>
    have h0 := rd_none hr
    subst h0
    have hm0 : m = 0 := by simp at hl; omega
    subst hm0
    refine ⟨goInt 0, w, ?_, ?_, grew_refl _ _⟩
    · intro ty
      unfold copySem
      simp [Builtin.copy_, run_underlying Try.underlying23, Builtin.lenOf, Builtin.firstCells, sizeOf, typeInfo, hi, hz1, hm, storeCells]
    · unfold lay3
      simpa using h
  | some ad =>
    have hf := run_firstCells_some (P := Try.prog) w 3 m ad sLen sCap news hl (rd_add hr)
    refine ⟨goInt m, w.setRow g (lay3 xs (o * 3) news).toArray, ?_, hs.1, hs.2⟩
    intro ty
    unfold copySem
    simp only [Nat.add_zero] at hst
    simp [Builtin.copy_, run_underlying Try.underlying23, Builtin.lenOf, sizeOf, typeInfo, hi, hz1, hm, hf, hst, lay3]
/-- clear -/
theorem put_clear {w : World} {g c o m : Nat} {xs : List Value} (h : B3 w g c xs) (c2 : Nat) (hm : 0 < m) (hroom : o * 3 + m * 3 ≤ c * 3) :
    ∃ zs w', (∀ ty, (clearSem #[23] ty #[.slice (some ⟨g, o * 3, none⟩) m c2]).run Try.prog w = .ok (.tuple #[]) w') ∧ zs.length = m * 3 ∧ B3 w' g c (lay3 xs (o * 3) zs) ∧ w.grownBy w' (some g) := by
  obtain ⟨i0, hi, hz0, hz1, hz2⟩ := info_parts rwStored.info
  have hzv : ∀ wx, (zeroValue 39).run Try.prog wx = .ok (.agg #[.string ⟨#[]⟩, .string ⟨#[]⟩, .int .i64 0]) wx := fun wx => by simp [zeroValue, typeInfo, hi, hz0]
  obtain ⟨zs, hzs⟩ : ∃ zs, zs = (Builtin.zeroCells (Value.agg #[.string ⟨#[]⟩, .string ⟨#[]⟩, .int .i64 0]).cells m).toList := ⟨_, rfl⟩
  have hzl : zs.length = m * 3 := by rw [hzs]; simp [Builtin.zeroCells]; rfl
  have hz1c : ∀ u ∈ zs, u.oneCell' = true := by
    intro u hu
    rw [hzs] at hu
    unfold Builtin.zeroCells at hu
    obtain ⟨j, _, rfl⟩ := Array.mem_map.1 (Array.mem_toList_iff.1 hu)
    have hj : j % 3 < 3 := Nat.mod_lt _ (by decide)
    have : ∀ k, k < 3 → ((Value.agg #[.string ⟨#[]⟩, .string ⟨#[]⟩, .int .i64 0]).cells[k]!).oneCell' = true := by
      intro k hk
      match k, hk with
      | 0, _ => rfl
      | 1, _ => rfl
      | 2, _ => rfl
    exact this _ hj
  have hs := h.set (o := o * 3) (news := zs) (by rw [h.2, hzl]; omega)
  have hst := run_storeCells_at Try.prog g (o * 3) 39 zs 0 xs.toArray w h.1 (by simp [h.2, hzl]; omega) hz1c
  refine ⟨zs, w.setRow g (lay3 xs (o * 3) zs).toArray, ?_, hzl, hs.1, hs.2⟩
  intro ty
  unfold clearSem
  simp only [Nat.add_zero] at hst
  obtain ⟨k, rfl⟩ : ∃ k, m = k + 1 := ⟨m - 1, by omega⟩
  simp only [Builtin.clear_, Sem.run_bind]
  simp [run_underlying Try.underlying23, hzv, ← hzs, hst, lay3]
end Go.Proofs.Ytfckgpmphcadeaa.drv
