/-
  Places as they are drawn, in plain words: short texts, packs of two bytes and more; what holds while they are drawn. No condition.
  What spec.l07At answers and leaves: the record at a place, or none. Condition: a text of at most 20,000 bytes.
  (*l01Src).l10Places: what it answers and leaves: places with short texts. Condition: the source lies in one block of its own.
-/
import Derived.Test.YtmoojhnblakdhaaGreatZPlaA
import Derived.Test.YtmoojhnblakdhaaGreatZPakB
import Derived.Test.YtmoojhnblakdhaaGreatZPakC
import Derived.Test.YtmoojhnblakdhaaGreatZDrwA
import Derived.Test.YtmoojhnblakdhaaGreatZGetO
namespace Go.Proofs.YtmoojhnblakdhaaGreat.plc
open Go.RowKit Go.Joins
open Go.Proofs.YtmoojhnblakdhaaGreat.base Go.Proofs.YtmoojhnblakdhaaGreat.blk Go.Proofs.YtmoojhnblakdhaaGreat.aid
open Go.Proofs.YtmoojhnblakdhaaGreat.row (Rd Own OwnV appSem app_fold)
open Go.Proofs.YtmoojhnblakdhaaGreat.rwPlace (cs el cs_cons cs_len)
open Go.Proofs.YtmoojhnblakdhaaGreat.draw (SrcAt Drew DrewBool DecPost n_any one_any dec_any grown_trans grown_new src_set)
open Go.Proofs.YtmoojhnblakdhaaGreat.strs (RdT strV)
set_option linter.unusedVariables false
set_option linter.unusedSimpArgs false

def Good (l : List Pl) : Prop := ∀ p ∈ l, p.1.size ≤ 1000 ∧ 2 ≤ p.2.1.size ∧ p.2.1.size ≤ 1000
theorem Good.small {l : List Pl} (h : Good l) : Small l := fun p hp => by have := h p hp; omega
theorem Good.nil : Good [] := by intro p hp; cases hp
theorem put_mem {l : List Pl} {x g : Pl} (hg : g ∈ put l x) : g = x ∨ g ∈ l := by
  have aux : ∀ k, g ∈ l.take k ++ [x] ++ l.drop k → g = x ∨ g ∈ l := fun k h => by
    rcases List.mem_append.1 h with h | h
    · rcases List.mem_append.1 h with h | h
      · exact .inr (List.mem_of_mem_take h)
      · exact .inl (by simpa using h)
    · exact .inr (List.mem_of_mem_drop h)
  unfold put at hg
  split at hg
  · split at hg
    · exact aux _ hg
    · exact .inr hg
  · exact aux _ hg
theorem puts_mem : ∀ (m l : List Pl) (g : Pl), g ∈ m.foldl put l → g ∈ l ∨ g ∈ m
  | [], l, g, h => .inl h
  | x :: m, l, g, h => by
    rcases puts_mem m (put l x) g h with h | h
    · rcases put_mem h with rfl | h
      · exact .inr (by simp)
      · exact .inl h
    · exact .inr (List.mem_cons_of_mem _ h)
theorem Good.put {l : List Pl} (h : Good l) {x : Pl} (hx : x.1.size ≤ 1000 ∧ 2 ≤ x.2.1.size ∧ x.2.1.size ≤ 1000) : Good (put l x) := fun p hp => by
  rcases put_mem hp with rfl | hp
  · exact hx
  · exact h p hp
theorem Good.puts {l m : List Pl} (h : Good l) (h2 : Good m) : Good (m.foldl plc.put l) := fun p hp => by
  rcases puts_mem m l p hp with hp | hp
  · exact h p hp
  · exact h2 p hp
theorem Good.add {l m : List Pl} (h : Good l) (h2 : Good m) : Good (addA l m).1 := by
  unfold addA
  split
  · exact Good.nil
  split
  · exact Good.nil
  split
  · exact Good.nil
  · exact h.puts h2
theorem scanF_key (s : ByteArray) : ∀ f a, ∀ e ∈ pack.scanF s f a, e.1.size ≤ 32 := by
  intro f
  induction f with
  | zero => intro a e he; simp [pack.scanF] at he
  | succ f ih =>
    intro a e he
    unfold pack.scanF at he
    split at he
    · cases he
    · split at he
      · exact ih _ e he
      · rcases List.mem_cons.1 he with rfl | he
        · show (pack.keyAt s a).size ≤ 32
          unfold pack.keyAt
          rw [ByteArray.size_extract]
          omega
        · exact ih _ e he
theorem good_of (k s : ByteArray) (h2 : 2 ≤ k.size) (h3 : k.size ≤ 1000) : Good (ofA k s) := by
  have hk : ∀ e ∈ pack.scanT s, e.1.size ≤ 32 := fun e he => by
    unfold pack.scanT at he
    split at he
    · simp at he
    · exact scanF_key s _ _ e he
  unfold ofA
  split
  · intro p hp
    rcases puts_mem _ _ p (List.mem_of_mem_take hp) with h | h
    · simp at h
    · unfold found at h
      obtain ⟨e, he, rfl⟩ := List.mem_map.1 h
      have := hk e (List.mem_filter.1 he).1
      exact ⟨by show e.1.size ≤ 1000; omega, h2, h3⟩
  · exact Good.nil
theorem Good.set {l : List Pl} (h : Good l) (i : Nat) {x : Pl} (hx : x.1.size ≤ 1000 ∧ 2 ≤ x.2.1.size ∧ x.2.1.size ≤ 1000) : Good (l.set i x) := fun p hp => by
  rcases List.mem_or_eq_of_mem_set hp with hp | rfl
  · exact h p hp
  · exact hx
/-- what holds while places are drawn -/
structure Dp (w : World) (g : Nat) (l : List Pl) (a : Option Addr) (c : Nat) (W : World) : Prop where
  src : SrcAt W g
  grown : w.grownBy W (some g)
  lt : g < w.heap.size
  rd : Rd W a (cs l)
  fresh : ∀ b o s, a = some ⟨b, o, s⟩ → w.heap.size ≤ b
  cap : l.length ≤ c
  good : Good l
variable {w W W' : World} {g : Nat} {l : List Pl} {a : Option Addr} {c : Nat}
theorem Dp.draw (h : Dp w g l a c W) (hs : SrcAt W' g) (hg : W.grownBy W' (some g)) : Dp w g l a c W' :=
  ⟨hs, grown_trans h.grown hg, h.lt, rd_keep h.rd hg (fun b o s e q => by have := h.fresh b o s e; have := h.lt; simp at q; omega), h.fresh, h.cap, h.good⟩
theorem Dp.next (h : Dp w g l a c W) (hb : Below W.heap.size W W') : Dp w g l a c W' :=
  ⟨h.src.below hb, grown_new h.grown (hb.mono h.grown.size), h.lt, h.rd.below hb, h.fresh, h.cap, h.good⟩
theorem Dp.alloc (h : Dp w g l a c W) (o : Obj) : Dp w g l a c (W.alloc o) := h.next (below_alloc1 W o)
/-- another row -/
theorem Dp.to {l' : List Pl} {a' : Option Addr} {c' : Nat} (h : Dp w g l a c W) (hr : Rd W a' (cs l')) (hf : ∀ b o s, a' = some ⟨b, o, s⟩ → w.heap.size ≤ b) (hc : l'.length ≤ c') (hg : Good l') : Dp w g l' a' c' W :=
  ⟨h.src, h.grown, h.lt, hr, hf, hc, hg⟩
theorem Dp.start (hs : SrcAt w g) : Dp w g [] (some ⟨w.heap.size, 0, none⟩) 0 (w.alloc (.cells #[] 33)) :=
  ⟨hs.below (below_alloc1 w _), World.grownBy_alloc w _ _, hs.lt, Rd.nil _ _, (fun b o s e => by cases e; exact Nat.le_refl _), Nat.le_refl _, Good.nil⟩
/-- a place is put in -/
theorem Dp.put {x : Pl} (h : Dp w g l a c W) (hx : x.1.size ≤ 1000 ∧ 2 ≤ x.2.1.size ∧ x.2.1.size ≤ 1000) {e : Ending} (hp : PtPost W a (put l x) e W') : ∃ a' c', e = .returned (.slice a' (put l x).length c') ∧ Dp w g (put l x) a' c' W' := by
  obtain ⟨a', c', he, hr, hf, hb, hc⟩ := hp
  refine ⟨a', c', he, (h.next hb).to hr ?_ hc (h.good.put hx)⟩
  intro b o s e2
  rcases hf with hf | hf
  · exact h.fresh b o s (by rw [← hf]; exact e2)
  · exact Nat.le_trans h.grown.size (hf b o s e2)
def DPl (w : World) (g : Nat) (e : Ending) (w' : World) : Prop := ∃ l a c, e = .returned (.slice a l.length c) ∧ l.length ≤ 310 ∧ Dp w g l a c w'
/-- one of some texts -/
def DrewP (w : World) (g : Nat) (P : ByteArray → Prop) (e : Ending) (w' : World) : Prop := ∃ t : ByteArray, e = .returned (.string t) ∧ P t ∧ SrcAt w' g ∧ w.grownBy w' (some g)
theorem rdT_lit (w : World) (ts : List ByteArray) (cs : Array Value) (h : cs = (ts.map strV).toArray) : RdT (w.alloc (.cells cs 9)) (some ⟨w.heap.size, 0, none⟩) ts := by
  subst h
  intro i z hz
  refine ⟨w.heap.size, 0, rfl, ?_⟩
  have e : (w.alloc (.cells (ts.map strV).toArray 9)).heap[w.heap.size]? = some (.cells (ts.map strV).toArray 9) := blk_new w _ _ rfl
  rw [Nat.zero_add, cell_of_row _ _ i _ _ _ e]
  simp [hz, strV]
set_option maxRecDepth 100000 in
theorem pickP_any (P : ByteArray → Prop) (g : Nat) (a : Option Addr) (n c : Nat) (ts : List ByteArray) (w : World) (h : SrcAt w g) (hr : RdT w a ts) (hn : ts.length = n) (h1 : 1 < n) (h2 : n ≤ 100) (hz : ∀ t ∈ ts, P t) (ha : ∀ b o s, a = some ⟨b, o, s⟩ → b ≠ g) :
    Calls Tryz.prog 44 #[.pointer (some ⟨g, 0, none⟩), .slice a n c] w fun e w' => DrewP w g P e w' := by
  have HN := mkHid (n_any g n w (by omega) h)
  clear h
  go_enter Tryz.func44, Tryz.ntmps44
  go_wp2_with fail
  refine HN.out.mono ?_
  rintro e w1 ⟨r, rfl, hr0, hr1, _, hs1, hg1⟩
  have hr1' := hr1 (by omega)
  obtain ⟨m, rfl⟩ := Int.eq_ofNat_of_zero_le hr0
  have hm : m < ts.length := by omega
  obtain ⟨t, ht⟩ : ∃ t, ts[m]? = some t := ⟨_, List.getElem?_eq_getElem hm⟩
  obtain ⟨b, off, rfl, hc⟩ := hr m t ht
  have hb := ha b off none rfl
  have hc1 : w1.cell? ⟨b, off + m, none⟩ = some (.string t) := hg1.cell hc (by simpa using hb)
  have hts := hz t (List.mem_of_getElem? ht)
  have S1 := mkHid (And.intro hs1 hg1)
  clear hs1 hg1 hr1 HN ht hr hz ha hc hm
  go_wp2
  go_ret
  exact ⟨t, rfl, hts, S1.out.1, S1.out.2⟩
set_option maxRecDepth 100000 in
theorem fld (a : Option Addr) (n c : Nat) (k : Int) (wx : World) : (Instr.field 29 (.agg #[.slice a n c, .int .i64 k]) 0).run Tryz.prog wx = .ok (.slice a n c) wx := by rfl
theorem cs_set1 : ∀ (l : List Pl) (i : Nat) (p : Pl) (t : ByteArray), l[i]? = some p → (cs l).set (i * 5 + 1) (.string t) = cs (l.set i (p.1, t, p.2.2.1, p.2.2.2.1, p.2.2.2.2))
  | [], i, p, t, h => by simp at h
  | z :: l, 0, p, t, h => by simp at h; subst h; simp [cs_cons]
  | z :: l, i + 1, p, t, h => by
    rw [show (z :: l).set (i + 1) (p.1, t, p.2.2.1, p.2.2.2.1, p.2.2.2.2) = z :: l.set i (p.1, t, p.2.2.1, p.2.2.2.1, p.2.2.2.2) from rfl, cs_cons, cs_cons, ← cs_set1 l i p t (by simpa using h)]
    have e : (i + 1) * 5 + 1 = i * 5 + 1 + 1 + 1 + 1 + 1 + 1 := by omega
    rw [e]
    simp only [List.set_cons_succ]
theorem cs_set2 : ∀ (l : List Pl) (i : Nat) (p : Pl) (k : Int), l[i]? = some p → (cs l).set (i * 5 + 2) (.int .i64 k) = cs (l.set i (p.1, p.2.1, k, p.2.2.2.1, p.2.2.2.2))
  | [], i, p, k, h => by simp at h
  | z :: l, 0, p, k, h => by simp at h; subst h; simp [cs_cons]
  | z :: l, i + 1, p, k, h => by
    rw [show (z :: l).set (i + 1) (p.1, p.2.1, k, p.2.2.2.1, p.2.2.2.2) = z :: l.set i (p.1, p.2.1, k, p.2.2.2.1, p.2.2.2.2) from rfl, cs_cons, cs_cons, ← cs_set2 l i p k (by simpa using h)]
    have e : (i + 1) * 5 + 2 = i * 5 + 2 + 1 + 1 + 1 + 1 + 1 := by omega
    rw [e]
    simp only [List.set_cons_succ]
theorem cs_set3 : ∀ (l : List Pl) (i : Nat) (p : Pl) (k : Int), l[i]? = some p → (cs l).set (i * 5 + 3) (.int .i64 k) = cs (l.set i (p.1, p.2.1, p.2.2.1, k, p.2.2.2.2))
  | [], i, p, k, h => by simp at h
  | z :: l, 0, p, k, h => by simp at h; subst h; simp [cs_cons]
  | z :: l, i + 1, p, k, h => by
    rw [show (z :: l).set (i + 1) (p.1, p.2.1, p.2.2.1, k, p.2.2.2.2) = z :: l.set i (p.1, p.2.1, p.2.2.1, k, p.2.2.2.2) from rfl, cs_cons, cs_cons, ← cs_set3 l i p k (by simpa using h)]
    have e : (i + 1) * 5 + 3 = i * 5 + 3 + 1 + 1 + 1 + 1 + 1 := by omega
    rw [e]
    simp only [List.set_cons_succ]
theorem cs_set4 : ∀ (l : List Pl) (i : Nat) (p : Pl) (k : Int), l[i]? = some p → (cs l).set (i * 5 + 4) (.int .i64 k) = cs (l.set i (p.1, p.2.1, p.2.2.1, p.2.2.2.1, k))
  | [], i, p, k, h => by simp at h
  | z :: l, 0, p, k, h => by simp at h; subst h; simp [cs_cons]
  | z :: l, i + 1, p, k, h => by
    rw [show (z :: l).set (i + 1) (p.1, p.2.1, p.2.2.1, p.2.2.2.1, k) = z :: l.set i (p.1, p.2.1, p.2.2.1, p.2.2.2.1, k) from rfl, cs_cons, cs_cons, ← cs_set4 l i p k (by simpa using h)]
    have e : (i + 1) * 5 + 4 = i * 5 + 4 + 1 + 1 + 1 + 1 + 1 := by omega
    rw [e]
    simp only [List.set_cons_succ]
/-- places in a row of our own -/
structure Dr (w : World) (g : Nat) (l : List Pl) (q c : Nat) (W : World) : Prop where
  src : SrcAt W g
  grown : w.grownBy W (some g)
  lt : g < w.heap.size
  own : W.ownsRow w.heap.size 33 5 (.slice (some ⟨q, 0, none⟩) l.length c) l.length (cs l)
  good : Good l
variable {q : Nat}
theorem Dr.q_lt (h : Dr w g l q c W) : w.heap.size ≤ q ∧ q < W.heap.size := h.own.lt q rfl
theorem Dr.draw (h : Dr w g l q c W) (hs : SrcAt W' g) (hg : W.grownBy W' (some g)) : Dr w g l q c W' :=
  ⟨hs, grown_trans h.grown hg, h.lt, row_keep h.own hg (fun b e q2 => by
    cases e
    have := h.q_lt.1
    have := h.lt
    simp at q2
    omega), h.good⟩
theorem Dr.next (h : Dr w g l q c W) (hb : Below W.heap.size W W') : Dr w g l q c W' :=
  ⟨h.src.below hb, grown_new h.grown (hb.mono h.grown.size), h.lt, row_keep h.own (below_grew hb none) (fun _ _ e => by cases e), h.good⟩
theorem Dr.row (h : Dr w g l q c W) : Own 33 W q (cs l) := Own.owns h.own
theorem Dr.to (h : Dr w g l q c W) : Dp w g l (some ⟨q, 0, none⟩) c W :=
  ⟨h.src, h.grown, h.lt, h.row.rd, (fun b o s e => by cases e; exact h.q_lt.1), (cap_of h.own).2, h.good⟩
/-- a cell of the row is written -/
theorem Dr.set {l' : List Pl} {j : Nat} {v : Value} (h : Dr w g l q c W) (he : (cs l).set j v = cs l') (hj : j < (cs l).length) (hl : l'.length = l.length) (hg : Good l') : Dp w g l' (some ⟨q, 0, none⟩) c (W.setCell ⟨q, j, none⟩ v) := by
  have hq := h.q_lt
  have hlt := h.lt
  refine ⟨src_set h.src _ _ (by show g < q; omega), grown_new h.grown ((Below.refl _ _).setCell (p := ⟨q, j, none⟩) hq.1 v), hlt, ?_, (fun b o s e => by cases e; exact hq.1), by rw [hl]; exact (cap_of h.own).2, hg⟩
  have := (h.row.set j hj v).rd
  rw [he] at this
  exact this
attribute [local go_sem ↓] app_fold
/-- a copy of its own -/
theorem copyO_any (a : Option Addr) (c : Nat) (l : List Pl) (w : World) (hl : l.length ≤ 1048576) (hne : l ≠ []) (hr : Rd w a (cs l)) :
    Calls Tryz.prog 47 #[.slice a l.length c] w fun e w' => ∃ q c', e = .returned (.slice (some ⟨q, 0, none⟩) l.length c') ∧ w'.ownsRow w.heap.size 33 5 (.slice (some ⟨q, 0, none⟩) l.length c') l.length (cs l) ∧ Below w.heap.size w w' := by
  have hB0 := below_alloc1 w (.cells #[] 33)
  obtain ⟨v1, w1, happ1, hown1, hgr1⟩ := appRP (w.alloc (.cells #[] 33)) w.heap.size _ 0 [] (empty_row w) hB0.size a c l (hr.alloc _) (by omega)
  rw [Nat.zero_add] at hown1
  rw [List.nil_append] at hown1
  have hB1 : Below w.heap.size w w1 := hB0.grown hgr1 hB0.size (fun j hj => ((empty_row w).lt j hj).1)
  rcases ownsRow_forms hown1 with ⟨rfl, h0⟩ | ⟨q, c1, rfl⟩
  · exact absurd (List.eq_nil_of_length_eq_zero (by simpa using h0)) hne
  · have HF := mkHid (And.intro hown1 hB1)
    clear hown1 hgr1 hB0 hB1 hr
    go_enter Tryz.func47, Tryz.ntmps47
    go_wp2
    go_ret
    exact ⟨q, c1, rfl, HF.out⟩
end Go.Proofs.YtmoojhnblakdhaaGreat.plc
namespace Go.Proofs.YtmoojhnblakdhaaGreat.pack
open Go.RowKit Go.Joins
open Go.Proofs.YtmoojhnblakdhaaGreat.base Go.Proofs.YtmoojhnblakdhaaGreat.blk Go.Proofs.YtmoojhnblakdhaaGreat.aid
open Go.Proofs.YtmoojhnblakdhaaGreat.sha (digest GV)
set_option linter.unusedVariables false

theorem rd_code : ∀ (l : List UInt8) (j u : Nat) (c : Int), num.rd l j u = .error c → c ≠ 0
  | [], j, u, c, h => by simp [num.rd] at h; omega
  | b :: r, j, u, c, h => by
    unfold num.rd at h
    split at h
    · simp at h; omega
    · split at h
      · split at h
        · simp at h; omega
        · simp at h
      · exact rd_code r _ _ c h
theorem G_code {s : ByteArray} {a : Int} {c : Int} (h : num.G s a = .error c) : c ≠ 0 := by
  unfold num.G at h
  split at h
  · simp at h; omega
  · split at h
    · simp at h; omega
    · cases hr : num.rd (s.data.toList.drop a.toNat) 0 0 with
      | error d => rw [hr] at h; simp at h; subst h; exact rd_code _ _ _ _ hr
      | ok x => rw [hr] at h; simp at h
theorem three {n q m : Int} (h : n < 0 ∨ 2000 < n ∨ m - n < q) : n < 0 ∨ (0 ≤ n ∧ 2000 < n) ∨ (0 ≤ n ∧ n ≤ 2000 ∧ m - n < q) := by omega
theorem slice_key (s : ByteArray) (a : Nat) (h : a + 33 ≤ s.size) (wx : World) : (Instr.slice 9 (.string s) (some (.int .i64 ((a : Int) + 1))) (some (.int .i64 ((a : Int) + 33))) none).run Tryz.prog wx = .ok (.string (keyAt s a)) wx := by
  have h1 := run_slice_string (P := Tryz.prog) wx 9 s .i64 .i64 ((a : Int) + 1) ((a : Int) + 33) Tryz.underlying9 (by omega) (by omega) (by omega)
  rw [h1]
  unfold keyAt
  congr 3
def noV : Value := .tuple #[.agg #[.string ⟨#[]⟩, .int .i64 0, .int .i64 0, .int .i64 0], .agg #[.int .i64 0, .string ⟨#[]⟩], .int .i64 0, .bool false]
/-- the three variables of l07At -/
structure A3 (w W : World) : Prop where
  below : Below w.heap.size w W
  e0 : W.heap[w.heap.size]? = some (.cells #[.string ⟨#[]⟩, .int .i64 0, .int .i64 0, .int .i64 0] 128)
  e1 : W.heap[w.heap.size + 1]? = some (.cells #[.int .i64 0, .string ⟨#[]⟩] 110)
  e2 : W.heap[w.heap.size + 1 + 1]? = some (.cells #[.int .i64 0, .string ⟨#[]⟩] 110)
theorem A3.next {w W W' : World} (h : A3 w W) (hb : Below W.heap.size W W') : A3 w W' := ⟨h.below.trans (hb.mono h.below.size), blk_below h.e0 hb, blk_below h.e1 hb, blk_below h.e2 hb⟩
theorem A3.fin {w W : World} (h : A3 w W) (a b c d e f : Value) : Below w.heap.size w (((((((W.setCell ⟨w.heap.size, 0, none⟩ a).setCell ⟨w.heap.size, 1, none⟩ b).setCell ⟨w.heap.size, 2, none⟩ c).setCell ⟨w.heap.size, 3, none⟩ d).setCell ⟨w.heap.size + 1, 0, none⟩ e).setCell ⟨w.heap.size + 1, 1, none⟩ f).drew) :=
  ((((((h.below.setCell (by simp) _).setCell (by simp) _).setCell (by simp) _).setCell (by simp) _).setCell (by simp) _).setCell (by simp) _).drew
structure A5 (w : World) (z1 z2 : Nat) (ok on : Obj) (W : World) : Prop where
  a3 : A3 w W
  zk : W.heap[z1]? = some ok
  zn : W.heap[z2]? = some on
theorem A3.drew {w W : World} (h : A3 w W) : A3 w W.drew := ⟨h.below.drew, h.e0, h.e1, h.e2⟩
theorem A5.next {w W W' : World} {z1 z2 : Nat} {ok on : Obj} (h : A5 w z1 z2 ok on W) (hb : Below W.heap.size W W') : A5 w z1 z2 ok on W' := ⟨h.a3.next hb, blk_below h.zk hb, blk_below h.zn hb⟩
theorem A5.drew {w W : World} {z1 z2 : Nat} {ok on : Obj} (h : A5 w z1 z2 ok on W) : A5 w z1 z2 ok on W.drew := ⟨h.a3.drew, h.zk, h.zn⟩
theorem APost.either {w w' : World} {s : ByteArray} {a : Nat} {k : Int} {q n : Nat} {tx : ByteArray} {m : Int} {bb : Bool} (h : (bb = true → recAt s a = some (k, q, n)) ∧ (bb = false → recAt s a = Option.none)) (ht : tx = s.extract q (q + n)) (hm : m = ((q + n : Nat) : Int)) (hb : Below w.heap.size w w') :
    APost w s a (.returned (.tuple #[.agg #[.string (keyAt s a), .int .i64 k, .int .i64 (q : Int), .int .i64 (n : Int)], .agg #[.int .i64 k, .string tx], .int .i64 m, .bool bb])) w' := by
  subst ht hm
  cases bb
  · exact APost.no (h.2 rfl) ⟨_, _, _, _, _, _, _, rfl, hb⟩
  · exact APost.yes (h.1 rfl) ⟨rfl, hb⟩
theorem txt_both {r s : ByteArray} {bb : Bool} {A B : Prop} (h : (r.toList == s.toList) = bb) (hp : (r = s → A) ∧ (¬ r = s → B)) : (bb = true → A) ∧ (bb = false → B) := by
  rw [ByteArray.toList_eq, ByteArray.toList_eq] at h
  subst h
  constructor
  · intro e
    exact hp.1 (ByteArray.ext (Array.toList_inj.1 (by simpa using e)))
  · intro e
    exact hp.2 (fun e2 => by subst e2; simp at e)
theorem A3.fin6 {w W : World} (h : A3 w W) (a b c d e f : Value) : Below w.heap.size w ((((((W.setCell ⟨w.heap.size, 0, none⟩ a).setCell ⟨w.heap.size, 1, none⟩ b).setCell ⟨w.heap.size, 2, none⟩ c).setCell ⟨w.heap.size, 3, none⟩ d).setCell ⟨w.heap.size + 1, 0, none⟩ e).setCell ⟨w.heap.size + 1, 1, none⟩ f) :=
  (((((h.below.setCell (by simp) _).setCell (by simp) _).setCell (by simp) _).setCell (by simp) _).setCell (by simp) _).setCell (by simp) _
theorem APost.none {w w' : World} {s : ByteArray} {a : Nat} (h : recAt s a = Option.none) (hb : Below w.heap.size w w') : APost w s a (.returned noV) w' :=
  APost.no h ⟨_, _, _, _, _, _, _, rfl, hb⟩
theorem A3.start (w : World) : A3 w (((w.alloc (.cells #[.string ⟨#[]⟩, .int .i64 0, .int .i64 0, .int .i64 0] 128)).alloc (.cells #[.int .i64 0, .string ⟨#[]⟩] 110)).alloc (.cells #[.int .i64 0, .string ⟨#[]⟩] 110)) :=
  ⟨((below_alloc1 w _).alloc (by simp) _).alloc (by simp; omega) _, blk_old (blk_old (blk_new w _ _ rfl) _) _, blk_old (blk_new _ _ _ (by simp)) _, blk_new _ _ _ (by simp)⟩

set_option maxRecDepth 100000 in
set_option maxHeartbeats 2000000 in
theorem at_any : IAt := by
  intro s a w hs ha
  have h1 : (s.size : Int) ≤ 20000 := by omega
  have S0 := mkHid (A3.start w)
  by_cases hA : s.size < a + 33
  · have R := mkHid (rec_short hA)
    have hAi : (s.size : Int) < (a : Int) + 33 := by omega
    have hai : (a : Int) ≤ (s.size : Int) := by omega
    go_enter Tryz.func104, Tryz.ntmps104
    go_wp2_with fail
    generalize ((w.alloc (.cells #[.string ⟨#[]⟩, .int .i64 0, .int .i64 0, .int .i64 0] 128)).alloc (.cells #[.int .i64 0, .string ⟨#[]⟩] 110)).alloc (.cells #[.int .i64 0, .string ⟨#[]⟩] 110) = W at *
    obtain ⟨r0, r1, r2, r3⟩ := cel4 S0.out.e0
    obtain ⟨s0, s1⟩ := cel2 S0.out.e1
    obtain ⟨n0, n1⟩ := cel2 S0.out.e2
    have f0 := unfrozen S0.out.e0
    have f1 := unfrozen S0.out.e1
    go_region
    go_wp2
    exact bodyPost_ret (v := noV) (by simp [results, Tryz.results104, go_sem, r0, r1, r2, r3, s0, s1, noV]) rfl (APost.none R.out (S0.out.fin _ _ _ _ _ _))
  · have hal : a < s.size := by omega
    have hAi : (a : Int) + 33 ≤ (s.size : Int) := by omega
    have hai : (a : Int) < (s.size : Int) := by omega
    by_cases hm : s.data.toList[a]? = some 66
    · have hmv : ((s[a].toNat : Int) != 66) = false := by
        have : s[a] = 66 := by
          rw [List.getElem?_eq_some_iff] at hm
          exact hm.2
        rw [this]
        rfl
      have HG1 := mkHid (fun wx => num.spec_any s (a + 33) wx hs (by omega))
      go_enter Tryz.func104, Tryz.ntmps104
      go_wp2_with fail
      generalize ((w.alloc (.cells #[.string ⟨#[]⟩, .int .i64 0, .int .i64 0, .int .i64 0] 128)).alloc (.cells #[.int .i64 0, .string ⟨#[]⟩] 110)).alloc (.cells #[.int .i64 0, .string ⟨#[]⟩] 110) = W at *
      cases hn1 : num.G s (a + 33 : Nat) with
      | error c =>
        have R := mkHid (rec_err1 hn1)
        rw [hn1] at HG1
        simp only [num.out] at HG1
        have hc : (c != 0) = true := by have := G_code hn1; simpa using this
        refine (HG1.out _).mono ?_
        rintro e w1 ⟨rfl, hb1⟩
        have S1 := mkHid ((S0.out.next hb1).next (below_alloc1 w1 (.cells #[.int .i64 0, .int .i64 0, .int .i64 c] 156)))
        clear hb1 S0 HG1 hm hn1
        go_wp2_with fail
        generalize w1.alloc (.cells #[.int .i64 0, .int .i64 0, .int .i64 c] 156) = W1 at *
        obtain ⟨r0, r1, r2, r3⟩ := cel4 S1.out.e0
        obtain ⟨s0, s1⟩ := cel2 S1.out.e1
        obtain ⟨n0, n1⟩ := cel2 S1.out.e2
        have f0 := unfrozen S1.out.e0
        have f1 := unfrozen S1.out.e1
        go_region
        go_wp2
        exact bodyPost_ret (v := noV) (by simp [results, Tryz.results104, go_sem, r0, r1, r2, r3, s0, s1, noV]) rfl (APost.none R.out (S1.out.fin _ _ _ _ _ _))
      | ok x =>
        obtain ⟨k, p⟩ := x
        obtain ⟨P, rfl, hp1, hp2⟩ := G_nat hn1
        rw [hn1] at HG1
        simp only [num.out] at HG1
        refine (HG1.out _).mono ?_
        rintro e w1 ⟨rfl, hb1⟩
        have S1 := mkHid ((S0.out.next hb1).next (below_alloc1 w1 (.cells #[.int .i64 k, .int .i64 P, .int .i64 0] 156)))
        have Z1 := mkHid (blk_new w1 (.cells #[.int .i64 k, .int .i64 P, .int .i64 0] 156) w1.heap.size rfl)
        clear hb1 S0 HG1
        by_cases hk : k = 1 ∨ k = 2
        · rcases hk with rfl | rfl
          · have HG2 := mkHid (fun wx => num.spec_any s P wx hs (by omega))
            go_wp2_with fail
            generalize w1.alloc (.cells #[.int .i64 1, .int .i64 P, .int .i64 0] 156) = W1 at *
            cases hn2 : num.G s (P : Nat) with
            | error c =>
              have R := mkHid (rec_err2 hn1 hn2)
              rw [hn2] at HG2
              simp only [num.out] at HG2
              have hc : (c != 0) = true := by have := G_code hn2; simpa using this
              refine (HG2.out _).mono ?_
              rintro e w2 ⟨rfl, hb2⟩
              have S2 := mkHid ((S1.out.next hb2).next (below_alloc1 w2 (.cells #[.int .i64 0, .int .i64 0, .int .i64 c] 156)))
              clear hb2 S1 HG2 hm hn1 hn2
              go_wp2_with fail
              generalize w2.alloc (.cells #[.int .i64 0, .int .i64 0, .int .i64 c] 156) = W2 at *
              obtain ⟨r0, r1, r2, r3⟩ := cel4 S2.out.e0
              obtain ⟨s0, s1⟩ := cel2 S2.out.e1
              obtain ⟨n0, n1⟩ := cel2 S2.out.e2
              have f0 := unfrozen S2.out.e0
              have f1 := unfrozen S2.out.e1
              go_region
              go_wp2
              exact bodyPost_ret (v := noV) (by simp [results, Tryz.results104, go_sem, r0, r1, r2, r3, s0, s1, noV]) rfl (APost.none R.out (S2.out.fin _ _ _ _ _ _))
            | ok y =>
              obtain ⟨n, q⟩ := y
              obtain ⟨Q, rfl, hq1, hq2⟩ := G_nat hn2
              rw [hn2] at HG2
              simp only [num.out] at HG2
              refine (HG2.out _).mono ?_
              rintro e w2 ⟨rfl, hb2⟩
              have S2 := mkHid ((S1.out.next hb2).next (below_alloc1 w2 (.cells #[.int .i64 n, .int .i64 Q, .int .i64 0] 156)))
              have Z2 := mkHid (And.intro (blk_old (blk_below Z1.out hb2) (.cells #[.int .i64 n, .int .i64 Q, .int .i64 0] 156)) (blk_new w2 (.cells #[.int .i64 n, .int .i64 Q, .int .i64 0] 156) w2.heap.size rfl))
              have Z4 : Hid (w.heap.size + 1 + 1 < w2.heap.size) := mkHid ((Array.getElem?_eq_some_iff.1 (S1.out.next hb2).e2).1)
              clear hb2 S1 HG2 Z1
              have hqi : (Q : Int) ≤ (s.size : Int) := by omega
              by_cases hN : n < 0 ∨ 2000 < n ∨ (s.size : Int) - n < Q
              · have R := mkHid (rec_size hn1 hn2 hN)
                clear hm hn1 hn2
                rcases three hN with g1 | ⟨g1, g2⟩ | ⟨g1, g2, g3⟩
                all_goals clear hN
                all_goals go_wp2_with fail
                all_goals generalize w2.alloc (.cells #[.int .i64 n, .int .i64 Q, .int .i64 0] 156) = W2 at *
                · obtain ⟨r0, r1, r2, r3⟩ := cel4 S2.out.e0
                  obtain ⟨s0, s1⟩ := cel2 S2.out.e1
                  obtain ⟨n0, n1⟩ := cel2 S2.out.e2
                  have f0 := unfrozen S2.out.e0
                  have f1 := unfrozen S2.out.e1
                  go_region
                  go_wp2
                  exact bodyPost_ret (v := noV) (by simp [results, Tryz.results104, go_sem, r0, r1, r2, r3, s0, s1, noV]) rfl (APost.none R.out (S2.out.fin _ _ _ _ _ _))
                · obtain ⟨r0, r1, r2, r3⟩ := cel4 S2.out.e0
                  obtain ⟨s0, s1⟩ := cel2 S2.out.e1
                  obtain ⟨n0, n1⟩ := cel2 S2.out.e2
                  have f0 := unfrozen S2.out.e0
                  have f1 := unfrozen S2.out.e1
                  go_region
                  go_wp2
                  exact bodyPost_ret (v := noV) (by simp [results, Tryz.results104, go_sem, r0, r1, r2, r3, s0, s1, noV]) rfl (APost.none R.out (S2.out.fin _ _ _ _ _ _))
                · obtain ⟨r0, r1, r2, r3⟩ := cel4 S2.out.e0
                  obtain ⟨s0, s1⟩ := cel2 S2.out.e1
                  obtain ⟨n0, n1⟩ := cel2 S2.out.e2
                  have f0 := unfrozen S2.out.e0
                  have f1 := unfrozen S2.out.e1
                  go_region
                  go_wp2
                  exact bodyPost_ret (v := noV) (by simp [results, Tryz.results104, go_sem, r0, r1, r2, r3, s0, s1, noV]) rfl (APost.none R.out (S2.out.fin _ _ _ _ _ _))
              · obtain ⟨N, rfl⟩ : ∃ N : Nat, n = N := ⟨n.toNat, by omega⟩
                have hN1 : (N : Int) ≤ 2000 := by omega
                have hN2 : (Q : Int) ≤ (s.size : Int) - (N : Int) := by omega
                have hN3 : Q + N ≤ s.size := by omega
                clear hN
                have hsl1 := slice_key s a (by omega)
                have hsl2 := slice_is s Q N hN3
                have HX : Hid (∃ tx, tx = s.extract Q (Q + N)) := mkHid ⟨_, rfl⟩
                have hw1 : IntKind.i64.wrap ((Q : Int) + (N : Int)) = (Q : Int) + (N : Int) := by rw [IntKind.wrap_i64]; omega
                have hw2 : IntKind.i64.wrap ((a : Int) + 1) = (a : Int) + 1 := by rw [IntKind.wrap_i64]; omega
                have hw3 : IntKind.i64.wrap ((a : Int) + 33) = (a : Int) + 33 := by rw [IntKind.wrap_i64]; omega
                go_wp2_with fail
                obtain ⟨tx, htx⟩ := HX.out
                rw [← htx] at hsl2
                have HTX := mkHid htx
                clear htx
                have HK := mkHid (fun wx => key_spec 1 tx wx)
                have T0 : Hid (A5 w w1.heap.size w2.heap.size (.cells #[.int .i64 1, .int .i64 P, .int .i64 0] 156) (.cells #[.int .i64 N, .int .i64 Q, .int .i64 0] 156) (w2.alloc (.cells #[.int .i64 N, .int .i64 Q, .int .i64 0] 156))) := mkHid ⟨S2.out, Z2.out.1, Z2.out.2⟩
                generalize w2.alloc (.cells #[.int .i64 N, .int .i64 Q, .int .i64 0] 156) = W2 at *
                have hz2 := Z4.out
                have hz3 : w.heap.size + 1 + 1 < W2.heap.size := (Array.getElem?_eq_some_iff.1 T0.out.a3.e2).1
                generalize w2.heap.size = z2 at *
                generalize w1.heap.size = z1 at *
                clear S2 Z2 Z4
                have c0 := (cel3 T0.out.zk).1
                have c1 := (cel3 T0.out.zn).1
                have c2 := (cel3 T0.out.zn).2.1
                have d0 : ∀ o, (W2.alloc o).cell? ⟨z1, 0, none⟩ = some (.int .i64 1) := fun o => (cel3 (blk_old T0.out.zk o)).1
                have d1 : ∀ o, (W2.alloc o).cell? ⟨z2, 0, none⟩ = some (.int .i64 N) := fun o => (cel3 (blk_old T0.out.zn o)).1
                have d2 : ∀ o, (W2.alloc o).cell? ⟨z2, 1, none⟩ = some (.int .i64 Q) := fun o => (cel3 (blk_old T0.out.zn o)).2.1
                go_region_held3 (fun w' => w'.cell? ⟨z1, 0, none⟩ = some (.int .i64 1) ∧ w'.cell? ⟨z2, 0, none⟩ = some (.int .i64 N) ∧ w'.cell? ⟨z2, 1, none⟩ = some (.int .i64 Q)) (go_keep) ((fail))
                have T1 := mkHid (T0.out.next (below_alloc1 W2 (.cells #[.string (keyAt s a), .int .i64 1, .int .i64 Q, .int .i64 N] 128))).drew
                have X1 : Hid ((W2.alloc (.cells #[.string (keyAt s a), .int .i64 1, .int .i64 Q, .int .i64 N] 128)).drew.heap[W2.heap.size]? = some (.cells #[.string (keyAt s a), .int .i64 1, .int .i64 Q, .int .i64 N] 128)) := mkHid (blk_new W2 (.cells #[.string (keyAt s a), .int .i64 1, .int .i64 Q, .int .i64 N] 128) W2.heap.size rfl)
                generalize (W2.alloc (.cells #[.string (keyAt s a), .int .i64 1, .int .i64 Q, .int .i64 N] 128)).drew = V1 at *
                have hz4 : w.heap.size + 1 + 1 < V1.heap.size := (Array.getElem?_eq_some_iff.1 T1.out.a3.e2).1
                generalize W2.heap.size = z3 at *
                clear c0 c1 c2 d0 d1 d2 T0 hsl1
                have c0 := (cel3 T1.out.zk).1
                have c1 := (cel3 T1.out.zn).1
                have c2 := (cel3 T1.out.zn).2.1
                have d0 : ∀ o, (V1.alloc o).cell? ⟨z1, 0, none⟩ = some (.int .i64 1) := fun o => (cel3 (blk_old T1.out.zk o)).1
                have d1 : ∀ o, (V1.alloc o).cell? ⟨z2, 0, none⟩ = some (.int .i64 N) := fun o => (cel3 (blk_old T1.out.zn o)).1
                have d2 : ∀ o, (V1.alloc o).cell? ⟨z2, 1, none⟩ = some (.int .i64 Q) := fun o => (cel3 (blk_old T1.out.zn o)).2.1
                go_wp2_with fail
                go_region_held3 (fun w' => w'.cell? ⟨z1, 0, none⟩ = some (.int .i64 1) ∧ w'.cell? ⟨z2, 0, none⟩ = some (.int .i64 N) ∧ w'.cell? ⟨z2, 1, none⟩ = some (.int .i64 Q)) (go_keep) ((fail))
                have T2 := mkHid (T1.out.next (below_alloc1 V1 (.cells #[.int .i64 1, .string tx] 110))).drew
                have X2 : Hid ((V1.alloc (.cells #[.int .i64 1, .string tx] 110)).drew.heap[z3]? = some (.cells #[.string (keyAt s a), .int .i64 1, .int .i64 Q, .int .i64 N] 128) ∧ (V1.alloc (.cells #[.int .i64 1, .string tx] 110)).drew.heap[V1.heap.size]? = some (.cells #[.int .i64 1, .string tx] 110)) := mkHid ⟨blk_old X1.out (.cells #[.int .i64 1, .string tx] 110), blk_new V1 (.cells #[.int .i64 1, .string tx] 110) V1.heap.size rfl⟩
                generalize (V1.alloc (.cells #[.int .i64 1, .string tx] 110)).drew = V2 at *
                generalize V1.heap.size = z4 at *
                clear c0 c1 c2 d0 d1 d2 T1 X1 hsl2
                have c0 := (cel3 T2.out.zk).1
                have c1 := (cel3 T2.out.zn).1
                have c2 := (cel3 T2.out.zn).2.1
                obtain ⟨i0, i1, i2, i3⟩ := cel4 X2.out.1
                obtain ⟨j0, j1⟩ := cel2 X2.out.2
                have HR : Hid ((bKey (1, tx) = keyAt s a → recAt s a = some (1, Q, N)) ∧ (¬ bKey (1, tx) = keyAt s a → recAt s a = Option.none)) := mkHid ⟨fun e => rec_ok (by omega) hm hn1 hn2 hN3 (by rw [← HTX.out]; exact e), fun e => rec_key hn1 hn2 (by rw [← HTX.out]; exact e)⟩
                obtain ⟨bb, hbb⟩ : ∃ bb, ((bKey (1, tx)).toList == (keyAt s a).toList) = bb := ⟨_, rfl⟩
                have HRR : Hid ((bb = true → recAt s a = some (1, Q, N)) ∧ (bb = false → recAt s a = Option.none)) := mkHid (txt_both hbb HR.out)
                clear HR hm hn1 hn2
                generalize bKey (1, tx) = bk at *
                have u1 : ¬ (w.heap.size = z2) := by omega
                have u2 : ¬ (w.heap.size = z3) := by omega
                have u3 : ¬ (w.heap.size = z4) := by omega
                have u4 : ¬ (w.heap.size + 1 = z2) := by omega
                have u5 : ¬ (w.heap.size + 1 = z3) := by omega
                have u6 : ¬ (w.heap.size + 1 = z4) := by omega
                clear hz2 hz3 hz4
                go_wp2_with fail
                go_region_held3 (fun w' => w'.cell? ⟨z2, 0, none⟩ = some (.int .i64 N) ∧ w'.cell? ⟨z2, 1, none⟩ = some (.int .i64 Q) ∧ w'.cell? ⟨z3, 0, none⟩ = some (.string (keyAt s a)) ∧ w'.cell? ⟨z3, 1, none⟩ = some (.int .i64 1) ∧ w'.cell? ⟨z3, 2, none⟩ = some (.int .i64 Q) ∧ w'.cell? ⟨z3, 3, none⟩ = some (.int .i64 N) ∧ w'.cell? ⟨z4, 0, none⟩ = some (.int .i64 1) ∧ w'.cell? ⟨z4, 1, none⟩ = some (.string tx)) (go_keep)
                  ((go_at_call 85; refine Calls.mono (HK.out _) ?_; rintro e w5 ⟨rfl, hb5⟩; have hr5 := re (w := V2) hb5 rfl rfl rfl rfl; have T3 := mkHid (T2.out.next hr5); have X3 := mkHid (And.intro (blk_below X2.out.1 hr5) (blk_below X2.out.2 hr5)); have k1 := (cel3 T3.out.zn).1; have k2 := (cel3 T3.out.zn).2.1; obtain ⟨l0, l1, l2, l3⟩ := cel4 X3.out.1; obtain ⟨m0, m1⟩ := cel2 X3.out.2; obtain ⟨r0, r1, r2, r3⟩ := cel4 T3.out.a3.e0; obtain ⟨s0, s1⟩ := cel2 T3.out.a3.e1; have f0 := unfrozen T3.out.a3.e0; have f1 := unfrozen T3.out.a3.e1; clear hb5 hr5))
                have hBel := mkHid (T3.out.a3.fin6 (.string (keyAt s a)) (.int .i64 1) (.int .i64 (Q : Int)) (.int .i64 (N : Int)) (.int .i64 1) (.string tx))
                clear c0 c1 c2 i0 i1 i2 i3 j0 j1 k1 k2 l0 l1 l2 l3 m0 m1
                go_wp2
                exact bodyPost_ret (v := .tuple #[.agg #[.string (keyAt s a), .int .i64 1, .int .i64 (Q : Int), .int .i64 (N : Int)], .agg #[.int .i64 1, .string tx], .int .i64 ((Q : Int) + (N : Int)), .bool bb]) (by simp [results, Tryz.results104, go_sem, r0, r1, r2, r3, s0, s1]) rfl (APost.either HRR.out HTX.out (by omega) hBel.out)
          · have HG2 := mkHid (fun wx => num.spec_any s P wx hs (by omega))
            go_wp2_with fail
            generalize w1.alloc (.cells #[.int .i64 2, .int .i64 P, .int .i64 0] 156) = W1 at *
            cases hn2 : num.G s (P : Nat) with
            | error c =>
              have R := mkHid (rec_err2 hn1 hn2)
              rw [hn2] at HG2
              simp only [num.out] at HG2
              have hc : (c != 0) = true := by have := G_code hn2; simpa using this
              refine (HG2.out _).mono ?_
              rintro e w2 ⟨rfl, hb2⟩
              have S2 := mkHid ((S1.out.next hb2).next (below_alloc1 w2 (.cells #[.int .i64 0, .int .i64 0, .int .i64 c] 156)))
              clear hb2 S1 HG2 hm hn1 hn2
              go_wp2_with fail
              generalize w2.alloc (.cells #[.int .i64 0, .int .i64 0, .int .i64 c] 156) = W2 at *
              obtain ⟨r0, r1, r2, r3⟩ := cel4 S2.out.e0
              obtain ⟨s0, s1⟩ := cel2 S2.out.e1
              obtain ⟨n0, n1⟩ := cel2 S2.out.e2
              have f0 := unfrozen S2.out.e0
              have f1 := unfrozen S2.out.e1
              go_region
              go_wp2
              exact bodyPost_ret (v := noV) (by simp [results, Tryz.results104, go_sem, r0, r1, r2, r3, s0, s1, noV]) rfl (APost.none R.out (S2.out.fin _ _ _ _ _ _))
            | ok y =>
              obtain ⟨n, q⟩ := y
              obtain ⟨Q, rfl, hq1, hq2⟩ := G_nat hn2
              rw [hn2] at HG2
              simp only [num.out] at HG2
              refine (HG2.out _).mono ?_
              rintro e w2 ⟨rfl, hb2⟩
              have S2 := mkHid ((S1.out.next hb2).next (below_alloc1 w2 (.cells #[.int .i64 n, .int .i64 Q, .int .i64 0] 156)))
              have Z2 := mkHid (And.intro (blk_old (blk_below Z1.out hb2) (.cells #[.int .i64 n, .int .i64 Q, .int .i64 0] 156)) (blk_new w2 (.cells #[.int .i64 n, .int .i64 Q, .int .i64 0] 156) w2.heap.size rfl))
              have Z4 : Hid (w.heap.size + 1 + 1 < w2.heap.size) := mkHid ((Array.getElem?_eq_some_iff.1 (S1.out.next hb2).e2).1)
              clear hb2 S1 HG2 Z1
              have hqi : (Q : Int) ≤ (s.size : Int) := by omega
              by_cases hN : n < 0 ∨ 2000 < n ∨ (s.size : Int) - n < Q
              · have R := mkHid (rec_size hn1 hn2 hN)
                clear hm hn1 hn2
                rcases three hN with g1 | ⟨g1, g2⟩ | ⟨g1, g2, g3⟩
                all_goals clear hN
                all_goals go_wp2_with fail
                all_goals generalize w2.alloc (.cells #[.int .i64 n, .int .i64 Q, .int .i64 0] 156) = W2 at *
                · obtain ⟨r0, r1, r2, r3⟩ := cel4 S2.out.e0
                  obtain ⟨s0, s1⟩ := cel2 S2.out.e1
                  obtain ⟨n0, n1⟩ := cel2 S2.out.e2
                  have f0 := unfrozen S2.out.e0
                  have f1 := unfrozen S2.out.e1
                  go_region
                  go_wp2
                  exact bodyPost_ret (v := noV) (by simp [results, Tryz.results104, go_sem, r0, r1, r2, r3, s0, s1, noV]) rfl (APost.none R.out (S2.out.fin _ _ _ _ _ _))
                · obtain ⟨r0, r1, r2, r3⟩ := cel4 S2.out.e0
                  obtain ⟨s0, s1⟩ := cel2 S2.out.e1
                  obtain ⟨n0, n1⟩ := cel2 S2.out.e2
                  have f0 := unfrozen S2.out.e0
                  have f1 := unfrozen S2.out.e1
                  go_region
                  go_wp2
                  exact bodyPost_ret (v := noV) (by simp [results, Tryz.results104, go_sem, r0, r1, r2, r3, s0, s1, noV]) rfl (APost.none R.out (S2.out.fin _ _ _ _ _ _))
                · obtain ⟨r0, r1, r2, r3⟩ := cel4 S2.out.e0
                  obtain ⟨s0, s1⟩ := cel2 S2.out.e1
                  obtain ⟨n0, n1⟩ := cel2 S2.out.e2
                  have f0 := unfrozen S2.out.e0
                  have f1 := unfrozen S2.out.e1
                  go_region
                  go_wp2
                  exact bodyPost_ret (v := noV) (by simp [results, Tryz.results104, go_sem, r0, r1, r2, r3, s0, s1, noV]) rfl (APost.none R.out (S2.out.fin _ _ _ _ _ _))
              · obtain ⟨N, rfl⟩ : ∃ N : Nat, n = N := ⟨n.toNat, by omega⟩
                have hN1 : (N : Int) ≤ 2000 := by omega
                have hN2 : (Q : Int) ≤ (s.size : Int) - (N : Int) := by omega
                have hN3 : Q + N ≤ s.size := by omega
                clear hN
                have hsl1 := slice_key s a (by omega)
                have hsl2 := slice_is s Q N hN3
                have HX : Hid (∃ tx, tx = s.extract Q (Q + N)) := mkHid ⟨_, rfl⟩
                have hw1 : IntKind.i64.wrap ((Q : Int) + (N : Int)) = (Q : Int) + (N : Int) := by rw [IntKind.wrap_i64]; omega
                have hw2 : IntKind.i64.wrap ((a : Int) + 1) = (a : Int) + 1 := by rw [IntKind.wrap_i64]; omega
                have hw3 : IntKind.i64.wrap ((a : Int) + 33) = (a : Int) + 33 := by rw [IntKind.wrap_i64]; omega
                go_wp2_with fail
                obtain ⟨tx, htx⟩ := HX.out
                rw [← htx] at hsl2
                have HTX := mkHid htx
                clear htx
                have HK := mkHid (fun wx => key_spec 2 tx wx)
                have T0 : Hid (A5 w w1.heap.size w2.heap.size (.cells #[.int .i64 2, .int .i64 P, .int .i64 0] 156) (.cells #[.int .i64 N, .int .i64 Q, .int .i64 0] 156) (w2.alloc (.cells #[.int .i64 N, .int .i64 Q, .int .i64 0] 156))) := mkHid ⟨S2.out, Z2.out.1, Z2.out.2⟩
                generalize w2.alloc (.cells #[.int .i64 N, .int .i64 Q, .int .i64 0] 156) = W2 at *
                have hz2 := Z4.out
                have hz3 : w.heap.size + 1 + 1 < W2.heap.size := (Array.getElem?_eq_some_iff.1 T0.out.a3.e2).1
                generalize w2.heap.size = z2 at *
                generalize w1.heap.size = z1 at *
                clear S2 Z2 Z4
                have c0 := (cel3 T0.out.zk).1
                have c1 := (cel3 T0.out.zn).1
                have c2 := (cel3 T0.out.zn).2.1
                have d0 : ∀ o, (W2.alloc o).cell? ⟨z1, 0, none⟩ = some (.int .i64 2) := fun o => (cel3 (blk_old T0.out.zk o)).1
                have d1 : ∀ o, (W2.alloc o).cell? ⟨z2, 0, none⟩ = some (.int .i64 N) := fun o => (cel3 (blk_old T0.out.zn o)).1
                have d2 : ∀ o, (W2.alloc o).cell? ⟨z2, 1, none⟩ = some (.int .i64 Q) := fun o => (cel3 (blk_old T0.out.zn o)).2.1
                go_region_held3 (fun w' => w'.cell? ⟨z1, 0, none⟩ = some (.int .i64 2) ∧ w'.cell? ⟨z2, 0, none⟩ = some (.int .i64 N) ∧ w'.cell? ⟨z2, 1, none⟩ = some (.int .i64 Q)) (go_keep) ((fail))
                have T1 := mkHid (T0.out.next (below_alloc1 W2 (.cells #[.string (keyAt s a), .int .i64 2, .int .i64 Q, .int .i64 N] 128))).drew
                have X1 : Hid ((W2.alloc (.cells #[.string (keyAt s a), .int .i64 2, .int .i64 Q, .int .i64 N] 128)).drew.heap[W2.heap.size]? = some (.cells #[.string (keyAt s a), .int .i64 2, .int .i64 Q, .int .i64 N] 128)) := mkHid (blk_new W2 (.cells #[.string (keyAt s a), .int .i64 2, .int .i64 Q, .int .i64 N] 128) W2.heap.size rfl)
                generalize (W2.alloc (.cells #[.string (keyAt s a), .int .i64 2, .int .i64 Q, .int .i64 N] 128)).drew = V1 at *
                have hz4 : w.heap.size + 1 + 1 < V1.heap.size := (Array.getElem?_eq_some_iff.1 T1.out.a3.e2).1
                generalize W2.heap.size = z3 at *
                clear c0 c1 c2 d0 d1 d2 T0 hsl1
                have c0 := (cel3 T1.out.zk).1
                have c1 := (cel3 T1.out.zn).1
                have c2 := (cel3 T1.out.zn).2.1
                have d0 : ∀ o, (V1.alloc o).cell? ⟨z1, 0, none⟩ = some (.int .i64 2) := fun o => (cel3 (blk_old T1.out.zk o)).1
                have d1 : ∀ o, (V1.alloc o).cell? ⟨z2, 0, none⟩ = some (.int .i64 N) := fun o => (cel3 (blk_old T1.out.zn o)).1
                have d2 : ∀ o, (V1.alloc o).cell? ⟨z2, 1, none⟩ = some (.int .i64 Q) := fun o => (cel3 (blk_old T1.out.zn o)).2.1
                go_wp2_with fail
                go_region_held3 (fun w' => w'.cell? ⟨z1, 0, none⟩ = some (.int .i64 2) ∧ w'.cell? ⟨z2, 0, none⟩ = some (.int .i64 N) ∧ w'.cell? ⟨z2, 1, none⟩ = some (.int .i64 Q)) (go_keep) ((fail))
                have T2 := mkHid (T1.out.next (below_alloc1 V1 (.cells #[.int .i64 2, .string tx] 110))).drew
                have X2 : Hid ((V1.alloc (.cells #[.int .i64 2, .string tx] 110)).drew.heap[z3]? = some (.cells #[.string (keyAt s a), .int .i64 2, .int .i64 Q, .int .i64 N] 128) ∧ (V1.alloc (.cells #[.int .i64 2, .string tx] 110)).drew.heap[V1.heap.size]? = some (.cells #[.int .i64 2, .string tx] 110)) := mkHid ⟨blk_old X1.out (.cells #[.int .i64 2, .string tx] 110), blk_new V1 (.cells #[.int .i64 2, .string tx] 110) V1.heap.size rfl⟩
                generalize (V1.alloc (.cells #[.int .i64 2, .string tx] 110)).drew = V2 at *
                generalize V1.heap.size = z4 at *
                clear c0 c1 c2 d0 d1 d2 T1 X1 hsl2
                have c0 := (cel3 T2.out.zk).1
                have c1 := (cel3 T2.out.zn).1
                have c2 := (cel3 T2.out.zn).2.1
                obtain ⟨i0, i1, i2, i3⟩ := cel4 X2.out.1
                obtain ⟨j0, j1⟩ := cel2 X2.out.2
                have HR : Hid ((bKey (2, tx) = keyAt s a → recAt s a = some (2, Q, N)) ∧ (¬ bKey (2, tx) = keyAt s a → recAt s a = Option.none)) := mkHid ⟨fun e => rec_ok (by omega) hm hn1 hn2 hN3 (by rw [← HTX.out]; exact e), fun e => rec_key hn1 hn2 (by rw [← HTX.out]; exact e)⟩
                obtain ⟨bb, hbb⟩ : ∃ bb, ((bKey (2, tx)).toList == (keyAt s a).toList) = bb := ⟨_, rfl⟩
                have HRR : Hid ((bb = true → recAt s a = some (2, Q, N)) ∧ (bb = false → recAt s a = Option.none)) := mkHid (txt_both hbb HR.out)
                clear HR hm hn1 hn2
                generalize bKey (2, tx) = bk at *
                have u1 : ¬ (w.heap.size = z2) := by omega
                have u2 : ¬ (w.heap.size = z3) := by omega
                have u3 : ¬ (w.heap.size = z4) := by omega
                have u4 : ¬ (w.heap.size + 1 = z2) := by omega
                have u5 : ¬ (w.heap.size + 1 = z3) := by omega
                have u6 : ¬ (w.heap.size + 1 = z4) := by omega
                clear hz2 hz3 hz4
                go_wp2_with fail
                go_region_held3 (fun w' => w'.cell? ⟨z2, 0, none⟩ = some (.int .i64 N) ∧ w'.cell? ⟨z2, 1, none⟩ = some (.int .i64 Q) ∧ w'.cell? ⟨z3, 0, none⟩ = some (.string (keyAt s a)) ∧ w'.cell? ⟨z3, 1, none⟩ = some (.int .i64 2) ∧ w'.cell? ⟨z3, 2, none⟩ = some (.int .i64 Q) ∧ w'.cell? ⟨z3, 3, none⟩ = some (.int .i64 N) ∧ w'.cell? ⟨z4, 0, none⟩ = some (.int .i64 2) ∧ w'.cell? ⟨z4, 1, none⟩ = some (.string tx)) (go_keep)
                  ((go_at_call 85; refine Calls.mono (HK.out _) ?_; rintro e w5 ⟨rfl, hb5⟩; have hr5 := re (w := V2) hb5 rfl rfl rfl rfl; have T3 := mkHid (T2.out.next hr5); have X3 := mkHid (And.intro (blk_below X2.out.1 hr5) (blk_below X2.out.2 hr5)); have k1 := (cel3 T3.out.zn).1; have k2 := (cel3 T3.out.zn).2.1; obtain ⟨l0, l1, l2, l3⟩ := cel4 X3.out.1; obtain ⟨m0, m1⟩ := cel2 X3.out.2; obtain ⟨r0, r1, r2, r3⟩ := cel4 T3.out.a3.e0; obtain ⟨s0, s1⟩ := cel2 T3.out.a3.e1; have f0 := unfrozen T3.out.a3.e0; have f1 := unfrozen T3.out.a3.e1; clear hb5 hr5))
                have hBel := mkHid (T3.out.a3.fin6 (.string (keyAt s a)) (.int .i64 2) (.int .i64 (Q : Int)) (.int .i64 (N : Int)) (.int .i64 2) (.string tx))
                clear c0 c1 c2 i0 i1 i2 i3 j0 j1 k1 k2 l0 l1 l2 l3 m0 m1
                go_wp2
                exact bodyPost_ret (v := .tuple #[.agg #[.string (keyAt s a), .int .i64 2, .int .i64 (Q : Int), .int .i64 (N : Int)], .agg #[.int .i64 2, .string tx], .int .i64 ((Q : Int) + (N : Int)), .bool bb]) (by simp [results, Tryz.results104, go_sem, r0, r1, r2, r3, s0, s1]) rfl (APost.either HRR.out HTX.out (by omega) hBel.out)
        · have R := mkHid (rec_kind hn1 hk)
          have hk1 : (k != 1) = true := by simp; omega
          have hk2 : (k != 2) = true := by simp; omega
          clear hm hn1
          go_wp2_with fail
          generalize w1.alloc (.cells #[.int .i64 k, .int .i64 P, .int .i64 0] 156) = W1 at *
          obtain ⟨r0, r1, r2, r3⟩ := cel4 S1.out.e0
          obtain ⟨s0, s1⟩ := cel2 S1.out.e1
          obtain ⟨n0, n1⟩ := cel2 S1.out.e2
          have f0 := unfrozen S1.out.e0
          have f1 := unfrozen S1.out.e1
          go_region
          go_wp2
          exact bodyPost_ret (v := noV) (by simp [results, Tryz.results104, go_sem, r0, r1, r2, r3, s0, s1, noV]) rfl (APost.none R.out (S1.out.fin _ _ _ _ _ _))
    · have R := mkHid (rec_mark hm)
      have hmv : ((s[a].toNat : Int) != 66) = true := by
        have : s[a] ≠ 66 := fun e => hm (by rw [List.getElem?_eq_getElem (by rw [Array.length_toList]; exact hal)]; exact congrArg some e)
        have h3 : s[a].toNat ≠ 66 := fun e => this (UInt8.toNat_inj.1 (by rw [e]; rfl))
        simp
        omega
      go_enter Tryz.func104, Tryz.ntmps104
      go_wp2_with fail
      generalize ((w.alloc (.cells #[.string ⟨#[]⟩, .int .i64 0, .int .i64 0, .int .i64 0] 128)).alloc (.cells #[.int .i64 0, .string ⟨#[]⟩] 110)).alloc (.cells #[.int .i64 0, .string ⟨#[]⟩] 110) = W at *
      obtain ⟨r0, r1, r2, r3⟩ := cel4 S0.out.e0
      obtain ⟨s0, s1⟩ := cel2 S0.out.e1
      obtain ⟨n0, n1⟩ := cel2 S0.out.e2
      have f0 := unfrozen S0.out.e0
      have f1 := unfrozen S0.out.e1
      go_region
      go_wp2
      exact bodyPost_ret (v := noV) (by simp [results, Tryz.results104, go_sem, r0, r1, r2, r3, s0, s1, noV]) rfl (APost.none R.out (S0.out.fin _ _ _ _ _ _))
end Go.Proofs.YtmoojhnblakdhaaGreat.pack
namespace Go.Proofs.YtmoojhnblakdhaaGreat.plc
open Go.RowKit Go.Joins
open Go.Proofs.YtmoojhnblakdhaaGreat.base Go.Proofs.YtmoojhnblakdhaaGreat.blk Go.Proofs.YtmoojhnblakdhaaGreat.aid
open Go.Proofs.YtmoojhnblakdhaaGreat.row (Rd Own OwnV appSem app_fold)
open Go.Proofs.YtmoojhnblakdhaaGreat.rwPlace (cs el cs_cons cs_len)
open Go.Proofs.YtmoojhnblakdhaaGreat.draw (SrcAt Drew DrewBool DecPost DrewBlobs n_any one_any dec_any blobs_any grown_trans grown_new src_set)
open Go.Proofs.YtmoojhnblakdhaaGreat.strs (RdT strV)
set_option linter.unusedVariables false
set_option linter.unusedSimpArgs false
attribute [local go_sem ↓] app_fold

/-- the answer, once the places stand -/
theorem dpl_of {w W : World} {g : Nat} {l : List Pl} {a : Option Addr} {c n : Nat} (h : Dp w g l a c W) (hn : l.length = n) (hl : n ≤ 310) : DPl w g (.returned (.slice a n c)) W := by
  subst hn
  exact ⟨l, a, c, rfl, hl, h⟩
theorem dig_le (t : ByteArray) : (sha.digest t).size ≤ 32 := by
  unfold sha.digest
  split
  · show 0 ≤ 32; omega
  · rw [sha.dig_size]; exact Nat.le_refl _
theorem dp_drew {w W : World} {g : Nat} {l : List Pl} {a : Option Addr} {c : Nat} (h : Dp w g l a c W) : Dp w g l a c W.drew := h.next ⟨rfl, rfl, rfl, Nat.le_refl _, fun _ _ => rfl⟩
set_option maxRecDepth 100000 in
set_option maxHeartbeats 8000000 in
theorem places_any (g : Nat) (w : World) (h : SrcAt w g) :
    Calls Tryz.prog 18 #[.pointer (some ⟨g, 0, none⟩)] w (DPl w g) := by
  have hlt := h.lt
  have HN : Hid (∀ wx (m : Int), m ≤ 9223372036854775807 → SrcAt wx g → Calls Tryz.prog 20 #[.pointer (some ⟨g, 0, none⟩), .int .i64 m] wx fun e w' => Drew wx g m e w') := mkHid (fun wx m h1 h2 => n_any g m wx h1 h2)
  have HO : Hid (∀ wx (n : Int), n ≤ 9223372036854775807 → SrcAt wx g → Calls Tryz.prog 19 #[.pointer (some ⟨g, 0, none⟩), .int .i64 n] wx fun e w' => DrewBool wx g e w') := mkHid (fun wx n h1 h2 => one_any g n wx h1 h2)
  have HD : Hid (∀ wx (n : Nat), n ≤ 100 → Calls Tryz.prog 39 #[.int .i64 n] wx fun e w' => DecPost wx e w') := mkHid (fun wx n h1 => dec_any n wx h1)
  have HG : Hid (∀ wx (t : ByteArray), t.size ≤ 1048576 → Calls Tryz.prog 21 #[.string t] wx fun e w' => e = .returned (.string (sha.digest t)) ∧ Below wx.heap.size wx w') := mkHid (fun wx t h1 => sha.digest_any t wx h1)
  have HB : Hid (∀ wx, SrcAt wx g → Calls Tryz.prog 46 #[.pointer (some ⟨g, 0, none⟩)] wx fun e w' => DrewBlobs wx g e w') := mkHid (fun wx h2 => blobs_any g wx h2)
  have K0 := mkHid (Dp.start h)
  clear h
  go_enter Tryz.func18, Tryz.ntmps18
  go_wp2_with fail
  refine (HN.out _ 3 (by omega) K0.out.src).mono ?_
  rintro e w1 ⟨r, rfl, hr0, hr1, _, hs1, hg1⟩
  have hr2 := hr1 (by omega)
  obtain ⟨r, rfl⟩ := Int.eq_ofNat_of_zero_le hr0
  have K1 := mkHid (K0.out.draw hs1 hg1)
  clear hs1 hg1 K0 hr1 hr0
  go_wp2_with fail
  go_loopw [3, 4] (fun v i wr => ∃ (k : Nat) (l : List Pl) (a : Option Addr) (c : Nat), i = .int .i64 k ∧ v = .slice a l.length c ∧ k ≤ 2 ∧ l.length ≤ 300 ∧ Hid (Dp w g l a c wr))
    (fun _ i _ => (intOf i).toNat)
  case atStart => exact ⟨r, [], _, _, rfl, rfl, by omega, by simp, K1⟩
  case round =>
    clear K1 hr2
    obtain ⟨k, l, a, c, rfl, rfl, hk, hl, K⟩ := hrel
    by_cases hk0 : 0 < k
    · have hki : 0 < (k : Int) := by omega
      have P0 := mkHid (rdT_lit wr [⟨#[112, 45, 49]⟩, ⟨#[112, 45, 50]⟩, ⟨#[112, 45, 51]⟩] #[.string ⟨#[112, 45, 49]⟩, .string ⟨#[112, 45, 50]⟩, .string ⟨#[112, 45, 51]⟩] rfl)
      have K2 := mkHid (K.out.alloc (.cells #[.string ⟨#[112, 45, 49]⟩, .string ⟨#[112, 45, 50]⟩, .string ⟨#[112, 45, 51]⟩] 9))
      have hgw := K.out.src.lt
      have HP := mkHid (pickP_any (fun t => 2 ≤ t.size ∧ t.size ≤ 1000) g (some ⟨wr.heap.size, 0, none⟩) 3 3 _ _ K2.out.src P0.out rfl (by omega) (by omega) (by intro t ht; simp at ht; rcases ht with rfl | rfl | rfl <;> decide) (fun b o s e => by cases e; omega))
      clear K P0
      go_wp2_with fail
      refine HP.out.mono ?_
      rintro e w2 ⟨t, rfl, ⟨ht1, ht2⟩, hs2, hg2⟩
      have K3 := mkHid (K2.out.draw hs2 hg2)
      clear hs2 hg2 K2 HP
      go_wp2_with fail
      refine (HB.out _ K3.out.src).mono ?_
      rintro e w3 ⟨bs, ab, cb, rfl, hbl, hbr, hbf, hs3, hg3⟩
      have K4 := mkHid (K3.out.draw hs3 hg3)
      have HPk := mkHid (pack.bytes_spec ab cb bs w3 (by omega) hbr)
      have hpk := pack.packB_size bs
      clear hs3 hg3 K3 hbr hbf
      generalize pack.packB bs = pt at *
      go_wp2_with fail
      refine HPk.out.mono ?_
      rintro e w4 ⟨rfl, hb4⟩
      have K5 := mkHid (K4.out.next hb4)
      have HOf := mkHid (placesOfS_any pack.at_any t pt w4 (by omega) (by omega))
      have HGd := mkHid (good_of t pt ht1 ht2)
      have hof := ofA_len t pt
      clear hb4 K4 HPk
      generalize ofA t pt = m at *
      go_wp2_with fail
      refine HOf.out.mono ?_
      rintro e w5 ⟨am, cm, rfl, hrm, hfm, hb5⟩
      have K6 := mkHid (K5.out.next hb5)
      have HAd := mkHid (addS_any a c l am cm m w5 (by omega) K6.out.good.small K6.out.rd (by omega) HGd.out.small hrm)
      have HGa := mkHid (K6.out.good.add HGd.out)
      have hal := addA_len l m
      clear hb5 K5 HOf hrm hfm
      generalize addA l m = r2 at *
      obtain ⟨l2, z2⟩ := r2
      simp only at HGa hal
      go_wp2_with fail
      refine HAd.out.mono ?_
      rintro e w6 ⟨a6, c6, rfl, hr6, hf6, hb6, hc6⟩
      have K7 := mkHid ((K6.out.next hb6).to hr6 (fun b o s e => Nat.le_trans K6.out.grown.size (hf6 b o s e)) hc6 HGa.out)
      have hf2 := fun wx => fld a6 l2.length c6 z2 wx
      clear hr6 hf6 hb6 hc6 K6 HAd HGa
      simp only
      go_wp2
      go_roundw
      case rel => exact ⟨k - 1, l2, a6, c6, by go_num, rfl, by omega, hal, K7⟩
      case measure => simp [intOf]; omega
    · obtain rfl : k = 0 := by omega
      go_wp2_with fail
      refine (HO.out _ 3 (by omega) K.out.src).mono ?_
      rintro e w2 ⟨b, rfl, hs2, hg2⟩
      have K2 := mkHid (K.out.draw hs2 hg2)
      clear hs2 hg2 K hk0 hk HB
      go_upto_if 26 with fail
      go_cut [3] from 27 to 48 (fun v wx => ∃ (l : List Pl) (a : Option Addr) (c : Nat), v = .slice a l.length c ∧ l.length ≤ 305 ∧ Hid (Dp w g l a c wx))
      case first =>
        cases b with
        | false =>
          go_wp2
          go_meet
          exact ⟨l, a, c, rfl, by omega, K2⟩
        | true =>
          go_wp2_with fail
          refine (HN.out _ 3 (by omega) K2.out.src).mono ?_
          rintro e w3 ⟨r, rfl, hr0, hr1, _, hs1, hg1⟩
          have hr2 := hr1 (by omega)
          obtain ⟨r, rfl⟩ := Int.eq_ofNat_of_zero_le hr0
          have K3 := mkHid (K2.out.draw hs1 hg1)
          clear hs1 hg1 K2 hr1 hr0
          go_wp2_with fail
          refine (HD.out _ r (by omega)).mono ?_
          rintro e w4 ⟨t, rfl, ht, hb4⟩
          have K4 := mkHid (K3.out.next hb4)
          clear hb4 K3 hr2
          go_wp2_with fail
          refine (HG.out _ t (by omega)).mono ?_
          rintro e w5 ⟨rfl, hb5⟩
          have K5 := mkHid (K4.out.next hb5)
          have hkey := dig_le t
          generalize sha.digest t = key at *
          clear hb5 K4 ht
          go_wp2_with fail
          refine (HN.out _ 3 (by omega) K5.out.src).mono ?_
          rintro e w6 ⟨r6, rfl, hr0, hr1, _, hs1, hg1⟩
          have hr2 := hr1 (by omega)
          obtain ⟨r6, rfl⟩ := Int.eq_ofNat_of_zero_le hr0
          have K6 := mkHid (K5.out.draw hs1 hg1)
          clear hs1 hg1 K5 hr1 hr0
          go_wp2_with fail
          go_loopw [3, 6] (fun v i wr => ∃ (k : Nat) (l : List Pl) (a : Option Addr) (c : Nat), i = .int .i64 ((k : Int) - 1) ∧ v = .slice a l.length c ∧ k ≤ 3 ∧ l.length + k ≤ 303 ∧ Hid (Dp w g l a c wr))
            (fun _ i _ => (intOf i + 1).toNat)
          case atStart => exact ⟨r6 + 1, l, a, c, by go_num, rfl, by omega, by omega, K6⟩
          case round =>
            clear K6 hr2 hl
            obtain ⟨k, l, a, c, rfl, rfl, hk, hl, K⟩ := hrel
            by_cases hk0 : 0 < k
            · have hki : 0 ≤ (k : Int) - 1 := by omega
              have hki3 : (k : Int) ≤ 3 := by omega
              go_wp2_with fail
              refine (HN.out _ 9 (by omega) K.out.src).mono ?_
              rintro e w7 ⟨r9, rfl, hr0, hr1, _, hs1, hg1⟩
              have hr2 := hr1 (by omega)
              obtain ⟨r9, rfl⟩ := Int.eq_ofNat_of_zero_le hr0
              have K7 := mkHid (K.out.draw hs1 hg1)
              clear hs1 hg1 K hr1 hr0
              go_wp2_with fail
              refine (HD.out _ r9 (by omega)).mono ?_
              rintro e w8 ⟨t9, rfl, ht9, hb8⟩
              have K8 := mkHid (K7.out.next hb8)
              have h2 : (⟨#[112, 45]⟩ : ByteArray).size = 2 := rfl
              have hadd := fun wx => run_string_add_sum (P := Tryz.prog) wx ⟨#[112, 45]⟩ t9 (by omega)
              have hsz : ((⟨#[112, 45]⟩ : ByteArray) ++ t9).size = 2 + t9.size := by rw [ByteArray.size_append, h2]
              clear hb8 K7 hr2
              go_wp2_with fail
              generalize (⟨#[112, 45]⟩ : ByteArray) ++ t9 = pk at *
              refine (HN.out _ 50 (by omega) K8.out.src).mono ?_
              rintro e w9 ⟨z1, rfl, _, _, _, hs1, hg1⟩
              have K9 := mkHid (K8.out.draw hs1 hg1)
              clear hs1 hg1 K8 hadd
              go_wp2_with fail
              refine (HN.out _ 50 (by omega) K9.out.src).mono ?_
              rintro e w10 ⟨z2, rfl, _, _, _, hs1, hg1⟩
              have K10 := mkHid (K9.out.draw hs1 hg1)
              have HPt := mkHid (putS_any a c l key pk 1 z1 z2 w10 (by omega) K10.out.cap K10.out.rd)
              have hpl := put_len l (key, pk, 1, z1, z2)
              clear hs1 hg1 K9
              go_wp2_with fail
              refine HPt.out.mono ?_
              rintro e w11 hpp
              obtain ⟨a', c', rfl, hK⟩ := K10.out.put (x := (key, pk, 1, z1, z2)) (by simp only; omega) hpp
              have K11 := mkHid hK
              clear hK hpp K10 HPt
              generalize put l (key, pk, 1, z1, z2) = l2 at *
              go_wp2
              go_roundw
              case rel => exact ⟨k - 1, l2, a', c', by go_num, rfl, by omega, by omega, K11⟩
              case measure => simp [intOf]; omega
            · obtain rfl : k = 0 := by omega
              go_wp2
              go_meet
              exact ⟨l, a, c, rfl, by omega, K⟩
      case rest =>
        clear K2 hl
        obtain ⟨l, a, c, rfl, hl, K⟩ := hcut
        go_wp2_with fail
        refine (HO.out _ 15 (by omega) K.out.src).mono ?_
        rintro e w2 ⟨b, rfl, hs2, hg2⟩
        have K2 := mkHid (K.out.draw hs2 hg2)
        clear hs2 hg2 K
        cases b with
        | false =>
          have F := mkHid (dpl_of K2.out rfl (by omega))
          clear K2
          go_wp2
          go_ret
          exact F.out
        | true =>
          by_cases hne : l = []
          · subst hne
            have F := mkHid (dpl_of K2.out rfl (by omega))
            clear K2
            go_wp2
            go_ret
            exact F.out
          · have hpos : 0 < l.length := List.length_pos_iff.2 hne
            have hposi : 0 < (l.length : Int) := by omega
            have HC := mkHid (copyO_any a c l w2 (by omega) hne K2.out.rd)
            go_wp2_with fail
            refine HC.out.mono ?_
            rintro e w3 ⟨q, c3, rfl, ho, hb⟩
            have D0 : Hid (Dr w g l q c3 w3) := mkHid ⟨K2.out.src.below hb, grown_new K2.out.grown (hb.mono K2.out.grown.size), K2.out.lt, ho.mono K2.out.grown.size, K2.out.good⟩
            clear ho hb HC K2
            go_wp2_with fail
            refine (HN.out _ (l.length : Int) (by omega) D0.out.src).mono ?_
            rintro e w4 ⟨i, rfl, hi0, hi1, hi2, hs1, hg1⟩
            have hil : i < (l.length : Int) := by
              by_cases h1 : 1 < (l.length : Int)
              · exact hi1 h1
              · have := hi2 (by omega)
                omega
            obtain ⟨i, rfl⟩ := Int.eq_ofNat_of_zero_le hi0
            have hiN : i < l.length := by omega
            obtain ⟨⟨x0, x1, x2, x3, x4⟩, hx⟩ : ∃ y, l[i]? = some y := ⟨_, List.getElem?_eq_getElem hiN⟩
            have hgd := D0.out.good _ (List.mem_of_getElem? hx)
            simp only at hgd
            have D1 := mkHid (D0.out.draw hs1 hg1)
            have HX := mkHid hx
            have hcl : (cs l).length = 5 * l.length := cs_len l
            clear hs1 hg1 D0 hi1 hi0 hi2 hx
            go_wp2_with fail
            refine (HN.out _ 5 (by omega) D1.out.src).mono ?_
            rintro e w5 ⟨z, rfl, hz0, hz1, _, hs1, hg1⟩
            have hz2 := hz1 (by omega)
            have D2 := mkHid (D1.out.draw hs1 hg1)
            clear hs1 hg1 D1 hz1
            rcases (show z = 0 ∨ z = 1 ∨ z = 2 ∨ z = 3 ∨ z = 4 by omega) with rfl | rfl | rfl | rfl | rfl
            · go_wp2_with fail
              refine (HN.out _ 5 (by omega) D2.out.src).mono ?_
              rintro e w6 ⟨z6, rfl, hy0, hy1, _, hs1, hg1⟩
              have hy2 := hy1 (by omega)
              have D3 := mkHid (D2.out.draw hs1 hg1)
              have F := mkHid (fun v => dpl_of (D3.out.set (v := .int .i64 v) (cs_set2 l i (x0, x1, x2, x3, x4) v HX.out) (by omega) (by simp) (D3.out.good.set i (by simp only; omega))) (by simp) (show l.length ≤ 310 by omega))
              have c2 := D3.out.row.cell (i := i * 5 + 2) (z := .int .i64 x2) (rwPlace.cs_at l i _ HX.out).2.2.1
              have hfz := D3.out.row.free
              clear hs1 hg1 D2 D3 hy1
              go_wp2
              go_ret
              exact F.out _
            · have M0 := mkHid (D2.out.next (below_alloc1 w5 (.cells #[.int .i64 (-1), .int .i64 12000, .int .i64 12001] 2)))
              have L0 := mkHid (blk_new w5 (.cells #[.int .i64 (-1), .int .i64 12000, .int .i64 12001] 2) w5.heap.size rfl)
              have hgw := D2.out.src.lt
              go_wp2_with fail
              refine (HN.out _ 3 (by omega) M0.out.src).mono ?_
              rintro e w6 ⟨z6, rfl, hy0, hy1, _, hs1, hg1⟩
              have hy2 := hy1 (by omega)
              have D3 := mkHid (M0.out.draw hs1 hg1)
              have L1 := (hg1.block _ (Array.getElem?_eq_some_iff.1 L0.out).1 (by simp; omega)).trans L0.out
              have F := mkHid (fun v => dpl_of (D3.out.set (v := .int .i64 v) (cs_set3 l i (x0, x1, x2, x3, x4) v HX.out) (by omega) (by simp) (D3.out.good.set i (by simp only; omega))) (by simp) (show l.length ≤ 310 by omega))
              have cc := D3.out.row.cell (i := i * 5 + 3) (z := .int .i64 x3) (rwPlace.cs_at l i _ HX.out).2.2.2.1
              have hfz := D3.out.row.free
              obtain ⟨k0, k1, k2⟩ := cel3 L1
              clear hs1 hg1 D2 D3 hy1 M0 L0 L1
              rcases (show z6 = 0 ∨ z6 = 1 ∨ z6 = 2 by omega) with rfl | rfl | rfl
              all_goals
                go_wp2
                go_ret
                exact F.out _
            · have M0 := mkHid (D2.out.next (below_alloc1 w5 (.cells #[.int .i64 (-1), .int .i64 2000, .int .i64 2001] 2)))
              have L0 := mkHid (blk_new w5 (.cells #[.int .i64 (-1), .int .i64 2000, .int .i64 2001] 2) w5.heap.size rfl)
              have hgw := D2.out.src.lt
              go_wp2_with fail
              refine (HN.out _ 3 (by omega) M0.out.src).mono ?_
              rintro e w6 ⟨z6, rfl, hy0, hy1, _, hs1, hg1⟩
              have hy2 := hy1 (by omega)
              have D3 := mkHid (M0.out.draw hs1 hg1)
              have L1 := (hg1.block _ (Array.getElem?_eq_some_iff.1 L0.out).1 (by simp; omega)).trans L0.out
              have F := mkHid (fun v => dpl_of (D3.out.set (v := .int .i64 v) (cs_set4 l i (x0, x1, x2, x3, x4) v HX.out) (by omega) (by simp) (D3.out.good.set i (by simp only; omega))) (by simp) (show l.length ≤ 310 by omega))
              have cc := D3.out.row.cell (i := i * 5 + 4) (z := .int .i64 x4) (rwPlace.cs_at l i _ HX.out).2.2.2.2
              have hfz := D3.out.row.free
              obtain ⟨k0, k1, k2⟩ := cel3 L1
              clear hs1 hg1 D2 D3 hy1 M0 L0 L1
              rcases (show z6 = 0 ∨ z6 = 1 ∨ z6 = 2 by omega) with rfl | rfl | rfl
              all_goals
                go_wp2
                go_ret
                exact F.out _
            · obtain ⟨y, hy⟩ : ∃ y, l[0]? = some y := ⟨_, List.getElem?_eq_getElem hpos⟩
              obtain ⟨y0, y1, y2, y3, y4⟩ := y
              have hgy := D2.out.good _ (List.mem_of_getElem? hy)
              simp only at hgy
              obtain ⟨b0, b1, b2, b3, b4⟩ := rwPlace.cs_at l 0 _ hy
              simp only [Nat.zero_mul, Nat.zero_add] at b0 b1 b2 b3 b4
              have e0 := D2.out.row.cell b0
              have e1 := D2.out.row.cell b1
              have e2 := D2.out.row.cell b2
              have e3 := D2.out.row.cell b3
              have e4 := D2.out.row.cell b4
              obtain ⟨g7, c7, w7, happ, hown7, hgr7⟩ := rwPlace.app (W := w5) (base := w.heap.size) (.slice (some ⟨q, 0, none⟩) l.length c3) l.length l y0 y1 y2 y3 y4 rfl D2.out.own D2.out.grown.size (by omega)
              have hq := D2.out.q_lt
              have hlg := D2.out.lt
              have B7 : Below w.heap.size w5 w7 := ((Below.refl w.heap.size w5).alloc D2.out.grown.size (.cells #[.string y0, .string y1, .int .i64 y2, .int .i64 y3, .int .i64 y4] 33)).grown hgr7 (by have := D2.out.grown.size; simp; omega) (fun j hj => by cases hj; exact hq.1)
              have hlen : (l ++ [(y0, y1, y2, y3, y4)]).length = l.length + 1 := by simp
              have F : Hid (DPl w g (.returned (.slice (some ⟨g7, 0, none⟩) (l.length + 1) c7)) w7) := mkHid (dpl_of (l := l ++ [(y0, y1, y2, y3, y4)]) ⟨D2.out.src.upto (B7.mono (by omega)), grown_new D2.out.grown B7, hlg, own_rd hown7, (fun b o s e => by cases e; exact (hown7.lt g7 rfl).1), by rw [hlen]; exact (cap_of hown7).2, (fun p hp => by
                rcases List.mem_append.1 hp with hp | hp
                · exact D2.out.good p hp
                · rw [List.mem_singleton] at hp
                  subst hp
                  exact hgy)⟩ hlen (by omega))
              clear D2 hown7 hgr7 B7 b0 b1 b2 b3 b4
              go_wp2
              go_ret
              exact F.out
            · have F := mkHid (dpl_of (D2.out.set (v := .string ⟨#[116, 45, 120]⟩) (cs_set1 l i (x0, x1, x2, x3, x4) ⟨#[116, 45, 120]⟩ HX.out) (by omega) (by simp) (D2.out.good.set i (by simp only; refine ⟨hgd.1, ?_, ?_⟩ <;> decide))) (by simp) (show l.length ≤ 310 by omega))
              have c1 := D2.out.row.cell (i := i * 5 + 1) (z := .string x1) (rwPlace.cs_at l i _ HX.out).2.1
              have hfz := D2.out.row.free
              clear D2
              go_wp2
              go_ret
              exact F.out
end Go.Proofs.YtmoojhnblakdhaaGreat.plc
