/-
  What impl.refusal answers, and what impl.change answers and leaves of an act that syncs or removes. Conditions: a drive of our own of at most 1,048,576 files, whose names rise, of texts of at most 1,048,576 bytes.
-/
import Derived.Test.YtfckgpmphcadeaaDrvRn
import Derived.Test.YtfckgpmphcadeaaDrvIO
import Derived.Test.YtfckgpmphcadeaaDrvDn
namespace Go.Proofs.Ytfckgpmphcadeaa.drv
open Go.RowKit Go.Joins Go.Sort
open Go.Proofs.Ytfckgpmphcadeaa.base Go.Proofs.Ytfckgpmphcadeaa.blk Go.Proofs.Ytfckgpmphcadeaa.aid
open Go.Proofs.Ytfckgpmphcadeaa.row (Rd Own OwnV)
open Go.Proofs.Ytfckgpmphcadeaa.rwStored (cs)
set_option linter.unusedVariables false
set_option linter.unusedSimpArgs false

/-- a drive of our own that is changed: D its place, B from where on memory is new -/
structure Dr (W : World) (B D : Nat) (r : Int) (l : List File) (v : Value) (w : World) : Prop where
  bel : Below B W w
  b : w.heap[D]? = some (.cells #[v, .int .i64 r] 25)
  o : w.ownsRow B 39 3 v l.length (cs l)
  bd : B ≤ D
variable {W w w' : World} {B D : Nat} {r : Int} {l l' : List File} {v v' : Value}
theorem Dr.size (h : Dr W B D r l v w) : D < w.heap.size := (Array.getElem?_eq_some_iff.1 h.b).1
theorem Dr.next (h : Dr W B D r l v w) (hb : Below w.heap.size w w') : Dr W B D r l v w' :=
  ⟨h.bel.trans (hb.mono (by have := h.size; have := h.bd; omega)), blk_below h.b hb, owns_below h.o hb, h.bd⟩
theorem drive_ne {n : Nat} {xs : List Value} {y : Value} (hb : w.heap[D]? = some (.cells #[y, .int .i64 r] 25)) (ho : w.ownsRow B 39 3 v n xs) : v.ownBlock ≠ some D := by
  intro e
  rcases ho.2 with ⟨rfl, _⟩ | ⟨g, cap, cur, rfl, _, hg, _⟩
  · simp [Value.ownBlock] at e
  · simp [Value.ownBlock] at e
    subst e
    rw [hg] at hb
    simp only [Option.some.injEq, Obj.cells.injEq] at hb
    exact absurd hb.2.1 (by decide)
theorem Dr.ne (h : Dr W B D r l v w) : v.ownBlock ≠ some D := drive_ne h.b h.o
theorem Dr.grown {rw : Option Nat} (h : Dr W B D r l v w) (hg : w.grownBy w' rw) (hr : rw = v.ownBlock) : Below B W w' ∧ w'.heap[D]? = some (.cells #[v, .int .i64 r] 25) := by
  subst hr
  have hs := h.size
  have hd := h.bd
  exact ⟨h.bel.grown hg (by omega) (fun k hk => (h.o.lt k hk).1), (hg.block D hs (fun e => h.ne e.symm)).trans h.b⟩
/-- the row is written in its place -/
theorem Dr.row {rw : Option Nat} (h : Dr W B D r l v w) (hg : w.grownBy w' rw) (hr : rw = v.ownBlock) (ho : w'.ownsRow B 39 3 v l'.length (cs l')) : Dr W B D r l' v w' :=
  ⟨(h.grown hg hr).1, (h.grown hg hr).2, ho, h.bd⟩
/-- the row is written, and another slice of it is put into the drive -/
theorem Dr.put {rw : Option Nat} (h : Dr W B D r l v w) (hg : w.grownBy w' rw) (hr : rw = v.ownBlock) (ho : w'.ownsRow B 39 3 v' l'.length (cs l')) : Dr W B D r l' v' (w'.setCell ⟨D, 0, none⟩ v') := by
  obtain ⟨h1, h2⟩ := h.grown hg hr
  refine ⟨h1.setCell (p := ⟨D, 0, none⟩) h.bd v', ?_, ownsRow_setCell_other ho (a := ⟨D, 0, none⟩) (drive_ne h2 ho) v', h.bd⟩
  exact heap_setCell_same w' D 0 _ _ v' h2
theorem Dr.rd {a : Option Addr} {n c : Nat} (h : Dr W B D r l (.slice a n c) w) : Rd w a (cs l) := by
  obtain ⟨a', c', e, ho, _⟩ := mem.own_of h.o
  cases e
  exact ho.rd
theorem Dr.form (h : Dr W B D r l v w) : ∃ a c, v = .slice a l.length c := by
  obtain ⟨a', c', e, _, _⟩ := mem.own_of h.o
  exact ⟨a', c', e⟩
/-- a code is the answer, and the drive of our own is such -/
def HPost (W : World) (B D : Nat) (r : Int) (l : List File) (q : Int) (e : Ending) (w' : World) : Prop :=
  e = .returned (.int .i64 q) ∧ ∃ v, Dr W B D r l v w'
theorem hpost_drew {q : Int} {e : Ending} (h : HPost W B D r l q e w') : HPost W B D r l q e w'.drew := by
  obtain ⟨h1, v, h2⟩ := h
  exact ⟨h1, v, h2.next ⟨rfl, rfl, rfl, Nat.le_refl _, fun _ _ => rfl⟩⟩

theorem as_ww (v : Value) (w : World) : (Instr.typeAssert (.iface 163 v) 141 163 true).run Try.prog w = .ok (.tuple #[v, .bool true]) w := by kernel_rfl
theorem as_ws (v : Value) (w : World) : (Instr.typeAssert (.iface 163 v) 141 164 true).run Try.prog w = .ok (.tuple #[.agg #[.int .i64 0, .string ⟨#[]⟩, .string ⟨#[]⟩, .string ⟨#[]⟩], .bool false]) w := by kernel_rfl
theorem as_wr (v : Value) (w : World) : (Instr.typeAssert (.iface 163 v) 141 165 true).run Try.prog w = .ok (.tuple #[.agg #[.int .i64 0, .string ⟨#[]⟩, .string ⟨#[]⟩, .string ⟨#[]⟩], .bool false]) w := by kernel_rfl
theorem as_wd (v : Value) (w : World) : (Instr.typeAssert (.iface 163 v) 141 166 true).run Try.prog w = .ok (.tuple #[.agg #[.int .i64 0, .string ⟨#[]⟩, .string ⟨#[]⟩, .string ⟨#[]⟩], .bool false]) w := by kernel_rfl
theorem as_sw (v : Value) (w : World) : (Instr.typeAssert (.iface 164 v) 141 163 true).run Try.prog w = .ok (.tuple #[.agg #[.int .i64 0, .string ⟨#[]⟩, .string ⟨#[]⟩, .string ⟨#[]⟩], .bool false]) w := by kernel_rfl
theorem as_ss (v : Value) (w : World) : (Instr.typeAssert (.iface 164 v) 141 164 true).run Try.prog w = .ok (.tuple #[v, .bool true]) w := by kernel_rfl
theorem as_sr (v : Value) (w : World) : (Instr.typeAssert (.iface 164 v) 141 165 true).run Try.prog w = .ok (.tuple #[.agg #[.int .i64 0, .string ⟨#[]⟩, .string ⟨#[]⟩, .string ⟨#[]⟩], .bool false]) w := by kernel_rfl
theorem as_sd (v : Value) (w : World) : (Instr.typeAssert (.iface 164 v) 141 166 true).run Try.prog w = .ok (.tuple #[.agg #[.int .i64 0, .string ⟨#[]⟩, .string ⟨#[]⟩, .string ⟨#[]⟩], .bool false]) w := by kernel_rfl
theorem as_rw (v : Value) (w : World) : (Instr.typeAssert (.iface 165 v) 141 163 true).run Try.prog w = .ok (.tuple #[.agg #[.int .i64 0, .string ⟨#[]⟩, .string ⟨#[]⟩, .string ⟨#[]⟩], .bool false]) w := by kernel_rfl
theorem as_rs (v : Value) (w : World) : (Instr.typeAssert (.iface 165 v) 141 164 true).run Try.prog w = .ok (.tuple #[.agg #[.int .i64 0, .string ⟨#[]⟩, .string ⟨#[]⟩, .string ⟨#[]⟩], .bool false]) w := by kernel_rfl
theorem as_rr (v : Value) (w : World) : (Instr.typeAssert (.iface 165 v) 141 165 true).run Try.prog w = .ok (.tuple #[v, .bool true]) w := by kernel_rfl
theorem as_rd (v : Value) (w : World) : (Instr.typeAssert (.iface 165 v) 141 166 true).run Try.prog w = .ok (.tuple #[.agg #[.int .i64 0, .string ⟨#[]⟩, .string ⟨#[]⟩, .string ⟨#[]⟩], .bool false]) w := by kernel_rfl
theorem as_dw (v : Value) (w : World) : (Instr.typeAssert (.iface 166 v) 141 163 true).run Try.prog w = .ok (.tuple #[.agg #[.int .i64 0, .string ⟨#[]⟩, .string ⟨#[]⟩, .string ⟨#[]⟩], .bool false]) w := by kernel_rfl
theorem as_ds (v : Value) (w : World) : (Instr.typeAssert (.iface 166 v) 141 164 true).run Try.prog w = .ok (.tuple #[.agg #[.int .i64 0, .string ⟨#[]⟩, .string ⟨#[]⟩, .string ⟨#[]⟩], .bool false]) w := by kernel_rfl
theorem as_dr (v : Value) (w : World) : (Instr.typeAssert (.iface 166 v) 141 165 true).run Try.prog w = .ok (.tuple #[.agg #[.int .i64 0, .string ⟨#[]⟩, .string ⟨#[]⟩, .string ⟨#[]⟩], .bool false]) w := by kernel_rfl
theorem as_dd (v : Value) (w : World) : (Instr.typeAssert (.iface 166 v) 141 166 true).run Try.prog w = .ok (.tuple #[v, .bool true]) w := by kernel_rfl
attribute [local go_sem] as_ww as_ws as_wr as_wd as_sw as_ss as_sr as_sd as_rw as_rs as_rr as_rd as_dw as_ds as_dr as_dd
set_option maxRecDepth 100000 in
theorem ref_w_true (p : Value) (w : World) : Calls Try.prog 142 #[.iface 163 p, .bool true] w fun e w' => e = .returned (.int .i64 7) ∧ w' = w := by
  go_enter Try.func142, Try.ntmps142
  go_wp2
  go_ret
  exact ⟨rfl, rfl⟩
set_option maxRecDepth 100000 in
theorem ref_w_false (p : Value) (w : World) : Calls Try.prog 142 #[.iface 163 p, .bool false] w fun e w' => e = .returned (.int .i64 0) ∧ w' = w := by
  go_enter Try.func142, Try.ntmps142
  go_wp2
  go_ret
  exact ⟨rfl, rfl⟩
set_option maxRecDepth 100000 in
theorem ref_s_true (p : Value) (w : World) : Calls Try.prog 142 #[.iface 164 p, .bool true] w fun e w' => e = .returned (.int .i64 0) ∧ w' = w := by
  go_enter Try.func142, Try.ntmps142
  go_wp2
  go_ret
  exact ⟨rfl, rfl⟩
set_option maxRecDepth 100000 in
theorem ref_s_false (p : Value) (w : World) : Calls Try.prog 142 #[.iface 164 p, .bool false] w fun e w' => e = .returned (.int .i64 8) ∧ w' = w := by
  go_enter Try.func142, Try.ntmps142
  go_wp2
  go_ret
  exact ⟨rfl, rfl⟩
set_option maxRecDepth 100000 in
theorem ref_r_true (p : Value) (w : World) : Calls Try.prog 142 #[.iface 165 p, .bool true] w fun e w' => e = .returned (.int .i64 0) ∧ w' = w := by
  go_enter Try.func142, Try.ntmps142
  go_wp2
  go_ret
  exact ⟨rfl, rfl⟩
set_option maxRecDepth 100000 in
theorem ref_r_false (p : Value) (w : World) : Calls Try.prog 142 #[.iface 165 p, .bool false] w fun e w' => e = .returned (.int .i64 8) ∧ w' = w := by
  go_enter Try.func142, Try.ntmps142
  go_wp2
  go_ret
  exact ⟨rfl, rfl⟩
set_option maxRecDepth 100000 in
theorem ref_d_true (p : Value) (w : World) : Calls Try.prog 142 #[.iface 166 p, .bool true] w fun e w' => e = .returned (.int .i64 0) ∧ w' = w := by
  go_enter Try.func142, Try.ntmps142
  go_wp2
  go_ret
  exact ⟨rfl, rfl⟩
set_option maxRecDepth 100000 in
theorem ref_d_false (p : Value) (w : World) : Calls Try.prog 142 #[.iface 166 p, .bool false] w fun e w' => e = .returned (.int .i64 8) ∧ w' = w := by
  go_enter Try.func142, Try.ntmps142
  go_wp2
  go_ret
  exact ⟨rfl, rfl⟩
/-- synced -/
def syncL (l : List File) (n : ByteArray) : List File := match l[spot n l 0]? with | none => l | some f => l.set (spot n l 0) (f.1, f.2.1, (f.2.1.size : Int))
/-- taken out by its name -/
def outL (l : List File) (n : ByteArray) : List File := out l (spot n l 0)
theorem owns_sync {w : World} {base g n c k : Nat} {l : List File} {f : File} {x : Int} (h : w.ownsRow base 39 3 (.slice (some ⟨g, 0, none⟩) n c) n (cs l)) (hf : l[k]? = some f) :
    (w.setCell ⟨g, k * 3 + 2, none⟩ (.int .i64 x)).ownsRow base 39 3 (.slice (some ⟨g, 0, none⟩) n c) n (cs (l.set k (f.1, f.2.1, x))) := by
  obtain ⟨ex, hB, hbg, hnc, hcm, hln⟩ := B3.of h
  obtain ⟨ex2, he⟩ := own_sync (x := x) (Own.owns h) hf
  have hb : B3 (w.setCell ⟨g, k * 3 + 2, none⟩ (.int .i64 x)) g c (cs (l.set k (f.1, f.2.1, x)) ++ ex2) := by
    refine ⟨he, ?_⟩
    have e1 := heap_setCell_same w g (k * 3 + 2) _ _ (.int .i64 x) hB.1
    rw [e1] at he
    simp only [Option.some.injEq, Obj.cells.injEq] at he
    have e2 := congrArg Array.size he.1
    simp only [Array.size_setIfInBounds, List.size_toArray] at e2
    rw [← e2]
    exact hB.2
  exact B3.owns hb hbg (by simpa using hln) hnc hcm
set_option maxRecDepth 100000 in
set_option maxHeartbeats 4000000 in
theorem change_w_true (W : World) (B D : Nat) (r : Int) (l : List File) (v : Value) (k : Int) (n t x : ByteArray) (w : World) (hl : l.length ≤ 1048576) (hs : Small l) (hn : n.size ≤ 1048576) (ht : t.size ≤ 1048576) (hx : x.size ≤ 1048576) (hR : Rising l) (hth : there l n = true) (h : Dr W B D r l v w) :
    Calls Try.prog 129 #[.pointer (some ⟨D, 0, none⟩), .iface 163 (.agg #[.int .i64 k, .string n, .string t, .string x])] w (HPost W B D r l 7) := by
  obtain ⟨va, vc, rfl⟩ := h.form
  have DV := mkHid h
  have HFl : Hid (∀ wx, Calls Try.prog 173 #[.agg #[.int .i64 k, .string n, .string t, .string x]] wx fun e w' => e = .returned (.string n) ∧ Below wx.heap.size wx w') := mkHid (fun wx => (file_w k n t x wx).mono (by rintro e w2 ⟨rfl, rfl⟩; exact ⟨rfl, below_alloc1 _ _⟩))
  have m1 := meth_wf (.agg #[.int .i64 k, .string n, .string t, .string x])
  have HFi := mkHid (fun wx (hq : Rd wx va (cs l)) => findI_any va vc l n wx hl hR hq)
  rw [hth] at HFi
  have HRf := mkHid (fun wx => ref_w_true (.agg #[.int .i64 k, .string n, .string t, .string x]) wx)
  obtain ⟨c0, c1⟩ := cel2 DV.out.b
  generalize spot n l 0 = p at *
  clear h
  go_enter Try.func129, Try.ntmps129
  go_wp2_with fail
  go_region_held3 (fun w' => w'.cell? ⟨D, 0, none⟩ = some (.slice va l.length vc)) (go_keep)
    (first
     | (go_at_call 173; refine Calls.mono (HFl.out _) ?_; rintro e w1 ⟨rfl, hb1⟩; have DV1 := mkHid (DV.out.next (re hb1 rfl rfl rfl rfl)); obtain ⟨d0, d1⟩ := cel2 DV1.out.b; clear hb1)
     | (go_at_call 69; refine Calls.mono (HFi.out _ DV1.out.rd) ?_; rintro e w2 ⟨rfl, hb2⟩; have DV2 := mkHid (DV1.out.next (re hb2 rfl rfl rfl rfl)); obtain ⟨f0, f1⟩ := cel2 DV2.out.b; clear hb2))
  clear d0 d1 c0 c1 DV DV1 HFl HFi f0 f1
  go_wp2_with fail
  refine (HRf.out _).mono ?_
  rintro e w2' ⟨rfl, rfl⟩
  clear HRf m1
  have HP : Hid (HPost W B D r l 7 (.returned (.int .i64 7)) _) := mkHid ⟨rfl, _, DV2.out⟩
  go_wp2
  go_ret
  exact HP.out
set_option maxRecDepth 100000 in
set_option maxHeartbeats 4000000 in
theorem change_s_false (W : World) (B D : Nat) (r : Int) (l : List File) (v : Value) (k : Int) (n t x : ByteArray) (w : World) (hl : l.length ≤ 1048576) (hs : Small l) (hn : n.size ≤ 1048576) (ht : t.size ≤ 1048576) (hx : x.size ≤ 1048576) (hR : Rising l) (hth : there l n = false) (h : Dr W B D r l v w) :
    Calls Try.prog 129 #[.pointer (some ⟨D, 0, none⟩), .iface 164 (.agg #[.int .i64 k, .string n, .string t, .string x])] w (HPost W B D r l 8) := by
  obtain ⟨va, vc, rfl⟩ := h.form
  have DV := mkHid h
  have HFl : Hid (∀ wx, Calls Try.prog 176 #[.agg #[.int .i64 k, .string n, .string t, .string x]] wx fun e w' => e = .returned (.string n) ∧ Below wx.heap.size wx w') := mkHid (fun wx => (file_s k n t x wx).mono (by rintro e w2 ⟨rfl, rfl⟩; exact ⟨rfl, below_alloc1 _ _⟩))
  have m1 := meth_sf (.agg #[.int .i64 k, .string n, .string t, .string x])
  have HFi := mkHid (fun wx (hq : Rd wx va (cs l)) => findI_any va vc l n wx hl hR hq)
  rw [hth] at HFi
  have HRf := mkHid (fun wx => ref_s_false (.agg #[.int .i64 k, .string n, .string t, .string x]) wx)
  obtain ⟨c0, c1⟩ := cel2 DV.out.b
  generalize spot n l 0 = p at *
  clear h
  go_enter Try.func129, Try.ntmps129
  go_wp2_with fail
  go_region_held3 (fun w' => w'.cell? ⟨D, 0, none⟩ = some (.slice va l.length vc)) (go_keep)
    (first
     | (go_at_call 176; refine Calls.mono (HFl.out _) ?_; rintro e w1 ⟨rfl, hb1⟩; have DV1 := mkHid (DV.out.next (re hb1 rfl rfl rfl rfl)); obtain ⟨d0, d1⟩ := cel2 DV1.out.b; clear hb1)
     | (go_at_call 69; refine Calls.mono (HFi.out _ DV1.out.rd) ?_; rintro e w2 ⟨rfl, hb2⟩; have DV2 := mkHid (DV1.out.next (re hb2 rfl rfl rfl rfl)); obtain ⟨f0, f1⟩ := cel2 DV2.out.b; clear hb2))
  clear d0 d1 c0 c1 DV DV1 HFl HFi f0 f1
  go_wp2_with fail
  refine (HRf.out _).mono ?_
  rintro e w2' ⟨rfl, rfl⟩
  clear HRf m1
  have HP : Hid (HPost W B D r l 8 (.returned (.int .i64 8)) _) := mkHid ⟨rfl, _, DV2.out⟩
  go_wp2
  go_ret
  exact HP.out
set_option maxRecDepth 100000 in
set_option maxHeartbeats 4000000 in
theorem change_r_false (W : World) (B D : Nat) (r : Int) (l : List File) (v : Value) (k : Int) (n t x : ByteArray) (w : World) (hl : l.length ≤ 1048576) (hs : Small l) (hn : n.size ≤ 1048576) (ht : t.size ≤ 1048576) (hx : x.size ≤ 1048576) (hR : Rising l) (hth : there l n = false) (h : Dr W B D r l v w) :
    Calls Try.prog 129 #[.pointer (some ⟨D, 0, none⟩), .iface 165 (.agg #[.int .i64 k, .string n, .string t, .string x])] w (HPost W B D r l 8) := by
  obtain ⟨va, vc, rfl⟩ := h.form
  have DV := mkHid h
  have HFl : Hid (∀ wx, Calls Try.prog 178 #[.agg #[.int .i64 k, .string n, .string t, .string x]] wx fun e w' => e = .returned (.string n) ∧ Below wx.heap.size wx w') := mkHid (fun wx => (file_r k n t x wx).mono (by rintro e w2 ⟨rfl, rfl⟩; exact ⟨rfl, below_alloc1 _ _⟩))
  have m1 := meth_rf (.agg #[.int .i64 k, .string n, .string t, .string x])
  have HFi := mkHid (fun wx (hq : Rd wx va (cs l)) => findI_any va vc l n wx hl hR hq)
  rw [hth] at HFi
  have HRf := mkHid (fun wx => ref_r_false (.agg #[.int .i64 k, .string n, .string t, .string x]) wx)
  obtain ⟨c0, c1⟩ := cel2 DV.out.b
  generalize spot n l 0 = p at *
  clear h
  go_enter Try.func129, Try.ntmps129
  go_wp2_with fail
  go_region_held3 (fun w' => w'.cell? ⟨D, 0, none⟩ = some (.slice va l.length vc)) (go_keep)
    (first
     | (go_at_call 178; refine Calls.mono (HFl.out _) ?_; rintro e w1 ⟨rfl, hb1⟩; have DV1 := mkHid (DV.out.next (re hb1 rfl rfl rfl rfl)); obtain ⟨d0, d1⟩ := cel2 DV1.out.b; clear hb1)
     | (go_at_call 69; refine Calls.mono (HFi.out _ DV1.out.rd) ?_; rintro e w2 ⟨rfl, hb2⟩; have DV2 := mkHid (DV1.out.next (re hb2 rfl rfl rfl rfl)); obtain ⟨f0, f1⟩ := cel2 DV2.out.b; clear hb2))
  clear d0 d1 c0 c1 DV DV1 HFl HFi f0 f1
  go_wp2_with fail
  refine (HRf.out _).mono ?_
  rintro e w2' ⟨rfl, rfl⟩
  clear HRf m1
  have HP : Hid (HPost W B D r l 8 (.returned (.int .i64 8)) _) := mkHid ⟨rfl, _, DV2.out⟩
  go_wp2
  go_ret
  exact HP.out
set_option maxRecDepth 100000 in
set_option maxHeartbeats 4000000 in
theorem change_d_false (W : World) (B D : Nat) (r : Int) (l : List File) (v : Value) (k : Int) (n t x : ByteArray) (w : World) (hl : l.length ≤ 1048576) (hs : Small l) (hn : n.size ≤ 1048576) (ht : t.size ≤ 1048576) (hx : x.size ≤ 1048576) (hR : Rising l) (hth : there l n = false) (h : Dr W B D r l v w) :
    Calls Try.prog 129 #[.pointer (some ⟨D, 0, none⟩), .iface 166 (.agg #[.int .i64 k, .string n, .string t, .string x])] w (HPost W B D r l 8) := by
  obtain ⟨va, vc, rfl⟩ := h.form
  have DV := mkHid h
  have HFl : Hid (∀ wx, Calls Try.prog 180 #[.agg #[.int .i64 k, .string n, .string t, .string x]] wx fun e w' => e = .returned (.string n) ∧ Below wx.heap.size wx w') := mkHid (fun wx => (file_d k n t x wx).mono (by rintro e w2 ⟨rfl, rfl⟩; exact ⟨rfl, below_alloc1 _ _⟩))
  have m1 := meth_df (.agg #[.int .i64 k, .string n, .string t, .string x])
  have HFi := mkHid (fun wx (hq : Rd wx va (cs l)) => findI_any va vc l n wx hl hR hq)
  rw [hth] at HFi
  have HRf := mkHid (fun wx => ref_d_false (.agg #[.int .i64 k, .string n, .string t, .string x]) wx)
  obtain ⟨c0, c1⟩ := cel2 DV.out.b
  generalize spot n l 0 = p at *
  clear h
  go_enter Try.func129, Try.ntmps129
  go_wp2_with fail
  go_region_held3 (fun w' => w'.cell? ⟨D, 0, none⟩ = some (.slice va l.length vc)) (go_keep)
    (first
     | (go_at_call 180; refine Calls.mono (HFl.out _) ?_; rintro e w1 ⟨rfl, hb1⟩; have DV1 := mkHid (DV.out.next (re hb1 rfl rfl rfl rfl)); obtain ⟨d0, d1⟩ := cel2 DV1.out.b; clear hb1)
     | (go_at_call 69; refine Calls.mono (HFi.out _ DV1.out.rd) ?_; rintro e w2 ⟨rfl, hb2⟩; have DV2 := mkHid (DV1.out.next (re hb2 rfl rfl rfl rfl)); obtain ⟨f0, f1⟩ := cel2 DV2.out.b; clear hb2))
  clear d0 d1 c0 c1 DV DV1 HFl HFi f0 f1
  go_wp2_with fail
  refine (HRf.out _).mono ?_
  rintro e w2' ⟨rfl, rfl⟩
  clear HRf m1
  have HP : Hid (HPost W B D r l 8 (.returned (.int .i64 8)) _) := mkHid ⟨rfl, _, DV2.out⟩
  go_wp2
  go_ret
  exact HP.out
set_option maxRecDepth 100000 in
set_option maxHeartbeats 4000000 in
theorem change_s_true (W : World) (B D : Nat) (r : Int) (l : List File) (v : Value) (k : Int) (n t x : ByteArray) (w : World) (hl : l.length ≤ 1048576) (hs : Small l) (hn : n.size ≤ 1048576) (ht : t.size ≤ 1048576) (hx : x.size ≤ 1048576) (hR : Rising l) (hth : there l n = true) (h : Dr W B D r l v w) :
    Calls Try.prog 129 #[.pointer (some ⟨D, 0, none⟩), .iface 164 (.agg #[.int .i64 k, .string n, .string t, .string x])] w (HPost W B D r (syncL l n) 0) := by
  obtain ⟨va, vc, rfl⟩ := h.form
  have DV := mkHid h
  have HFl : Hid (∀ wx, Calls Try.prog 176 #[.agg #[.int .i64 k, .string n, .string t, .string x]] wx fun e w' => e = .returned (.string n) ∧ Below wx.heap.size wx w') := mkHid (fun wx => (file_s k n t x wx).mono (by rintro e w2 ⟨rfl, rfl⟩; exact ⟨rfl, below_alloc1 _ _⟩))
  have m1 := meth_sf (.agg #[.int .i64 k, .string n, .string t, .string x])
  have HFi := mkHid (fun wx (hq : Rd wx va (cs l)) => findI_any va vc l n wx hl hR hq)
  rw [hth] at HFi
  have HRf := mkHid (fun wx => ref_s_true (.agg #[.int .i64 k, .string n, .string t, .string x]) wx)
  obtain ⟨c0, c1⟩ := cel2 DV.out.b
  obtain ⟨f, hf, hfn⟩ := there_at hth
  have hsl : spot n l 0 < l.length := (List.getElem?_eq_some_iff.1 hf).1
  have EL : Hid (∃ f', l[spot n l 0]? = some f' ∧ l.set (spot n l 0) (f'.1, f'.2.1, (f'.2.1.size : Int)) = syncL l n) := mkHid ⟨f, hf, by unfold syncL; rw [hf]⟩
  generalize spot n l 0 = p at *
  generalize syncL l n = l2 at *
  clear h
  go_enter Try.func129, Try.ntmps129
  go_wp2_with fail
  go_region_held3 (fun w' => w'.cell? ⟨D, 0, none⟩ = some (.slice va l.length vc)) (go_keep)
    (first
     | (go_at_call 176; refine Calls.mono (HFl.out _) ?_; rintro e w1 ⟨rfl, hb1⟩; have DV1 := mkHid (DV.out.next (re hb1 rfl rfl rfl rfl)); obtain ⟨d0, d1⟩ := cel2 DV1.out.b; clear hb1)
     | (go_at_call 69; refine Calls.mono (HFi.out _ DV1.out.rd) ?_; rintro e w2 ⟨rfl, hb2⟩; have DV2 := mkHid (DV1.out.next (re hb2 rfl rfl rfl rfl)); obtain ⟨f0, f1⟩ := cel2 DV2.out.b; clear hb2))
  clear d0 d1 c0 c1 DV DV1 HFl HFi f0 f1
  go_wp2_with fail
  refine (HRf.out _).mono ?_
  rintro e w2' ⟨rfl, rfl⟩
  clear HRf m1
  have S3 := mkHid (DV2.out.next (below_alloc1 _ (.cells #[.int .i64 k, .string n, .string t, .string x] 164)))
  obtain ⟨g, c', hva⟩ := row.ownsRow_form DV2.out.o (by omega)
  cases hva
  obtain ⟨x0, x1, x2⟩ := f
  obtain ⟨q0, q1, q2⟩ := rwStored.cs_at _ _ _ hf
  have r1 := (Own.owns S3.out.o).cell q1
  have r2 := (Own.owns S3.out.o).cell q2
  have rf := (Own.owns S3.out.o).free
  simp only at r1 r2
  obtain ⟨d0, d1⟩ := cel2 S3.out.b
  have hx1 := (hs _ (List.mem_of_getElem? hf)).2
  simp only at hx1
  have hx1i : (x1.size : Int) ≤ 1048576 := by omega
  have hpi : (p : Int) < (l.length : Int) := by omega
  have S4 := mkHid (S3.out.row (l' := l2) (grew_cell _ g (p * 3 + 2) (.int .i64 (x1.size : Int))) rfl (by
    obtain ⟨f', h1, h2⟩ := EL.out
    rw [hf] at h1
    cases h1
    have h3 := owns_sync (x := (x1.size : Int)) S3.out.o hf
    rw [← h2]
    simpa using h3))
  have HP : Hid (HPost W B D r l2 0 (.returned (.int .i64 0)) _) := mkHid ⟨rfl, _, S4.out⟩
  have hgD : g ≠ D := fun e => S3.out.ne (by rw [e]; rfl)
  have hDg : D ≠ g := fun e => hgD e.symm
  clear S4 EL q0 q1 q2 hf hs hth hR hfn DV2 S3
  go_wp2_with fail
  generalize _root_.Go.World.alloc _ (.cells #[.int .i64 k, .string n, .string t, .string x] 164) = V at *
  have hk1 : ∀ z, (V.setCell ⟨g, p * 3 + 2, none⟩ z).cell? ⟨g, p * 3 + 1, none⟩ = some (.string x1) := fun z => (World.cell?_setCell_other _ _ _ _ (by simp)).trans r1
  go_region_held3 (fun w' => w'.cell? ⟨D, 0, none⟩ = some (.slice (some ⟨g, 0, none⟩) l.length vc) ∧ w'.cell? ⟨g, p * 3 + 1, none⟩ = some (.string x1)) (go_keep) (fail)
  go_wp2
  go_ret
  exact hpost_drew HP.out
set_option maxRecDepth 100000 in
set_option maxHeartbeats 4000000 in
theorem change_d_true (W : World) (B D : Nat) (r : Int) (l : List File) (v : Value) (k : Int) (n t x : ByteArray) (w : World) (hl : l.length ≤ 1048576) (hs : Small l) (hn : n.size ≤ 1048576) (ht : t.size ≤ 1048576) (hx : x.size ≤ 1048576) (hR : Rising l) (hth : there l n = true) (h : Dr W B D r l v w) :
    Calls Try.prog 129 #[.pointer (some ⟨D, 0, none⟩), .iface 166 (.agg #[.int .i64 k, .string n, .string t, .string x])] w (HPost W B D r (outL l n) 0) := by
  obtain ⟨va, vc, rfl⟩ := h.form
  have DV := mkHid h
  have HFl : Hid (∀ wx, Calls Try.prog 180 #[.agg #[.int .i64 k, .string n, .string t, .string x]] wx fun e w' => e = .returned (.string n) ∧ Below wx.heap.size wx w') := mkHid (fun wx => (file_d k n t x wx).mono (by rintro e w2 ⟨rfl, rfl⟩; exact ⟨rfl, below_alloc1 _ _⟩))
  have m1 := meth_df (.agg #[.int .i64 k, .string n, .string t, .string x])
  have HFi := mkHid (fun wx (hq : Rd wx va (cs l)) => findI_any va vc l n wx hl hR hq)
  rw [hth] at HFi
  have HRf := mkHid (fun wx => ref_d_true (.agg #[.int .i64 k, .string n, .string t, .string x]) wx)
  obtain ⟨c0, c1⟩ := cel2 DV.out.b
  obtain ⟨f, hf, hfn⟩ := there_at hth
  have hsl : spot n l 0 < l.length := (List.getElem?_eq_some_iff.1 hf).1
  have EL : Hid (out l (spot n l 0) = outL l n) := mkHid rfl
  generalize spot n l 0 = p at *
  generalize outL l n = l2 at *
  clear h
  go_enter Try.func129, Try.ntmps129
  go_wp2_with fail
  go_region_held3 (fun w' => w'.cell? ⟨D, 0, none⟩ = some (.slice va l.length vc)) (go_keep)
    (first
     | (go_at_call 180; refine Calls.mono (HFl.out _) ?_; rintro e w1 ⟨rfl, hb1⟩; have DV1 := mkHid (DV.out.next (re hb1 rfl rfl rfl rfl)); obtain ⟨d0, d1⟩ := cel2 DV1.out.b; clear hb1)
     | (go_at_call 69; refine Calls.mono (HFi.out _ DV1.out.rd) ?_; rintro e w2 ⟨rfl, hb2⟩; have DV2 := mkHid (DV1.out.next (re hb2 rfl rfl rfl rfl)); obtain ⟨f0, f1⟩ := cel2 DV2.out.b; clear hb2))
  clear d0 d1 c0 c1 DV DV1 HFl HFi f0 f1
  go_wp2_with fail
  refine (HRf.out _).mono ?_
  rintro e w2' ⟨rfl, rfl⟩
  clear HRf m1
  have S3 := mkHid (DV2.out.next (below_alloc1 _ (.cells #[.int .i64 k, .string n, .string t, .string x] 166)))
  obtain ⟨g, c', hva⟩ := row.ownsRow_form DV2.out.o (by omega)
  cases hva
  obtain ⟨m, hm⟩ : ∃ m, l.length = m + 1 := ⟨l.length - 1, by omega⟩
  have hol : l2.length = m := by rw [← EL.out]; have := (out_len hsl).2.2; omega
  have hSo := S3.out.o
  rw [hm] at hSo
  have HD := mkHid (delete_any B g vc p m l _ hm (by omega) (by omega) hSo)
  rw [EL.out] at HD
  obtain ⟨d0, d1⟩ := cel2 S3.out.b
  have df := unfrozen S3.out.b
  have hiw : IntKind.i64.wrap ((p : Int) + 1) = (p : Int) + 1 := by rw [IntKind.wrap_i64]; omega
  rw [hm] at d0
  clear hf hs hth hR hfn DV2 EL hSo
  go_wp2_with fail
  refine HD.out.mono ?_
  rintro e w3 ⟨rfl, ho3, hg3⟩
  rw [← hol] at ho3
  have S4 := mkHid (S3.out.put hg3 rfl ho3)
  have HP : Hid (HPost W B D r l2 0 (.returned (.int .i64 0)) _) := mkHid ⟨rfl, _, S4.out⟩
  obtain ⟨e1, e2⟩ := S3.out.grown hg3 rfl
  obtain ⟨f0, f1⟩ := cel2 e2
  have ff := unfrozen e2
  rw [hol] at HP
  clear S4 S3 hg3 ho3 HD d0 d1 df e1 e2
  go_wp2
  go_ret
  exact HP.out
end Go.Proofs.Ytfckgpmphcadeaa.drv
