/-
  What spec.l11Read and spec.NodesRead answer and leave. Condition: a text of at most 20,000 bytes (of NodesRead: of 1,048,576).
  What spec.NodesRead answers and leaves. Condition: a text of at most 1,048,576 bytes.
-/
import Derived.Test.YtmmmadehifajlaaZNodA
import Derived.Test.YtmmmadehifajlaaNrP
import Derived.Test.YtmmmadehifajlaaZRrT
import Derived.Test.YtmmmadehifajlaaZNdRA
namespace Go.Proofs.Ytmmmadehifajlaa.nod
open Go.RowKit Go.Joins
open Go.Proofs.Ytmmmadehifajlaa.base Go.Proofs.Ytmmmadehifajlaa.blk Go.Proofs.Ytmmmadehifajlaa.aid
open Go.Proofs.Ytmmmadehifajlaa.row (Rd Own OwnV appSem app_fold)
open Go.Proofs.Ytmmmadehifajlaa.strs (tx)
open Go.Proofs.Ytmmmadehifajlaa.mem (Mem Mine Off)
open Go.Proofs.Ytmmmadehifajlaa.plc (St numS txtS bytS numS_le txtS_le bytS_le rdO rdO_cells RPost num_any txt_any byt_any)
set_option linter.unusedVariables false
set_option linter.unusedSimpArgs false
attribute [local go_sem ↓] app_fold

/-- none of what holds lies there -/
def Fr (acc : List Nd) (a : Option Addr) (c X : Nat) : Prop := (∀ p ∈ mines acc, Off p.a p.xs X) ∧ (Value.slice a acc.length c).ownBlock ≠ some X
theorem fr_of {w : World} {o : Obj} {acc : List Nd} {a : Option Addr} {c X : Nat} (h : Fr acc a c X) (hX : w.heap.size < X) : Fresh w [(w.heap.size, o)] acc a c X :=
  ⟨by omega, by intro p hp; simp at hp; subst hp; simp only; omega, h.1, h.2⟩
/-- a node that is being read -/
structure Rv (w : World) (s : ByteArray) (acc : List Nd) (a : Option Addr) (c X : Nat) (x0 : ByteArray) (x1 : Bool) (x2 : Int) (ka : Option Addr) (ks : Tx) (kc : Nat) (st : St) (W : World) : Prop where
  rn : Rn w [(w.heap.size, rdO s st)] acc a c (w.heap.size + 1) W
  lt : w.heap.size < X
  var : W.heap[X]? = some (.cells #[.string x0, .bool x1, .int .i64 x2, .slice ka ks.length kc] 59)
  krow : W.ownsRow (X + 1) 9 1 (.slice ka ks.length kc) ks.length (tx ks)
  fresh : ∀ b, X ≤ b → Fr acc a c b
theorem Rn.rdr {w W : World} {s : ByteArray} {acc : List Nd} {a : Option Addr} {c B : Nat} {st : St} (h : Rn w [(w.heap.size, rdO s st)] acc a c B W) : W.heap[w.heap.size]? = some (rdO s st) := h.mem.b (w.heap.size, rdO s st) (.head _)
theorem Rn.call {w W W' : World} {s : ByteArray} {acc : List Nd} {a : Option Addr} {c B : Nat} {st st' : St} (h : Rn w [(w.heap.size, rdO s st)] acc a c B W) (hp : RPost W w.heap.size s st' W') : Rn w [(w.heap.size, rdO s st')] acc a c B W' := h.turn hp.grew hp.at_ (Nat.le_refl _)
variable {w W W' : World} {s : ByteArray} {acc : List Nd} {a : Option Addr} {c X : Nat} {x0 : ByteArray} {x1 : Bool} {x2 : Int} {ka : Option Addr} {ks : Tx} {kc : Nat} {st st' : St}
theorem Rv.start (h : Rn w [(w.heap.size, rdO s st)] acc a c (w.heap.size + 1) W) : Rv w s acc a c W.heap.size ⟨#[]⟩ false 0 none [] 0 st (W.alloc (.cells #[.string ⟨#[]⟩, .bool false, .int .i64 0, .slice none 0 0] 59)) :=
  ⟨h.next (below_alloc1 W _), (Array.getElem?_eq_some_iff.1 h.rdr).1, blk_new W _ _ rfl, World.ownsRow_nil _ _ _ _, fun b hb => ⟨(h.fresh b hb).2.2.1, (h.fresh b hb).2.2.2⟩⟩
theorem Rv.call (h : Rv w s acc a c X x0 x1 x2 ka ks kc st W) (hp : RPost W w.heap.size s st' W') : Rv w s acc a c X x0 x1 x2 ka ks kc st' W' :=
  ⟨h.rn.call hp, h.lt, (hp.grew.block X (Array.getElem?_eq_some_iff.1 h.var).1 (fun e => by have := h.lt; simp at e; omega)).trans h.var, row_keep h.krow hp.grew (fun g hg e => by
    have := (h.krow.lt g hg).1
    have := h.lt
    simp at e
    omega), h.fresh⟩
theorem Rv.set (h : Rv w s acc a c X x0 x1 x2 ka ks kc st W) (i : Nat) (v : Value) {y0 : ByteArray} {y1 : Bool} {y2 : Int} (hv : (#[.string x0, .bool x1, .int .i64 x2, .slice ka ks.length kc] : Array Value).setIfInBounds i v = #[.string y0, .bool y1, .int .i64 y2, .slice ka ks.length kc]) : Rv w s acc a c X y0 y1 y2 ka ks kc st (W.setCell ⟨X, i, none⟩ v) :=
  ⟨h.rn.grow (grew_cell W X i v) (fun b e => by cases e; exact fr_of (h.fresh X (Nat.le_refl _)) h.lt), h.lt, by rw [heap_setCell_same W X i _ _ v h.var, hv], row_keep h.krow (grew_cell W X i v) (fun g hg e => by
    have := (h.krow.lt g hg).1
    simp at e
    omega), h.fresh⟩
theorem Rv.cells (h : Rv w s acc a c X x0 x1 x2 ka ks kc st W) : W.cell? ⟨X, 0, none⟩ = some (.string x0) ∧ W.cell? ⟨X, 1, none⟩ = some (.bool x1) ∧ W.cell? ⟨X, 2, none⟩ = some (.int .i64 x2) ∧ W.cell? ⟨X, 3, none⟩ = some (.slice ka ks.length kc) := aid.cel4 h.var
/-- one more key -/
theorem Rv.app (h : Rv w s acc a c X x0 x1 x2 ka ks kc st W) (t : ByteArray) (hl : ks.length ≤ 1048576) :
    ∃ g' c' w2, (appSem #[57, 57] 57 #[.slice ka ks.length kc, .slice (some ⟨W.heap.size, 0, none⟩) 1 1]).run Try.prog (W.alloc (.cells #[.string t] 9)) = .ok (.slice (some ⟨g', 0, none⟩) (ks.length + 1) c') w2 ∧ w2.heap[X]? = some (.cells #[.string x0, .bool x1, .int .i64 x2, .slice ka ks.length kc] 59) ∧ Rv w s acc a c X x0 x1 x2 (some ⟨g', 0, none⟩) (ks ++ [t]) c' st (w2.setCell ⟨X, 3, none⟩ (.slice (some ⟨g', 0, none⟩) (ks.length + 1) c')) := by
  have hXW := (Array.getElem?_eq_some_iff.1 h.var).1
  obtain ⟨g', c', w2, happ, hown, hg⟩ := appK W (X + 1) (.slice ka ks.length kc) ks.length ks t rfl h.krow (by omega) hl
  have hlen : (ks ++ [t]).length = ks.length + 1 := by simp
  have hv1 : (W.alloc (.cells #[.string t] 9)).heap[X]? = some (.cells #[.string x0, .bool x1, .int .i64 x2, .slice ka ks.length kc] 59) := blk_old h.var _
  have hv2 : w2.heap[X]? = some (.cells #[.string x0, .bool x1, .int .i64 x2, .slice ka ks.length kc] 59) := (hg.block X (Array.getElem?_eq_some_iff.1 hv1).1 (fun e => by have := (h.krow.lt X e.symm).1; omega)).trans hv1
  have r1 : Rn w [(w.heap.size, rdO s st)] acc a c (w.heap.size + 1) w2 := (h.rn.next (below_alloc1 W _)).grow hg (fun b e => by
    have hb := (h.krow.lt b e).1
    exact fr_of (h.fresh b (by omega)) (by have := h.lt; omega))
  refine ⟨g', c', w2, happ, hv2, ?_⟩
  refine ⟨r1.grow (grew_cell w2 X 3 _) (fun b e => by cases e; exact fr_of (h.fresh X (Nat.le_refl _)) h.lt), h.lt, ?_, ?_, h.fresh⟩
  · rw [heap_setCell_same w2 X 3 _ _ _ hv2, hlen]
    rfl
  · rw [hlen]
    exact row_keep hown (grew_cell w2 X 3 _) (fun g hgg e => by
      have := (hown.lt g hgg).1
      simp at e
      omega)
/-- the node put behind the others -/
theorem Rv.push (h : Rv w s acc a c X x0 x1 x2 ka ks kc st W) (hl : acc.length ≤ 1048576) :
    ∃ g' c' w2, (appSem #[23, 23] 23 #[.slice a acc.length c, .slice (some ⟨W.heap.size, 0, none⟩) 1 1]).run Try.prog (W.alloc (.cells #[.string x0, .bool x1, .int .i64 x2, .slice ka ks.length kc] 59)) = .ok (.slice (some ⟨g', 0, none⟩) (acc.length + 1) c') w2 ∧ Rn w [(w.heap.size, rdO s st)] (acc ++ [(x0, x1, x2, ka, kc, ks)]) (some ⟨g', 0, none⟩) c' (w.heap.size + 1) w2 := by
  have hb : w.heap.size + 1 ≤ W.heap.size := (Array.getElem?_eq_some_iff.1 h.rn.rdr).1
  obtain ⟨g', c', w2, happ, hown, hg⟩ := appN W (w.heap.size + 1) (.slice a acc.length c) acc.length acc (x0, x1, x2, ka, kc, ks) rfl h.rn.row hb hl
  have hlt := h.lt
  exact ⟨g', c', w2, happ, h.rn.push (X := X) h.krow (by omega) (fun b hb => fr_of (h.fresh b (by omega)) (by omega)) hown hg⟩
theorem keysS_le (s : ByteArray) : ∀ (n : Nat) (st : St) (l : Tx), st.1 ≤ s.size → (keysS s n st l).2.1 ≤ s.size
  | 0, st, l, h => h
  | n + 1, st, l, h => by
    unfold keysS
    split
    · exact h
    · exact keysS_le s n _ _ (bytS_le s st h)
theorem rpost_same {w0 w6 W : World} {g : Nat} {s : ByteArray} {st : St} (hp : RPost w0 g s st w6) (h1 : w0.os = W.os) (h2 : w0.tape = W.tape) (h3 : w0.output = W.output) (h4 : w0.heap = W.heap) : RPost W g s st w6 := ⟨hp.at_, grew_from hp.grew h1 h2 h3 h4⟩
theorem cell_old {W : World} {o : Obj} {p : Addr} {v : Value} (h : W.cell? p = some v) : (W.alloc o).cell? p = some v := (World.cell?_of_block (w := W) (Below.heap_alloc W o p.block (World.block_lt_of_cell? W _ h))).trans h
/-- what l11Read answers and leaves -/
def LPost (s : ByteArray) (w : World) (e : Ending) (w' : World) : Prop :=
  ∃ (a : Option Addr) (c : Nat) (ds : List Nd) (b : Bool), e = .returned (.tuple #[.slice a ds.length c, .bool b]) ∧ (b = true → readA s = (ds.map val, 0)) ∧ (b = false → readA s = ([], 3)) ∧ ds.length ≤ 20 ∧ SmallN ds ∧ Mem w [] [] (⟨59, a, ncs ds⟩ :: mines ds) w'
/-- texts that were read are small -/
def Sm (l : List Nd) : Prop := ∀ d ∈ l, d.1.size ≤ 20000 ∧ d.2.2.2.2.2.length ≤ 100 ∧ ∀ t ∈ d.2.2.2.2.2, t.size ≤ 20000
theorem sm_small {l : List Nd} (h : Sm l) : SmallN l := fun d hd => by
  obtain ⟨h1, h2, h3⟩ := h d hd
  exact ⟨by omega, by omega, fun t ht => by have := h3 t ht; omega⟩
theorem txt_small (s : ByteArray) (st : St) (h : s.size ≤ 20000) : (txtS s st).1.size ≤ 20000 := by
  cases hr : txtS s st with
  | mk t st' =>
    obtain ⟨q, f⟩ := st'
    cases f with
    | false =>
      obtain ⟨_, _, _, h4, h5⟩ := plc.txtS_ok hr
      have := congrArg ByteArray.size h5
      rw [ByteArray.size_extract, ByteArray.size_append] at this
      simp only
      omega
    | true =>
      have e : t = ⟨#[]⟩ := by
        unfold plc.txtS at hr
        split at hr
        · cases hr; rfl
        · split at hr
          · cases hr; rfl
          · cases hr
      subst e
      show 0 ≤ 20000
      omega
theorem byt_small (s : ByteArray) (st : St) : (bytS s st).1.size ≤ 32 := by
  unfold plc.bytS
  split
  · show 0 ≤ 32
    omega
  · simp only [ByteArray.size_extract]
    omega
set_option maxRecDepth 100000 in
set_option maxHeartbeats 8000000 in
theorem l11R_any (s : ByteArray) (w : World) (hs : s.size ≤ 20000) :
    Calls Try.prog 40 #[.string s] w (LPost s w) := by
  have hsi : (s.size : Int) ≤ 20000 := by omega
  cases hn : numS s (0, false) with
  | mk z st0 =>
    have hst0 : st0.1 ≤ s.size := by have := numS_le s (0, false) (Nat.zero_le _); rw [hn] at this; exact this
    obtain ⟨q0, f0⟩ := st0
    simp only at hst0
    have HA : Hid (readA s = fin s (runS s z.toNat (q0, f0 || (decide (z < 0) || decide (20 < z))) [])) := mkHid (by unfold readA; rw [if_neg (by omega), hn])
    have K0 : Hid (Rn w [(w.heap.size, rdO s (0, false))] [] (some ⟨w.heap.size + 1, 0, none⟩) 0 (w.heap.size + 1) ((w.alloc (rdO s (0, false))).alloc (.cells #[] 59))) := mkHid (by
      have e1 : (w.alloc (rdO s (0, false))).heap.size = w.heap.size + 1 := by simp
      refine ⟨((mem.start w).var (rdO s (0, false))).alloc _, by omega, ?_, by simp⟩
      have := empty_row (w.alloc (rdO s (0, false))) 59 4 (w.heap.size + 1) (by omega)
      rw [e1] at this
      exact this)
    have HN := mkHid (num_any w.heap.size s (0, false) _ K0.out.rdr hs (by simp))
    rw [hn] at HN
    unfold plc.rdO at K0 HN
    clear hn
    go_enter Try.func40, Try.ntmps40
    go_wp2_with fail
    refine HN.out.mono ?_
    rintro e w1 ⟨rfl, hp⟩
    have K1 := mkHid (Rn.call (s := s) (st := (0, false)) K0.out hp)
    clear hp HN K0
    go_upto_region 4 with fail
    go_cut [21] from 16 to 21 (fun v wx => v = .bool (decide (z < 0) || decide (20 < z)) ∧ wx = w1)
    case first =>
      by_cases hz1 : z < 0
      · go_wp2
        go_meet
        exact ⟨by simp [hz1], rfl⟩
      · have hz1' : 0 ≤ z := by omega
        by_cases hz2 : 20 < z
        · go_wp2
          go_meet
          exact ⟨by simp [hz2], rfl⟩
        · have hz2' : z ≤ 20 := by omega
          go_wp2
          go_meet
          exact ⟨by simp [hz1, hz2], rfl⟩
    case rest =>
    obtain ⟨rfl, rfl⟩ := hcut
    have hgood : Hid ((f0 || (decide (z < 0) || decide (20 < z))) = false → 0 ≤ z ∧ z ≤ 20) := mkHid (by intro h; simp at h; omega)
    generalize (decide (z < 0) || decide (20 < z)) = b at *
    go_upto_if 21 with fail
    go_cut [6] from 22 to 24 (fun v wx => v = .int .i64 z ∧ Hid (Rn w [(w.heap.size, rdO s (q0, f0 || b))] [] (some ⟨w.heap.size + 1, 0, none⟩) 0 (w.heap.size + 1) wx))
    case first =>
      obtain ⟨d0, d1, d2⟩ := rdO_cells K1.out.rdr
      simp only at d1 d2
      have uf := unfrozen (show _ = some (Obj.cells _ _) from K1.out.rdr)
      have KB := mkHid (K1.out.call ((RPost.start K1.out.rdr).bad))
      cases b with
      | true =>
        clear K1
        go_wp2
        go_meet
        exact ⟨rfl, by rw [Bool.or_true]; exact KB⟩
      | false =>
        clear KB
        go_wp2
        go_meet
        exact ⟨rfl, by rw [Bool.or_false]; exact K1⟩
    case rest =>
      obtain ⟨rfl, K2⟩ := hcut
      clear K1
      generalize (f0 || b) = fl at *
      go_wp2_with fail
      go_loopw [5, 6, 8, 9] (fun v i dv mv wr => ∃ (y : Int) (n : Nat) (acc : List Nd) (a : Option Addr) (c : Nat) (st : St), i = .int .i64 y ∧ v = .slice a acc.length c ∧ st.1 ≤ s.size ∧ Hid (Rn w [(w.heap.size, rdO s st)] acc a c (w.heap.size + 1) wr) ∧ Hid (runS s z.toNat (q0, fl) [] = runS s n st (acc.map val)) ∧ Hid (st.2 = false → y = (n : Int) ∧ acc.length + n ≤ 20) ∧ acc.length ≤ 20 ∧ Hid (Sm acc))
        (fun _ i _ _ _ => (intOf i).toNat)
      case atStart => exact ⟨z, z.toNat, [], _, _, (q0, fl), rfl, rfl, hst0, K2, mkHid rfl, mkHid (fun h => by have := hgood.out h; simp; omega), by simp, mkHid (by intro d hd; simp at hd)⟩
      case round =>
        obtain ⟨y, n, acc, a, c, ⟨q, f⟩, rfl, rfl, hq, K, HR, HY, hal, HSm⟩ := hrel
        simp only at hq
        clear K2
        obtain ⟨d0, d1, d2⟩ := rdO_cells K.out.rdr
        simp only at d1 d2
        by_cases hgo : 0 < y ∧ f = false
        · obtain ⟨hy, rfl⟩ := hgo
          obtain ⟨hyn, hlen⟩ := HY.out rfl
          subst hyn
          obtain ⟨n', rfl⟩ : ∃ n', n = n' + 1 := ⟨n - 1, by omega⟩
          have hst := HR.out.trans (runS_step s n' q (acc.map val))
          unfold nodeS keysH headS at hst
          simp only at hst
          have HT1 := mkHid (fun W (h : W.heap[w.heap.size]? = some (rdO s (q, false))) => txt_any w.heap.size s (q, false) W h hs (by simp only; omega))
          have le1 := txtS_le s (q, false) hq
          have sm1 := txt_small s (q, false) hs
          generalize txtS s (q, false) = r1 at *
          obtain ⟨x0, st1⟩ := r1
          simp only at HT1 le1 hst sm1
          have HN1 := mkHid (fun W (h : W.heap[w.heap.size]? = some (rdO s st1)) => num_any w.heap.size s st1 W h hs (by omega))
          have le2 := numS_le s st1 le1
          generalize numS s st1 = r2 at *
          obtain ⟨d, st2⟩ := r2
          simp only at HN1 le2 hst
          have HN2 := mkHid (fun W (h : W.heap[w.heap.size]? = some (rdO s st2)) => num_any w.heap.size s st2 W h hs (by omega))
          have le3 := numS_le s st2 le2
          generalize numS s st2 = r3 at *
          obtain ⟨x2, st3⟩ := r3
          simp only at HN2 le3 hst
          have HN3 := mkHid (fun W (h : W.heap[w.heap.size]? = some (rdO s st3)) => num_any w.heap.size s st3 W h hs (by omega))
          have le4 := numS_le s st3 le3
          generalize numS s st3 = r4 at *
          obtain ⟨m, st4⟩ := r4
          simp only at HN3 le4 hst
          have HS := mkHid hst
          have hlen' : acc.length ≤ 19 := by omega
          have Z0 := mkHid (Rv.start K.out)
          clear hst K HY HR
          go_wp2_with fail
          clear d0 d1 d2
          generalize wr.alloc (.cells #[.string ⟨#[]⟩, .bool false, .int .i64 0, .slice none 0 0] 59) = W0 at *
          generalize wr.heap.size = X at *
          refine (HT1.out _ Z0.out.rn.rdr).mono ?_
          rintro e w2 ⟨rfl, hp⟩
          have Z1 := mkHid (Z0.out.call hp)
          have Z2 := mkHid (Z1.out.set 0 (.string x0) (y0 := x0) rfl)
          obtain ⟨g0, g1, g2, g3⟩ := Z1.out.cells
          have uf := unfrozen Z1.out.var
          clear hp Z0 Z1 HT1
          go_wp2_with fail
          clear g0 g1 g2 g3 uf
          generalize w2.setCell ⟨X, 0, none⟩ (.string x0) = W2 at *
          refine (HN1.out _ Z2.out.rn.rdr).mono ?_
          rintro e w3 ⟨rfl, hp⟩
          have Z3 := mkHid (Z2.out.call hp)
          have Z4 := mkHid (Z3.out.set 1 (.bool (d == 1)) (y1 := (d == 1)) rfl)
          obtain ⟨g0, g1, g2, g3⟩ := Z3.out.cells
          have uf := unfrozen Z3.out.var
          clear hp Z2 Z3 HN1
          go_wp2_with fail
          clear g0 g1 g2 g3 uf
          generalize w3.setCell ⟨X, 1, none⟩ (.bool (d == 1)) = W3 at *
          refine (HN2.out _ Z4.out.rn.rdr).mono ?_
          rintro e w4 ⟨rfl, hp⟩
          have Z5 := mkHid (Z4.out.call hp)
          have Z6 := mkHid (Z5.out.set 2 (.int .i64 x2) (y2 := x2) rfl)
          obtain ⟨g0, g1, g2, g3⟩ := Z5.out.cells
          have uf := unfrozen Z5.out.var
          clear hp Z4 Z5 HN2
          go_wp2_with fail
          clear g0 g1 g2 g3 uf
          generalize w4.setCell ⟨X, 2, none⟩ (.int .i64 x2) = W4 at *
          refine (HN3.out _ Z6.out.rn.rdr).mono ?_
          rintro e w5 ⟨rfl, hp⟩
          have Z7 := mkHid (Z6.out.call hp)
          clear hp Z6 HN3
          go_upto_region 14 with fail
          go_cut [63] from 50 to 63 (fun v wx => v = .bool (out_ d m) ∧ wx = w5)
          case first =>
            by_cases hz1 : d < 0
            · go_wp2
              go_meet
              exact ⟨by simp [out_, hz1], rfl⟩
            · have hz1' : 0 ≤ d := by omega
              by_cases hz2 : 1 < d
              · go_wp2
                go_meet
                exact ⟨by simp [out_, hz2], rfl⟩
              · have hz2' : d ≤ 1 := by omega
                by_cases hz3 : m < 0
                · go_wp2
                  go_meet
                  exact ⟨by simp [out_, hz3], rfl⟩
                · have hz3' : 0 ≤ m := by omega
                  by_cases hz4 : 100 < m
                  · go_wp2
                    go_meet
                    exact ⟨by simp [out_, hz4], rfl⟩
                  · have hz4' : m ≤ 100 := by omega
                    go_wp2
                    go_meet
                    exact ⟨by simp [out_, hz1, hz2, hz3, hz4], rfl⟩
          case rest =>
          obtain ⟨rfl, rfl⟩ := hcut
          have hgm : Hid ((st4.2 || out_ d m) = false → 0 ≤ m ∧ m ≤ 100) := mkHid (by intro h; simp [out_] at h; omega)
          generalize out_ d m = b2 at *
          go_upto_if 63 with fail
          go_cut [9] from 64 to 66 (fun v wx => v = .int .i64 m ∧ Hid (Rv w s acc a c X x0 (d == 1) x2 none [] 0 (st4.1, st4.2 || b2) wx))
          case first =>
            obtain ⟨d0, d1, d2⟩ := rdO_cells Z7.out.rn.rdr
            have uf := unfrozen (show _ = some (Obj.cells _ _) from Z7.out.rn.rdr)
            have KB := mkHid (Z7.out.call ((RPost.start Z7.out.rn.rdr).bad))
            cases b2 with
            | true =>
              clear Z7
              go_wp2
              go_meet
              exact ⟨rfl, by rw [Bool.or_true]; exact KB⟩
            | false =>
              clear KB
              go_wp2
              go_meet
              exact ⟨rfl, by rw [Bool.or_false]; exact Z7⟩
          case rest =>
            obtain ⟨rfl, Z8⟩ := hcut
            clear Z7
            generalize (st4.2 || b2) = fl2 at *
            go_wp2_with fail
            go_loopw [9] (fun i wr => ∃ (y2 : Int) (n2 : Nat) (ks : Tx) (ka : Option Addr) (kc : Nat) (st : St), i = .int .i64 y2 ∧ st.1 ≤ s.size ∧ Hid (Rv w s acc a c X x0 (d == 1) x2 ka ks kc st wr) ∧ Hid (keysS s m.toNat (st4.1, fl2) [] = keysS s n2 st ks) ∧ Hid (st.2 = false → y2 = (n2 : Int) ∧ ks.length + n2 ≤ 100) ∧ ks.length ≤ 100 ∧ Hid (∀ t ∈ ks, t.size ≤ 20000))
              (fun i _ => (intOf i).toNat)
            case atStart => exact ⟨m, m.toNat, [], none, 0, (st4.1, fl2), rfl, le4, Z8, mkHid rfl, mkHid (fun h => by have := hgm.out h; simp; omega), by simp, mkHid (by simp)⟩
            case round =>
              obtain ⟨y2, n2, ks, ka, kc, ⟨q2, f2⟩, rfl, hq2, Z, HKR, HKY, hkl, HKS⟩ := hrel
              simp only at hq2
              clear Z8
              obtain ⟨d0, d1, d2⟩ := rdO_cells Z.out.rn.rdr
              simp only at d1 d2
              by_cases hgo2 : 0 < y2 ∧ f2 = false
              · obtain ⟨hy2, rfl⟩ := hgo2
                obtain ⟨hyn2, hlen2⟩ := HKY.out rfl
                subst hyn2
                obtain ⟨n3, rfl⟩ : ∃ n3, n2 = n3 + 1 := ⟨n2 - 1, by omega⟩
                have hkst := HKR.out.trans (keysS_step s n3 q2 ks)
                have HB1 := mkHid (fun W (h : W.heap[w.heap.size]? = some (rdO s (q2, false))) => byt_any w.heap.size s (q2, false) W h hs (by simp only; omega))
                have le5 := bytS_le s (q2, false) hq2
                have sm5 := byt_small s (q2, false)
                generalize bytS s (q2, false) = r5 at *
                obtain ⟨t5, st5⟩ := r5
                simp only at HB1 le5 hkst sm5
                have HKS2 := mkHid hkst
                have HKS3 : Hid (∀ t ∈ ks ++ [t5], t.size ≤ 20000) := mkHid (by
                  intro t ht
                  rcases List.mem_append.1 ht with ht | ht
                  · exact HKS.out t ht
                  · simp at ht
                    subst ht
                    omega)
                clear hkst HKR HKY HKS sm5
                obtain ⟨g0, g1, g2, g3⟩ := Z.out.cells
                have uf := unfrozen Z.out.var
                go_wp2_with fail
                refine wp_region_held_drew (S := fun _ => True) (by kernel_rfl) (by exact trivial) (fun hHeld => ?_)
                refine wpAnyH_take (i := 0) (oi := Oper.mk _ _ _ _ _ _) (v := ?_) rfl (by kernel_rfl) (by kernel_rfl) (by kernel_rfl) (fun _ _ _ h => h) (Or.inl ⟨by rfl, ?_⟩) (by assumption) ?_
                rotate_left
                · intro w hSw
                  try dsimp only at hSw
                  go_simp
                  all_goals with_reducible rfl
                try simp only [Act.put, List.setIfInBounds_toArray, List.set_cons_zero, List.set_cons_succ]
                refine wpAnyH_take (i := 2) (oi := Oper.mk _ _ _ _ _ _) (v := ?_) rfl (by kernel_rfl) (by kernel_rfl) (by kernel_rfl) (fun _ _ _ h => h) (Or.inl ⟨by rfl, ?_⟩) (by assumption) ?_
                rotate_left
                · intro w hSw
                  try dsimp only at hSw
                  go_simp
                  all_goals with_reducible rfl
                try simp only [Act.put, List.setIfInBounds_toArray, List.set_cons_zero, List.set_cons_succ]
                refine wpAnyH_ready (rs := [1, 3]) (by kernel_rfl) (by simp) ?_
                refine AllReadyH.cons (o := Oper.mk _ _ _ _ _ _) rfl (fun K hK => ?_) ?_
                · skip
                  have lc := Z.out.cells.2.2.2
                  go_simp
                  refine hK.out _ _ trivial (fun hHeld => ?_)
                  clear hK K
                  try simp only [Act.put, List.setIfInBounds_toArray, List.set_cons_zero, List.set_cons_succ]
                  refine wpAnyH_ready (rs := [3]) (by kernel_rfl) (by simp) ?_
                  refine AllReadyH.cons (o := Oper.mk _ _ _ _ _ _) rfl (fun K hK => ?_) AllReadyH.nil
                  go_simp
                  refine Calls.mono (HB1.out _ (by exact Z.out.rn.rdr)) ?_
                  rintro e w6 ⟨rfl, hp⟩
                  have Z9 := mkHid (Z.out.call (rpost_same hp rfl rfl rfl rfl))
                  obtain ⟨g', c', w8, happ, hvar, hZ⟩ := Z9.out.app t5 (by omega)
                  have Z10 := mkHid hZ
                  have hl3 : (ks ++ [t5]).length = ks.length + 1 := by simp
                  clear hp hZ
                  show K _ _
                  refine hK.out _ _ trivial (fun hHeld => ?_)
                  clear hK K
                  try simp only [Act.put, List.setIfInBounds_toArray, List.set_cons_zero, List.set_cons_succ]
                  refine wpAnyH_ready (rs := [4]) (by kernel_rfl) (by simp) ?_
                  refine AllReadyH.cons (o := Oper.mk _ _ _ _ _ _) rfl (fun K hK => ?_) AllReadyH.nil
                  go_simp
                  refine hK.out _ _ trivial (fun hHeld => ?_)
                  clear hK K
                  try simp only [Act.put, List.setIfInBounds_toArray, List.set_cons_zero, List.set_cons_succ]
                  refine wpAnyH_ready (rs := [5]) (by kernel_rfl) (by simp) ?_
                  refine AllReadyH.cons (o := Oper.mk _ _ _ _ _ _) rfl (fun K hK => ?_) AllReadyH.nil
                  go_simp
                  refine hK.out _ _ trivial (fun hHeld => ?_)
                  clear hK K
                  try simp only [Act.put, List.setIfInBounds_toArray, List.set_cons_zero, List.set_cons_succ]
                  refine wpAnyH_take (i := 6) (oi := Oper.mk _ _ _ _ _ _) (v := ?_) rfl (by kernel_rfl) (by kernel_rfl) (by kernel_rfl) (fun _ _ _ h => h) (Or.inl ⟨by rfl, ?_⟩) (by assumption) ?_
                  rotate_left
                  · intro w hSw
                    try dsimp only at hSw
                    go_simp
                    all_goals with_reducible rfl
                  try simp only [Act.put, List.setIfInBounds_toArray, List.set_cons_zero, List.set_cons_succ]
                  refine wpAnyH_ready (rs := [7]) (by kernel_rfl) (by simp) ?_
                  refine AllReadyH.cons (o := Oper.mk _ _ _ _ _ _) rfl (fun K hK => ?_) AllReadyH.nil
                  have cf8 := unfrozen hvar
                  obtain ⟨m0, m1, m2, m3⟩ := aid.cel4 hvar
                  go_simp
                  refine hK.out _ _ trivial (fun hHeld => ?_)
                  clear hK K
                  try simp only [Act.put, List.setIfInBounds_toArray, List.set_cons_zero, List.set_cons_succ]
                  refine wpAnyH_done (by kernel_rfl) ?_ _
                  have N3 : Hid (Hid (∀ t ∈ ks ++ [t5], t.size ≤ 20000)) := mkHid HKS3
                  clear g0 g1 g2 g3 uf happ hvar Z Z9 lc d0 d1 d2
                  go_wp2
                  exact ⟨⟨(n3 : Int), n3, ks ++ [t5], some ⟨g', 0, none⟩, c', st5, by go_num, le5, Z10, HKS2, mkHid (fun _ => ⟨rfl, by rw [hl3]; omega⟩), by rw [hl3]; omega, HKS3⟩, by simp [intOf]⟩
                refine AllReadyH.cons (o := Oper.mk _ _ _ _ _ _) rfl (fun K hK => ?_) AllReadyH.nil
                go_simp
                refine Calls.mono (HB1.out _ (by exact Z.out.rn.rdr)) ?_
                rintro e w6 ⟨rfl, hp⟩
                have Z9 := mkHid (Z.out.call (rpost_same hp rfl rfl rfl rfl))
                obtain ⟨g', c', w8, happ, hvar, hZ⟩ := Z9.out.app t5 (by omega)
                have Z10 := mkHid hZ
                have hl3 : (ks ++ [t5]).length = ks.length + 1 := by simp
                clear hp hZ
                show K _ _
                refine hK.out _ _ trivial (fun hHeld => ?_)
                clear hK K
                try simp only [Act.put, List.setIfInBounds_toArray, List.set_cons_zero, List.set_cons_succ]
                refine wpAnyH_ready (rs := [1, 4]) (by kernel_rfl) (by simp) ?_
                refine AllReadyH.cons (o := Oper.mk _ _ _ _ _ _) rfl (fun K hK => ?_) ?_
                · skip
                  have lc := Z9.out.cells.2.2.2
                  go_simp
                  refine hK.out _ _ trivial (fun hHeld => ?_)
                  clear hK K
                  try simp only [Act.put, List.setIfInBounds_toArray, List.set_cons_zero, List.set_cons_succ]
                  refine wpAnyH_ready (rs := [4]) (by kernel_rfl) (by simp) ?_
                  refine AllReadyH.cons (o := Oper.mk _ _ _ _ _ _) rfl (fun K hK => ?_) AllReadyH.nil
                  go_simp
                  refine hK.out _ _ trivial (fun hHeld => ?_)
                  clear hK K
                  try simp only [Act.put, List.setIfInBounds_toArray, List.set_cons_zero, List.set_cons_succ]
                  refine wpAnyH_ready (rs := [5]) (by kernel_rfl) (by simp) ?_
                  refine AllReadyH.cons (o := Oper.mk _ _ _ _ _ _) rfl (fun K hK => ?_) AllReadyH.nil
                  go_simp
                  refine hK.out _ _ trivial (fun hHeld => ?_)
                  clear hK K
                  try simp only [Act.put, List.setIfInBounds_toArray, List.set_cons_zero, List.set_cons_succ]
                  refine wpAnyH_take (i := 6) (oi := Oper.mk _ _ _ _ _ _) (v := ?_) rfl (by kernel_rfl) (by kernel_rfl) (by kernel_rfl) (fun _ _ _ h => h) (Or.inl ⟨by rfl, ?_⟩) (by assumption) ?_
                  rotate_left
                  · intro w hSw
                    try dsimp only at hSw
                    go_simp
                    all_goals with_reducible rfl
                  try simp only [Act.put, List.setIfInBounds_toArray, List.set_cons_zero, List.set_cons_succ]
                  refine wpAnyH_ready (rs := [7]) (by kernel_rfl) (by simp) ?_
                  refine AllReadyH.cons (o := Oper.mk _ _ _ _ _ _) rfl (fun K hK => ?_) AllReadyH.nil
                  have cf8 := unfrozen hvar
                  obtain ⟨m0, m1, m2, m3⟩ := aid.cel4 hvar
                  go_simp
                  refine hK.out _ _ trivial (fun hHeld => ?_)
                  clear hK K
                  try simp only [Act.put, List.setIfInBounds_toArray, List.set_cons_zero, List.set_cons_succ]
                  refine wpAnyH_done (by kernel_rfl) ?_ _
                  have N3 : Hid (Hid (∀ t ∈ ks ++ [t5], t.size ≤ 20000)) := mkHid HKS3
                  clear g0 g1 g2 g3 uf happ hvar Z Z9 lc d0 d1 d2
                  go_wp2
                  exact ⟨⟨(n3 : Int), n3, ks ++ [t5], some ⟨g', 0, none⟩, c', st5, by go_num, le5, Z10, HKS2, mkHid (fun _ => ⟨rfl, by rw [hl3]; omega⟩), by rw [hl3]; omega, HKS3⟩, by simp [intOf]⟩
                refine AllReadyH.cons (o := Oper.mk _ _ _ _ _ _) rfl (fun K hK => ?_) AllReadyH.nil
                go_simp
                refine hK.out _ _ trivial (fun hHeld => ?_)
                clear hK K
                try simp only [Act.put, List.setIfInBounds_toArray, List.set_cons_zero, List.set_cons_succ]
                refine wpAnyH_ready (rs := [1]) (by kernel_rfl) (by simp) ?_
                refine AllReadyH.cons (o := Oper.mk _ _ _ _ _ _) rfl (fun K hK => ?_) AllReadyH.nil
                have lc := cell_old (W := w6) (o := .cells #[.string t5] 9) Z9.out.cells.2.2.2
                go_simp
                refine hK.out _ _ trivial (fun hHeld => ?_)
                clear hK K
                try simp only [Act.put, List.setIfInBounds_toArray, List.set_cons_zero, List.set_cons_succ]
                refine wpAnyH_ready (rs := [5]) (by kernel_rfl) (by simp) ?_
                refine AllReadyH.cons (o := Oper.mk _ _ _ _ _ _) rfl (fun K hK => ?_) AllReadyH.nil
                go_simp
                refine hK.out _ _ trivial (fun hHeld => ?_)
                clear hK K
                try simp only [Act.put, List.setIfInBounds_toArray, List.set_cons_zero, List.set_cons_succ]
                refine wpAnyH_take (i := 6) (oi := Oper.mk _ _ _ _ _ _) (v := ?_) rfl (by kernel_rfl) (by kernel_rfl) (by kernel_rfl) (fun _ _ _ h => h) (Or.inl ⟨by rfl, ?_⟩) (by assumption) ?_
                rotate_left
                · intro w hSw
                  try dsimp only at hSw
                  go_simp
                  all_goals with_reducible rfl
                try simp only [Act.put, List.setIfInBounds_toArray, List.set_cons_zero, List.set_cons_succ]
                refine wpAnyH_ready (rs := [7]) (by kernel_rfl) (by simp) ?_
                refine AllReadyH.cons (o := Oper.mk _ _ _ _ _ _) rfl (fun K hK => ?_) AllReadyH.nil
                have cf8 := unfrozen hvar
                obtain ⟨m0, m1, m2, m3⟩ := aid.cel4 hvar
                go_simp
                refine hK.out _ _ trivial (fun hHeld => ?_)
                clear hK K
                try simp only [Act.put, List.setIfInBounds_toArray, List.set_cons_zero, List.set_cons_succ]
                refine wpAnyH_done (by kernel_rfl) ?_ _
                have N3 : Hid (Hid (∀ t ∈ ks ++ [t5], t.size ≤ 20000)) := mkHid HKS3
                clear g0 g1 g2 g3 uf happ hvar Z Z9 lc d0 d1 d2
                go_wp2
                exact ⟨⟨(n3 : Int), n3, ks ++ [t5], some ⟨g', 0, none⟩, c', st5, by go_num, le5, Z10, HKS2, mkHid (fun _ => ⟨rfl, by rw [hl3]; omega⟩), by rw [hl3]; omega, HKS3⟩, by simp [intOf]⟩
              · have hkf : keysS s n2 (q2, f2) ks = (ks, (q2, f2)) := by
                  cases f2 with
                  | true => exact keysS_bad s n2 q2 ks
                  | false =>
                    have h2 := (HKY.out rfl).1
                    have h3 : n2 = 0 := by
                      have : ¬ 0 < y2 := fun h => hgo2 ⟨h, rfl⟩
                      omega
                    subst h3
                    rfl
                have hKK := HKR.out.trans hkf
                have hrun := HS.out
                rw [hKK] at hrun
                simp only at hrun
                obtain ⟨g', c', w8, happ, hRn⟩ := Z.out.push (by omega)
                have hal8 : (acc ++ [(x0, (d == 1), x2, ka, kc, ks)]).length = acc.length + 1 := by simp
                have N1 := mkHid hRn
                have N2 : Hid (runS s z.toNat (q0, fl) [] = runS s n' (q2, f2) ((acc ++ [(x0, (d == 1), x2, ka, kc, ks)]).map val)) := mkHid (by
                  rw [hrun, List.map_append]
                  rfl)
                have N3 : Hid (Sm (acc ++ [(x0, (d == 1), x2, ka, kc, ks)])) := mkHid (by
                  intro dd hd
                  rcases List.mem_append.1 hd with hd | hd
                  · exact HSm.out dd hd
                  · simp at hd
                    subst hd
                    exact ⟨sm1, hkl, HKS.out⟩)
                obtain ⟨g0, g1, g2, g3⟩ := Z.out.cells
                clear hRn hrun hKK hkf HKR HKY HS HKS HSm
                cases f2 with
                | true =>
                  by_cases hy2 : 0 < y2
                  · clear Z
                    go_wp2
                    exact ⟨⟨(n' : Int), n', _, some ⟨g', 0, none⟩, c', (q2, true), by go_num, by rw [hal8], hq2, N1, N2, mkHid (fun h => by cases h), by rw [hal8]; omega, N3⟩, by simp [intOf]⟩
                  · have hy2' : y2 ≤ 0 := by omega
                    clear Z
                    go_wp2
                    exact ⟨⟨(n' : Int), n', _, some ⟨g', 0, none⟩, c', (q2, true), by go_num, by rw [hal8], hq2, N1, N2, mkHid (fun h => by cases h), by rw [hal8]; omega, N3⟩, by simp [intOf]⟩
                | false =>
                  have hy2' : y2 ≤ 0 := by
                    have : ¬ 0 < y2 := fun h => hgo2 ⟨h, rfl⟩
                    omega
                  clear Z
                  go_wp2
                  exact ⟨⟨(n' : Int), n', _, some ⟨g', 0, none⟩, c', (q2, false), by go_num, by rw [hal8], hq2, N1, N2, mkHid (fun h => ⟨rfl, by rw [hal8]; omega⟩), by rw [hal8]; omega, N3⟩, by simp [intOf]⟩
        · have hfin : runS s n (q, f) (acc.map val) = (acc.map val, (q, f)) := by
            cases f with
            | true => exact runS_bad s n q _
            | false =>
              have h2 := (HY.out rfl).1
              have h3 : n = 0 := by
                have : ¬ 0 < y := fun h => hgo ⟨h, rfl⟩
                omega
              subst h3
              rfl
          have HF := mkHid (show readA s = fin s (acc.map val, (q, f)) by rw [HA.out, HR.out, hfin])
          have HD := mkHid K.out.done
          have HSm2 := mkHid (sm_small HSm.out)
          clear HA HR hfin HY HSm
          cases f with
          | true =>
            have F : Hid (LPost s w (.returned (.tuple #[.slice a acc.length c, .bool false])) wr) := mkHid ⟨a, c, acc, false, rfl, (by intro h; cases h), fun _ => by rw [HF.out]; unfold fin; rw [if_pos (.inl rfl)], hal, HSm2.out, HD.out⟩
            clear K HF HD HSm2
            by_cases hy : 0 < y
            · go_wp2
              exact bodyPost_ret (v := .tuple #[.slice a acc.length c, .bool false]) (by simp [results, Try.results40, go_sem]) rfl F.out
            · have hy' : y ≤ 0 := by omega
              go_wp2
              exact bodyPost_ret (v := .tuple #[.slice a acc.length c, .bool false]) (by simp [results, Try.results40, go_sem]) rfl F.out
          | false =>
            have hy' : y ≤ 0 := by
              have : ¬ 0 < y := fun h => hgo ⟨h, rfl⟩
              omega
            by_cases heq : q = s.size
            · have heqi : ((q : Int) == (s.size : Int)) = true := by simp [heq]
              have HRt := mkHid (rightS_any a c acc wr (by omega) HSm2.out ⟨K.out.done.o0.rd, fun dd hd => (K.out.mem.o ⟨9, dd.2.2.2.1, tx dd.2.2.2.2.2⟩ (List.mem_map.2 ⟨dd, hd, rfl⟩)).rd⟩)
              have HM := mkHid (fun w' (hb : Below wr.heap.size wr w') => HD.out.next hb)
              have HF2 : Hid (∀ bb, nodesB (acc.map val) = bb → ∀ w', Below wr.heap.size wr w' → LPost s w (.returned (.tuple #[.slice a acc.length c, .bool bb])) w') := mkHid (fun bb hbb w' hb => ⟨a, c, acc, bb, rfl, fun h => by
                subst h
                rw [HF.out]; unfold fin; rw [if_neg]; simp [hbb, heq], fun h => by
                subst h
                rw [HF.out]; unfold fin; rw [if_pos (.inr (.inr hbb))], hal, HSm2.out, HM.out w' hb⟩)
              generalize nodesB (acc.map val) = bb at *
              clear K HF HD HSm2 HM heq
              go_wp2_with fail
              refine HRt.out.mono ?_
              rintro e w2 ⟨rfl, hb⟩
              have F := mkHid (HF2.out _ rfl _ hb)
              clear hb HRt HF2
              go_wp2
              exact bodyPost_ret (v := .tuple #[.slice a acc.length c, .bool bb]) (by simp [results, Try.results40, go_sem]) rfl F.out
            · have heqi : ((q : Int) == (s.size : Int)) = false := by simp; omega
              have F : Hid (LPost s w (.returned (.tuple #[.slice a acc.length c, .bool false])) wr) := mkHid ⟨a, c, acc, false, rfl, (by intro h; cases h), fun _ => by rw [HF.out]; unfold fin; rw [if_pos (.inr (.inl heq))], hal, HSm2.out, HD.out⟩
              clear K HF HD HSm2 heq
              go_wp2
              exact bodyPost_ret (v := .tuple #[.slice a acc.length c, .bool false]) (by simp [results, Try.results40, go_sem]) rfl F.out
end Go.Proofs.Ytmmmadehifajlaa.nod
namespace Go.Proofs.Ytmmmadehifajlaa.nod
open Go.RowKit Go.Joins
open Go.Proofs.Ytmmmadehifajlaa.base Go.Proofs.Ytmmmadehifajlaa.blk Go.Proofs.Ytmmmadehifajlaa.aid
open Go.Proofs.Ytmmmadehifajlaa.row (Rd Own OwnV)
open Go.Proofs.Ytmmmadehifajlaa.strs (tx)
open Go.Proofs.Ytmmmadehifajlaa.mem (Mem Mine Off)
set_option linter.unusedVariables false
set_option linter.unusedSimpArgs false

/-- what NodesRead answers and leaves: nodes of our own -/
def NPost (w : World) (r : List Vn × Int) (e : Ending) (w' : World) : Prop :=
  ∃ (a : Option Addr) (c : Nat) (ds : List Nd), e = .returned (.agg #[.slice a ds.length c, .int .i64 r.2]) ∧ ds.map val = r.1 ∧ Mem w [] [] (⟨59, a, ncs ds⟩ :: mines ds) w'
theorem mem_from {W W0 wx : World} {os : List Mine} (h : Mem W0 [] [] os wx) (hb : Below W.heap.size W W0) : Mem W [] [] os wx :=
  ⟨hb.trans (h.below.mono hb.size), by simp, by simp, h.o, fun p hp hx g o s e => ⟨Nat.le_trans hb.size (h.new p hp hx g o s e).1, by simp, by simp⟩, h.apart⟩
/-- a variable that lies below all rows of our own is written -/
theorem mem_low {W W0 wx : World} {os : List Mine} {z i : Nat} (h : Mem W0 [] [] os wx) (hb : Below W.heap.size W W0) (hz : W.heap.size ≤ z) (hz2 : z < W0.heap.size) (v : Value) : Mem W [] [] os (wx.setCell ⟨z, i, none⟩ v) :=
  memGrow (mem_from h hb) (grew_cell wx z i v) (fun b e => by
    cases e
    refine ⟨hz, by simp, by simp, fun p hp => ?_⟩
    by_cases hx : p.xs = []
    · exact .inl hx
    · refine .inr (fun o s e => ?_)
      have := (h.new p hp hx z o s e).1
      omega)
theorem mem_low2 {W W0 wx : World} {os : List Mine} {z : Nat} (h : Mem W0 [] [] os wx) (hb : Below W.heap.size W W0) (hz : W.heap.size ≤ z) (hz2 : z < W0.heap.size) (v0 v1 : Value) : Mem W [] [] os ((wx.setCell ⟨z, 0, none⟩ v0).setCell ⟨z, 1, none⟩ v1) :=
  memGrow (mem_low (i := 0) h hb hz hz2 v0) (grew_cell _ z 1 v1) (fun b e => by
    cases e
    refine ⟨hz, by simp, by simp, fun p hp => ?_⟩
    by_cases hx : p.xs = []
    · exact .inl hx
    · refine .inr (fun o s e => ?_)
      have := (h.new p hp hx z o s e).1
      omega)
theorem npost_new {w : World} {k : Int} {r : List Vn × Int} (hr : r = ([], k)) : NPost w r (.returned (.agg #[.slice none 0 0, .int .i64 k])) (w.alloc (.cells #[.slice none 0 0, .int .i64 k] 28)) := by
  subst hr
  exact ⟨none, 0, [], rfl, rfl, by
    have m : Mem w [] [] [] (w.alloc (.cells #[.slice none 0 0, .int .i64 k] 28)) := (mem.start w).alloc _
    exact memPut m (.inl rfl) (fun h => absurd rfl h)⟩
theorem npost_no {w w1 : World} {k : Int} {r : List Vn × Int} (hb : Below w.heap.size w w1) (hr : r = ([], k)) : NPost w r (.returned (.agg #[.slice none 0 0, .int .i64 k])) ((w1.setCell ⟨w.heap.size, 0, none⟩ (.slice none 0 0)).setCell ⟨w.heap.size, 1, none⟩ (.int .i64 k)) := by
  subst hr
  have b2 := (hb.setCell (p := ⟨w.heap.size, 0, none⟩) (by simp) (.slice none 0 0)).setCell (p := ⟨w.heap.size, 1, none⟩) (by simp) (.int .i64 k)
  refine ⟨none, 0, [], rfl, rfl, ?_⟩
  exact ⟨b2, by simp, by simp, by intro p hp; simp [mines] at hp; subst hp; exact .inl rfl, by intro p hp hx; simp [mines] at hp; subst hp; exact absurd rfl hx, by simp [mines]⟩
set_option maxRecDepth 100000 in
set_option maxHeartbeats 4000000 in
theorem readS_any (s : ByteArray) (w : World) (hs : s.size ≤ 1048576) :
    Calls Try.prog 14 #[.string s] w (NPost w (readA s)) := by
  have hb0 := blk_new w (.cells #[.slice none 0 0, .int .i64 0] 28) w.heap.size rfl
  have HB0 := mkHid (below_alloc1 w (.cells #[.slice none 0 0, .int .i64 0] 28))
  have hsi : (s.size : Int) ≤ 1048576 := by omega
  by_cases h1 : 20000 < s.size
  · have F : Hid (NPost w (readA s) _ _) := mkHid (npost_new (k := 2) (by unfold readA; rw [if_pos h1]))
    have h1i : (20000 : Int) < (s.size : Int) := by omega
    clear hb0 HB0
    go_enter Try.func14, Try.ntmps14
    go_wp2
    refine bodyPost_ret (v := .agg #[.slice none 0 0, .int .i64 2]) ?_ rfl F.out
    simp [results, Try.results14, go_sem]
  have h1i : (s.size : Int) ≤ 20000 := by omega
  have HR := mkHid (l11R_any s (w.alloc (.cells #[.slice none 0 0, .int .i64 0] 28)) (by omega))
  have hbk := mkHid hb0
  clear hb0
  go_enter Try.func14, Try.ntmps14
  go_wp2_with fail
  refine HR.out.mono ?_
  rintro e w1 ⟨a, c, ds, b, rfl, hyes, hno, hl, hsm, hM⟩
  have hb1 := blk_below hbk.out hM.below
  obtain ⟨z0, z1⟩ := cel2 hb1
  have uf := unfrozen hb1
  cases b with
  | false =>
    have F : Hid (NPost w (readA s) _ _) := mkHid (npost_no (k := 3) (HB0.out.trans (hM.below.mono HB0.out.size)) (hno rfl))
    clear hyes hno hsm hM hb1 HR HB0 hbk
    go_wp2
    refine bodyPost_ret (v := .agg #[.slice none 0 0, .int .i64 3]) ?_ rfl F.out
    simp [results, Try.results14, go_sem, z0, z1]
  | true =>
    have hE := hyes rfl
    have F : Hid (NPost w (readA s) (.returned (.agg #[.slice a ds.length c, .int .i64 0])) _) := mkHid ⟨a, c, ds, by rw [hE], by rw [hE], mem_low2 hM HB0.out (Nat.le_refl _) (by simp) (.slice a ds.length c) (.int .i64 0)⟩
    clear hyes hno hsm hM hb1 HR HB0 hbk hE
    go_wp2
    refine bodyPost_ret (v := .agg #[.slice a ds.length c, .int .i64 0]) ?_ rfl F.out
    simp [results, Try.results14, go_sem, z0, z1]
end Go.Proofs.Ytmmmadehifajlaa.nod
