/-
  Lists of numbers that are drawn: (*l01Src).between, list and edge: what they answer and leave. Condition: the source lies in one block of its own.
  Drives with ops, and with lists of numbers, that are drawn: spec.DrawDriveDo and DrawDriveCrash: what they answer and leave. Condition: the bytes lie in memory and are at most 1,048,576.
-/
import Derived.Test.YtfckgpmphcadeaaZName8
import Derived.Test.YtfckgpmphcadeaaIntM
import Derived.Test.YtfckgpmphcadeaaZDrive9
import Derived.Test.YtfckgpmphcadeaaMemW
namespace Go.Proofs.Ytfckgpmphcadeaa.draw
open Go.RowKit Go.Joins
open Go.Proofs.Ytfckgpmphcadeaa.base Go.Proofs.Ytfckgpmphcadeaa.blk Go.Proofs.Ytfckgpmphcadeaa.aid
open Go.Proofs.Ytfckgpmphcadeaa.row (Rd Own OwnV appSem app_fold app1)
open Go.Proofs.Ytfckgpmphcadeaa.ints (ix)
set_option linter.unusedVariables false
attribute [local go_sem ↓] app_fold

set_option maxRecDepth 100000 in
theorem between_any (g : Nat) (lo hi : Int) (w : World) (h0 : -1000 ≤ lo) (h1 : lo < hi) (h2 : hi ≤ 1000) (h : SrcAt w g) :
    Calls Try.prog 108 #[.pointer (some ⟨g, 0, none⟩), .int .i64 lo, .int .i64 hi] w fun e w' => ∃ r : Int, e = .returned (.int .i64 r) ∧ lo ≤ r ∧ r ≤ hi ∧ SrcAt w' g ∧ w.grownBy w' (some g) := by
  have HN := mkHid (n_any g (hi - lo + 1) w (by omega) h)
  clear h
  go_enter Try.func108, Try.ntmps108
  go_wp2_with fail
  refine HN.out.mono ?_
  rintro e w1 ⟨r, rfl, hr0, hr1, _, hs1, hg1⟩
  have hr1' := hr1 (by omega)
  have S1 := mkHid (And.intro hs1 hg1)
  clear hs1 hg1 hr1 HN
  go_wp2
  go_ret
  exact ⟨lo + r, rfl, by omega, by omega, S1.out.1, S1.out.2⟩

/-- a number is drawn -/
def DrewNum (w : World) (g : Nat) (e : Ending) (w' : World) : Prop := ∃ r : Int, e = .returned (.int .i64 r) ∧ SrcAt w' g ∧ w.grownBy w' (some g)
def edges : List Value := [.int .i64 0, .int .i64 1, .int .i64 (-1), .int .i64 2, .int .i64 1000, .int .i64 1001, .int .i64 2147483648, .int .i64 2147483647, .int .i64 (-2147483648), .int .i64 4611686018427387904, .int .i64 9223372036854775807, .int .i64 (-9223372036854775808), .int .i64 1000000, .int .i64 1000001]
theorem edges_at (m : Nat) (h : m < 14) : ∃ z : Int, edges[m]? = some (.int .i64 z) := by
  unfold edges
  rcases (show m = 0 ∨ m = 1 ∨ m = 2 ∨ m = 3 ∨ m = 4 ∨ m = 5 ∨ m = 6 ∨ m = 7 ∨ m = 8 ∨ m = 9 ∨ m = 10 ∨ m = 11 ∨ m = 12 ∨ m = 13 by omega) with rfl | rfl | rfl | rfl | rfl | rfl | rfl | rfl | rfl | rfl | rfl | rfl | rfl | rfl
  all_goals exact ⟨_, rfl⟩
set_option maxRecDepth 100000 in
theorem edge_any (g : Nat) (w : World) (h : SrcAt w g) :
    Calls Try.prog 65 #[.pointer (some ⟨g, 0, none⟩)] w fun e w' => DrewNum w g e w' := by
  have hgl := h.lt
  have hb0 : (w.alloc (.cells edges.toArray 2)).heap[w.heap.size]? = some (.cells edges.toArray 2) := blk_new w _ _ rfl
  have HN := mkHid (n_any g 14 (w.alloc (.cells edges.toArray 2)) (by omega) (h.below (below_alloc1 w _)))
  have HG := mkHid (World.grownBy_alloc w (.cells edges.toArray 2) (some g))
  have HB := mkHid hb0
  clear h hb0
  have hsz : (w.alloc (.cells edges.toArray 2)).heap.size = w.heap.size + 1 := by simp
  go_enter Try.func65, Try.ntmps65
  go_wp2_with fail
  refine HN.out.mono ?_
  rintro e w1 ⟨r, rfl, hr0, hr1, _, hs1, hg1⟩
  have hr1' := hr1 (by omega)
  obtain ⟨m, rfl⟩ := Int.eq_ofNat_of_zero_le hr0
  have hm : m < 14 := by omega
  obtain ⟨z, hz⟩ := edges_at m hm
  have hb1 := (hg1.block w.heap.size (by rw [hsz]; omega) (by simp; omega)).trans HB.out
  have hc : w1.cell? ⟨w.heap.size, m, none⟩ = some (.int .i64 z) := by rw [cell_of_row _ _ m _ _ _ hb1]; simpa using hz
  have S1 := mkHid (And.intro hs1 (grown_trans HG.out hg1))
  clear hs1 hg1 hr1 HN hz hb1
  go_wp2
  go_ret
  exact ⟨z, rfl, S1.out.1, S1.out.2⟩

/-- numbers are drawn, into a row that may grow -/
def DrewList (w : World) (g : Nat) (e : Ending) (w' : World) : Prop :=
  ∃ (ks : List Int) (q c : Nat), e = .returned (.slice (some ⟨q, 0, none⟩) ks.length c) ∧ ks.length ≤ 20 ∧ w'.ownsRow w.heap.size 2 1 (.slice (some ⟨q, 0, none⟩) ks.length c) ks.length (ix ks) ∧ SrcAt w' g ∧ w.grownBy w' (some g)
theorem info64 : (Try.prog.info? 2).map (fun i => (i.zero, i.size, i.bytes)) = some (some (.int .i64 0), 1, 8) := by kernel_rfl
theorem app64 (W : World) (base : Nat) (v : Value) (k : Nat) (acc : List Int) (x : Int) (hn : acc.length = k) (hown : W.ownsRow base 2 1 v k (ix acc)) (hb : base ≤ W.heap.size) (hl : k ≤ 1048576) :
    ∃ g c w2, (appSem #[34, 34] 34 #[v, .slice (some ⟨W.heap.size, 0, none⟩) 1 1]).run Try.prog (W.alloc (.cells #[.int .i64 x] 2)) = .ok (.slice (some ⟨g, 0, none⟩) (k + 1) c) w2 ∧ w2.ownsRow base 2 1 (.slice (some ⟨g, 0, none⟩) (k + 1) c) (k + 1) (ix (acc ++ [x])) ∧ (W.alloc (.cells #[.int .i64 x] 2)).grownBy w2 v.ownBlock := by
  obtain ⟨g, c, w2, h1, h2, h3⟩ := app1 (W := W) (base := base) (S := 34) (T := 2) (size := 1) (bytes := 8) Try.underlying34 info64 rfl (by decide) v k (ix acc) [.int .i64 x] rfl (by intro u hu; simp at hu; subst hu; rfl) hown hb hl (by decide)
  exact ⟨g, c, w2, h1, by rw [show ix (acc ++ [x]) = ix acc ++ [.int .i64 x] by simp [ix]]; exact h2, h3⟩
/-- what stands in memory while numbers are drawn -/
structure Ks (w : World) (g : Nat) (acc : List Int) (v : Value) (W : World) : Prop where
  src : SrcAt W g
  grown : w.grownBy W (some g)
  row : W.ownsRow w.heap.size 2 1 v acc.length (ix acc)
  hg : g < w.heap.size
theorem Ks.draw {w W W' : World} {g : Nat} {acc : List Int} {v : Value} (h : Ks w g acc v W) (hs : SrcAt W' g) (hg : W.grownBy W' (some g)) : Ks w g acc v W' :=
  ⟨hs, grown_trans h.grown hg, h.row.kept hg (by
    rcases hq : v.ownBlock with _ | q
    · exact .inl rfl
    · exact .inr (by have := (h.row.lt q hq).1; have := h.hg; simp; omega)), h.hg⟩
theorem Ks.app {w W : World} {g : Nat} {acc : List Int} {v : Value} (h : Ks w g acc v W) (x : Int) (hl : acc.length ≤ 1000) :
    ∃ q c w2, (appSem #[34, 34] 34 #[v, .slice (some ⟨W.heap.size, 0, none⟩) 1 1]).run Try.prog (W.alloc (.cells #[.int .i64 x] 2)) = .ok (.slice (some ⟨q, 0, none⟩) (acc.length + 1) c) w2 ∧ Ks w g (acc ++ [x]) (.slice (some ⟨q, 0, none⟩) (acc.length + 1) c) w2 := by
  have hs := h.grown.size
  obtain ⟨q, c, w2, h1, h2, h3⟩ := app64 W w.heap.size v acc.length acc x rfl h.row hs (by omega)
  have hbl : Below w.heap.size W w2 := ((Below.refl w.heap.size W).alloc hs _).grown h3 (by simp; omega) (fun x hx => (h.row.lt x hx).1)
  refine ⟨q, c, w2, h1, h.src.upto (hbl.mono (by have := h.hg; omega)), grown_new h.grown hbl, ?_, h.hg⟩
  have e : (acc ++ [x]).length = acc.length + 1 := by simp
  rw [e]
  exact h2
set_option maxRecDepth 100000 in
set_option maxHeartbeats 1000000 in
theorem list_any (g n : Nat) (lo hi : Int) (w : World) (hn : n ≤ 19) (h0 : -1000 ≤ lo) (h1 : lo < hi) (h2 : hi ≤ 1000) (h : SrcAt w g) :
    Calls Try.prog 62 #[.pointer (some ⟨g, 0, none⟩), .int .i64 n, .int .i64 lo, .int .i64 hi] w fun e w' => DrewList w g e w' := by
  have HB := mkHid (fun wx (hx : SrcAt wx g) => between_any g lo hi wx h0 h1 h2 hx)
  have S0 : Hid (Ks w g [] (.slice (some ⟨w.heap.size, 0, none⟩) 0 0) (w.alloc (.cells #[] 2))) := mkHid ⟨h.below (below_alloc1 w _), World.grownBy_alloc w _ _, World.ownsRow_made (base := w.heap.size) (size := 1) w #[] 0 (Nat.le_refl _) (by decide) rfl, h.lt⟩
  clear h
  go_enter Try.func62, Try.ntmps62
  go_wp2_with fail
  go_loopw [1, 9] (fun i v wr => ∃ (k : Nat) (acc : List Int) (q c : Nat), i = .int .i64 k ∧ v = .slice (some ⟨q, 0, none⟩) acc.length c ∧ acc.length + k ≤ 19 ∧ Hid (Ks w g acc (.slice (some ⟨q, 0, none⟩) acc.length c) wr))
    (fun i _ _ => (intOf i).toNat)
  case atStart => exact ⟨n, [], w.heap.size, 0, rfl, rfl, by simpa using hn, S0⟩
  case round =>
    clear S0
    obtain ⟨k, acc, q, c, rfl, rfl, hle, hS⟩ := hrel
    by_cases hk : 0 < k
    · have hki : 0 < (k : Int) := by omega
      have hki2 : (k : Int) ≤ 19 := by omega
      go_wp2_with fail
      refine (HB.out _ hS.out.src).mono ?_
      rintro e w2 ⟨x, rfl, hx0, hx1, hs2, hg2⟩
      obtain ⟨q2, c2, w3, hrun, S3⟩ := (hS.out.draw hs2 hg2).app x (by omega)
      have N1 : Hid (Ks w g (acc ++ [x]) (.slice (some ⟨q2, 0, none⟩) (acc ++ [x]).length c2) w3) := mkHid (by simpa using S3)
      clear S3 hS hs2 hg2
      go_wp2
      exact ⟨⟨k - 1, acc ++ [x], q2, c2, by go_num, by simp, by simp; omega, N1⟩, by simp [intOf]; omega⟩
    · obtain rfl : k = 0 := by omega
      go_wp2
      go_ret
      exact ⟨acc, q, c, rfl, by omega, hS.out.row, hS.out.src, hS.out.grown⟩
end Go.Proofs.Ytfckgpmphcadeaa.draw
namespace Go.Proofs.Ytfckgpmphcadeaa.draw
open Go.RowKit Go.Joins
open Go.Proofs.Ytfckgpmphcadeaa.base Go.Proofs.Ytfckgpmphcadeaa.blk Go.Proofs.Ytfckgpmphcadeaa.aid Go.Proofs.Ytfckgpmphcadeaa.drv
open Go.Proofs.Ytfckgpmphcadeaa.row (Rd Own OwnV appSem app_fold)
open Go.Proofs.Ytfckgpmphcadeaa.rwStored (cs)
open Go.Proofs.Ytfckgpmphcadeaa.ints (ix)
open Go.Proofs.Ytfckgpmphcadeaa.mem (Mem Off Mine)
set_option linter.unusedVariables false
attribute [local go_sem ↓] app_fold

/-- a block that was made since grows -/
theorem mem_grew {W wx w' : World} {bs : List (Nat × Obj)} {rs : List (Option Addr × List Value)} {G : Nat} (h : Mem W bs rs [] wx) (hg : wx.grownBy w' (some G)) (hG : W.heap.size ≤ G) (hb : ∀ p ∈ bs, p.1 ≠ G) (hr : ∀ p ∈ rs, Off p.1 p.2 G) : Mem W bs rs [] w' :=
  ⟨h.below.grown hg h.below.size (fun k e => by cases e; exact hG), fun p hp => (hg.block p.1 (Array.getElem?_eq_some_iff.1 (h.b p hp)).1 (by simpa using hb p hp)).trans (h.b p hp), fun p hp => mem.rd_off (h.r p hp) hg (fun b e => by cases e; exact hr p hp), by simp, by simp, .nil⟩
theorem mem_addrow {W wx : World} {bs : List (Nat × Obj)} {rs : List (Option Addr × List Value)} {a : Option Addr} {xs : List Value} (h : Mem W bs rs [] wx) (hr : Rd wx a xs) : Mem W bs ((a, xs) :: rs) [] wx :=
  ⟨h.below, h.b, fun p hp => by
    rcases List.mem_cons.1 hp with rfl | hp
    · exact hr
    · exact h.r p hp, by simp, by simp, .nil⟩
theorem off_ge {a : Option Addr} {xs : List Value} {G n : Nat} (h : ∀ b o s, a = some ⟨b, o, s⟩ → n ≤ b) (hG : G < n) : Off a xs G := .inr (fun o s e => by have := h G o s e; omega)
theorem rd_set {W : World} {a : Option Addr} {xs : List Value} {z i : Nat} {v : Value} (h : Rd W a xs) (ho : Off a xs z) : Rd (W.setCell ⟨z, i, none⟩ v) a xs := mem.rd_off h (grew_cell W z i v) (fun b e => by cases e; exact ho)
/-- what DrawDriveDo answers and leaves -/
def DDo (w : World) (e : Ending) (w' : World) : Prop :=
  ∃ (a : Option Addr) (c : Nat) (l : List File) (r k : Int) (n t x : ByteArray), e = .returned (.tuple #[.agg #[.slice a l.length c, .int .i64 r], .agg #[.int .i64 k, .string n, .string t, .string x]]) ∧ l.length ≤ 100 ∧ Small l ∧ l.length ≤ c ∧ n.size ≤ 20 ∧ t.size ≤ 20 ∧ x.size ≤ 20 ∧ Rd w' a (cs l) ∧ Below w.heap.size w w'

set_option maxRecDepth 100000 in
set_option maxHeartbeats 2000000 in
theorem drawDo_any (a : Option Addr) (len cap : Nat) (w : World) (hl : len ≤ 1048576) (hr : Row w a len) :
    Calls Try.prog 10 #[.slice a len cap] w fun e w' => DDo w e w' := by
  have S0 := mkHid (((mem.start w).var (.cells #[.slice none 0 0, .int .i64 0] 25)).var (.cells #[.int .i64 0, .string ⟨#[]⟩, .string ⟨#[]⟩, .string ⟨#[]⟩] 27))
  have hz1 : (w.alloc (.cells #[.slice none 0 0, .int .i64 0] 25)).heap.size = w.heap.size + 1 := by simp
  have hz2 : ((w.alloc (.cells #[.slice none 0 0, .int .i64 0] 25)).alloc (.cells #[.int .i64 0, .string ⟨#[]⟩, .string ⟨#[]⟩, .string ⟨#[]⟩] 27)).heap.size = w.heap.size + 1 + 1 := by simp
  rw [hz1] at S0
  have HS := mkHid (source_any a len cap ((w.alloc (.cells #[.slice none 0 0, .int .i64 0] 25)).alloc (.cells #[.int .i64 0, .string ⟨#[]⟩, .string ⟨#[]⟩, .string ⟨#[]⟩] 27)) hl (hr.below S0.out.below))
  unfold Made at HS
  rw [hz2] at HS
  clear hr hz1
  go_enter Try.func10, Try.ntmps10
  go_wp2_with fail
  refine HS.out.mono ?_
  rintro e w1 ⟨rfl, hs1, hb1⟩
  have S1 := mkHid (S0.out.next (by rw [hz2]; exact hb1))
  have hg1 := hs1.lt
  have HB := mkHid (drive_any _ w1 hs1)
  clear hs1 hb1 HS S0 hz2
  go_wp2_with fail
  refine HB.out.mono ?_
  rintro e w2 ⟨a2, c2, l, r, rfl, h1, h2, h3, _, _, hr2, hf2, hs2, hg2⟩
  have hw2 := hg2.size
  have S2 := mkHid ((mem_addrow (mem_grew S1.out hg2 (by omega) (fun p hp => by simp at hp; rcases hp with rfl | rfl <;> simp <;> omega) (fun p hp => by cases hp)) hr2).var (.cells #[.slice a2 l.length c2, .int .i64 r] 25))
  have HOp := mkHid (fun wx (hx : SrcAt wx (w.heap.size + 1 + 1)) => op_any (w.heap.size + 1 + 1) wx hx)
  have HSrc := mkHid (hs2.below (below_alloc1 w2 (.cells #[.slice a2 l.length c2, .int .i64 r] 25)))
  have n1 : ¬ w2.heap.size = w.heap.size := by omega
  have n2 : ¬ w.heap.size = w2.heap.size := by omega
  have n3 : ¬ w2.heap.size = w.heap.size + 1 := by omega
  have n4 : ¬ w.heap.size + 1 = w2.heap.size := by omega
  obtain ⟨c0, c1⟩ := cel2 S2.out.b0
  clear hs2 hg2 hr2 S1 HB
  go_wp2_with fail
  go_region_held3 (fun w' => w'.cell? ⟨w2.heap.size, 0, none⟩ = some (.slice a2 l.length c2) ∧ w'.cell? ⟨w2.heap.size, 1, none⟩ = some (.int .i64 r)) (go_keep)
    (first
     | (go_at_call 55; refine Calls.mono (HOp.out _ (by exact HSrc.out)) ?_; rintro e w3 ⟨k, n, t, x, rfl, h4, h5, h6, hs3, hg3⟩; have S3 := mkHid (mem_grew S2.out (grew_from hg3 rfl rfl rfl rfl) (by omega) (fun p hp => by simp at hp; rcases hp with rfl | rfl | rfl <;> simp <;> omega) (fun p hp => by simp at hp; subst hp; exact off_ge hf2 hg1)); obtain ⟨b0, b1⟩ := cel2 S3.out.b0; obtain ⟨d0, d1⟩ := cel2 S3.out.b2; have df := unfrozen S3.out.b2; obtain ⟨o0, o1, o2, o3⟩ := aid.cel4 S3.out.b1; have of := unfrozen S3.out.b1; clear hs3 hg3))
  have q0 : Off a2 (cs l) w.heap.size := off_ge hf2 (by omega)
  have q1 : Off a2 (cs l) (w.heap.size + 1) := off_ge hf2 (by omega)
  have HF : Hid (DDo w (.returned (.tuple #[.agg #[.slice a2 l.length c2, .int .i64 r], .agg #[.int .i64 k, .string n, .string t, .string x]])) ((((((w3.setCell ⟨w.heap.size, 0, none⟩ (.slice a2 l.length c2)).setCell ⟨w.heap.size, 1, none⟩ (.int .i64 r)).setCell ⟨w.heap.size + 1, 0, none⟩ (.int .i64 k)).setCell ⟨w.heap.size + 1, 1, none⟩ (.string n)).setCell ⟨w.heap.size + 1, 2, none⟩ (.string t)).setCell ⟨w.heap.size + 1, 3, none⟩ (.string x))) := mkHid ⟨a2, c2, l, r, k, n, t, x, rfl, h1, h2, h3, by omega, by omega, by omega, rd_set (rd_set (rd_set (rd_set (rd_set (rd_set S3.out.r0 q0) q0) q1) q1) q1) q1, (((((S3.out.below.setCell (by simp) _).setCell (by simp) _).setCell (by simp) _).setCell (by simp) _).setCell (by simp) _).setCell (by simp) _⟩
  clear S3 S2 q0 q1
  go_wp2
  exact bodyPost_ret (v := .tuple #[.agg #[.slice a2 l.length c2, .int .i64 r], .agg #[.int .i64 k, .string n, .string t, .string x]]) (by simp [results, Try.results10, go_sem, d0, d1, o0, o1, o2, o3]) rfl HF.out
/-- what DrawDriveCrash answers and leaves -/
def DCr (w : World) (e : Ending) (w' : World) : Prop :=
  ∃ (a : Option Addr) (c : Nat) (l : List File) (r : Int) (ak : Option Addr) (ck : Nat) (ks : List Int), e = .returned (.tuple #[.agg #[.slice a l.length c, .int .i64 r], .slice ak ks.length ck]) ∧ ks.length ≤ 30 ∧ Rd w' ak (ix ks) ∧ Below w.heap.size w w'
set_option maxRecDepth 100000 in
set_option maxHeartbeats 2000000 in
theorem drawCrash_any (a : Option Addr) (len cap : Nat) (w : World) (hl : len ≤ 1048576) (hr : Row w a len) :
    Calls Try.prog 14 #[.slice a len cap] w fun e w' => DCr w e w' := by
  have S0 := mkHid ((mem.start w).var (.cells #[.slice none 0 0, .int .i64 0] 25))
  have hz1 : (w.alloc (.cells #[.slice none 0 0, .int .i64 0] 25)).heap.size = w.heap.size + 1 := by simp
  have HS := mkHid (source_any a len cap (w.alloc (.cells #[.slice none 0 0, .int .i64 0] 25)) hl (hr.below S0.out.below))
  unfold Made at HS
  rw [hz1] at HS
  have HN := mkHid (fun wx m (hm : m ≤ 9223372036854775807) (hx : SrcAt wx (w.heap.size + 1)) => n_any (w.heap.size + 1) m wx hm hx)
  have HO := mkHid (fun wx n (hm : n ≤ 9223372036854775807) (hx : SrcAt wx (w.heap.size + 1)) => one_any (w.heap.size + 1) n wx hm hx)
  have HE := mkHid (fun wx (hx : SrcAt wx (w.heap.size + 1)) => edge_any (w.heap.size + 1) wx hx)
  have HL := mkHid (fun wx n (hn : n ≤ 19) (hx : SrcAt wx (w.heap.size + 1)) => list_any (w.heap.size + 1) n (-2) 14 wx hn (by omega) (by omega) (by omega) hx)
  clear hr
  go_enter Try.func14, Try.ntmps14
  go_wp2_with fail
  refine HS.out.mono ?_
  rintro e w1 ⟨rfl, hs1, hb1⟩
  have S1 := mkHid (S0.out.next (by rw [hz1]; exact hb1))
  have hg1 := hs1.lt
  have HB := mkHid (drive_any _ w1 hs1)
  clear hs1 hb1 HS S0 hz1
  go_wp2_with fail
  refine HB.out.mono ?_
  rintro e w2 ⟨a2, c2, l, r, rfl, h1, h2, h3, _, _, hr2, hf2, hs2, hg2⟩
  have hw2 := hg2.size
  have S2 := mkHid ((mem_grew S1.out hg2 (by omega) (fun p hp => by simp at hp; rcases hp with rfl; simp) (fun p hp => by cases hp)).var (.cells #[.slice a2 l.length c2, .int .i64 r] 25))
  have H2 := mkHid (hs2.below (below_alloc1 w2 (.cells #[.slice a2 l.length c2, .int .i64 r] 25)))
  have n1 : ¬ w2.heap.size = w.heap.size := by omega
  have n2 : ¬ w.heap.size = w2.heap.size := by omega
  have hw2a : (w2.alloc (.cells #[.slice a2 l.length c2, .int .i64 r] 25)).heap.size = w2.heap.size + 1 := by simp
  clear hs2 hg2 S1 HB hr2 hf2 h2 h3
  go_wp2_with fail
  refine (HN.out _ 7 (by omega) H2.out).mono ?_
  rintro e w3 ⟨m, rfl, hm0, hm1, _, hs3, hg3⟩
  have hm1' := hm1 (by omega)
  obtain ⟨m, rfl⟩ := Int.eq_ofNat_of_zero_le hm0
  have hw3 := hg3.size
  rw [hw2a] at hw3
  have S3 := mkHid (mem_grew S2.out hg3 (by omega) (fun p hp => by simp at hp; rcases hp with rfl | rfl <;> simp <;> omega) (fun p hp => by cases hp))
  have H3 := mkHid hs3
  clear hs3 hg3 S2 H2 hm1 hw2a
  go_wp2_with fail
  refine (HL.out _ m (by omega) H3.out).mono ?_
  rintro e w4 ⟨ks, q, ck, rfl, hk20, hown, hs4, hg4⟩
  have hw4 := hg4.size
  have S4 := mkHid (mem_grew S3.out hg4 (by omega) (fun p hp => by simp at hp; rcases hp with rfl | rfl <;> simp <;> omega) (fun p hp => by cases hp))
  have H4 := mkHid hs4
  have O4 := mkHid hown
  clear hs4 hg4 S3 H3 hown
  go_wp2_with fail
  refine (HO.out _ 10 (by omega) H4.out).mono ?_
  rintro e w5 ⟨b, rfl, hs5, hg5⟩
  have hw5 := hg5.size
  have hq4 := O4.out.lt q rfl
  have S5 := mkHid (mem_grew S4.out hg5 (by omega) (fun p hp => by simp at hp; rcases hp with rfl | rfl <;> simp <;> omega) (fun p hp => by cases hp))
  have H5 := mkHid hs5
  have O5 := mkHid (O4.out.kept hg5 (.inr (by simp [Value.ownBlock]; omega)))
  clear hs5 hg5 S4 H4 O4
  cases b with
  | false =>
    obtain ⟨b0, b1⟩ := cel2 S5.out.b0
    obtain ⟨d0, d1⟩ := cel2 S5.out.b1
    have df := unfrozen S5.out.b1
    have HF : Hid (DCr w (.returned (.tuple #[.agg #[.slice a2 l.length c2, .int .i64 r], .slice (some ⟨q, 0, none⟩) ks.length ck])) ((w5.setCell ⟨w.heap.size, 0, none⟩ (.slice a2 l.length c2)).setCell ⟨w.heap.size, 1, none⟩ (.int .i64 r))) := mkHid ⟨a2, c2, l, r, some ⟨q, 0, none⟩, ck, ks, rfl, by omega, (OwnV.rd (.inr ⟨q, rfl, Own.owns (n := ks.length) (c := ck) (ownsRow_setCell_below (ownsRow_setCell_below O5.out (a := ⟨w.heap.size, 0, none⟩) (by show w.heap.size < _; omega) _) (a := ⟨w.heap.size, 1, none⟩) (by show w.heap.size < _; omega) _)⟩)), (S5.out.below.setCell (by simp) _).setCell (by simp) _⟩
    clear S5 O5 H5
    go_wp2
    refine bodyPost_ret (v := .tuple #[.agg #[.slice a2 l.length c2, .int .i64 r], .slice (some ⟨q, 0, none⟩) ks.length ck]) ?_ rfl ?_
    rotate_left
    · exact HF.out
    · simp [results, Try.results14, go_sem, d0, d1]
  | true =>
    go_wp2_with fail
    refine (HE.out _ H5.out).mono ?_
    rintro e w6 ⟨z, rfl, hs6, hg6⟩
    have hw6 := hg6.size
    have S6 := mkHid (mem_grew S5.out hg6 (by omega) (fun p hp => by simp at hp; rcases hp with rfl | rfl <;> simp <;> omega) (fun p hp => by cases hp))
    have O6 := O5.out.kept hg6 (.inr (by simp [Value.ownBlock]; omega))
    obtain ⟨q2, c7, w7, hrun, hown7, hg7⟩ := app64 w6 w3.heap.size _ ks.length ks z rfl O6 (by omega) (by omega)
    have hbl := ((Below.refl w3.heap.size w6).alloc (by omega) _).grown hg7 (by simp; omega) (fun x hx => (O6.lt x hx).1)
    have hlen : (ks ++ [z]).length = ks.length + 1 := by simp
    have b7 := (hbl.block _ (by omega)).trans S6.out.b0
    have d7 := (hbl.block _ (by omega)).trans S6.out.b1
    obtain ⟨b0, b1⟩ := cel2 b7
    obtain ⟨d0, d1⟩ := cel2 d7
    have df := unfrozen d7
    have HF : Hid (DCr w (.returned (.tuple #[.agg #[.slice a2 l.length c2, .int .i64 r], .slice (some ⟨q2, 0, none⟩) (ks.length + 1) c7])) ((w7.setCell ⟨w.heap.size, 0, none⟩ (.slice a2 l.length c2)).setCell ⟨w.heap.size, 1, none⟩ (.int .i64 r))) := mkHid ⟨a2, c2, l, r, some ⟨q2, 0, none⟩, c7, ks ++ [z], by rw [hlen], by rw [hlen]; omega, (OwnV.rd (.inr ⟨q2, rfl, Own.owns (n := ks.length + 1) (c := c7) (ownsRow_setCell_below (ownsRow_setCell_below hown7 (a := ⟨w.heap.size, 0, none⟩) (by show w.heap.size < _; omega) _) (a := ⟨w.heap.size, 1, none⟩) (by show w.heap.size < _; omega) _)⟩)), ((S6.out.below.trans (hbl.mono (by omega))).setCell (by simp) _).setCell (by simp) _⟩
    clear S5 S6 O5 O6 hown7 hg7 hbl hg6 hs6 H5 b7 d7
    go_wp2
    refine bodyPost_ret (v := .tuple #[.agg #[.slice a2 l.length c2, .int .i64 r], .slice (some ⟨q2, 0, none⟩) (ks.length + 1) c7]) ?_ rfl ?_
    rotate_left
    · exact HF.out
    · simp [results, Try.results14, go_sem, d0, d1]
end Go.Proofs.Ytfckgpmphcadeaa.draw
