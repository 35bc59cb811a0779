/-
  laws.FnPlaces answers true at all bytes, and leaves what was there as it was. Condition: the bytes lie in memory.
-/
import Derived.Test.YtmoojhnblakdhaaGreatZPlaB
import Derived.Test.YtmoojhnblakdhaaGreatZDrwC
import Derived.Test.YtmoojhnblakdhaaGreatZLawA
import Derived.Test.YtmoojhnblakdhaaGreatZRdA
import Derived.Deep.DeepCutAuto
namespace Go.Proofs.YtmoojhnblakdhaaGreat.plc
open Go.RowKit Go.Joins
open Go.Proofs.YtmoojhnblakdhaaGreat.base Go.Proofs.YtmoojhnblakdhaaGreat.blk Go.Proofs.YtmoojhnblakdhaaGreat.aid
open Go.Proofs.YtmoojhnblakdhaaGreat.row (Rd Own OwnV)
open Go.Proofs.YtmoojhnblakdhaaGreat.rwPlace (cs el)
open Go.Proofs.YtmoojhnblakdhaaGreat.draw (Row)
set_option linter.unusedVariables false
set_option linter.unusedSimpArgs false

/-- what stands in memory while the law runs: blocks and rows -/
structure Kx (w : World) (bs : List (Nat × Obj)) (rs : List (Option Addr × List Value)) (W : World) : Prop where
  below : Below w.heap.size w W
  b : ∀ p ∈ bs, W.heap[p.1]? = some p.2
  r : ∀ p ∈ rs, Rd W p.1 p.2
variable {w W W' : World} {bs : List (Nat × Obj)} {rs : List (Option Addr × List Value)}
theorem Kx.start {a : Option Addr} {xs : List Value} (hb : Below w.heap.size w W) (hr : Rd W a xs) : Kx w [] [(a, xs)] W := ⟨hb, (fun p hp => by cases hp), fun p hp => by
  rw [List.mem_singleton] at hp
  subst hp
  exact hr⟩
theorem Kx.next (h : Kx w bs rs W) (hb : Below W.heap.size W W') : Kx w bs rs W' := ⟨h.below.trans (hb.mono h.below.size), fun p hp => blk_below (h.b p hp) hb, fun p hp => (h.r p hp).below hb⟩
theorem Kx.row (h : Kx w bs rs W) {a : Option Addr} {xs : List Value} (hr : Rd W a xs) : Kx w bs ((a, xs) :: rs) W := ⟨h.below, h.b, fun p hp => by
  rcases List.mem_cons.1 hp with rfl | hp
  · exact hr
  · exact h.r p hp⟩
theorem Kx.var (h : Kx w bs rs W) (o : Obj) : Kx w ((W.heap.size, o) :: bs) rs (W.alloc o) := by
  have h2 := h.next (below_alloc1 W o)
  refine ⟨h2.below, fun p hp => ?_, h2.r⟩
  rcases List.mem_cons.1 hp with rfl | hp
  · exact blk_new W o _ rfl
  · exact h2.b p hp
theorem Kx.drewN (h : Kx w bs rs W) (n : Nat) : Kx w bs rs (W.drewN n) := h.next ⟨rfl, rfl, rfl, Nat.le_refl _, fun _ _ => rfl⟩
theorem Kx.drew (h : Kx w bs rs W) : Kx w bs rs W.drew := h.next ⟨rfl, rfl, rfl, Nat.le_refl _, fun _ _ => rfl⟩
theorem Kx.b0 {p : Nat × Obj} (h : Kx w (p :: bs) rs W) : W.heap[p.1]? = some p.2 := h.b p (by simp)
theorem Kx.b1 {p q : Nat × Obj} (h : Kx w (q :: p :: bs) rs W) : W.heap[p.1]? = some p.2 := h.b p (by simp)
theorem Kx.b2 {p q o : Nat × Obj} (h : Kx w (o :: q :: p :: bs) rs W) : W.heap[p.1]? = some p.2 := h.b p (by simp)
theorem Kx.r0 {p : Option Addr × List Value} (h : Kx w bs (p :: rs) W) : Rd W p.1 p.2 := h.r p (by simp)
theorem Kx.r1 {p q : Option Addr × List Value} (h : Kx w bs (q :: p :: rs) W) : Rd W p.1 p.2 := h.r p (by simp)
theorem Kx.r2 {p q o : Option Addr × List Value} (h : Kx w bs (o :: q :: p :: rs) W) : Rd W p.1 p.2 := h.r p (by simp)
theorem Kx.r3 {p q o s : Option Addr × List Value} (h : Kx w bs (s :: o :: q :: p :: rs) W) : Rd W p.1 p.2 := h.r p (by simp)
theorem Kx.r4 {p q o s u : Option Addr × List Value} (h : Kx w bs (u :: s :: o :: q :: p :: rs) W) : Rd W p.1 p.2 := h.r p (by simp)
theorem find_size {l : List Pl} (h : Good l) (k : ByteArray) : (findA l k).1.2.1.size ≤ 1000 := by
  unfold findA
  split
  · show 0 ≤ 1000; omega
  split
  · show 0 ≤ 1000; omega
  split
  · show 0 ≤ 1000; omega
  · rename_i p hp
    unfold findP at hp
    have := h p (List.mem_of_find?_eq_some hp)
    show p.2.1.size ≤ 1000
    omega
theorem small_right {l : List Pl} (h : placesB l = true) : Small l := fun p hp => by
  have := plB_small (((placesB_iff l).1 h).2.2 p hp)
  omega
theorem bytes_zero {l : List Pl} (h : placesB l = false) : bytesP l = ⟨#[]⟩ := bytesP_no h
theorem sp_at {A B : List Pl} (h : A.map sp = B.map sp) {k : Nat} {x y : Pl} (hx : A[k]? = some x) (hy : B[k]? = some y) : x.1 = y.1 ∧ x.2.1 = y.2.1 := by
  have h1 : (A.map sp)[k]? = some (sp x) := by rw [List.getElem?_map, hx]; rfl
  have h2 : (B.map sp)[k]? = some (sp y) := by rw [List.getElem?_map, hy]; rfl
  rw [h, h2] at h1
  have e := Option.some.inj h1
  exact ⟨(congrArg Prod.fst e).symm, (congrArg Prod.snd e).symm⟩
set_option maxRecDepth 100000 in
set_option maxHeartbeats 8000000 in
theorem fnPlaces_in (a : Option Addr) (len cap : Nat) (b : Option Addr) (lenb capb : Nat) (w : World) (hl : len ≤ 1048576) (hr : Row w a len) (hlb : lenb ≤ 1048576) (hrb : Row w b lenb) :
    Calls Tryz.prog 3 #[.slice a len cap, .slice b lenb capb] w fun e w' => e = .returned (.bool true) ∧ Below w.heap.size w w' := by
  have hli : (len : Int) ≤ 1048576 := by omega
  have hlbi : (lenb : Int) ≤ 1048576 := by omega
  have HD := mkHid (drawFind_any a len cap w hl hr)
  have HA := mkHid (fun wx (h : Below w.heap.size w wx) => drawAdd_any b lenb capb wx hlb (hrb.below h))
  clear hl hr hlb hrb
  go_enter Tryz.func3, Tryz.ntmps3
  go_wp2_with fail
  refine HD.out.mono ?_
  rintro e w1 ⟨l, a1, c1, key, rfl, hll, hgd, hks, hr1, hb1⟩
  have S1 := mkHid (Kx.start hb1 hr1)
  have HBI := mkHid (fun wx (hx : Rd wx a1 (cs l)) => bytesI_any a1 c1 l wx (by omega) hgd.small hx)
  have HBS := mkHid (fun wx (hx : Rd wx a1 (cs l)) => bytesS_any a1 c1 l wx (by omega) hgd.small hx)
  have HRS := mkHid (fun wx (hx : Rd wx a1 (cs l)) => rightS_any a1 c1 l wx (by omega) hgd.small hx)
  have HRI := mkHid (fun wx (hx : Rd wx a1 (cs l)) => rightI_any a1 c1 l wx (by omega) hgd.small hx)
  have hback := mkHid (fun (h : placesB l = true) => read_back h)
  have hzero := mkHid (fun (h : placesB l = false) => bytes_zero h)
  have hli2 : (l.length : Int) ≤ 310 := by omega
  obtain ⟨t, ht⟩ : ∃ t, bytesP l = t := ⟨_, rfl⟩
  rw [ht] at HBI HBS hback hzero
  have httt : (!t.toList == t.toList) = false := by simp
  clear HD hr1 hb1 ht
  go_wp2_with fail
  refine (HBI.out _ S1.out.r0).mono ?_
  rintro e w2 ⟨rfl, hb2⟩
  have S2 := mkHid (S1.out.next hb2)
  clear hb2 S1 HBI
  go_wp2_with fail
  refine (HBS.out _ S2.out.r0).mono ?_
  rintro e w3 ⟨rfl, hb3⟩
  have S3 := mkHid (S2.out.next hb3)
  clear hb3 S2 HBS
  go_wp2_with fail
  refine (HRS.out _ S3.out.r0).mono ?_
  rintro e w4 ⟨rfl, hb4⟩
  have S4 := mkHid (S3.out.next hb4)
  clear hb4 S3 HRS
  cases hpb : placesB l with
  | false =>
    have e0 := hzero.out hpb
    rw [hpb] at HRI
    subst e0
    clear hback hzero
    go_wp2_with fail
    refine (HRI.out _ S4.out.r0).mono ?_
    rintro e w5 ⟨rfl, hb5⟩
    have S5 := mkHid (S4.out.next hb5)
    clear hb5 S4 HRI
    go_wp2
    go_ret
    exact ⟨rfl, S5.out.below⟩
  | true =>
    clear HRI hzero
    go_upto_if 48 with fail
    go_cut [4, 8] from 48 to 60 (fun u v wx => u = .bool false ∧ Hid (Kx w [] [(a1, cs l)] wx))
    case first =>
      by_cases hts : t.size ≤ 20000
      · have hti : (t.size : Int) ≤ 20000 := by omega
        have HR := mkHid (readI_any t w4 (by omega))
        rw [hback.out hpb hts] at HR
        clear hback
        go_wp2_with fail
        refine HR.out.mono ?_
        rintro e w5 ⟨a5, c5, rfl, ho5, _, hb5, _⟩
        have S5 := mkHid (((S4.out.next hb5).row ho5.rd).var (.cells #[.slice a5 l.length c5, .int .i64 0] 29))
        have HE := mkHid (plq.same_any a5 c5 a1 c1 l _ (by omega) S5.out.r0 S5.out.r1)
        obtain ⟨d0, d1⟩ := cel2 S5.out.b0
        clear ho5 hb5 HR S4
        simp only
        go_wp2_with fail
        refine HE.out.mono ?_
        rintro e w6 ⟨rfl, hb6⟩
        have S6 := mkHid (S5.out.next hb6)
        clear hb6 S5 HE d0 d1
        have S7 : Hid (Kx w [] [(a1, cs l)] w6) := mkHid ⟨S6.out.below, (fun p hp => by cases hp), fun p hp => by
          rw [List.mem_singleton] at hp
          subst hp
          exact S6.out.r1⟩
        go_wp2
        go_meet
        exact ⟨rfl, S7⟩
      · have hti : 20000 < (t.size : Int) := by omega
        clear hback
        go_wp2
        go_meet
        exact ⟨rfl, S4⟩
    case rest =>
    clear S4 hback httt
    obtain ⟨rfl, S5⟩ := hcut
    have HFI := mkHid (fun wx (hx : Rd wx a1 (cs l)) => placesFindI_any a1 c1 l key wx (by omega) hgd.small (by omega) hx)
    have HFS := mkHid (fun wx (hx : Rd wx a1 (cs l)) => placesFindS_any a1 c1 l key wx (by omega) hgd.small (by omega) hx)
    have hfk := fun (h : (findA l key).2 = 0) => find_key h
    have hfz := find_size hgd key
    generalize findA l key = pf at *
    obtain ⟨⟨y0, y1, y2, y3, y4⟩, yc⟩ := pf
    unfold outV at HFI HFS
    simp only at hfk hfz HFI HFS
    have HFK := mkHid hfk
    have hne := fun wx => plq.fo_ne y0 y1 y2 y3 y4 yc wx
    clear hfk
    go_wp2_with fail
    refine (HFI.out _ S5.out.r0).mono ?_
    rintro e w6 ⟨rfl, hb6⟩
    have S6 := mkHid ((S5.out.next hb6).var (.cells #[.string y0, .string y1, .int .i64 y2, .int .i64 y3, .int .i64 y4, .int .i64 yc] 35))
    clear hb6 S5 HFI
    go_upto_region 14 with fail
    go_cut [80] from 64 to 80 (fun v wx => v = .bool false ∧ Hid (Kx w [(w6.heap.size, .cells #[.string y0, .string y1, .int .i64 y2, .int .i64 y3, .int .i64 y4, .int .i64 yc] 35)] [(a1, cs l)] wx))
    case first =>
      obtain ⟨c0, c1', c2, c3, c4, c5⟩ := cel6 S6.out.b0
      generalize w6.alloc (.cells #[.string y0, .string y1, .int .i64 y2, .int .i64 y3, .int .i64 y4, .int .i64 yc] 35) = V at *
      by_cases hc : yc = 0
      · subst hc
        have hkk : (!y0.toList == key.toList) = false := by rw [HFK.out rfl]; rfl
        go_region_held3 (fun w' => w'.cell? ⟨w6.heap.size, 0, none⟩ = some (.string y0) ∧ w'.cell? ⟨w6.heap.size, 1, none⟩ = some (.string y1) ∧ w'.cell? ⟨w6.heap.size, 2, none⟩ = some (.int .i64 y2) ∧ w'.cell? ⟨w6.heap.size, 3, none⟩ = some (.int .i64 y3) ∧ w'.cell? ⟨w6.heap.size, 4, none⟩ = some (.int .i64 y4) ∧ w'.cell? ⟨w6.heap.size, 5, none⟩ = some (.int .i64 0)) (go_keep)
          ((go_at_call 12; refine Calls.mono (HFS.out _ (by exact S6.out.r0)) ?_; rintro e w7 ⟨rfl, hb7⟩; have r7 := re (w := V) hb7 rfl rfl rfl rfl; have S7 := mkHid (S6.out.next r7); obtain ⟨e0, e1, e2, e3, e4, e5⟩ := cel6 S7.out.b0; clear hb7 r7))
        go_wp2
        go_meet
        exact ⟨rfl, S7⟩
      · have hcn : (yc == 0) = false := by simpa using hc
        clear hc
        refine wp_region_held_drew (S := fun w' => w'.cell? ⟨w6.heap.size, 0, none⟩ = some (.string y0) ∧ w'.cell? ⟨w6.heap.size, 1, none⟩ = some (.string y1) ∧ w'.cell? ⟨w6.heap.size, 2, none⟩ = some (.int .i64 y2) ∧ w'.cell? ⟨w6.heap.size, 3, none⟩ = some (.int .i64 y3) ∧ w'.cell? ⟨w6.heap.size, 4, none⟩ = some (.int .i64 y4) ∧ w'.cell? ⟨w6.heap.size, 5, none⟩ = some (.int .i64 yc)) (by kernel_rfl) (by exact ⟨c0, c1', c2, c3, c4, c5⟩) (fun hHeld => ?_)
        refine wpAnyH_take (i := 0) (oi := Oper.mk _ _ _ _ _ _) (v := ?_) rfl (by kernel_rfl) (by kernel_rfl) (by kernel_rfl) (fun _ _ _ h => h) (Or.inl ⟨by rfl, ?_⟩) (by assumption) ?_
        rotate_left
        · intro w hSw
          try dsimp only at hSw
          go_simp
          all_goals with_reducible rfl
        try simp only [Act.put, List.setIfInBounds_toArray, List.set_cons_zero, List.set_cons_succ]
        refine wpAnyH_take (i := 1) (oi := Oper.mk _ _ _ _ _ _) (v := ?_) rfl (by kernel_rfl) (by kernel_rfl) (by kernel_rfl) (fun _ _ _ h => h) (Or.inl ⟨by rfl, ?_⟩) (by assumption) ?_
        rotate_left
        · intro w hSw
          try dsimp only at hSw
          go_simp
          all_goals with_reducible rfl
        try simp only [Act.put, List.setIfInBounds_toArray, List.set_cons_zero, List.set_cons_succ]
        refine wpAnyH_take (i := 2) (oi := Oper.mk _ _ _ _ _ _) (v := ?_) rfl (by kernel_rfl) (by kernel_rfl) (by kernel_rfl) (fun _ _ _ h => h) (Or.inl ⟨by rfl, ?_⟩) (by assumption) ?_
        rotate_left
        · intro w hSw
          try dsimp only at hSw
          go_simp
          all_goals with_reducible rfl
        try simp only [Act.put, List.setIfInBounds_toArray, List.set_cons_zero, List.set_cons_succ]
        refine wpAnyH_ready (rs := [3]) (by kernel_rfl) (by simp) ?_
        refine AllReadyH.cons (o := Oper.mk _ _ _ _ _ _) rfl (fun K hK => ?_) AllReadyH.nil
        go_simp
        refine Calls.mono (HFS.out _ (by exact S6.out.r0)) ?_
        rintro e w7 ⟨rfl, hb7⟩
        have r7 := re (w := V) hb7 rfl rfl rfl rfl
        have S7 := mkHid (S6.out.next r7)
        obtain ⟨e0, e1, e2, e3, e4, e5⟩ := cel6 S7.out.b0
        clear hb7 r7
        show K _ _
        refine hK.out _ _ ⟨e0, e1, e2, e3, e4, e5⟩ (fun hHeld => ?_)
        clear hK K
        try simp only [Act.put, List.setIfInBounds_toArray, List.set_cons_zero, List.set_cons_succ]
        refine wpAnyH_take (i := 4) (oi := Oper.mk _ _ _ _ _ _) (v := ?_) rfl (by kernel_rfl) (by kernel_rfl) (by kernel_rfl) (fun _ _ _ h => h) (Or.inl ⟨by rfl, ?_⟩) (by assumption) ?_
        rotate_left
        · intro w hSw
          try dsimp only at hSw
          go_simp
          all_goals with_reducible rfl
        try simp only [Act.put, List.setIfInBounds_toArray, List.set_cons_zero, List.set_cons_succ]
        refine wpAnyH_take (i := 5) (oi := Oper.mk _ _ _ _ _ _) (v := ?_) rfl (by kernel_rfl) (by kernel_rfl) (by kernel_rfl) (fun _ _ _ h => h) (Or.inl ⟨by rfl, ?_⟩) (by assumption) ?_
        rotate_left
        · intro w hSw
          try dsimp only at hSw
          go_simp
          all_goals with_reducible rfl
        try simp only [Act.put, List.setIfInBounds_toArray, List.set_cons_zero, List.set_cons_succ]
        refine wpAnyH_take (i := 6) (oi := Oper.mk _ _ _ _ _ _) (v := ?_) rfl (by kernel_rfl) (by kernel_rfl) (by kernel_rfl) (fun _ _ _ h => h) (Or.inl ⟨by rfl, ?_⟩) (by assumption) ?_
        rotate_left
        · intro w hSw
          try dsimp only at hSw
          go_simp
          all_goals with_reducible rfl
        try simp only [Act.put, List.setIfInBounds_toArray, List.set_cons_zero, List.set_cons_succ]
        refine wpAnyH_take (i := 7) (oi := Oper.mk _ _ _ _ _ _) (v := ?_) rfl (by kernel_rfl) (by kernel_rfl) (by kernel_rfl) (fun _ _ _ h => h) (Or.inl ⟨by rfl, ?_⟩) (by assumption) ?_
        rotate_left
        · intro w hSw
          try dsimp only at hSw
          go_simp
          all_goals with_reducible rfl
        try simp only [Act.put, List.setIfInBounds_toArray, List.set_cons_zero, List.set_cons_succ]
        refine wpAnyH_take (i := 8) (oi := Oper.mk _ _ _ _ _ _) (v := ?_) rfl (by kernel_rfl) (by kernel_rfl) (by kernel_rfl) (fun _ _ _ h => h) (Or.inl ⟨by rfl, ?_⟩) (by assumption) ?_
        rotate_left
        · intro w hSw
          try dsimp only at hSw
          go_simp
          all_goals with_reducible rfl
        try simp only [Act.put, List.setIfInBounds_toArray, List.set_cons_zero, List.set_cons_succ]
        refine wpAnyH_take (i := 9) (oi := Oper.mk _ _ _ _ _ _) (v := ?_) rfl (by kernel_rfl) (by kernel_rfl) (by kernel_rfl) (fun _ _ _ h => h) (Or.inl ⟨by rfl, ?_⟩) (by assumption) ?_
        rotate_left
        · intro w hSw
          try dsimp only at hSw
          go_simp
          all_goals with_reducible rfl
        try simp only [Act.put, List.setIfInBounds_toArray, List.set_cons_zero, List.set_cons_succ]
        refine wpAnyH_take (i := 10) (oi := Oper.mk _ _ _ _ _ _) (v := undef) rfl (by kernel_rfl) (by kernel_rfl) (by kernel_rfl) (fun _ _ _ h => h) (Or.inr ⟨by rfl, rfl⟩) (by assumption) ?_
        try simp only [Act.put, List.setIfInBounds_toArray, List.set_cons_zero, List.set_cons_succ]
        refine wpAnyH_take (i := 11) (oi := Oper.mk _ _ _ _ _ _) (v := undef) rfl (by kernel_rfl) (by kernel_rfl) (by kernel_rfl) (fun _ _ _ h => h) (Or.inr ⟨by rfl, rfl⟩) (by assumption) ?_
        try simp only [Act.put, List.setIfInBounds_toArray, List.set_cons_zero, List.set_cons_succ]
        refine wpAnyH_take (i := 12) (oi := Oper.mk _ _ _ _ _ _) (v := undef) rfl (by kernel_rfl) (by kernel_rfl) (by kernel_rfl) (fun _ _ _ h => h) (Or.inr ⟨by rfl, rfl⟩) (by assumption) ?_
        try simp only [Act.put, List.setIfInBounds_toArray, List.set_cons_zero, List.set_cons_succ]
        refine wpAnyH_take (i := 13) (oi := Oper.mk _ _ _ _ _ _) (v := undef) rfl (by kernel_rfl) (by kernel_rfl) (by kernel_rfl) (fun _ _ _ h => h) (Or.inr ⟨by rfl, rfl⟩) (by assumption) ?_
        try simp only [Act.put, List.setIfInBounds_toArray, List.set_cons_zero, List.set_cons_succ]
        refine wpAnyH_take (i := 14) (oi := Oper.mk _ _ _ _ _ _) (v := undef) rfl (by kernel_rfl) (by kernel_rfl) (by kernel_rfl) (fun _ _ _ h => h) (Or.inr ⟨by rfl, rfl⟩) (by assumption) ?_
        try simp only [Act.put, List.setIfInBounds_toArray, List.set_cons_zero, List.set_cons_succ]
        refine wpAnyH_take (i := 15) (oi := Oper.mk _ _ _ _ _ _) (v := ?_) rfl (by kernel_rfl) (by kernel_rfl) (by kernel_rfl) (fun _ _ _ h => h) (Or.inl ⟨by rfl, ?_⟩) (by assumption) ?_
        rotate_left
        · intro w hSw
          try dsimp only at hSw
          go_simp
          all_goals with_reducible rfl
        try simp only [Act.put, List.setIfInBounds_toArray, List.set_cons_zero, List.set_cons_succ]
        refine wpAnyH_take (i := 16) (oi := Oper.mk _ _ _ _ _ _) (v := ?_) rfl (by kernel_rfl) (by kernel_rfl) (by kernel_rfl) (fun _ _ _ h => h) (Or.inl ⟨by rfl, ?_⟩) (by assumption) ?_
        rotate_left
        · intro w hSw
          try dsimp only at hSw
          go_simp
          all_goals with_reducible rfl
        try simp only [Act.put, List.setIfInBounds_toArray, List.set_cons_zero, List.set_cons_succ]
        refine wpAnyH_done (by kernel_rfl) ?_ _
        go_wp2
        go_meet
        exact ⟨rfl, S7⟩
    case rest =>
    clear S6 HFS HFK hne
    obtain ⟨rfl, S7⟩ := hcut
    go_wp2_with fail
    refine (HA.out _ S7.out.below).mono ?_
    rintro e w8 ⟨v8, m, b8, d8, rfl, hml, hgm, hr8, hb8⟩
    have S8 := mkHid ((S7.out.next hb8).row hr8)
    obtain ⟨e1, e2, e3⟩ := add_sym l m
    have HA1 := mkHid (fun wx (h1 : Rd wx a1 (cs l)) (h2 : Rd wx b8 (cs m)) => addI_any a1 c1 l b8 d8 m wx (by omega) hgd.small h1 (by omega) hgm.small h2)
    have HA2 := mkHid (fun wx (h1 : Rd wx a1 (cs l)) (h2 : Rd wx b8 (cs m)) => addI_any b8 d8 m a1 c1 l wx (by omega) hgm.small h2 (by omega) hgd.small h1)
    have hl1 := addA_len l m
    clear hr8 hb8 S7 HA
    unfold AOwn at HA1 HA2
    generalize addA l m = r1 at *
    generalize addA m l = r2 at *
    obtain ⟨A, z⟩ := r1
    obtain ⟨B, z'⟩ := r2
    simp only at e1 e2 e3 hl1 HA1 HA2
    subst e1
    have hAB : A.length = B.length := by have := congrArg List.length e2; simpa using this
    have hle : ((A.length : Int) != (B.length : Int)) = false := by simp; omega
    have hli1 : (A.length : Int) ≤ 300 := by omega
    have E2 := mkHid (And.intro e2 hAB)
    have E3 := mkHid e3
    clear e2 e3 hAB
    go_wp2_with fail
    refine (HA1.out _ S8.out.r1 S8.out.r0).mono ?_
    rintro e w9 ⟨a9, c9, rfl, ho9, _, hb9, _⟩
    have S9 := mkHid (((S8.out.next hb9).row ho9.rd).var (.cells #[.slice a9 A.length c9, .int .i64 z] 29))
    clear ho9 hb9 S8 HA1
    go_wp2_with fail
    refine (HA2.out _ S9.out.r2 S9.out.r1).mono ?_
    rintro e w10 ⟨a10, c10, rfl, ho10, _, hb10, _⟩
    have S10 := mkHid (((S9.out.next hb10).row ho10.rd).var (.cells #[.slice a10 B.length c10, .int .i64 z] 29))
    clear ho10 hb10 S9 HA2
    go_upto_region 19 with fail
    go_cut [116] from 92 to 116 (fun v wx => v = .bool false ∧ Hid (Kx w [(w10.heap.size, .cells #[.slice a10 B.length c10, .int .i64 z] 29), (w9.heap.size, .cells #[.slice a9 A.length c9, .int .i64 z] 29), (w6.heap.size, .cells #[.string y0, .string y1, .int .i64 y2, .int .i64 y3, .int .i64 y4, .int .i64 yc] 35)] [(a10, cs B), (a9, cs A), (b8, cs m), (a1, cs l)] wx))
    case first =>
      obtain ⟨f0, f1⟩ := cel2 S10.out.b1
      obtain ⟨g0, g1⟩ := cel2 S10.out.b0
      by_cases hz : z = 0
      · subst hz
        have HR := mkHid (rightI_any a9 c9 A _ (by omega) (small_right (E3.out rfl)) S10.out.r1)
        rw [E3.out rfl] at HR
        go_wp2_with fail
        refine HR.out.mono ?_
        rintro e w11 ⟨rfl, hb11⟩
        have S11 := mkHid (S10.out.next hb11)
        clear hb11 S10 HR f0 f1 g0 g1
        go_wp2
        go_meet
        exact ⟨rfl, S11⟩
      · have hzn : (z == 0) = false := by simpa using hz
        clear hz
        go_wp2
        go_meet
        exact ⟨rfl, S10⟩
    case rest =>
    clear S10 E3 hle
    obtain ⟨rfl, S11⟩ := hcut
    have HDI := mkHid (fun wx (hx : Rd wx a1 (cs l)) => dropI_any a1 c1 l y1 wx (by omega) hgd.small (by omega) hx)
    have HDS := mkHid (fun wx (hx : Rd wx a1 (cs l)) => dropS_any a1 c1 l y1 wx (by omega) hgd.small (by omega) hx)
    have hdo := mkHid (fun (p : Pl) (h : p ∈ dropA l y1) => drop_other h)
    have hdl := drop_len l y1
    generalize dropA l y1 = D at *
    have hdi : (D.length : Int) ≤ 310 := by omega
    unfold rwPlace.SPost at HDI HDS
    go_wp2_with fail
    go_loopw [14] (fun i wr => ∃ k : Nat, k ≤ A.length ∧ i = .int .i64 k ∧ Hid (Kx w [(w10.heap.size, .cells #[.slice a10 B.length c10, .int .i64 z] 29), (w9.heap.size, .cells #[.slice a9 A.length c9, .int .i64 z] 29), (w6.heap.size, .cells #[.string y0, .string y1, .int .i64 y2, .int .i64 y3, .int .i64 y4, .int .i64 yc] 35)] [(a10, cs B), (a9, cs A), (b8, cs m), (a1, cs l)] wr)) (fun i _ => A.length - (intOf i).toNat)
    case atStart => exact ⟨0, Nat.zero_le _, rfl, S11⟩
    case round =>
      clear S11
      obtain ⟨k, hk, rfl, K⟩ := hrel
      obtain ⟨f0, f1⟩ := cel2 K.out.b1
      obtain ⟨g0, g1⟩ := cel2 K.out.b0
      by_cases hlt : k < A.length
      · have hlti : (k : Int) < (A.length : Int) := by omega
        have hltb : k < B.length := by have := E2.out.2; omega
        have hltbi : (k : Int) < (B.length : Int) := by omega
        obtain ⟨⟨x0, x1, x2, x3, x4⟩, hx⟩ : ∃ y, A[k]? = some y := ⟨_, List.getElem?_eq_getElem hlt⟩
        obtain ⟨⟨u0, u1, u2, u3, u4⟩, hu⟩ : ∃ y, B[k]? = some y := ⟨_, List.getElem?_eq_getElem hltb⟩
        obtain ⟨q0, q1⟩ := sp_at E2.out.1 hx hu
        simp only at q0 q1
        subst q0 q1
        obtain ⟨j1, o1, rfl, d0, d1, _, _, _, _⟩ := el K.out.r1 hx
        obtain ⟨j2, o2, rfl, h0, h1, _, _, _, _⟩ := el K.out.r0 hu
        simp only at d0 d1 h0 h1
        have hk0 : (!x0.toList == x0.toList) = false := by simp
        have hk1 : (!x1.toList == x1.toList) = false := by simp
        have K2 := mkHid K.out.drew
        clear hx hu K
        go_wp2_with fail
        go_region
        go_wp2
        go_roundw
        case rel => exact ⟨k + 1, by omega, by go_num, K2⟩
        case measure => simp [intOf]; omega
      · obtain rfl : k = A.length := by omega
        obtain ⟨p0, p1, p2, p3, p4, p5⟩ := cel6 K.out.b2
        go_wp2_with fail
        refine (HDI.out _ K.out.r3).mono ?_
        rintro e w12 ⟨a12, c12, rfl, ho12, _, hb12, _⟩
        have S12 := mkHid ((K.out.next hb12).row ho12.rd)
        clear ho12 hb12 K HDI f0 f1 g0 g1 p0 p1 p2 p3 p4 p5
        go_wp2_with fail
        go_loopw [16] (fun i wr => ∃ k : Nat, k ≤ D.length ∧ i = .int .i64 k ∧ Hid (Kx w [(w10.heap.size, .cells #[.slice a10 B.length c10, .int .i64 z] 29), (w9.heap.size, .cells #[.slice a9 A.length c9, .int .i64 z] 29), (w6.heap.size, .cells #[.string y0, .string y1, .int .i64 y2, .int .i64 y3, .int .i64 y4, .int .i64 yc] 35)] ((a12, cs D) :: [(a10, cs B), (a9, cs A), (b8, cs m), (a1, cs l)]) wr)) (fun i _ => D.length - (intOf i).toNat)
        case atStart => exact ⟨0, Nat.zero_le _, rfl, S12⟩
        case round =>
          clear S12
          obtain ⟨k, hk, rfl, K⟩ := hrel
          obtain ⟨p0, p1, p2, p3, p4, p5⟩ := cel6 K.out.b2
          by_cases hlt : k < D.length
          · have hlti : (k : Int) < (D.length : Int) := by omega
            obtain ⟨⟨x0, x1, x2, x3, x4⟩, hx⟩ : ∃ y, D[k]? = some y := ⟨_, List.getElem?_eq_getElem hlt⟩
            have hk1 := hdo.out _ (List.mem_of_getElem? hx)
            obtain ⟨j1, o1, rfl, d0, d1, _, _, _, _⟩ := el K.out.r0 hx
            simp only at d0 d1 hk1
            have K2 := mkHid K.out.drew
            clear hx K
            go_wp2_with fail
            go_region
            go_wp2
            go_roundw
            case rel => exact ⟨k + 1, by omega, by go_num, K2⟩
            case measure => simp [intOf]; omega
          · obtain rfl : k = D.length := by omega
            go_wp2_with fail
            refine (HDS.out _ K.out.r4).mono ?_
            rintro e w13 ⟨a13, c13, rfl, ho13, _, hb13, _⟩
            have S13 := mkHid ((K.out.next hb13).row ho13.rd)
            have HE := mkHid (plq.same_any a12 c12 a13 c13 D w13 (by omega) S13.out.r1 S13.out.r0)
            clear ho13 hb13 K HDS p0 p1 p2 p3 p4 p5
            go_wp2_with fail
            refine HE.out.mono ?_
            rintro e w14 ⟨rfl, hb14⟩
            have F := mkHid (S13.out.next hb14).below
            clear hb14 S13 HE
            go_wp2
            go_ret
            exact ⟨rfl, F.out⟩
set_option maxRecDepth 100000 in
theorem fnPlaces_walk (a : Option Addr) (len cap : Nat) (b : Option Addr) (lenb capb : Nat) (w : World) (hl : (len : Int) ≤ 9223372036854775807) (hr : Row w a len) (hlb : (lenb : Int) ≤ 9223372036854775807) (hrb : Row w b lenb) :
    Calls Tryz.prog 3 #[.slice a len cap, .slice b lenb capb] w fun e w' => e = .returned (.bool true) ∧ Below w.heap.size w w' := by
  by_cases h0 : 1048576 < (len : Int)
  · clear hr hrb
    go_enter Tryz.func3, Tryz.ntmps3
    go_wp2
    go_ret
    exact ⟨rfl, Below.refl _ _⟩
  by_cases h1 : 1048576 < (lenb : Int)
  · have h0' : (len : Int) ≤ 1048576 := by omega
    clear hr hrb
    go_enter Tryz.func3, Tryz.ntmps3
    go_wp2
    go_ret
    exact ⟨rfl, Below.refl _ _⟩
  exact fnPlaces_in a len cap b lenb capb w (by omega) hr (by omega) hrb
end Go.Proofs.YtmoojhnblakdhaaGreat.plc
