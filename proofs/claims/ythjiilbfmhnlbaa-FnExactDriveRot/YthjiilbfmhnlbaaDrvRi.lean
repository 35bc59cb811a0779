/-
  What impl.DriveRot answers and leaves. Conditions: at most 1,048,576 files, which lie in memory, of texts of at most 1,048,576 bytes; the name has at most 1,048,576 bytes.
-/
import Derived.Test.YthjiilbfmhnlbaaDrvRt
import Derived.Test.YthjiilbfmhnlbaaDrvIF
namespace Go.Proofs.Ythjiilbfmhnlbaa.drv
open Go.RowKit Go.Joins Go.Sort
open Go.Proofs.Ythjiilbfmhnlbaa.base Go.Proofs.Ythjiilbfmhnlbaa.blk Go.Proofs.Ythjiilbfmhnlbaa.aid
open Go.Proofs.Ythjiilbfmhnlbaa.row (Rd Own OwnV)
open Go.Proofs.Ythjiilbfmhnlbaa.rwStored (cs)
set_option linter.unusedVariables false

set_option maxRecDepth 100000 in
set_option maxHeartbeats 4000000 in
theorem rotI_any (a : Option Addr) (c : Nat) (l : List File) (r : Int) (n : ByteArray) (p t : Int) (w : World) (hl : l.length ≤ 1048576) (hs : Small l) (hn : n.size ≤ 1048576) (hr : Rd w a (cs l)) :
    Calls Try.prog 43 #[.agg #[.slice a l.length c, .int .i64 r], .string n, .int .i64 p, .int .i64 t] w (DPost w (rotD l r n p t).1 (rotD l r n p t).2) := by
  have S0 := mkHid ((((mem.startR hr).var (.cells #[.slice a l.length c, .int .i64 r] 25)).var (.cells #[.slice none 0 0, .int .i64 0] 25)))
  have hz : (w.alloc (.cells #[.slice a l.length c, .int .i64 r] 25)).heap.size = w.heap.size + 1 := by simp
  rw [hz] at S0
  by_cases h1 : 20000 < n.size
  · have h1i : 20000 < (n.size : Int) := by omega
    rw [rotD_big h1]
    clear hr hs
    go_enter Try.func43, Try.ntmps43
    go_wp2
    exact bodyPost_ret (v := .agg #[.slice none 0 0, .int .i64 0]) (by simp [results, Try.results43, go_sem]) rfl ⟨none, 0, rfl, .inl rfl, fun b o s e => by simp at e, rwStored.below2 _ _ _, Nat.le_refl _⟩
  have h1i : (n.size : Int) ≤ 20000 := by omega
  have HR := mkHid (fun wx (hx : Rd wx a (cs l)) => rightI_any a c l r wx hl hs hx)
  have HC := mkHid (copy_any a c l r _ hl hs S0.out.r0)
  unfold CPost at HC
  have Eno := mkHid (fun h2 => rotD_no (l := l) (r := r) (p := p) (t := t) h1 h2)
  have Enone := mkHid (fun h2 => rotD_none (l := l) (r := r) (p := p) (t := t) h1 h2)
  have Eend := mkHid (fun k f h2 h3 h4 => rotD_end (l := l) (r := r) (p := p) (t := t) (k := k) (f := f) h1 h2 h3 h4)
  have Eturn := mkHid (fun q k b f hd h2 h3 h4 => rotD_turn (l := l) (r := r) (n := n) (p := q) (k := k) (b := b) (f := f) h1 hd h2 h3 h4)
  have HSm := mkHid hs
  obtain ⟨o, ho⟩ : ∃ o, o = rotD l r n p t := ⟨_, rfl⟩
  rw [← ho]
  have HO := mkHid ho
  clear hr hs ho
  go_enter Try.func43, Try.ntmps43
  go_wp2_with fail
  refine HC.out.mono ?_
  rintro e w1 ⟨v, rfl, hown, hb1⟩
  obtain ⟨va, vc, rfl, ho, hfr⟩ := mem.own_of hown
  have hcap : l.length ≤ vc := own_cap hown
  have S1 := mkHid ((S0.out.own hb1 ho hfr).var (.cells #[.slice va l.length vc, .int .i64 r] 25))
  have HVf : Hid (∀ b o s, va = some ⟨b, o, s⟩ → w.heap.size + 2 ≤ b) := mkHid (fun b o s e => by have := hfr b o s e; simp at this; omega)
  obtain ⟨c0, c1⟩ := cel2 S1.out.b2
  clear hb1 ho hown HC S0 hfr
  go_wp2_with fail
  refine (HR.out _ S1.out.r0).mono ?_
  rintro e w3 ⟨rfl, hb3⟩
  have S3 := mkHid (S1.out.next hb3)
  clear hb3 S1 HR c0 c1
  cases hd : driveB l r with
  | false =>
    obtain rfl : o = (l, r) := by rw [HO.out, Eno.out (.inl hd)]
    obtain ⟨d0, d1⟩ := cel2 S3.out.b0
    obtain ⟨e0, e1⟩ := cel2 S3.out.b1
    have ef : ∀ j, w3.frozen? ⟨w.heap.size + 1, j, none⟩ = false := unfrozen S3.out.b1
    have HP : Hid (DPost w l r (.returned (.agg #[.slice va l.length vc, .int .i64 r])) ((w3.setCell ⟨w.heap.size + 1, 0, none⟩ (.slice va l.length vc)).setCell ⟨w.heap.size + 1, 1, none⟩ (.int .i64 r))) := mkHid (dpost_put (.slice va l.length vc) (.int .i64 r) (by omega) S3.out.o0 (fun b o s e => by have := HVf.out b o s e; omega) S3.out.below rfl hcap)
    cases va with
    | none =>
      go_wp2
      refine bodyPost_ret (v := .agg #[.slice none l.length vc, .int .i64 r]) ?_ rfl ?_
      rotate_left
      · exact HP.out
      · simp [results, Try.results43, go_sem, e0, e1]
    | some ad =>
      go_wp2
      refine bodyPost_ret (v := .agg #[.slice (some ad) l.length vc, .int .i64 r]) ?_ rfl ?_
      rotate_left
      · exact HP.out
      · simp [results, Try.results43, go_sem, e0, e1]
  | true =>
    have HB := mkHid (fun wx => byteI_any t wx)
    have HRise := mkHid (drive_rising hd)
    have HFi := mkHid (fun wx a' c' (hx : Rd wx a' (cs l)) => findI_any a' c' l n wx hl HRise.out hx)
    have HSp := mkHid (find_spot HRise.out n)
    have HTh : Hid (there l n = true → ∃ f, l[spot n l 0]? = some f) := mkHid (fun h => by
      unfold there at h
      cases hq : l[spot n l 0]? with
      | none => rw [hq] at h; simp at h
      | some f => exact ⟨f, rfl⟩)
    cases hb : byteB t with
    | false =>
      obtain rfl : o = (l, r) := by rw [HO.out, Eno.out (.inr hb)]
      rw [hb] at HB
      go_wp2_with fail
      refine (HB.out _).mono ?_
      rintro e w4 ⟨rfl, rfl⟩
      obtain ⟨d0, d1⟩ := cel2 S3.out.b0
      obtain ⟨e0, e1⟩ := cel2 S3.out.b1
      have ef : ∀ j, w4.frozen? ⟨w.heap.size + 1, j, none⟩ = false := unfrozen S3.out.b1
      have HP : Hid (DPost w l r (.returned (.agg #[.slice va l.length vc, .int .i64 r])) ((w4.setCell ⟨w.heap.size + 1, 0, none⟩ (.slice va l.length vc)).setCell ⟨w.heap.size + 1, 1, none⟩ (.int .i64 r))) := mkHid (dpost_put (.slice va l.length vc) (.int .i64 r) (by omega) S3.out.o0 (fun b o s e => by have := HVf.out b o s e; omega) S3.out.below rfl hcap)
      cases va with
      | none =>
        go_wp2
        refine bodyPost_ret (v := .agg #[.slice none l.length vc, .int .i64 r]) ?_ rfl ?_
        rotate_left
        · exact HP.out
        · simp [results, Try.results43, go_sem, e0, e1]
      | some ad =>
        go_wp2
        refine bodyPost_ret (v := .agg #[.slice (some ad) l.length vc, .int .i64 r]) ?_ rfl ?_
        rotate_left
        · exact HP.out
        · simp [results, Try.results43, go_sem, e0, e1]
    | true =>
      rw [hb] at HB
      go_wp2_with fail
      refine (HB.out _).mono ?_
      rintro e w4' ⟨rfl, rfl⟩
      obtain ⟨c0, c1⟩ := cel2 S3.out.b0
      go_wp2_with fail
      refine (HFi.out _ _ _ S3.out.o0.rd).mono ?_
      rintro e w4 ⟨rfl, hb4⟩
      have S4 := mkHid (S3.out.next hb4)
      clear hb4 c0 c1 S3 HFi HB
      generalize spot n l 0 = k at *
      cases hth : there l n with
      | false =>
        obtain rfl : o = (l, r) := by rw [HO.out, Enone.out (.inl (by rw [HSp.out, hth]; rfl))]
        obtain ⟨d0, d1⟩ := cel2 S4.out.b0
        obtain ⟨e0, e1⟩ := cel2 S4.out.b1
        have ef : ∀ j, w4.frozen? ⟨w.heap.size + 1, j, none⟩ = false := unfrozen S4.out.b1
        have HP : Hid (DPost w l r (.returned (.agg #[.slice va l.length vc, .int .i64 r])) ((w4.setCell ⟨w.heap.size + 1, 0, none⟩ (.slice va l.length vc)).setCell ⟨w.heap.size + 1, 1, none⟩ (.int .i64 r))) := mkHid (dpost_put (.slice va l.length vc) (.int .i64 r) (by omega) S4.out.o0 (fun b o s e => by have := HVf.out b o s e; omega) S4.out.below rfl hcap)
        cases va with
        | none =>
          go_wp2
          refine bodyPost_ret (v := .agg #[.slice none l.length vc, .int .i64 r]) ?_ rfl ?_
          rotate_left
          · exact HP.out
          · simp [results, Try.results43, go_sem, e0, e1]
        | some ad =>
          go_wp2
          refine bodyPost_ret (v := .agg #[.slice (some ad) l.length vc, .int .i64 r]) ?_ rfl ?_
          rotate_left
          · exact HP.out
          · simp [results, Try.results43, go_sem, e0, e1]
      | true =>
        obtain ⟨f, hf⟩ := HTh.out hth
        have hk : find l n = (k : Int) := by rw [HSp.out, hth]; rfl
        have hkl : k < l.length := (List.getElem?_eq_some_iff.1 hf).1
        have hkl2 : (k : Int) < (l.length : Int) := by omega
        clear HTh HSp
        by_cases hp : p < 0
        · obtain rfl : o = (l, r) := by rw [HO.out, Enone.out (.inr hp)]
          clear hk
          obtain ⟨d0, d1⟩ := cel2 S4.out.b0
          obtain ⟨e0, e1⟩ := cel2 S4.out.b1
          have ef : ∀ j, w4.frozen? ⟨w.heap.size + 1, j, none⟩ = false := unfrozen S4.out.b1
          have HP : Hid (DPost w l r (.returned (.agg #[.slice va l.length vc, .int .i64 r])) ((w4.setCell ⟨w.heap.size + 1, 0, none⟩ (.slice va l.length vc)).setCell ⟨w.heap.size + 1, 1, none⟩ (.int .i64 r))) := mkHid (dpost_put (.slice va l.length vc) (.int .i64 r) (by omega) S4.out.o0 (fun b o s e => by have := HVf.out b o s e; omega) S4.out.below rfl hcap)
          cases va with
          | none =>
            go_wp2
            refine bodyPost_ret (v := .agg #[.slice none l.length vc, .int .i64 r]) ?_ rfl ?_
            rotate_left
            · exact HP.out
            · simp [results, Try.results43, go_sem, e0, e1]
          | some ad =>
            go_wp2
            refine bodyPost_ret (v := .agg #[.slice (some ad) l.length vc, .int .i64 r]) ?_ rfl ?_
            rotate_left
            · exact HP.out
            · simp [results, Try.results43, go_sem, e0, e1]
        · obtain ⟨x0, x1, x2⟩ := f
          obtain ⟨g, rfl, hOw⟩ := own_some S4.out.o0 (by omega)
          obtain ⟨q0, q1, q2⟩ := rwStored.cs_at _ _ _ hf
          have r0 := hOw.cell q1
          simp only at r0
          have hp0 : 0 ≤ p := by omega
          by_cases hq : (x1.size : Int) ≤ p
          · obtain rfl : o = (l, r) := by rw [HO.out, Eend.out k _ hk hf hq]
            clear hk
            generalize hva : (some ⟨g, 0, none⟩ : Option Addr) = va at *
            obtain ⟨d0, d1⟩ := cel2 S4.out.b0
            obtain ⟨e0, e1⟩ := cel2 S4.out.b1
            have ef : ∀ j, w4.frozen? ⟨w.heap.size + 1, j, none⟩ = false := unfrozen S4.out.b1
            have HP : Hid (DPost w l r (.returned (.agg #[.slice va l.length vc, .int .i64 r])) ((w4.setCell ⟨w.heap.size + 1, 0, none⟩ (.slice va l.length vc)).setCell ⟨w.heap.size + 1, 1, none⟩ (.int .i64 r))) := mkHid (dpost_put (.slice va l.length vc) (.int .i64 r) (by omega) S4.out.o0 (fun b o s e => by have := HVf.out b o s e; omega) S4.out.below rfl hcap)
            subst hva
            clear hf q0 q1 q2
            go_wp2
            refine bodyPost_ret (v := .agg #[.slice (some ⟨g, 0, none⟩) l.length vc, .int .i64 r]) ?_ rfl ?_
            rotate_left
            · exact HP.out
            · simp [results, Try.results43, go_sem, e0, e1]
          · obtain ⟨b, rfl⟩ := byte_of hb
            obtain ⟨q, rfl⟩ : ∃ q : Nat, p = (q : Int) := ⟨p.toNat, by omega⟩
            have hqs : q < x1.size := by omega
            obtain rfl : o = (l.set k (x0, rotT x1 q b, x2), r) := by rw [HO.out, Eturn.out q k b _ hd hk hf hqs]
            have hx1 := (HSm.out _ (List.mem_of_getElem? hf)).2
            simp only at hx1
            have HRt := mkHid (fun wx => rotten_any x1 q b wx hqs hx1)
            have HOx := mkHid (fun (U : World) (hU : Below w4.heap.size w4 U) => own_text (x := rotT x1 q b) (Own.below hOw hU) hf)
            generalize rotT x1 q b = rt at *
            have HNe := mkHid (show cs l ≠ [] from fun e2 => by have := rwStored.cs_zero e2; rw [this] at hkl; simp at hkl)
            have HOw := mkHid hOw
            have HX := mkHid hf
            have hb255 : (b.toNat : Int) ≤ 255 := by have := b.toNat_lt; omega
            have hbw : IntKind.u8.wrap (b.toNat : Int) = (b.toNat : Int) := by rw [IntKind.wrap_u8]; omega
            have hqi : (q : Int) < (x1.size : Int) := by omega
            have hx1i : (x1.size : Int) ≤ 1048576 := by omega
            obtain ⟨s40, s41⟩ := cel2 S4.out.b0
            clear hOw hf hk hq hp0 hp q0 q1 q2 Eno Enone Eend Eturn HSm HRise hd hb hth HO
            go_wp2_with fail
            refine wp_region_held_drew (S := fun w' => w'.cell? ⟨w1.heap.size, 0, none⟩ = some (.slice (some ⟨g, 0, none⟩) l.length vc)) (by kernel_rfl) (by exact s40) (fun hHeld => ?_)
            refine wpAnyH_take (i := 0) (oi := Oper.mk _ _ _ _ _ _) (v := ?_) rfl (by kernel_rfl) (by kernel_rfl) (by kernel_rfl) (fun _ _ _ h => h) (Or.inl ⟨by rfl, ?_⟩) (by assumption) ?_
            rotate_left
            · intro w hSw
              try dsimp only at hSw
              go_simp
              all_goals with_reducible rfl
            try simp only [Act.put, List.setIfInBounds_toArray, List.set_cons_zero, List.set_cons_succ]
            refine wpAnyH_take (i := 1) (oi := Oper.mk _ _ _ _ _ _) (v := ?_) rfl (by kernel_rfl) (by kernel_rfl) (by kernel_rfl) (fun _ _ _ h => h) (Or.inl ⟨by rfl, ?_⟩) (by assumption) ?_
            rotate_left
            · intro w hSw
              try dsimp only at hSw
              go_simp
              all_goals with_reducible rfl
            try simp only [Act.put, List.setIfInBounds_toArray, List.set_cons_zero, List.set_cons_succ]
            refine wpAnyH_take (i := 2) (oi := Oper.mk _ _ _ _ _ _) (v := ?_) rfl (by kernel_rfl) (by kernel_rfl) (by kernel_rfl) (fun _ _ _ h => h) (Or.inl ⟨by rfl, ?_⟩) (by assumption) ?_
            rotate_left
            · intro w hSw
              try dsimp only at hSw
              go_simp
              all_goals with_reducible rfl
            try simp only [Act.put, List.setIfInBounds_toArray, List.set_cons_zero, List.set_cons_succ]
            refine wpAnyH_take (i := 3) (oi := Oper.mk _ _ _ _ _ _) (v := ?_) rfl (by kernel_rfl) (by kernel_rfl) (by kernel_rfl) (fun _ _ _ h => h) (Or.inl ⟨by rfl, ?_⟩) (by assumption) ?_
            rotate_left
            · intro w hSw
              try dsimp only at hSw
              go_simp
              all_goals with_reducible rfl
            try simp only [Act.put, List.setIfInBounds_toArray, List.set_cons_zero, List.set_cons_succ]
            refine wpAnyH_take (i := 4) (oi := Oper.mk _ _ _ _ _ _) (v := ?_) rfl (by kernel_rfl) (by kernel_rfl) (by kernel_rfl) (fun _ _ _ h => h) (Or.inl ⟨by rfl, ?_⟩) (by assumption) ?_
            rotate_left
            · intro w hSw
              try dsimp only at hSw
              go_simp
              all_goals with_reducible rfl
            try simp only [Act.put, List.setIfInBounds_toArray, List.set_cons_zero, List.set_cons_succ]
            refine wpAnyH_take (i := 5) (oi := Oper.mk _ _ _ _ _ _) (v := ?_) rfl (by kernel_rfl) (by kernel_rfl) (by kernel_rfl) (fun _ _ _ h => h) (Or.inl ⟨by rfl, ?_⟩) (by assumption) ?_
            rotate_left
            · intro w hSw
              try dsimp only at hSw
              go_simp
              all_goals with_reducible rfl
            try simp only [Act.put, List.setIfInBounds_toArray, List.set_cons_zero, List.set_cons_succ]
            refine wpAnyH_take (i := 6) (oi := Oper.mk _ _ _ _ _ _) (v := ?_) rfl (by kernel_rfl) (by kernel_rfl) (by kernel_rfl) (fun _ _ _ h => h) (Or.inl ⟨by rfl, ?_⟩) (by assumption) ?_
            rotate_left
            · intro w hSw
              try dsimp only at hSw
              go_simp
              all_goals with_reducible rfl
            try simp only [Act.put, List.setIfInBounds_toArray, List.set_cons_zero, List.set_cons_succ]
            refine wpAnyH_take (i := 7) (oi := Oper.mk _ _ _ _ _ _) (v := ?_) rfl (by kernel_rfl) (by kernel_rfl) (by kernel_rfl) (fun _ _ _ h => h) (Or.inl ⟨by rfl, ?_⟩) (by assumption) ?_
            rotate_left
            · intro w hSw
              try dsimp only at hSw
              go_simp
              all_goals with_reducible rfl
            try simp only [Act.put, List.setIfInBounds_toArray, List.set_cons_zero, List.set_cons_succ]
            refine wpAnyH_take (i := 9) (oi := Oper.mk _ _ _ _ _ _) (v := ?_) rfl (by kernel_rfl) (by kernel_rfl) (by kernel_rfl) (fun _ _ _ h => h) (Or.inl ⟨by rfl, ?_⟩) (by assumption) ?_
            rotate_left
            · intro w hSw
              try dsimp only at hSw
              go_simp
              all_goals with_reducible rfl
            try simp only [Act.put, List.setIfInBounds_toArray, List.set_cons_zero, List.set_cons_succ]
            refine wpAnyH_take (i := 10) (oi := Oper.mk _ _ _ _ _ _) (v := ?_) rfl (by kernel_rfl) (by kernel_rfl) (by kernel_rfl) (fun _ _ _ h => h) (Or.inl ⟨by rfl, ?_⟩) (by assumption) ?_
            rotate_left
            · intro w hSw
              try dsimp only at hSw
              go_simp
              all_goals with_reducible rfl
            try simp only [Act.put, List.setIfInBounds_toArray, List.set_cons_zero, List.set_cons_succ]
            refine wpAnyH_take (i := 11) (oi := Oper.mk _ _ _ _ _ _) (v := ?_) rfl (by kernel_rfl) (by kernel_rfl) (by kernel_rfl) (fun _ _ _ h => h) (Or.inl ⟨by rfl, ?_⟩) (by assumption) ?_
            rotate_left
            · intro w hSw
              try dsimp only at hSw
              go_simp
              all_goals with_reducible rfl
            try simp only [Act.put, List.setIfInBounds_toArray, List.set_cons_zero, List.set_cons_succ]
            refine wpAnyH_ready (rs := [8]) (by kernel_rfl) (by simp) ?_
            refine AllReadyH.cons (o := Oper.mk _ _ _ _ _ _) rfl (fun K hK => ?_) AllReadyH.nil
            go_simp
            refine hK.out _ _ (by assumption) (fun hHeld => ?_)
            clear hK K
            try simp only [Act.put, List.setIfInBounds_toArray, List.set_cons_zero, List.set_cons_succ]
            refine wpAnyH_ready (rs := [12]) (by kernel_rfl) (by simp) ?_
            refine AllReadyH.cons (o := Oper.mk _ _ _ _ _ _) rfl (fun K hK => ?_) AllReadyH.nil
            go_simp
            refine Calls.mono (HRt.out _) ?_
            rintro e w5 ⟨rfl, hb5⟩
            have B5 := mkHid (re (w := w4) hb5 rfl rfl rfl rfl)
            have S5 := mkHid (S4.out.next B5.out)
            obtain ⟨s50, s51⟩ := cel2 S5.out.b0
            have r50 := (Own.below HOw.out B5.out).cell (rwStored.cs_at _ _ _ HX.out).2.1
            have rf5 := (Own.below HOw.out B5.out).free
            simp only at r50
            have S6 := mkHid (S5.out.mark (grew_cell _ g (k * 3 + 1) (.string rt)) (fun b e => by cases e; exact ⟨HNe.out, 0, none, rfl⟩) (.inr ⟨g, rfl, HOx.out _ B5.out⟩) (fun _ => HNe.out))
            try simp only at S6
            obtain ⟨s60, s61⟩ := cel2 S6.out.b0
            obtain ⟨t60, t61⟩ := cel2 S6.out.b1
            have tf6 := unfrozen S6.out.b1
            have HP2 : Hid (DPost w (l.set k (x0, rt, x2)) r (.returned (.agg #[.slice (some ⟨g, 0, none⟩) l.length vc, .int .i64 r])) _) := mkHid (dpost_put (.slice (some ⟨g, 0, none⟩) l.length vc) (.int .i64 r) (B := w.heap.size + 1) (by omega) S6.out.o0 (fun b o s e => by have := HVf.out b o s e; omega) S6.out.below (by simp) hcap)
            clear hb5
            show K _ _
            refine hK.out _ _ s50 (fun hHeld => ?_)
            clear hK K
            try simp only [Act.put, List.setIfInBounds_toArray, List.set_cons_zero, List.set_cons_succ]
            refine wpAnyH_take (i := 13) (oi := Oper.mk _ _ _ _ _ _) (v := ?_) rfl (by kernel_rfl) (by kernel_rfl) (by kernel_rfl) (fun _ _ _ h => h) (Or.inl ⟨by rfl, ?_⟩) (by assumption) ?_
            rotate_left
            · intro w hSw
              try dsimp only at hSw
              go_simp
              all_goals with_reducible rfl
            try simp only [Act.put, List.setIfInBounds_toArray, List.set_cons_zero, List.set_cons_succ]
            refine wpAnyH_take (i := 14) (oi := Oper.mk _ _ _ _ _ _) (v := ?_) rfl (by kernel_rfl) (by kernel_rfl) (by kernel_rfl) (fun _ _ _ h => h) (Or.inl ⟨by rfl, ?_⟩) (by assumption) ?_
            rotate_left
            · intro w hSw
              try dsimp only at hSw
              go_simp
              all_goals with_reducible rfl
            try simp only [Act.put, List.setIfInBounds_toArray, List.set_cons_zero, List.set_cons_succ]
            refine wpAnyH_ready (rs := [15]) (by kernel_rfl) (by simp) ?_
            refine AllReadyH.cons (o := Oper.mk _ _ _ _ _ _) rfl (fun K hK => ?_) AllReadyH.nil
            go_simp
            refine hK.out _ _ s60 (fun hHeld => ?_)
            clear hK K
            try simp only [Act.put, List.setIfInBounds_toArray, List.set_cons_zero, List.set_cons_succ]
            refine wpAnyH_done (by kernel_rfl) ?_ _
            go_wp2
            refine bodyPost_ret (v := .agg #[.slice (some ⟨g, 0, none⟩) l.length vc, .int .i64 r]) ?_ rfl ?_
            rotate_left
            · exact HP2.out
            · simp [results, Try.results43, go_sem, t60, t61]
end Go.Proofs.Ythjiilbfmhnlbaa.drv
