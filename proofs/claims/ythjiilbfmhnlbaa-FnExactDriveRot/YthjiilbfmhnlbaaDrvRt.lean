/-
  What spec.DriveRot answers and leaves; a drive with a byte turned, in plain words. Conditions: at most 1,048,576 files, which lie in memory, of texts of at most 1,048,576 bytes; the name has at most 1,048,576 bytes.
-/
import Derived.Test.YthjiilbfmhnlbaaDrvRo
namespace Go.Proofs.Ythjiilbfmhnlbaa.drv
open Go.RowKit Go.Joins Go.Sort
open Go.Proofs.Ythjiilbfmhnlbaa.base Go.Proofs.Ythjiilbfmhnlbaa.blk Go.Proofs.Ythjiilbfmhnlbaa.aid
open Go.Proofs.Ythjiilbfmhnlbaa.row (Rd Own OwnV)
open Go.Proofs.Ythjiilbfmhnlbaa.rwStored (cs)
set_option linter.unusedVariables false

def rotD (l : List File) (r : Int) (n : ByteArray) (p t : Int) : List File × Int :=
  if 20000 < n.size then ([], 0)
  else if (driveB l r && byteB t) = true then
    match l[(find l n).toNat]? with
    | none => (l, r)
    | some f => if find l n < 0 ∨ p < 0 ∨ (f.2.1.size : Int) ≤ p then (l, r) else (l.set (find l n).toNat (f.1, rotT f.2.1 p.toNat (UInt8.ofNat t.toNat), f.2.2), r)
  else (l, r)
theorem rotD_big {l : List File} {r : Int} {n : ByteArray} {p t : Int} (h : 20000 < n.size) : rotD l r n p t = ([], 0) := by unfold rotD; rw [if_pos h]
theorem rotD_no {l : List File} {r : Int} {n : ByteArray} {p t : Int} (h : ¬ 20000 < n.size) (h2 : driveB l r = false ∨ byteB t = false) : rotD l r n p t = (l, r) := by
  unfold rotD
  rw [if_neg h, if_neg]
  rcases h2 with h2 | h2 <;> simp [h2]
theorem rotD_none {l : List File} {r : Int} {n : ByteArray} {p t : Int} (h : ¬ 20000 < n.size) (h2 : find l n = -1 ∨ p < 0) : rotD l r n p t = (l, r) := by
  unfold rotD
  rw [if_neg h]
  split
  · split
    · rfl
    · rw [if_pos]
      rcases h2 with h2 | h2
      · left; omega
      · right; left; exact h2
  · rfl
theorem rotD_end {l : List File} {r : Int} {n : ByteArray} {p t : Int} {k : Nat} {f : File} (h : ¬ 20000 < n.size) (h2 : find l n = (k : Int)) (h3 : l[k]? = some f) (h4 : (f.2.1.size : Int) ≤ p) : rotD l r n p t = (l, r) := by
  unfold rotD
  rw [if_neg h]
  split
  · have e : (find l n).toNat = k := by omega
    rw [e, h3]
    simp only
    rw [if_pos (by right; right; exact h4)]
  · rfl
theorem rotD_turn {l : List File} {r : Int} {n : ByteArray} {p k : Nat} {b : UInt8} {f : File} (h : ¬ 20000 < n.size) (hd : driveB l r = true) (h2 : find l n = (k : Int)) (h3 : l[k]? = some f) (h4 : p < f.2.1.size) :
    rotD l r n (p : Int) (b.toNat : Int) = (l.set k (f.1, rotT f.2.1 p b, f.2.2), r) := by
  unfold rotD
  have hb : byteB (b.toNat : Int) = true := by unfold byteB; have := b.toNat_lt; simp; omega
  rw [if_neg h, if_pos (by simp [hd, hb])]
  have e : (find l n).toNat = k := by omega
  have e2 : (p : Int).toNat = p := by omega
  have e3 : UInt8.ofNat (b.toNat : Int).toNat = b := by
    have : (b.toNat : Int).toNat = b.toNat := by omega
    rw [this]
    exact UInt8.ofNat_toNat
  rw [e, h3]
  simp only
  rw [if_neg (by omega), e2, e3]
theorem cs_text : ∀ (l : List File) (k : Nat) (f : File) (x : ByteArray), l[k]? = some f → (cs l).set (k * 3 + 1) (.string x) = cs (l.set k (f.1, x, f.2.2))
  | [], k, f, x, h => by simp at h
  | g :: r, 0, f, x, h => by
    simp at h
    subst h
    rw [List.set_cons_zero, rwStored.cs_cons, rwStored.cs_cons]
    rfl
  | g :: r, k + 1, f, x, h => by
    have ih := cs_text r k f x (by simpa using h)
    rw [List.set_cons_succ, rwStored.cs_cons, rwStored.cs_cons, ← ih]
    have e : (k + 1) * 3 + 1 = (k * 3 + 1) + 1 + 1 + 1 := by omega
    rw [e]
    rfl
/-- the text of one file of a row of our own is written -/
theorem own_text {w : World} {g k : Nat} {l : List File} {f : File} {x : ByteArray} (h : Own 39 w g (cs l)) (hf : l[k]? = some f) : Own 39 (w.setCell ⟨g, k * 3 + 1, none⟩ (.string x)) g (cs (l.set k (f.1, x, f.2.2))) := by
  have hk := (List.getElem?_eq_some_iff.1 hf).1
  have hl : (cs l).length = 3 * l.length := rwStored.cs_len l
  have := h.set (k * 3 + 1) (by omega) (.string x)
  rw [cs_text l k f x hf] at this
  exact this

set_option maxRecDepth 100000 in
set_option maxHeartbeats 4000000 in
theorem rotS_any (a : Option Addr) (c : Nat) (l : List File) (r : Int) (n : ByteArray) (p t : Int) (w : World) (hl : l.length ≤ 1048576) (hs : Small l) (hn : n.size ≤ 1048576) (hr : Rd w a (cs l)) :
    Calls Try.prog 42 #[.agg #[.slice a l.length c, .int .i64 r], .string n, .int .i64 p, .int .i64 t] w (DPost w (rotD l r n p t).1 (rotD l r n p t).2) := by
  have S0 := mkHid ((((mem.startR hr).var (.cells #[.slice a l.length c, .int .i64 r] 25)).var (.cells #[.slice none 0 0, .int .i64 0] 25)))
  have hz : (w.alloc (.cells #[.slice a l.length c, .int .i64 r] 25)).heap.size = w.heap.size + 1 := by simp
  rw [hz] at S0
  by_cases h1 : 20000 < n.size
  · have h1i : 20000 < (n.size : Int) := by omega
    rw [rotD_big h1]
    clear hr hs
    go_enter Try.func42, Try.ntmps42
    go_wp2
    exact bodyPost_ret (v := .agg #[.slice none 0 0, .int .i64 0]) (by simp [results, Try.results42, go_sem]) rfl ⟨none, 0, rfl, .inl rfl, fun b o s e => by simp at e, rwStored.below2 _ _ _, Nat.le_refl _⟩
  have h1i : (n.size : Int) ≤ 20000 := by omega
  have HR := mkHid (fun wx (hx : Rd wx a (cs l)) => right_any a c l r wx hl hs hx)
  have HF := mkHid (fun wx (hx : Rd wx a (cs l)) => find_any a c l r n wx hl hx)
  have HC := mkHid (copyS_any a c l r _ hl S0.out.r0)
  unfold CPost at HC
  have HBD := mkHid (find_bd l n)
  have Eno := mkHid (fun h2 => rotD_no (l := l) (r := r) (p := p) (t := t) h1 h2)
  have Enone := mkHid (fun h2 => rotD_none (l := l) (r := r) (p := p) (t := t) h1 h2)
  have Eend := mkHid (fun k f h2 h3 h4 => rotD_end (l := l) (r := r) (p := p) (t := t) (k := k) (f := f) h1 h2 h3 h4)
  have Eturn := mkHid (fun q k b f hd h2 h3 h4 => rotD_turn (l := l) (r := r) (n := n) (p := q) (k := k) (b := b) (f := f) h1 hd h2 h3 h4)
  have HSm := mkHid hs
  obtain ⟨o, ho⟩ : ∃ o, o = rotD l r n p t := ⟨_, rfl⟩
  rw [← ho]
  have HO := mkHid ho
  clear hr hs ho
  go_enter Try.func42, Try.ntmps42
  go_wp2_with fail
  refine HC.out.mono ?_
  rintro e w1 ⟨v, rfl, hown, hb1⟩
  obtain ⟨va, vc, rfl, ho, hfr⟩ := mem.own_of hown
  have hcap : l.length ≤ vc := own_cap hown
  have S1 := mkHid ((S0.out.own hb1 ho hfr).var (.cells #[.slice va l.length vc, .int .i64 r] 25))
  have hvf : ∀ b o s, va = some ⟨b, o, s⟩ → w.heap.size + 2 ≤ b := fun b o s e => by have := hfr b o s e; simp at this; omega
  obtain ⟨c0, c1⟩ := cel2 S1.out.b2
  clear hb1 ho hown HC S0 hfr
  go_wp2_with fail
  refine (HF.out _ S1.out.r0).mono ?_
  rintro e w2 ⟨rfl, hb2⟩
  have S2 := mkHid (S1.out.next hb2)
  obtain ⟨c0, c1⟩ := cel2 S2.out.b2
  clear hb2 S1 HF
  go_wp2_with fail
  refine (HR.out _ S2.out.r0).mono ?_
  rintro e w3 ⟨rfl, hb3⟩
  have S3 := mkHid (S2.out.next hb3)
  obtain ⟨d0, d1⟩ := cel2 S3.out.b0
  obtain ⟨e0, e1⟩ := cel2 S3.out.b1
  have ef : ∀ j, w3.frozen? ⟨w.heap.size + 1, j, none⟩ = false := unfrozen S3.out.b1
  obtain ⟨c0, c1⟩ := cel2 S3.out.b2
  clear hb3 S2 HR
  have HP : Hid (DPost w l r (.returned (.agg #[.slice va l.length vc, .int .i64 r])) ((w3.setCell ⟨w.heap.size + 1, 0, none⟩ (.slice va l.length vc)).setCell ⟨w.heap.size + 1, 1, none⟩ (.int .i64 r))) := mkHid (dpost_put (.slice va l.length vc) (.int .i64 r) (by omega) S3.out.o0 (fun b o s e => by have := hvf b o s e; omega) S3.out.below rfl hcap)
  cases hd : driveB l r with
  | false =>
    obtain rfl : o = (l, r) := by rw [HO.out, Eno.out (.inl hd)]
    cases va with
    | none =>
      go_wp2
      refine bodyPost_ret (v := .agg #[.slice none l.length vc, .int .i64 r]) ?_ rfl ?_
      rotate_left
      · exact HP.out
      · simp [results, Try.results42, go_sem, e0, e1]
    | some ad =>
      go_wp2
      refine bodyPost_ret (v := .agg #[.slice (some ad) l.length vc, .int .i64 r]) ?_ rfl ?_
      rotate_left
      · exact HP.out
      · simp [results, Try.results42, go_sem, e0, e1]
  | true =>
    rcases HBD.out with hm | ⟨k, hk, hkl, f, hf, hfn⟩
    · obtain rfl : o = (l, r) := by rw [HO.out, Enone.out (.inl hm)]
      rw [hm]
      cases va with
      | none =>
        go_wp2
        refine bodyPost_ret (v := .agg #[.slice none l.length vc, .int .i64 r]) ?_ rfl ?_
        rotate_left
        · exact HP.out
        · simp [results, Try.results42, go_sem, e0, e1]
      | some ad =>
        go_wp2
        refine bodyPost_ret (v := .agg #[.slice (some ad) l.length vc, .int .i64 r]) ?_ rfl ?_
        rotate_left
        · exact HP.out
        · simp [results, Try.results42, go_sem, e0, e1]
    · have hkl2 : (k : Int) < (l.length : Int) := by omega
      clear hfn
      by_cases hp : p < 0
      · obtain rfl : o = (l, r) := by rw [HO.out, Enone.out (.inr hp)]
        rw [hk]
        cases va with
        | none =>
          go_wp2
          refine bodyPost_ret (v := .agg #[.slice none l.length vc, .int .i64 r]) ?_ rfl ?_
          rotate_left
          · exact HP.out
          · simp [results, Try.results42, go_sem, e0, e1]
        | some ad =>
          go_wp2
          refine bodyPost_ret (v := .agg #[.slice (some ad) l.length vc, .int .i64 r]) ?_ rfl ?_
          rotate_left
          · exact HP.out
          · simp [results, Try.results42, go_sem, e0, e1]
      · obtain ⟨x0, x1, x2⟩ := f
        obtain ⟨ga, oa, rfl, f0, f1, f2, l1⟩ := rwStored.el S3.out.r0 hf
        simp only at f0 f1 f2
        by_cases hq : (x1.size : Int) ≤ p
        · obtain rfl : o = (l, r) := by rw [HO.out, Eend.out k _ hk hf hq]
          rw [hk]
          cases va with
          | none =>
            go_wp2
            refine bodyPost_ret (v := .agg #[.slice none l.length vc, .int .i64 r]) ?_ rfl ?_
            rotate_left
            · exact HP.out
            · simp [results, Try.results42, go_sem, e0, e1]
          | some ad =>
            go_wp2
            refine bodyPost_ret (v := .agg #[.slice (some ad) l.length vc, .int .i64 r]) ?_ rfl ?_
            rotate_left
            · exact HP.out
            · simp [results, Try.results42, go_sem, e0, e1]
        · have HB := mkHid (fun wx => byteS_any t wx)
          cases hb : byteB t with
          | false =>
            obtain rfl : o = (l, r) := by rw [HO.out, Eno.out (.inr hb)]
            rw [hk]
            rw [hb] at HB
            cases va with
            | none =>
              go_wp2_with fail
              refine (HB.out _).mono ?_
              rintro e w4 ⟨rfl, rfl⟩
              go_wp2
              refine bodyPost_ret (v := .agg #[.slice none l.length vc, .int .i64 r]) ?_ rfl ?_
              rotate_left
              · exact HP.out
              · simp [results, Try.results42, go_sem, e0, e1]
            | some ad =>
              go_wp2_with fail
              refine (HB.out _).mono ?_
              rintro e w4 ⟨rfl, rfl⟩
              go_wp2
              refine bodyPost_ret (v := .agg #[.slice (some ad) l.length vc, .int .i64 r]) ?_ rfl ?_
              rotate_left
              · exact HP.out
              · simp [results, Try.results42, go_sem, e0, e1]
          | true =>
            obtain ⟨b, rfl⟩ := byte_of hb
            obtain ⟨q, rfl⟩ : ∃ q : Nat, p = (q : Int) := ⟨p.toNat, by omega⟩
            have hqs : q < x1.size := by omega
            obtain rfl : o = (l.set k (x0, rotT x1 q b, x2), r) := by rw [HO.out, Eturn.out q k b _ hd hk hf hqs]
            rw [hk]
            rw [hb] at HB
            obtain ⟨g, rfl, hOw⟩ := own_some S3.out.o0 (by omega)
            have hgl := hOw.lt
            have hx1 := (HSm.out _ (List.mem_of_getElem? hf)).2
            simp only at hx1
            obtain ⟨G, V, hcv, hc, hfz, hBV, hback⟩ := bytes_row x1 q b w3 hqs
            have hrs := rotT_size x1 q b
            have HOx := mkHid (fun (U : World) (hU : Below w3.heap.size w3 U) => own_text (x := rotT x1 q b) (Own.below hOw hU) hf)
            generalize rotT x1 q b = rt at *
            generalize x1.data.toList.getD q 0 = x at *
            have hbk := hback (V.setCell ⟨w3.heap.size, q, none⟩ (.int .u8 ((x ^^^ b).toNat : Int))) (fun j => rfl)
            have HBU := mkHid (below_cell (i := q) hBV (g := w3.heap.size) (Nat.le_refl _) hBV.size (.int .u8 ((x ^^^ b).toNat : Int)))
            have hx255 : (x.toNat : Int) ≤ 255 := by have := x.toNat_lt; omega
            have hb255 : (b.toNat : Int) ≤ 255 := by have := b.toNat_lt; omega
            have hxor := xor_u8 x b
            generalize x ^^^ b = y at *
            have S4 := mkHid (S3.out.next HBU.out)
            obtain ⟨d0', d1'⟩ := cel2 S4.out.b0
            obtain ⟨e0', e1'⟩ := cel2 S4.out.b1
            have ef' := unfrozen S4.out.b1
            have r0 := (Own.below hOw HBU.out).cell (rwStored.cs_at _ _ _ hf).2.1
            have rf := (Own.below hOw HBU.out).free
            simp only at r0
            have hne0 : cs l ≠ [] := fun e2 => by have := rwStored.cs_zero e2; rw [this] at hkl; simp at hkl
            have S5 := mkHid (S4.out.mark (grew_cell _ g (k * 3 + 1) (.string rt)) (fun b e => by cases e; exact ⟨hne0, 0, none, rfl⟩) (.inr ⟨g, rfl, HOx.out _ HBU.out⟩) (fun _ => hne0))
            simp only at S5
            obtain ⟨d0'', d1''⟩ := cel2 S5.out.b0
            obtain ⟨e0'', e1''⟩ := cel2 S5.out.b1
            have ef'' := unfrozen S5.out.b1
            have HP2 : Hid (DPost w (l.set k (x0, rt, x2)) r (.returned (.agg #[.slice (some ⟨g, 0, none⟩) l.length vc, .int .i64 r])) _) := mkHid (dpost_put (.slice (some ⟨g, 0, none⟩) l.length vc) (.int .i64 r) (B := w.heap.size + 1) (by omega) S5.out.o0 (fun b o s e => by have := hvf b o s e; omega) S5.out.below (by simp) hcap)
            have hqi : (q : Int) < (x1.size : Int) := by omega
            clear S5 S4 HOx HSm HBD hOw HP Eno Enone Eend Eturn
            have hx1i : (x1.size : Int) ≤ 1048576 := by omega
            go_wp2_with fail
            refine (HB.out _).mono ?_
            rintro e w4 ⟨rfl, rfl⟩
            go_wp2
            refine bodyPost_ret (v := .agg #[.slice (some ⟨g, 0, none⟩) l.length vc, .int .i64 r]) ?_ rfl ?_
            rotate_left
            · exact HP2.out
            · simp [results, Try.results42, go_sem, e0'', e1'']
end Go.Proofs.Ythjiilbfmhnlbaa.drv
