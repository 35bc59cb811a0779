/-
  What spec.l10Of and spec.PlacesOf answer and leave. Conditions: texts of at most 1,048,576 bytes; spec.l07At answers as told.
  What impl.PlacesOf answers and leaves. Conditions: texts of at most 1,048,576 bytes; the program's Digest answers as told, the numbers of the rounds are there.
  laws.FnExactPlacesOf answers true at every two texts, where spec.l07At answers as told; nothing that was there turns. Condition: the numbers of the rounds are there.
-/
import Derived.Test.YtppjbmmeacmoiaaDoorOfP
import Derived.Test.YtppjbmmeacmoiaaDoorZPlB
import Derived.Test.YtppjbmmeacmoiaaDoorZScanS
import Derived.Test.YtppjbmmeacmoiaaDoorZPlA
import Derived.Test.YtppjbmmeacmoiaaDoorZEntA
import Derived.Test.YtppjbmmeacmoiaaDoorZShaH
import Derived.Test.YtppjbmmeacmoiaaDoorMem
import Derived.Deep.RegionHeld3
namespace Go.Proofs.YtppjbmmeacmoiaaDoor.plc
open Go.RowKit Go.Joins Go.Sort
open Go.Proofs.YtppjbmmeacmoiaaDoor.base Go.Proofs.YtppjbmmeacmoiaaDoor.blk Go.Proofs.YtppjbmmeacmoiaaDoor.aid
open Go.Proofs.YtppjbmmeacmoiaaDoor.row (Rd Own OwnV en appSem app_fold)
open Go.Proofs.YtppjbmmeacmoiaaDoor.rwPlace (cs el)
open Go.Proofs.YtppjbmmeacmoiaaDoor.obj (objB objB_small)
open Go.Proofs.YtppjbmmeacmoiaaDoor.pack (scanT scanT_len IAt)
set_option linter.unusedVariables false
set_option linter.unusedSimpArgs false
attribute [local go_sem ↓] slice_fold

/-- places that can be read, fresh ones, are the answer -/
def OfPost (w : World) (r : List Pl) (e : Ending) (w' : World) : Prop :=
  ∃ a c, e = .returned (.slice a r.length c) ∧ Rd w' a (cs r) ∧ (∀ b o s, a = some ⟨b, o, s⟩ → w.heap.size ≤ b) ∧ Below w.heap.size w w'
theorem of_of {w w' : World} {r : List Pl} {a : Option Addr} {n c : Nat} (hn : r.length = n) (hr : Rd w' a (cs r)) (hf : ∀ b o s, a = some ⟨b, o, s⟩ → w.heap.size ≤ b) (hb : Below w.heap.size w w') : OfPost w r (.returned (.slice a n c)) w' := by
  subst hn
  exact ⟨a, c, rfl, hr, hf, hb⟩
/-- what holds on the way -/
structure Fs (w : World) (k : ByteArray) (l : List En) (i : Nat) (acc : List Pl) (a : Option Addr) (c : Nat) (al : Option Addr) (wr : World) : Prop where
  eq : acc = (found k (l.take i)).foldl put []
  rd : Rd wr a (cs acc)
  fresh : ∀ b o s, a = some ⟨b, o, s⟩ → w.heap.size ≤ b
  cap : acc.length ≤ c
  ents : Rd wr al (en l)
  below : Below w.heap.size w wr
set_option maxRecDepth 100000 in
set_option maxHeartbeats 4000000 in
theorem l10Of_any (A : IAt) (k s : ByteArray) (w : World) (hk : k.size ≤ 1048576) (hs : s.size ≤ 20000) :
    Calls Tryd.prog 10 #[.string k, .string s] w (OfPost w (((found k (scanT s)).foldl put []).take 300)) := by
  have hp := scanT_len s
  have KS := pack.scan_spec A s (w.alloc (.cells #[] 33)) (by omega)
  generalize scanT s = l at hp KS
  have HS : Hid (Calls Tryd.prog 18 #[.string s] (w.alloc (.cells #[] 33)) fun e w' => ∃ a c, e = .returned (.slice a l.length c) ∧ OwnV 31 w' a (en l) ∧ (∀ b o s, a = some ⟨b, o, s⟩ → (w.alloc (.cells #[] 33)).heap.size ≤ b) ∧ Below (w.alloc (.cells #[] 33)).heap.size (w.alloc (.cells #[] 33)) w') := mkHid KS
  have B0 := mkHid (below_alloc1 w (.cells #[] 33))
  have hli : (l.length : Int) ≤ 20000 := by omega
  clear KS A
  go_enter Tryd.func10, Tryd.ntmps10
  go_wp2_with fail
  refine HS.out.mono ?_
  rintro e w1 ⟨al, cl, rfl, hol, hfl, hb⟩
  have S0 : Hid (Fs w k l 0 [] (some ⟨w.heap.size, 0, none⟩) 0 al w1) := mkHid ⟨by simp [found], Rd.nil _ _, (fun b o s e => by cases e; exact Nat.le_refl _), Nat.le_refl _, hol.rd, below_trans B0.out hb⟩
  clear hol hfl hb B0 HS
  go_wp2_with fail
  go_loopw [5, 7] (fun v i wr => ∃ (n : Nat) (acc : List Pl) (a : Option Addr) (c : Nat), n ≤ l.length ∧ i = .int .i64 n ∧ v = .slice a acc.length c ∧ Hid (Fs w k l n acc a c al wr))
    (fun _ i _ => l.length - (intOf i).toNat)
  case atStart => exact ⟨0, [], _, 0, Nat.zero_le _, rfl, rfl, S0⟩
  case round =>
    obtain ⟨n, acc, a, c, hn, rfl, rfl, S⟩ := hrel
    clear S0
    have hal : acc.length ≤ 20000 := by
      rw [S.out.eq]
      have h1 := put_foldl_len (found k (l.take n)) []
      have h2 := found_len k (l.take n)
      have h3 : (l.take n).length ≤ n := by simp; omega
      simp only [List.length_nil] at h1
      omega
    have hali : (acc.length : Int) ≤ 20000 := by omega
    by_cases hlt : n < l.length
    · have hlti : (n : Int) < (l.length : Int) := by omega
      obtain ⟨⟨x, kd, q, z⟩, hx⟩ : ∃ y, l[n]? = some y := ⟨_, List.getElem?_eq_getElem hlt⟩
      obtain ⟨g1, o1, rfl, c0, c1, c2, c3, l1⟩ := S.out.ents.entry hx
      simp only at c0 c1 c2 c3
      by_cases hq : q ≤ 12000
      · have hne : near (x, kd, q, z) = true := by unfold near; simpa using hq
        have E := mkHid (found_yes (k := k) hx hne)
        have HP := mkHid (fun wx (hb : Below w.heap.size w wx) (hr : Rd wx a (cs acc)) => putS_any a c acc x k kd q z wx (by omega) S.out.cap hr)
        clear hx hne
        go_wp2_with fail
        go_region_held3 (fun w' => w'.cell? ⟨g1, o1 + n * 4, none⟩ = some (.string x) ∧ w'.cell? ⟨g1, o1 + n * 4 + 1, none⟩ = some (.int .i64 kd) ∧ w'.cell? ⟨g1, o1 + n * 4 + 2, none⟩ = some (.int .i64 q) ∧ w'.cell? ⟨g1, o1 + n * 4 + 3, none⟩ = some (.int .i64 z)) (go_keep)
          ((go_at_call 19; refine Calls.mono (HP.out _ (by first | exact S.out.below | exact ⟨S.out.below.os, S.out.below.tape, S.out.below.output, S.out.below.size, S.out.below.block⟩) (by exact S.out.rd)) ?_; rintro e w2 ⟨a2, e2, rfl, hr2, hf2, hb2, hc2⟩; have r2 := re (w := wr) hb2 rfl rfl rfl rfl; have d0 := (r2.cell (p := ⟨g1, o1 + n * 4, none⟩) l1).trans c0; have d1 := (r2.cell (p := ⟨g1, o1 + n * 4 + 1, none⟩) l1).trans c1; have d2 := (r2.cell (p := ⟨g1, o1 + n * 4 + 2, none⟩) l1).trans c2; have d3 := (r2.cell (p := ⟨g1, o1 + n * 4 + 3, none⟩) l1).trans c3))
        have N1 : Hid (Fs w k l (n + 1) (put acc (x, k, kd, q, z)) a2 e2 (some ⟨g1, o1, none⟩) w2) := mkHid ⟨by rw [E.out, List.foldl_append, ← S.out.eq]; rfl, hr2, fun b o s e => by
          rcases hf2 with hf2 | hf2
          · rw [hf2] at e
            exact S.out.fresh b o s e
          · exact Nat.le_trans S.out.below.size (hf2 b o s e), hc2, S.out.ents.below r2, below_trans S.out.below r2⟩
        clear hr2 hf2 hb2 hc2 r2 d0 d1 d2 d3 HP E S c0 c1 c2 c3
        go_wp2
        go_roundw
        case rel => exact ⟨n + 1, _, a2, e2, by omega, by go_num, rfl, N1⟩
        case measure => simp [intOf]; omega
      · have hne : near (x, kd, q, z) = false := by unfold near; simpa using hq
        have N1 : Hid (Fs w k l (n + 1) acc a c (some ⟨g1, o1, none⟩) wr) := mkHid ⟨by rw [found_no hx hne]; exact S.out.eq, S.out.rd, S.out.fresh, S.out.cap, S.out.ents, S.out.below⟩
        have hq' : 12000 < q := by omega
        clear hx hne S
        go_wp2
        go_roundw
        case rel => exact ⟨n + 1, _, a, c, by omega, by go_num, rfl, N1⟩
        case measure => simp [intOf]; omega
    · obtain rfl : n = l.length := by omega
      have heq := S.out.eq
      rw [List.take_of_length_le (Nat.le_refl _)] at heq
      have HQ := mkHid heq
      have hcap := S.out.cap
      by_cases h3 : 300 < acc.length
      · have h3i : (300 : Int) < (acc.length : Int) := by omega
        have hS : ∀ wx, (sliceSem 22 (.slice a acc.length c) none (some (.int .i64 300)) none).run Tryd.prog wx = .ok (.slice a 300 c) wx := fun wx => sl_hi a acc.length c 300 (by omega) wx
        have F : Hid (OfPost w (((found k l).foldl put []).take 300) (.returned (.slice a 300 c)) wr) := mkHid (of_of (by rw [← HQ.out, List.length_take]; omega) (by rw [← HQ.out]; exact rd_take S.out.rd 300) S.out.fresh S.out.below)
        clear S heq HQ
        go_wp2
        go_ret
        exact F.out
      · have h3i : (acc.length : Int) ≤ 300 := by omega
        have F : Hid (OfPost w (((found k l).foldl put []).take 300) (.returned (.slice a acc.length c)) wr) := mkHid (of_of (by rw [← HQ.out, List.length_take]; omega) (by rw [← HQ.out]; exact rd_take S.out.rd 300) S.out.fresh S.out.below)
        clear S heq HQ
        go_wp2
        go_ret
        exact F.out
set_option maxRecDepth 100000 in
set_option maxHeartbeats 2000000 in
theorem placesOfS_any (A : IAt) (k s : ByteArray) (w : World) (hk : k.size ≤ 1048576) (hs : s.size ≤ 1048576) :
    Calls Tryd.prog 4 #[.string k, .string s] w (OfPost w (ofA k s)) := by
  have hki : (k.size : Int) ≤ 1048576 := by omega
  have hsi : (s.size : Int) ≤ 1048576 := by omega
  have HB0 := mkHid (below_alloc1 w (.cells #[] 33))
  have FE : Hid (ofA k s = [] → OfPost w (ofA k s) (.returned (.slice (some ⟨w.heap.size, 0, none⟩) 0 0)) (w.alloc (.cells #[] 33))) := mkHid (fun h => of_of (by rw [h]; rfl) (by rw [h]; exact Rd.nil _ _) (fun b o s e => by cases e; exact Nat.le_refl _) HB0.out)
  by_cases h1 : 20000 < k.size
  · have E : ofA k s = [] := by
      unfold ofA
      rw [if_neg]
      intro h
      have := objB_small h
      omega
    have F := mkHid (FE.out E)
    have h1i : (20000 : Int) < (k.size : Int) := by omega
    clear FE E
    go_enter Tryd.func4, Tryd.ntmps4
    go_wp2
    go_ret
    exact F.out
  have h1i : (k.size : Int) ≤ 20000 := by omega
  by_cases h2 : 20000 < s.size
  · have E : ofA k s = [] := by
      unfold ofA
      have : scanT s = [] := by unfold pack.scanT; rw [if_pos h2]
      rw [this]
      split <;> simp [found]
    have F := mkHid (FE.out E)
    have h2i : (20000 : Int) < (s.size : Int) := by omega
    clear FE E
    go_enter Tryd.func4, Tryd.ntmps4
    go_wp2
    go_ret
    exact F.out
  have h2i : (s.size : Int) ≤ 20000 := by omega
  have HO := mkHid (fun wx => obj.objS_any k wx hk)
  cases ho : objB k with
  | false =>
    rw [ho] at HO
    have F := mkHid (FE.out (by unfold ofA; rw [if_neg (by rw [ho]; simp)]))
    clear FE
    go_enter Tryd.func4, Tryd.ntmps4
    go_wp2_with fail
    refine (HO.out _).mono ?_
    rintro e w1 ⟨rfl, rfl⟩
    go_wp2
    go_ret
    exact F.out
  | true =>
    rw [ho] at HO
    have HL := mkHid (l10Of_any A k s w hk (by omega))
    have E : ofA k s = (((found k (scanT s)).foldl put []).take 300) := by unfold ofA; rw [if_pos ho]
    rw [E]
    generalize ((found k (scanT s)).foldl put []).take 300 = r at *
    have HL2 : Hid (Calls Tryd.prog 10 #[.string k, .string s] w fun e w' => ∃ a c, e = .returned (.slice a r.length c) ∧ Rd w' a (cs r) ∧ (∀ b o s, a = some ⟨b, o, s⟩ → w.heap.size ≤ b) ∧ Below w.heap.size w w') := mkHid HL.out
    clear FE HL A E
    go_enter Tryd.func4, Tryd.ntmps4
    go_wp2_with fail
    refine (HO.out _).mono ?_
    rintro e w1 ⟨rfl, rfl⟩
    go_wp2_with fail
    refine HL2.out.mono ?_
    rintro e w2 ⟨a, c, rfl, h3, h4, h5⟩
    have F : Hid (OfPost w1 r (.returned (.slice a r.length c)) w2) := mkHid ⟨a, c, rfl, h3, h4, h5⟩
    clear h3 h4 h5 HL2 HO
    go_wp2
    go_ret
    exact F.out
end Go.Proofs.YtppjbmmeacmoiaaDoor.plc
namespace Go.Proofs.YtppjbmmeacmoiaaDoor.plc
open Go.RowKit Go.Joins Go.Sort Go.Maps
open Go.Proofs.YtppjbmmeacmoiaaDoor.base Go.Proofs.YtppjbmmeacmoiaaDoor.blk Go.Proofs.YtppjbmmeacmoiaaDoor.aid
open Go.Proofs.YtppjbmmeacmoiaaDoor.row (Rd Own OwnV en appSem app_fold)
open Go.Proofs.YtppjbmmeacmoiaaDoor.rwPlace (cs el)
open Go.Proofs.YtppjbmmeacmoiaaDoor.obj (objB objB_small)
open Go.Proofs.YtppjbmmeacmoiaaDoor.pack (scanT scanT_len scanF scan keyAt)
open Go.Proofs.YtppjbmmeacmoiaaDoor.sha (GV)
set_option maxRecDepth 100000
set_option linter.unusedVariables false
set_option linter.unusedSimpArgs false
attribute [local go_sem ↓] app_fold slice_fold

theorem scanF_keys (s : ByteArray) : ∀ f a, ∀ e ∈ scanF s f a, e.1.size ≤ s.size
  | 0, a, e, h => by simp [scanF] at h
  | f + 1, a, e, h => by
    unfold scanF at h
    split at h
    · simp at h
    · split at h
      · exact scanF_keys s f _ e h
      · rcases List.mem_cons.1 h with rfl | h
        · show (keyAt s a).size ≤ s.size
          unfold keyAt
          rw [ByteArray.size_extract]
          omega
        · exact scanF_keys s f _ e h
theorem scanT_keys (s : ByteArray) : ∀ e ∈ scanT s, e.1.size ≤ 20000 := by
  intro e h
  unfold scanT at h
  split at h
  · simp at h
  · have := scanF_keys s _ _ e h
    omega
theorem found_fits {k : ByteArray} {l : List En} (hk : k.size ≤ 1048576) (hl : ∀ e ∈ l, e.1.size ≤ 20000) : Fits (found k l) := by
  intro p hp
  unfold found at hp
  obtain ⟨e, he, rfl⟩ := List.mem_map.1 hp
  have := hl e (List.mem_filter.1 he).1
  exact ⟨by show e.1.size ≤ 1048576; omega, hk⟩
/-- places of our own are the answer -/
def OfOwn (w : World) (r : List Pl) (e : Ending) (w' : World) : Prop :=
  ∃ a c, e = .returned (.slice a r.length c) ∧ OwnV 33 w' a (cs r) ∧ (∀ b o s, a = some ⟨b, o, s⟩ → w.heap.size ≤ b) ∧ Below w.heap.size w w'
theorem own_take {w : World} {base n c m : Nat} {a : Option Addr} {l : List Pl} (h : w.ownsRow base 33 5 (.slice a n c) n (cs l)) : OwnV 33 w a (cs (l.take m)) := by
  rcases h.2 with ⟨h1, h2⟩ | ⟨g, cap, cur, h1, _⟩
  · have h3 := h.1
    rw [h2, Nat.zero_mul] at h3
    have h4 := List.eq_nil_of_length_eq_zero h3
    have h5 := rwPlace.cs_zero h4
    subst h5
    exact .inl (by simp; rfl)
  · simp at h1
    obtain ⟨rfl, _⟩ := h1
    obtain ⟨ex, h2⟩ := Own.owns h
    refine .inr ⟨g, rfl, cs (l.drop m) ++ ex, ?_⟩
    rw [← List.append_assoc, ← rwPlace.cs_app, List.take_append_drop]
    exact h2
theorem oo_of {w w' : World} {r : List Pl} {a : Option Addr} {n c : Nat} (hn : r.length = n) (hr : OwnV 33 w' a (cs r)) (hf : ∀ b o s, a = some ⟨b, o, s⟩ → w.heap.size ≤ b) (hb : Below w.heap.size w w') : OfOwn w r (.returned (.slice a n c)) w' := by
  subst hn
  exact ⟨a, c, rfl, hr, hf, hb⟩
/-- what holds on the way -/
structure Fi (w : World) (B : Nat) (k : ByteArray) (l : List En) (i : Nat) (acc : List Pl) (a : Option Addr) (c : Nat) (al : Option Addr) (wr : World) : Prop where
  eq : acc = found k (l.take i)
  row : wr.ownsRow B 33 5 (.slice a acc.length c) acc.length (cs acc)
  le : w.heap.size ≤ B
  sz : B ≤ wr.heap.size
  ents : Rd wr al (en l)
  below : Below w.heap.size w wr
theorem pl_keep {W W' : World} {B n : Nat} {v : Value} {xs : List Value} (h : W.ownsRow B 33 5 v n xs) (hb : Below W.heap.size W W') : W'.ownsRow B 33 5 v n xs :=
  h.kept (below_grew hb none) (by
    cases hv : v.ownBlock with
    | none => exact .inl rfl
    | some g => exact .inr (by simp))
theorem Fi.next {w wr w1 : World} {B : Nat} {k : ByteArray} {l : List En} {i : Nat} {acc : List Pl} {a al : Option Addr} {c : Nat} (h : Fi w B k l i acc a c al wr) (hb : Below wr.heap.size wr w1) : Fi w B k l i acc a c al w1 :=
  ⟨h.eq, pl_keep h.row hb, h.le, Nat.le_trans h.sz hb.size, h.ents.below hb, below_trans h.below hb⟩
set_option maxHeartbeats 4000000 in
theorem of_in (k s : ByteArray) (w : World) (hk : k.size ≤ 1048576) (hs : s.size ≤ 1048576) (ho : objB k = true) (I : himpl.IDigest) (hG : GV w) :
    Calls Tryd.prog 5 #[.string k, .string s] w (OfOwn w (((found k (scanT s)).foldl put []).take 300)) := by
  have hp := scanT_len s
  have hks := scanT_keys s
  have HO := mkHid (fun wx => obj.objI_any k wx hk)
  rw [ho] at HO
  have KS := rdr.scan_impl s w hs I hG
  generalize scanT s = l at hp KS hks
  have HS : Hid (Calls Tryd.prog 12 #[.string s] w fun e w' => ∃ a c, e = .returned (.slice a l.length c) ∧ OwnV 31 w' a (en l) ∧ (∀ b o s, a = some ⟨b, o, s⟩ → w.heap.size ≤ b) ∧ Below w.heap.size w w') := mkHid KS
  have hli : (l.length : Int) ≤ 20000 := by omega
  have HK := mkHid hks
  clear KS I hG hks ho
  go_enter Tryd.func5, Tryd.ntmps5
  go_wp2_with fail
  refine (HO.out _).mono ?_
  rintro e w0 ⟨rfl, rfl⟩
  go_wp2_with fail
  refine HS.out.mono ?_
  rintro e w1 ⟨al, cl, rfl, hol, hfl, hb⟩
  have S0 : Hid (Fi w0 w1.heap.size k l 0 [] none 0 al w1) := mkHid ⟨by simp [found], World.ownsRow_nil _ _ _ _, hb.size, Nat.le_refl _, hol.rd, hb⟩
  have HE1 := mkHid hol.rd
  generalize hB : w1.heap.size = B at *
  clear hol hfl hb HS HO
  go_wp2_with fail
  go_loopw [5, 15] (fun v i wr => ∃ (n : Nat) (acc : List Pl) (a : Option Addr) (c : Nat), n ≤ l.length ∧ i = .int .i64 n ∧ v = .slice a acc.length c ∧ Hid (Fi w0 B k l n acc a c al wr))
    (fun _ i _ => l.length - (intOf i).toNat)
  case atStart => exact ⟨0, [], none, 0, Nat.zero_le _, rfl, rfl, S0⟩
  case round =>
    obtain ⟨n, acc, a, c, hn, rfl, rfl, S⟩ := hrel
    clear S0
    have hal : acc.length ≤ 20000 := by
      rw [S.out.eq]
      have h2 := found_len k (l.take n)
      have h3 : (l.take n).length ≤ n := by simp; omega
      omega
    have hali : (acc.length : Int) ≤ 20000 := by omega
    by_cases hlt : n < l.length
    · have hlti : (n : Int) < (l.length : Int) := by omega
      obtain ⟨⟨x, kd, q, z⟩, hx⟩ : ∃ y, l[n]? = some y := ⟨_, List.getElem?_eq_getElem hlt⟩
      obtain ⟨g1, o1, rfl, c0, c1, c2, c3, l1⟩ := S.out.ents.entry hx
      simp only at c0 c1 c2 c3
      have hg1 : g1 < B := by
        obtain ⟨g2, o2, e2, _, _, _, _, l2⟩ := HE1.out.entry hx
        cases e2
        rw [hB] at l2
        exact l2
      have S1 := mkHid (S.out.next (below_alloc1 wr (.cells #[.string x, .int .i64 kd, .int .i64 q, .int .i64 z] 31)))
      by_cases hq : q ≤ 12000
      · have hne : near (x, kd, q, z) = true := by unfold near; simpa using hq
        have e1 := found_yes (k := k) hx hne
        obtain ⟨g', c', w2, happ, hown, hg⟩ := rwPlace.app (W := wr.alloc (.cells #[.string x, .int .i64 kd, .int .i64 q, .int .i64 z] 31)) (base := B) (.slice a acc.length c) acc.length acc x k kd q z rfl S1.out.row S1.out.sz (by omega)
        have esz : (wr.alloc (.cells #[.string x, .int .i64 kd, .int .i64 q, .int .i64 z] 31)).heap.size = wr.heap.size + 1 := by simp
        rw [esz] at happ
        have B2 := S1.out.below.alloc S1.out.below.size (.cells #[.string x, .string k, .int .i64 kd, .int .i64 q, .int .i64 z] 33)
        have hlen : (acc ++ [(x, k, kd, q, z)]).length = acc.length + 1 := by rw [List.length_append, List.length_singleton]
        have N1 : Hid (Fi w0 B k l (n + 1) (acc ++ [(x, k, kd, q, z)]) (some ⟨g', 0, none⟩) c' (some ⟨g1, o1, none⟩) w2) := mkHid ⟨by rw [e1, ← S.out.eq]; rfl, by rw [hlen]; exact hown, S1.out.le, Nat.le_trans S1.out.sz (Nat.le_trans (by simp) hg.size), rd_grew (S1.out.ents.alloc _) hg (fun b o s e h => by
          cases e
          have h2 := (S1.out.row.lt g1 h.symm).1
          have h3 := hg1
          omega), B2.grown hg B2.size (fun j hj => Nat.le_trans S1.out.le (S1.out.row.lt j hj).1)⟩
        have HL := mkHid hlen
        clear hx hne e1 S S1 hown hg B2 hlen
        go_wp2
        go_roundw
        case rel => exact ⟨n + 1, _, _, c', by omega, by go_num, by rw [HL.out], N1⟩
        case measure => simp [intOf]; omega
      · have hne : near (x, kd, q, z) = false := by unfold near; simpa using hq
        have e1 := found_no (k := k) hx hne
        have N1 : Hid (Fi w0 B k l (n + 1) acc a c (some ⟨g1, o1, none⟩) (wr.alloc (.cells #[.string x, .int .i64 kd, .int .i64 q, .int .i64 z] 31))) := mkHid ⟨by rw [e1]; exact S1.out.eq, S1.out.row, S1.out.le, S1.out.sz, S1.out.ents, S1.out.below⟩
        have hq' : 12000 < q := by omega
        clear hx hne e1 S S1
        go_wp2
        go_roundw
        case rel => exact ⟨n + 1, _, _, c, by omega, by go_num, rfl, N1⟩
        case measure => simp [intOf]; omega
    · obtain rfl : n = l.length := by omega
      have heq := S.out.eq
      rw [List.take_of_length_le (Nat.le_refl _)] at heq
      have HQ := mkHid heq
      have hfit : Fits acc := by rw [heq]; exact found_fits hk HK.out
      have b1 := blk_new wr (.cells #[.slice a acc.length c] 22) wr.heap.size rfl
      have HBy := mkHid (bySpot_any (some ⟨wr.heap.size, 0, none⟩) 1 [(a, c, acc)] (wr.alloc (.cells #[.slice a acc.length c] 22)) (by
        intro i u hi
        have h1 := cel1 b1
        match i, hi with
        | 0, hi => simp [sv] at hi; subst hi; exact ⟨_, 0, rfl, h1⟩
        | i + 1, hi => simp at hi) (by intro x hx; simp at hx; subst hx; exact (own_rd S.out.row).alloc _) (by simp) (by simp [allP]; omega) (by simp [allP]; exact hfit))
      have hall : allP [(a, c, acc)] = acc := by simp [allP]
      rw [hall] at HBy
      have BW := mkHid (S.out.below.alloc S.out.below.size (.cells #[.slice a acc.length c] 22))
      clear S b1 hfit heq
      go_wp2_with fail
      refine HBy.out.mono ?_
      rintro e w2 ⟨b, m, D, rfl, hown, hM, hm, hbb, hbw⟩
      have BW2 := mkHid (below_trans BW.out hbw)
      have HR := mkHid (rising_any b m D _ w2 hown hM (by omega))
      clear hown hM hbw hbb HBy BW hm
      go_wp2_with fail
      refine HR.out.mono ?_
      rintro e w3 ⟨v, r, rfl, hown3, hperm, hsort, hb3⟩
      have er := sorted_is hperm hsort
      obtain ⟨a3, c3, rfl⟩ := slice_of hown3
      have hrl : r.length ≤ 20000 := by
        have := put_foldl_len acc []
        rw [← er] at this
        simp at this
        omega
      have hrli : (r.length : Int) ≤ 20000 := by omega
      have HO := mkHid hown3
      have BW3 := mkHid (below_trans BW2.out hb3)
      have HE := mkHid (show ((found k l).foldl put []) = r by rw [er, HQ.out])
      have hcap := (cap_of hown3).2
      have HF := mkHid (fun b o s e => Nat.le_trans BW2.out.size (hown3.lt b (by rw [show a3 = some ⟨b, o, s⟩ from e]; rfl)).1)
      clear hown3 hperm hsort hb3 HR BW2 er
      by_cases h3 : 300 < r.length
      · have h3i : (300 : Int) < (r.length : Int) := by omega
        have hmn : min (r.length : Int) 300 = 300 := by omega
        have hS : ∀ wx, (sliceSem 22 (.slice a3 r.length c3) none (some (.int .i64 300)) none).run Tryd.prog wx = .ok (.slice a3 300 c3) wx := fun wx => sl_hi a3 r.length c3 300 (by omega) wx
        have F : Hid (OfOwn w0 (((found k l).foldl put []).take 300) (.returned (.slice a3 300 c3)) w3) := mkHid (oo_of (by rw [HE.out, List.length_take]; omega) (by rw [HE.out]; exact own_take HO.out) HF.out BW3.out)
        clear HO HF BW3 HE HQ hcap
        go_wp2
        go_ret
        exact F.out
      · have h3i : (r.length : Int) ≤ 300 := by omega
        have hmn : min (r.length : Int) 300 = (r.length : Int) := by omega
        have hS : ∀ wx, (sliceSem 22 (.slice a3 r.length c3) none (some (.int .i64 (r.length : Int))) none).run Tryd.prog wx = .ok (.slice a3 r.length c3) wx := fun wx => sl_hi a3 r.length c3 r.length hcap wx
        have F : Hid (OfOwn w0 (((found k l).foldl put []).take 300) (.returned (.slice a3 r.length c3)) w3) := mkHid (oo_of (by rw [HE.out, List.length_take]; omega) (by rw [HE.out]; exact own_take HO.out) HF.out BW3.out)
        clear HO HF BW3 HE HQ hcap
        go_wp2
        go_ret
        exact F.out
set_option maxHeartbeats 2000000 in
theorem placesOfI_any (k s : ByteArray) (w : World) (hk : k.size ≤ 1048576) (hs : s.size ≤ 1048576) (I : himpl.IDigest) (hG : GV w) :
    Calls Tryd.prog 5 #[.string k, .string s] w (OfOwn w (ofA k s)) := by
  cases ho : objB k with
  | true =>
    have E : ofA k s = (((found k (scanT s)).foldl put []).take 300) := by unfold ofA; rw [if_pos ho]
    rw [E]
    exact of_in k s w hk hs ho I hG
  | false =>
    have E : ofA k s = [] := by unfold ofA; rw [if_neg (by rw [ho]; simp)]
    have HO := mkHid (fun wx => obj.objI_any k wx hk)
    rw [ho] at HO
    have F : Hid (OfOwn w (ofA k s) (.returned (.slice none 0 0)) w) := mkHid (oo_of (by rw [E]; rfl) (.inl (by rw [E]; rfl)) (fun b o s e => by cases e) (Below.refl _ _))
    clear I hG E
    go_enter Tryd.func5, Tryd.ntmps5
    go_wp2_with fail
    refine (HO.out _).mono ?_
    rintro e w1 ⟨rfl, rfl⟩
    go_wp2
    go_ret
    exact F.out
end Go.Proofs.YtppjbmmeacmoiaaDoor.plc
namespace Go.Proofs.YtppjbmmeacmoiaaDoor.plc
open Go.RowKit Go.Joins
open Go.Proofs.YtppjbmmeacmoiaaDoor.base Go.Proofs.YtppjbmmeacmoiaaDoor.blk Go.Proofs.YtppjbmmeacmoiaaDoor.aid
open Go.Proofs.YtppjbmmeacmoiaaDoor.row (Rd Own OwnV)
open Go.Proofs.YtppjbmmeacmoiaaDoor.sha (GV)
open Go.Proofs.YtppjbmmeacmoiaaDoor.rwPlace (cs szF me SPost)
set_option linter.unusedVariables false
set_option linter.unusedSimpArgs false

theorem me_neO {n : Nat} {l : List Pl} (hn : l.length = n) (h : cs (me 1 n) ≠ []) : cs l ≠ [] := by
  intro e
  have := rwPlace.cs_zero e
  subst this
  simp at hn
  subst hn
  exact h rfl
set_option maxRecDepth 100000 in
set_option maxHeartbeats 4000000 in
theorem of_walk (A : pack.IAt) (k s : ByteArray) (w : World) (hk : (k.size : Int) ≤ 9223372036854775807) (hs : (s.size : Int) ≤ 9223372036854775807) (hG : GV w) :
    Calls Tryd.prog 3 #[.string k, .string s] w fun e w' => e = .returned (.bool true) ∧ Below w.heap.size w w' := by
  by_cases hk1 : (1048576 : Int) < (k.size : Int)
  · clear hG A
    go_enter Tryd.func3, Tryd.ntmps3
    go_wp2
    go_ret
    exact ⟨rfl, Below.refl _ _⟩
  have hk2 : (k.size : Int) ≤ 1048576 := by omega
  have hk3 : k.size ≤ 1048576 := by omega
  by_cases hs1 : (1048576 : Int) < (s.size : Int)
  · clear hG A
    go_enter Tryd.func3, Tryd.ntmps3
    go_wp2
    go_ret
    exact ⟨rfl, Below.refl _ _⟩
  have hs2 : (s.size : Int) ≤ 1048576 := by omega
  have hs3 : s.size ≤ 1048576 := by omega
  have S0 := mkHid (mem.start w)
  have HS := mkHid (fun wx => placesOfS_any A k s wx hk3 hs3)
  have HI := mkHid (fun wx (hb : Below w.heap.size w wx) => placesOfI_any k s wx hk3 hs3 digI.digest_any (hG.below hb hG.lt))
  unfold OfPost at HS
  unfold OfOwn at HI
  have htl := ofA_len k s
  generalize ofA k s = ts at *
  have htn : ts.length ≤ 1048576 := by omega
  have HE := mkHid (fun wx a1 c1 a2 c2 (h1 : Rd wx a1 (cs ts)) (h2 : Rd wx a2 (cs ts)) => rwPlace.eqS_same a1 a2 c1 c2 ts wx htn h1 h2)
  have HMG := mkHid (fun wx a1 c1 (h : OwnV 33 wx a1 (cs ts)) => rwPlace.mark_any a1 c1 ts 1 wx htn (by omega) h)
  have HHG := mkHid (fun wx a1 c1 (h : Rd wx a1 (cs (me 1 ts.length))) => rwPlace.held_any a1 c1 ts.length 1 wx htn (by omega) h)
  have QG : Hid (cs (me 1 ts.length) ≠ [] → cs ts ≠ []) := mkHid (me_neO rfl)
  have hti : (ts.length : Int) ≤ 300 := by omega
  have hk8 : 0 ≤ 1 + 5 * (ts.length : Int) := by omega
  have hk9 : (1 + 5 * (ts.length : Int) != 1 + 5 * (ts.length : Int)) = false := by simp
  clear htl htn hk hs hG A
  go_enter Tryd.func3, Tryd.ntmps3
  go_wp2_with fail
  refine (HS.out _).mono ?_
  rintro e w1 ⟨a1, c1, rfl, ho1, hf1, hb1⟩
  have S1 := mkHid (S0.out.row hb1 ho1 hf1)
  clear hb1 S0 ho1 hf1 HS
  go_wp2_with fail
  refine (HI.out _ S1.out.below).mono ?_
  rintro e w2 ⟨a2, c2, rfl, ho2, hf2, hb2⟩
  have S2 := mkHid (S1.out.own hb2 ho2 hf2)
  clear hb2 S1 ho2 hf2
  go_wp2_with fail
  refine (HE.out _ _ _ _ _ S2.out.o0.rd S2.out.r0).mono ?_
  rintro e w3 ⟨rfl, hb3⟩
  have S3 := mkHid (S2.out.next hb3)
  clear hb3 S2 
  go_wp2_with fail
  refine (HMG.out _ _ _ S3.out.o0).mono ?_
  rintro e w4 ⟨rfl, ho4, q4, hg4, hq4⟩
  have S4 := mkHid (S3.out.mark hg4 hq4 ho4 QG.out)
  clear ho4 hg4 hq4 S3 HMG
  go_wp2_with fail
  refine (HHG.out _ _ _ S4.out.o0.rd).mono ?_
  rintro e w5 ⟨rfl, hb5⟩
  have S5 := mkHid (S4.out.next hb5)
  clear hb5 S4 
  go_wp2_with fail
  refine (HI.out _ S5.out.below).mono ?_
  rintro e w6 ⟨a6, c6, rfl, ho6, hf6, hb6⟩
  have S6 := mkHid (S5.out.row hb6 ho6.rd hf6)
  clear hb6 S5 ho6 hf6 HI
  go_wp2_with fail
  refine (HE.out _ _ _ _ _ S6.out.r0 S6.out.r1).mono ?_
  rintro e w7 ⟨rfl, hb7⟩
  have S7 := mkHid (S6.out.next hb7)
  clear hb7 S6 
  go_wp2_with fail
  refine (HHG.out _ _ _ S7.out.o0.rd).mono ?_
  rintro e w8 ⟨rfl, hb8⟩
  have S8 := mkHid (S7.out.next hb8)
  clear hb8 S7 
  go_wp2
  go_ret
  exact ⟨rfl, S8.out.below⟩
end Go.Proofs.YtppjbmmeacmoiaaDoor.plc
