/-
  What spec.HashBegin, HashMore, HashEnd and Digest answer and leave. Conditions: at most 1,048,576 numbers, which lie in memory; at most 1,048,576 bytes.
  What spec.Digest and spec.Short answer and leave. Conditions: at most 1,048,576 bytes.
  What the program's calls of chapter 6 are asked to answer and to leave, as the laws' walks take it. No condition.
  A digest is the same, however the text is taken in parts: in plain numbers. No condition.
-/
import Derived.Test.YtlmhdebjmkcanabDoorZShaA
import Derived.Test.YtlmhdebjmkcanabDoorZShaC
import Derived.Test.YtlmhdebjmkcanabDoorZBytes
namespace Go.Proofs.YtlmhdebjmkcanabDoor.sha
open Go.RowKit Go.Joins
open Go.Proofs.YtlmhdebjmkcanabDoor.base Go.Proofs.YtlmhdebjmkcanabDoor.word Go.Proofs.YtlmhdebjmkcanabDoor.ints Go.Proofs.YtlmhdebjmkcanabDoor.blk
set_option linter.unusedVariables false
attribute [local go_sem ↓] app_fold

/-- what HashMore tells: State, Rest, Size -/
def moreH (zs : List Int) (r : ByteArray) (size : Int) (t : ByteArray) : List Int × ByteArray × Int :=
  if 20000 < t.size then ([], ⟨#[]⟩, 0)
  else if hRight zs r size = false ∨ 1099511627776 < size + t.size then (zs, r, size)
  else (list8 (after (fn zs) (r ++ t) ((r ++ t).size / 64)), rest (r ++ t), size + t.size)
def endH (zs : List Int) (r : ByteArray) (size : Int) : ByteArray := if hRight zs r size = true then dig (fn zs) r size else ⟨#[]⟩
def digest (t : ByteArray) : ByteArray := if 20000 < t.size then ⟨#[]⟩ else dig (after start t (t.size / 64)) (rest t) t.size

def RPost (w : World) (o : List Int × ByteArray × Int) (e : Ending) (w' : World) : Prop :=
  ∃ a c, e = .returned (hash a o.1.length c o.2.1 o.2.2) ∧ Rd w' a o.1 ∧ Below w.heap.size w w'

theorem hRight_parts {zs : List Int} {r : ByteArray} {size : Int} (h : hRight zs r size = true) : zs.length = 8 ∧ 0 ≤ size ∧ size ≤ 1099511627776 ∧ (r.size : Int) = size % 64 ∧ r.size < 64 := by
  unfold hRight at h
  simp at h
  omega

/-- append of numbers to an empty row of our own -/
theorem appZ (b0 off cap : Nat) (zs : List Int) (W W' : World) (hW : W' = W ∨ W' = W.drew) (base : Nat) (q : Nat) (hown : W.ownsRow base 2 1 (.slice (some ⟨q, 0, none⟩) 0 0) 0 []) (hb : base ≤ W.heap.size) (hr : Rd W (some ⟨b0, off, none⟩) zs) (hl : zs.length ≤ 1048576) :
    ∃ g c w2, (appSem #[93, 93] 93 #[.slice (some ⟨q, 0, none⟩) 0 0, .slice (some ⟨b0, off, none⟩) zs.length cap]).run Tryd.prog W' = .ok (.slice (some ⟨g, 0, none⟩) zs.length c) w2 ∧ base ≤ g ∧ Rd w2 (some ⟨g, 0, none⟩) zs ∧ W.grownBy w2 (some q) := by
  obtain ⟨i0, hi, hz0, hz1, hz2⟩ := info_parts info2
  have hown' : W'.ownsRow base 2 1 (.slice (some ⟨q, 0, none⟩) 0 0) 0 [] := by rcases hW with rfl | rfl <;> exact hown
  have hc : ∀ j u, (zs.map intV)[j]? = some u → W'.cell? ((⟨b0, off, none⟩ : Addr).add j) = some u := by
    intro j u hj
    rw [List.getElem?_map] at hj
    cases hz : zs[j]? with
    | none => rw [hz] at hj; simp at hj
    | some z =>
      rw [hz] at hj
      simp at hj
      subst hj
      obtain ⟨b', o', e, hc⟩ := hr j z hz
      simp at e
      obtain ⟨rfl, rfl⟩ := e
      rw [Addr.add_lit]
      rcases hW with rfl | rfl <;> exact hc
  obtain ⟨v', w2, happ0, hown2, hgrow, hn⟩ := run_append_own (P := Tryd.prog) W' base 93 93 2 i0 (.int .i64 0) 1 8 Tryd.underlying93 hi hz0 hz1 hz2 rfl (by decide) (.slice (some ⟨q, 0, none⟩) 0 0) 0 [] hown' ⟨b0, off, none⟩ zs.length cap (zs.map intV) (by simp) hc (by intro u hu; rw [List.mem_map] at hu; obtain ⟨j, _, rfl⟩ := hu; rfl) (by unfold maxLen; omega) (by omega) (by rcases hW with rfl | rfl <;> exact hb)
  have h2 := hown2
  obtain ⟨_, h2⟩ := h2
  rcases h2 with ⟨rfl, h0⟩ | ⟨g, c, cur, rfl, hbg, hg, _, _, _, ht⟩
  · simp at hn
  · refine ⟨g, c, w2, by rw [Nat.zero_add] at happ0; exact happ0, hbg, ?_, ?_⟩
    · intro i z hz
      refine ⟨g, 0, rfl, ?_⟩
      have := hown2.cells rfl i (.int .i64 z) (by simp [hz, intV])
      rw [Addr.add_lit, Nat.zero_add] at this
      simpa using this
    · rcases hW with rfl | rfl
      · exact hgrow
      · exact ⟨hgrow.os, hgrow.tape, hgrow.output, hgrow.size, hgrow.block⟩

theorem rpost_set {w W : World} {o : List Int × ByteArray × Int} {a : Option Addr} {c n : Nat} {zs : List Int} {r : ByteArray} {sz : Int} (ho : o = (zs, r, sz)) (hn : zs.length = n) (hr : Rd W a zs) (hb : Below w.heap.size w W) (hne : ∀ b o s, a = some ⟨b, o, s⟩ → b ≠ w.heap.size + 1) (x0 x1 x2 : Value) :
    RPost w o (.returned (hash a n c r sz)) (((W.setCell ⟨w.heap.size + 1, 0, none⟩ x0).setCell ⟨w.heap.size + 1, 1, none⟩ x1).setCell ⟨w.heap.size + 1, 2, none⟩ x2) := by
  subst ho hn
  refine ⟨a, c, rfl, hr.block (fun b o' e hlt => ?_), ((hb.setCell (by simp) _).setCell (by simp) _).setCell (by simp) _⟩
  have := hne b o' none e
  rw [Below.heap_setCell _ _ _ _ (by simpa using this), Below.heap_setCell _ _ _ _ (by simpa using this), Below.heap_setCell _ _ _ _ (by simpa using this)]

end Go.Proofs.YtlmhdebjmkcanabDoor.sha
namespace Go.Proofs.YtlmhdebjmkcanabDoor.sha
open Go.RowKit Go.Joins
open Go.Proofs.YtlmhdebjmkcanabDoor.base Go.Proofs.YtlmhdebjmkcanabDoor.word Go.Proofs.YtlmhdebjmkcanabDoor.ints Go.Proofs.YtlmhdebjmkcanabDoor.blk
set_option linter.unusedVariables false

theorem nil_app (t : ByteArray) : (⟨#[]⟩ : ByteArray) ++ t = t := by
  apply ByteArray.ext
  simp
theorem rest_size (t : ByteArray) : (rest t).size = t.size % 64 := by
  unfold rest
  simp
  omega
theorem dig_size (z : Nat → Int) (r : ByteArray) (size : Int) : (dig z r size).size = 32 := by
  unfold dig
  show (digL _ 8).toArray.size = 32
  rw [List.size_toArray, digL_len]

set_option maxRecDepth 100000 in
theorem digest_any (t : ByteArray) (w : World) (ht : t.size ≤ 1048576) :
    Calls Tryd.prog 43 #[.string t] w fun e w' => e = .returned (.string (digest t)) ∧ Below w.heap.size w w' := by
  go_enter Tryd.func43, Tryd.ntmps43
  by_cases h1 : 20000 < (t.size : Int)
  · have E := mkHid (show digest t = ⟨#[]⟩ by unfold digest; rw [if_pos (by omega)])
    go_wp2
    go_ret
    exact ⟨word.ret_eq (by rw [E.out]; rfl), Below.refl _ _⟩
  · have E := mkHid (show digest t = dig (after start t (t.size / 64)) (rest t) t.size by unfold digest; rw [if_neg (by omega)])
    go_wp2_with fail
    refine (begin_any _).mono ?_
    rintro e w1 ⟨rfl, hk, hb1⟩
    have HM := more_any (w.heap.size + 1) 0 8 start ⟨#[]⟩ t 0 w1 (by show 0 + t.size ≤ _; omega) (by omega) (by omega) (fun i hi => by rw [Nat.zero_add]; exact rowF_cell hk hi)
    rw [nil_app, Int.zero_add] at HM
    have HM := mkHid HM
    have B1 := mkHid hb1
    clear hk hb1
    go_wp2_with fail
    refine HM.out.mono ?_
    rintro e w2 ⟨g, c, rfl, hg, hcs, hb2⟩
    have HE := mkHid (end_any g 0 c (after start t (t.size / 64)) (rest t) t.size w2 (fun i hi => by rw [Nat.zero_add]; exact hcs i hi) (by rw [rest_size]; omega) (by omega) (by omega))
    have B2 := mkHid (B1.out.trans (hb2.mono B1.out.size))
    clear hcs hb2 hg HM B1
    go_wp2_with fail
    refine HE.out.mono ?_
    rintro e w3 ⟨rfl, hb3⟩
    have B3 := mkHid (B2.out.trans (hb3.mono B2.out.size))
    clear hb3 B2 HE
    go_wp2
    go_ret
    exact ⟨word.ret_eq (by rw [E.out]; rfl), B3.out⟩

def short (t : ByteArray) : ByteArray := if 20000 < t.size then ⟨#[]⟩ else ⟨(fnExactHex.hexL ((digest t).data.toList.take 4)).toArray⟩

end Go.Proofs.YtlmhdebjmkcanabDoor.sha
namespace Go.Proofs.YtlmhdebjmkcanabDoor.himpl
open Go.RowKit Go.Joins
open Go.Proofs.YtlmhdebjmkcanabDoor.base Go.Proofs.YtlmhdebjmkcanabDoor.ints Go.Proofs.YtlmhdebjmkcanabDoor.blk
open Go.Proofs.YtlmhdebjmkcanabDoor.sha (hRight endH digest short moreH startL GV)
set_option linter.unusedVariables false

def IDigest : Prop := ∀ (t : ByteArray) (w : World), t.size ≤ 1048576 → GV w →
  Calls Tryd.prog 47 #[.string t] w fun e w' => e = .returned (.string (digest t)) ∧ Below w.heap.size w w'
def IEnd : Prop := ∀ (b0 off cap : Nat) (zs : List Int) (r : ByteArray) (size : Int) (w : World), zs.length ≤ 1048576 → Rd w (some ⟨b0, off, none⟩) zs → r.size ≤ 1048576 → -9223372036854775808 ≤ size → size ≤ 9223372036854775807 → GV w →
  Calls Tryd.prog 63 #[sha.hash (some ⟨b0, off, none⟩) zs.length cap r size] w fun e w' => e = .returned (.string (endH zs r size)) ∧ Below w.heap.size w w'
def IMore : Prop := ∀ (b0 off cap : Nat) (zs : List Int) (r t : ByteArray) (size : Int) (w : World), zs.length ≤ 1048576 → Rd w (some ⟨b0, off, none⟩) zs → b0 < w.heap.size → r.size ≤ 1048576 → t.size ≤ 1048576 → -9223372036854775808 ≤ size → size ≤ 9223372036854775807 → GV w →
  Calls Tryd.prog 64 #[sha.hash (some ⟨b0, off, none⟩) zs.length cap r size, .string t] w fun e w' => IPost w (moreH zs r size t) e w'
end Go.Proofs.YtlmhdebjmkcanabDoor.himpl
namespace Go.Proofs.YtlmhdebjmkcanabDoor.sha
open Go.RowKit Go.Joins
open Go.Proofs.YtlmhdebjmkcanabDoor.base Go.Proofs.YtlmhdebjmkcanabDoor.word Go.Proofs.YtlmhdebjmkcanabDoor.ints Go.Proofs.YtlmhdebjmkcanabDoor.blk
set_option linter.unusedVariables false

theorem bt_extract (s : ByteArray) (a b i : Nat) (hb : b ≤ s.size) (hi : a + i < b) : Go.PlainAid.bt (s.extract a b) i = Go.PlainAid.bt s (a + i) := by
  unfold Go.PlainAid.bt
  rw [dif_pos (by simp; omega), dif_pos (by omega)]
  congr 2
  simp [ByteArray.getElem_eq_getElem_data]
theorem bt_left (p q : ByteArray) (i : Nat) (h : i < p.size) : Go.PlainAid.bt (p ++ q) i = Go.PlainAid.bt p i := by
  unfold Go.PlainAid.bt
  rw [dif_pos (by simp; omega), dif_pos h]
  congr 2
  simp [ByteArray.getElem_eq_getElem_data]
  exact Array.getElem_append_left h
theorem wordAt_congr {s t : ByteArray} {i : Nat} (h : ∀ j, j < 64 → Go.PlainAid.bt s j = Go.PlainAid.bt t j) (hi : i < 16) : wordAt s i = wordAt t i := by
  unfold wordAt b8
  rw [h _ (by omega), h _ (by omega), h _ (by omega), h _ (by omega)]
theorem W_congr {f g : Nat → Int} (h : ∀ i, i < 16 → f i = g i) : ∀ i, W f i = W g i := by
  intro i
  induction i using Nat.strongRecOn with
  | _ i ih =>
    by_cases hi : i < 16
    · rw [W_low _ hi, W_low _ hi, h i hi]
    · rw [W_next f (by omega), W_next g (by omega), ih (i - 16) (by omega), ih (i - 15) (by omega), ih (i - 7) (by omega), ih (i - 2) (by omega)]
theorem rounds_congr {f g : Nat → Int} (h : ∀ i, i < 16 → f i = g i) (r : Regs) : ∀ i, rounds f r i = rounds g r i := by
  intro i
  induction i with
  | zero => rfl
  | succ i ih => rw [rounds, rounds, ih, W_congr h]
theorem block_congr {z z' f g : Nat → Int} (hz : ∀ i, i < 8 → z i = z' i) (h : ∀ i, i < 16 → f i = g i) : ∀ i, i < 8 → block z f i = block z' g i := by
  intro i hi
  have hr : regs z = regs z' := by
    unfold regs
    rw [hz 0 (by omega), hz 1 (by omega), hz 2 (by omega), hz 3 (by omega), hz 4 (by omega), hz 5 (by omega), hz 6 (by omega), hz 7 (by omega)]
  unfold block
  rw [hz i hi, hr, rounds_congr h]

theorem after_congr {z z' : Nat → Int} (hz : ∀ i, i < 8 → z i = z' i) (s t : ByteArray) (n : Nat) (h : ∀ j, j < 64 * n → Go.PlainAid.bt s j = Go.PlainAid.bt t j) (hs : 64 * n ≤ s.size) (ht : 64 * n ≤ t.size) : ∀ i, i < 8 → after z s n i = after z' t n i := by
  induction n with
  | zero => exact hz
  | succ n ih =>
    intro i hi
    rw [after, after]
    refine block_congr (ih (fun j hj => h j (by omega)) (by omega) (by omega)) (fun k hk => wordAt_congr (fun j hj => ?_) hk) i hi
    rw [bt_extract _ _ _ _ (by omega) (by omega), bt_extract _ _ _ _ (by omega) (by omega), h _ (by omega)]

theorem after_add (z : Nat → Int) (s : ByteArray) (m : Nat) (hs : 64 * m ≤ s.size) : ∀ k, 64 * (m + k) ≤ s.size → ∀ i, i < 8 → after z s (m + k) i = after (after z s m) (s.extract (64 * m) s.size) k i := by
  intro k
  induction k with
  | zero => intro _ i hi; rfl
  | succ k ih =>
    intro hk i hi
    rw [← Nat.add_assoc, after, after]
    refine block_congr (ih (by omega)) (fun q hq => wordAt_congr (fun j hj => ?_) hq) i hi
    rw [bt_extract _ _ _ _ (by omega) (by omega), bt_extract _ _ _ _ (by simp; omega) (by omega), bt_extract _ _ _ _ (by omega) (by omega)]
    congr 1
    omega

/-- the numbers behind a text -/
def stOf (p : ByteArray) : List Int := list8 (after start p (p.size / 64))
theorem fn_list8 (f : Nat → Int) (i : Nat) (hi : i < 8) : fn (list8 f) i = f i := by
  unfold fn list8
  simp [List.getD, hi]
theorem list8_congr {f g : Nat → Int} (h : ∀ i, i < 8 → f i = g i) : list8 f = list8 g := by
  unfold list8
  apply List.map_congr_left
  intro i hi
  exact h i (by simpa using hi)

theorem rest_app (p q : ByteArray) : rest p ++ q = (p ++ q).extract (64 * (p.size / 64)) (p ++ q).size := by
  unfold rest
  apply ByteArray.ext
  simp
  have hp : p.data.size = p.size := rfl
  have hq : q.data.size = q.size := rfl
  have e0 : 64 * (p.size / 64) - p.size = 0 := by omega
  have e1 : p.data.extract (64 * (p.size / 64)) (p.size + q.size) = p.data.extract (64 * (p.size / 64)) p.size := by
    apply Array.ext
    · simp
    · intro i h1 h2; simp
  have e2 : q.data.extract 0 q.size = q.data := by
    apply Array.ext
    · simp
    · intro i h1 h2; simp
  rw [e0, e1, e2]

theorem st_app (p q : ByteArray) : list8 (after (fn (stOf p)) (rest p ++ q) ((rest p ++ q).size / 64)) = stOf (p ++ q) := by
  have hs : (p ++ q).size = p.size + q.size := by simp
  have hr : (rest p ++ q).size = p.size % 64 + q.size := by simp [rest_size]
  have hn : (p ++ q).size / 64 = p.size / 64 + (rest p ++ q).size / 64 := by rw [hs, hr]; omega
  unfold stOf
  refine list8_congr (fun i hi => ?_)
  rw [hn, after_add start (p ++ q) (p.size / 64) (by omega) _ (by omega) i hi, ← rest_app]
  refine after_congr (fun j hj => ?_) _ _ _ (fun j hj => rfl) (by omega) (by omega) i hi
  rw [fn_list8 _ j hj]
  exact after_congr (fun k hk => rfl) p (p ++ q) _ (fun k hk => (bt_left p q k (by omega)).symm) (by omega) (by omega) j hj

theorem ext_ext (s : ByteArray) (a b m : Nat) : (s.extract a (a + m)).extract b m = s.extract (a + b) (a + m) := by
  apply ByteArray.ext
  apply Array.ext
  · simp
  · intro i h1 h2
    simp [Nat.add_assoc]
theorem rest_rest (p q : ByteArray) : rest (rest p ++ q) = rest (p ++ q) := by
  have hs : (p ++ q).size = p.size + q.size := by simp
  have hr : (rest p ++ q).size = p.size % 64 + q.size := by simp [rest_size]
  have hn : 64 * ((p ++ q).size / 64) = 64 * (p.size / 64) + 64 * ((rest p ++ q).size / 64) := by rw [hs, hr]; omega
  show (rest p ++ q).extract (64 * ((rest p ++ q).size / 64)) (rest p ++ q).size = (p ++ q).extract (64 * ((p ++ q).size / 64)) (p ++ q).size
  have hsz : (p ++ q).size = 64 * (p.size / 64) + (rest p ++ q).size := by rw [hs, hr]; omega
  rw [hn]
  generalize (rest p ++ q).size = m at *
  rw [rest_app, hsz]
  exact ext_ext _ _ _ _

theorem A_u32 (a b : Int) : u32B (A a b) = true := by
  have := A_bd a b
  unfold u32B
  simp
  omega
theorem start_u32 : ∀ i, i < 8 → u32B (start i) = true := by decide
theorem after_u32 (s : ByteArray) : ∀ n i, i < 8 → u32B (after start s n i) = true := by
  intro n
  cases n with
  | zero => exact start_u32
  | succ n => intro i hi; exact A_u32 _ _
theorem st_right (p : ByteArray) (hp : (p.size : Int) ≤ 1099511627776) : hRight (stOf p) (rest p) p.size = true := by
  unfold hRight
  have h1 : (stOf p).all u32B = true := by
    unfold stOf list8
    rw [List.all_eq_true]
    intro z hz
    rw [List.mem_map] at hz
    obtain ⟨i, hi, rfl⟩ := hz
    exact after_u32 p _ i (by simpa using hi)
  rw [h1]
  simp [rest_size, stOf, list8_len]
  omega

theorem more_parts (p q : ByteArray) (hq : q.size ≤ 20000) (h : (p.size : Int) + q.size ≤ 1099511627776) : moreH (stOf p) (rest p) p.size q = (stOf (p ++ q), rest (p ++ q), ((p ++ q).size : Int)) := by
  unfold moreH
  rw [if_neg (by omega), if_neg (by rw [st_right p (by omega)]; simp; omega), st_app, rest_rest]
  simp
theorem digL_congr {f g : Nat → Int} : ∀ k, (∀ i, i < k → f i = g i) → digL f k = digL g k := by
  intro k
  induction k with
  | zero => intro _; rfl
  | succ k ih => intro h; rw [← digL_next, ← digL_next, ih (fun i hi => h i (by omega)), h k (by omega)]
theorem dig_congr {z z' : Nat → Int} (hz : ∀ i, i < 8 → z i = z' i) (r : ByteArray) (size : Int) : dig z r size = dig z' r size := by
  unfold dig
  have h : ∀ i, i < 8 → after z (r ++ ⟨(tail size).toArray⟩) ((r ++ (⟨(tail size).toArray⟩ : ByteArray)).size / 64) i = after z' (r ++ ⟨(tail size).toArray⟩) ((r ++ (⟨(tail size).toArray⟩ : ByteArray)).size / 64) i :=
    after_congr hz _ _ _ (fun j hj => rfl) (by omega) (by omega)
  rw [digL_congr 8 h]
theorem end_parts (p : ByteArray) (hp : p.size ≤ 20000) : endH (stOf p) (rest p) p.size = digest p := by
  unfold endH digest
  rw [if_pos (st_right p (by omega)), if_neg (by omega)]
  exact dig_congr (fun i hi => fn_list8 _ i hi) _ _
theorem start_parts : (startL, (⟨#[]⟩ : ByteArray), (0 : Int)) = (stOf ⟨#[]⟩, rest ⟨#[]⟩, (((⟨#[]⟩ : ByteArray).size : Nat) : Int)) := by rfl
end Go.Proofs.YtlmhdebjmkcanabDoor.sha
