import PyProof.Rows.All
import Wide.All
import OpenK.AllK
import Wide.FinOn
import HandS.TupSets
import HandS.SortOrd
import HandS.SetKeys
import HandS.ForExc
import HandS.ForMost
import HandS.Nested
import HandS.IsInst
import PyProof.Rows.EnumRows
import PyProof.EnumMake
import KE.GoesMore
import HandS.ExcInit
import HandS.ExcInitHot
import HandS.ExcIs
import HandS.ExcField
import HandS.HotCalls
import HandS.RaiseMore
import HandS.Comp
import KE.KExcIs
import PyProof.ReprRoads
import HandS.Style
import PyProof.Rows.FactsT3
import HandS.Conv
import HandS.SortInts
import HandS.TryOnly
import HandS.Flt
import HandS.FltList
import HandS.Deep
import HandS.EndTab
import PySem.Challenge.RW_ringsdecide_k02_whole_kinds_built_by_rul
set_option Elab.async false
set_option linter.all false
namespace RD
open PySem
def topS (i : Nat) : Stmt := PySem.Challenge.pw_ringsdecide_k02_whole_kinds_built_by_rul.main.body.getD i (.Pass ⟨0, 0, 0, 0⟩)
abbrev k_RingsError : Stmt := topS 1
abbrev k_InvalidKind : Stmt := topS 2
abbrev s_is_integer : Stmt := topS 4
abbrev s_is_number : Stmt := topS 5
abbrev s_is_below : Stmt := topS 6
abbrev s_is_sequence : Stmt := topS 7
abbrev s_are_below : Stmt := topS 8
abbrev s_is_row : Stmt := topS 9
abbrev s_is_triple : Stmt := topS 10
abbrev s_check_turned : Stmt := topS 12
abbrev s_check_triples : Stmt := topS 13
abbrev s_lacking_reading : Stmt := topS 14
abbrev s_bits_table : Stmt := topS 15
abbrev k_Kind : Stmt := topS 16
abbrev s_readings : Stmt := topS 17
abbrev c_MOST_NUMBERS : Stmt := topS 19
abbrev s_all_triples : Stmt := topS 20
abbrev s_own_turned : Stmt := topS 21
abbrev s_free_kind : Stmt := topS 22
abbrev s_barred_kind : Stmt := topS 23
abbrev s_order_kind : Stmt := topS 24
abbrev s_is_level : Stmt := topS 25
abbrev s_level_kind : Stmt := topS 26
abbrev s_check_numbers : Stmt := topS 27
abbrev s_is_triangle : Stmt := topS 28
abbrev s_distance_kind : Stmt := topS 29
abbrev s_sum_kind : Stmt := topS 30
abbrev s_sector_kind : Stmt := topS 31
abbrev s__law_draw : Stmt := topS 33
abbrev s__law_any : Stmt := topS 34
abbrev s__law_of : Stmt := topS 35
abbrev s__law_mixed : Stmt := topS 36
abbrev s__law_by : Stmt := topS 37
abbrev s__law_six : Stmt := topS 38
abbrev s__law_triples : Stmt := topS 39
abbrev s__law_is : Stmt := topS 40
abbrev s__law_distance : Stmt := topS 41
abbrev s__law_barred : Stmt := topS 42
abbrev s__law_clocks_right : Stmt := topS 43
abbrev s_law : Stmt := topS 44
end RD
set_option maxRecDepth 100000
set_option maxHeartbeats 4000000
/-! Sets of tuples of ints with up to 300 members: tables of 8, 32, 128 and 512 slots. -/
namespace Tb
open PySem PySem.Spec PyProof.Rows L2

/-- the slots met in n steps from c on, as bits -/
def cov (m : Nat) : Nat → Nat → Nat → Nat
  | 0, _, acc => acc
  | n + 1, c, acc => cov m n ((c * 5 + 1) % (m + 1)) (acc ||| 2 ^ c)
theorem cov_bit (m j : Nat) : ∀ n b acc, (cov m n (lcgN m b) acc).testBit j = true → acc.testBit j = true ∨ ∃ k, k < b + n ∧ lcgN m k = j
  | 0, _, _, h => .inl h
  | n + 1, b, acc, h => by
    rcases cov_bit m j n (b + 1) (acc ||| 2 ^ lcgN m b) h with z | ⟨k, hk, e⟩
    · rw [Nat.testBit_or, Bool.or_eq_true, Nat.testBit_two_pow, decide_eq_true_eq] at z
      rcases z with z | z
      · exact .inl z
      · exact .inr ⟨b, by omega, z⟩
    · exact .inr ⟨k, by omega, e⟩
/-- a mask whose round meets every slot -/
structure Msk (m : Nat) : Prop where
  odd : m % 2 = 1
  top : m ≤ 511
  all : ∀ j, j ≤ m → ∃ b, b ≤ m ∧ lcgN m b = j
  back : lcgN m (m + 1) = 0
theorem msk_of {m : Nat} (h : m % 2 = 1 ∧ m ≤ 511 ∧ cov m (m + 1) 0 0 = 2 ^ (m + 1) - 1 ∧ lcgN m (m + 1) = 0) : Msk m := by
  obtain ⟨h1, h2, h3, h4⟩ := h
  refine ⟨h1, h2, fun j hj => ?_, h4⟩
  have z : (cov m (m + 1) (lcgN m 0) 0).testBit j = true := by
    rw [show lcgN m 0 = 0 from rfl, h3, Nat.testBit_two_pow_sub_one]
    exact decide_eq_true (Nat.lt_succ_of_le hj)
  rcases cov_bit m j _ _ _ z with y | ⟨k, hk, e⟩
  · rw [Nat.zero_testBit] at y
    cases y
  · exact ⟨k, by omega, e⟩
theorem msk7 : Msk 7 := msk_of (by decide +kernel)
theorem msk31 : Msk 31 := msk_of (by decide +kernel)
theorem msk127 : Msk 127 := msk_of (by decide +kernel)
theorem msk511 : Msk 511 := msk_of (by decide +kernel)

section
variable {m : Nat}
theorem Msk.again (M : Msk m) : ∀ k, lcgN m (m + 1 + k) = lcgN m k
  | 0 => M.back
  | k + 1 => congrArg (fun x => (x * 5 + 1) % (m + 1)) (M.again k)
theorem Msk.go (M : Msk m) {i j : Nat} (hi : i ≤ m) (hj : j ≤ m) : ∃ k, k ≤ m ∧ lcgI m i k = j := by
  obtain ⟨a, la, rfl⟩ := M.all i hi
  obtain ⟨b, lb, rfl⟩ := M.all j hj
  by_cases c : a ≤ b
  · exact ⟨b - a, by omega, by rw [lcgN_add, show a + (b - a) = b by omega]⟩
  · exact ⟨m + 1 + b - a, by omega, by rw [lcgN_add, show a + (m + 1 + b - a) = m + 1 + b by omega, M.again]⟩
theorem Msk.run (M : Msk m) (h : Int) {j : Nat} (hj : j ≤ m) : ∃ n, n ≤ m + 12 ∧ runI m (SetTable.bits h) n = j := by
  obtain ⟨k, lk, e⟩ := M.go (runI_le m (SetTable.bits h) 12) hj
  exact ⟨12 + k, by omega, (runI_tail (bits_lt h) k).trans e⟩
theorem Msk.to (M : Msk m) (h : Int) {j : Nat} (hj : j ≤ m) : ∃ k, k < 10 * SetTable.turns m ∧ way m h k = j := by
  obtain ⟨n, ln, e⟩ := M.run h hj
  obtain ⟨k, lk, ek⟩ := run_nth m (SetTable.bits h) n
  have t : SetTable.turns m = m + 15 := rfl
  exact ⟨k, by omega, (congrArg SetTable.Probe.j ek).trans e⟩
theorem way_in (h : Int) (k : Nat) : way m h k ≤ m := by
  have hi : SetTable.bits h % (m + 1) < m + 1 := Nat.mod_lt _ (Nat.succ_pos m)
  have r := runEnd_bd (Nat.le_of_lt_succ hi)
  have q := nth_in (m := m) k (runAt m (SetTable.bits h % (m + 1)) (SetTable.bits h))
    (show SetTable.bits h % (m + 1) + (SetTable.runEnd m (SetTable.bits h % (m + 1)) - SetTable.bits h % (m + 1)) ≤ m by omega)
  exact Nat.le_trans (Nat.le_add_right _ _) q
end

/-- where a hash is put: the first slot of its way that nobody has -/
def Frst (m : Nat) (h : Int) (has : Nat → Prop) (K : Nat) : Prop := ¬ has (way m h K) ∧ ∀ k, k < K → has (way m h k)
/-- the table holds these hashes, each where its way leads to -/
structure Tab (t : SetTable) (hs : List Int) : Prop where
  ris : Ris t.place.toList
  dum : t.dummies = #[]
  num : t.place.toList.length = hs.length
  msk : Msk t.mask
  low : ∀ x ∈ t.place.toList, x ≤ t.mask
  led : ∀ (i : Nat) (h : Int) (j : Nat), hs[i]? = some h → t.place.toList[i]? = some j → ∃ k, way t.mask h k = j ∧ ∀ c, c < k → way t.mask h c ∈ t.place.toList
section
variable {t : SetTable} {hs : List Int}
theorem Tab.size (T : Tab t hs) : t.place.size = hs.length := T.num
theorem Tab.frst (T : Tab t hs) (few : hs.length ≤ t.mask) (h : Int) : ∃ K, K < 10 * SetTable.turns t.mask ∧ Frst t.mask h (· ∈ t.place.toList) K := by
  obtain ⟨j, lj, nj⟩ := st_missing t.place.toList (t.mask + 1) (by rw [T.num]; omega)
  obtain ⟨k, lk, e⟩ := T.msk.to h (Nat.le_of_lt_succ lj)
  obtain ⟨K, l1, n1, b1⟩ := st_least (p := fun c => way t.mask h c ∉ t.place.toList) k (by rw [e]; exact nj)
  exact ⟨K, Nat.lt_of_le_of_lt l1 lk, n1, fun c hc => Classical.byContradiction fun z => b1 c hc z⟩
theorem Tab.ahead (T : Tab t hs) {h : Int} {K i j : Nat} (F : Frst t.mask h (· ∈ t.place.toList) K) (hi : hs[i]? = some h) (hj : t.place.toList[i]? = some j) : ∃ k, k < K ∧ way t.mask h k = j := by
  obtain ⟨k, e, b⟩ := T.led i h j hi hj
  refine ⟨k, Classical.byContradiction fun z => F.1 ?_, e⟩
  rcases Nat.lt_or_ge K k with c | c
  · exact b K c
  · have : K = k := by omega
    subst this
    show way t.mask h K ∈ t.place.toList
    rw [e]
    exact List.mem_of_getElem? hj
/-- one more -/
theorem Tab.more (T : Tab t hs) {h : Int} {K p : Nat} {t1 : SetTable} (F : Frst t.mask h (· ∈ t.place.toList) K) (e : t.put (way t.mask h K) = (t1, p)) :
    p ≤ hs.length ∧ p = SetTable.below t.place (way t.mask h K) ∧ Tab t1 (hs.take p ++ h :: hs.drop p) ∧ t1.mask = t.mask ∧ t1.led = t.led ∧ t1.plain = t.plain ∧ t1.fill = hs.length + 1 := by
  have hjm : way t.mask h K ≤ t.mask := way_in h K
  have Fl := F.2
  have Fn : way t.mask h K ∉ t.place.toList := F.1
  generalize ej : way t.mask h K = j at e hjm Fn
  have e1 : (t.put j).1 = t1 := by rw [e]
  have e2 : SetTable.below t.place j = p := congrArg Prod.snd e
  have cut := (below_cut T.ris j).1
  rw [e2] at cut
  have cutp : p ≤ t.place.toList.length := cut
  have cuth : p ≤ hs.length := by rw [← T.num]; exact cutp
  have nw : t.place[SetTable.below t.place j]? ≠ some j := fun z => Fn (List.mem_of_getElem? (by rw [Array.getElem?_toList]; exact z))
  have pp := put_place t j
  rw [e1, e2] at pp
  have grow : ∀ x, x ∈ t.place.toList → x ∈ t1.place.toList := fun x hx => by
    rw [pp]
    exact mem_ins.2 (.inr hx)
  have hm : t1.mask = t.mask := by rw [← e1] <;> rfl
  have hd : t1.dummies = #[] := by rw [← e1]; exact put_dm T.dum j
  have hn : t1.place.toList.length = hs.length + 1 := by rw [pp, len_ins _ cutp, T.num]
  have hr : Ris t1.place.toList := by rw [← e1]; exact ris_insert T.ris nw
  refine ⟨cuth, e2.symm, ⟨hr, hd, by rw [hn, len_ins _ cuth], by rw [hm]; exact T.msk, fun x hx => ?_, fun i h' j' a b => ?_⟩, hm, by rw [← e1] <;> rfl, by rw [← e1] <;> rfl, ?_⟩
  · rw [pp] at hx
    rw [hm]
    exact (mem_ins.1 hx).elim (fun z => z ▸ hjm) (T.low x)
  · rw [tins_get hs cuth] at a
    rw [pp, tins_get _ cutp] at b
    rw [hm]
    have old : ∀ i', hs[i']? = some h' → t.place.toList[i']? = some j' → ∃ k, way t.mask h' k = j' ∧ ∀ c, c < k → way t.mask h' c ∈ t1.place.toList := fun i' a' b' => by
      obtain ⟨k, ek, bk⟩ := T.led i' h' j' a' b'
      exact ⟨k, ek, fun c hc => grow _ (bk c hc)⟩
    by_cases c : i < p
    · rw [if_pos c] at a b
      exact old i a b
    · rw [if_neg c] at a b
      by_cases d : i = p
      · rw [if_pos d, Option.some.injEq] at a b
        subst a
        subst b
        exact ⟨K, ej, fun c hc => grow _ (Fl c hc)⟩
      · rw [if_neg d] at a b
        exact old _ a b
  · show t1.place.size + t1.dummies.size = hs.length + 1
    rw [hd, ← hn] <;> rfl
end

/-! ### laid anew -/
section
variable {m : Nat} {own : Array (Option Nat)} {done : List Int}
theorem lay_free (M : Msk m) (h : Int) {j : Nat} (hj : j ≤ m) (nj : oAt own j = none) :
    ∃ K, SetTable.layClean.free m own (SetTable.turns m) (SetTable.bits h % (m + 1)) (SetTable.bits h) = some (way m h K) ∧ Frst m h (fun x => oAt own x ≠ none) K := by
  obtain ⟨n, ln, e⟩ := M.run h hj
  generalize hi : SetTable.bits h % (m + 1) = i0
  generalize hb : SetTable.bits h = b0 at *
  have at_n : (nth m (runAt m i0 b0) (off m i0 b0 n)).j = j := by
    rw [nth_off, ← hi, itL_run]
    exact e
  obtain ⟨K, l1, n1, b1⟩ := st_least (p := fun k => oAt own (nth m (runAt m i0 b0) k).j = none) (off m i0 b0 n) (by rw [at_n]; exact nj)
  have wy : ∀ k, way m h k = (nth m (runAt m i0 b0) k).j := fun k => by
    show (nth m (runAt m (SetTable.bits h % (m + 1)) (SetTable.bits h)) k).j = _
    rw [hb, hi]
  refine ⟨K, ?_, fun z => z ?_, fun k hk => ?_⟩
  · rw [wy]
    refine free_spec m own (SetTable.turns m) n i0 b0 K (show n < m + 15 by omega) l1 (fun k hk => ?_) ?_
    · have q := b1 k hk
      revert q
      cases oAt own (nth m (runAt m i0 b0) k).j with
      | none => exact fun q => absurd rfl q
      | some _ => exact fun _ => rfl
    · rw [n1] <;> rfl
  · rw [wy]
    exact n1
  · show oAt own (way m h k) ≠ none
    rw [wy]
    exact b1 k hk
theorem own_more (M : Msk m) (W : Own m done own) (few : done.length ≤ m) (h : Int) :
    ∃ j, SetTable.layClean.free m own (SetTable.turns m) (SetTable.bits h % (m + 1)) (SetTable.bits h) = some j ∧ Own m (done ++ [h]) (own.setIfInBounds j (some done.length)) := by
  obtain ⟨ps, lp, inp⟩ := W.ps
  obtain ⟨j0, l0, n0⟩ := st_missing ps (m + 1) (by omega)
  have f0 : oAt own j0 = none := Classical.byContradiction fun z => n0 (inp j0 (Nat.le_of_lt_succ l0) z)
  obtain ⟨K, e, Fn, Fl⟩ := lay_free M h (Nat.le_of_lt_succ l0) f0
  have fr : oAt own (way m h K) = none := Classical.byContradiction Fn
  have lw : way m h K ≤ m := way_in h K
  refine ⟨_, e, ?_⟩
  have lo : way m h K < own.size := by rw [W.sz]; omega
  have sl := oAt_set_self (some done.length) lo
  have ne : ∀ x, x ≠ way m h K → oAt (own.setIfInBounds (way m h K) (some done.length)) x = oAt own x := fun x hx => oAt_set_ne _ hx
  have sz := (Array.size_setIfInBounds (xs := own) (i := way m h K) (a := some done.length)).trans W.sz
  generalize own.setIfInBounds (way m h K) (some done.length) = own1 at sl ne sz
  have keep : ∀ x, oAt own x ≠ none → oAt own1 x ≠ none := fun x hx => by
    rw [ne x fun z => hx (z ▸ fr)]
    exact hx
  constructor
  · exact sz
  · intro j k hj ek
    by_cases c : j = way m h K
    · rw [c, sl, Option.some.injEq] at ek
      exact ⟨h, K, by simp [← ek], c.symm, fun k' hk' => keep _ (Fl k' hk')⟩
    · rw [ne j c] at ek
      obtain ⟨g, C, a1, a2, a3⟩ := W.at_ j k hj ek
      have lk : k < done.length := (List.getElem?_eq_some_iff.mp a1).1
      exact ⟨g, C, by rw [List.getElem?_append_left lk, a1], a2, fun k' hk' => keep _ (a3 k' hk')⟩
  · intro k hk
    rw [List.length_append, List.length_singleton] at hk
    rcases Nat.lt_or_ge k done.length with c | c
    · obtain ⟨j, hj, ek⟩ := W.all k c
      exact ⟨j, hj, by rw [ne j fun z => (by rw [z, fr] at ek; cases ek)]; exact ek⟩
    · exact ⟨way m h K, lw, by rw [sl, show k = done.length by omega]⟩
  · refine ⟨way m h K :: ps, by simp [lp], fun j hj nj => ?_⟩
    by_cases c : j = way m h K
    · exact c ▸ List.mem_cons_self
    · rw [ne j c] at nj
      exact List.mem_cons_of_mem _ (inp j hj nj)
theorem lay_all (M : Msk m) : ∀ (more done : List Int) (own : Array (Option Nat)), Own m done own → done.length + more.length ≤ m →
    ∃ own2, more.foldl (stepF m) (some (own, done.length)) = some (own2, (done ++ more).length) ∧ Own m (done ++ more) own2
  | [], done, own, W, _ => ⟨own, by simp, by simpa using W⟩
  | g :: more, done, own, W, few => by
    rw [List.length_cons] at few
    obtain ⟨j, e, W1⟩ := own_more M W (by omega) g
    have l1 : (done ++ [g]).length = done.length + 1 := by simp
    obtain ⟨own2, e2, W2⟩ := lay_all M more (done ++ [g]) _ W1 (by omega)
    rw [l1, List.append_assoc, List.singleton_append] at e2
    rw [List.append_assoc, List.singleton_append] at W2
    exact ⟨own2, by rw [List.foldl_cons, stepF_some e, e2], W2⟩
theorem lay_clean (M : Msk m) {hs : Array Int} (few : hs.size ≤ m) : ∃ own, SetTable.layClean m hs = some own ∧ Own m hs.toList own := by
  obtain ⟨own, e, W⟩ := lay_all M hs.toList [] _ (Own.init m) (by simpa using few)
  exact ⟨own, by rw [layClean_eq, show (0 : Nat) = ([] : List Int).length from rfl, e] <;> rfl, W⟩
end
/-- all laid anew in a table of m + 1 slots -/
theorem relay_tab (t : SetTable) {hs : Array Int} {want m : Nat} (hw : SetTable.sizeAbove want - 1 = m) (M : Msk m) (few : hs.size ≤ m) :
    ∃ t1 ord, t.relaid hs want = some (t1, ord) ∧ ord.toList.Perm (List.range hs.size) ∧ Tab t1 (ord.toList.map fun i => hs.getD i 0) ∧ t1.mask = m ∧ t1.led = t.led ∧ t1.plain = t.plain := by
  obtain ⟨own, e, W⟩ := lay_clean M few
  have hlen : hs.toList.length = hs.size := rfl
  have sorted := ris_live (fun j => own.getD j none) (List.range (m + 1)) (by unfold Ris; exact List.pairwise_lt_range)
  have inL : ∀ {j k}, (j, k) ∈ liveOf m own ↔ j ≤ m ∧ oAt own j = some k := mem_live W.sz
  have up : Ris ((liveOf m own).map (·.1)) := sorted.1
  have low : ∀ x ∈ (liveOf m own).map (·.1), x ≤ m := fun x hx => Nat.le_of_lt_succ (List.mem_range.mp (sorted.2 x hx))
  have every : ∀ k, k < hs.size → k ∈ (liveOf m own).map (·.2) := fun k hk => by
    obtain ⟨j, hj, ek⟩ := W.all k hk
    exact List.mem_map.mpr ⟨(j, k), inL.2 ⟨hj, ek⟩, rfl⟩
  have num : (liveOf m own).length = hs.size := by
    obtain ⟨ps, lp, inp⟩ := W.ps
    have nd : ((liveOf m own).map (·.1)).Nodup := List.Pairwise.imp (fun z => Nat.ne_of_lt z) up
    have le1 := nat_nodup_len ((liveOf m own).map (·.1)) ps nd fun x hx => by
      obtain ⟨⟨y, k⟩, hq, rfl⟩ := List.mem_map.mp hx
      have z := inL.1 hq
      exact inp y z.1 (by rw [z.2]; exact Option.some_ne_none k)
    have le2 := nat_nodup_len (List.range hs.size) ((liveOf m own).map (·.2)) List.nodup_range fun k hk => every k (List.mem_range.mp hk)
    rw [List.length_map] at le1 le2
    rw [List.length_range] at le2
    omega
  refine ⟨tabOf t m own, ((liveOf m own).map (·.2)).toArray, by rw [relaid_eq, hw, e] <;> rfl, perm_range _ _ (by simpa using num) every, ?_, rfl, rfl, rfl⟩
  refine ⟨up, rfl, by show ((liveOf m own).map (·.1)).length = _; simp, M, low, fun i g j a b => ?_⟩
  have a' : (((liveOf m own).map (·.2)).map fun i => hs.getD i 0)[i]? = some g := a
  have b' : ((liveOf m own).map (·.1))[i]? = some j := b
  rw [List.map_map, List.getElem?_map, Option.map_eq_some_iff] at a'
  rw [List.getElem?_map, Option.map_eq_some_iff] at b'
  obtain ⟨q, hq, eg⟩ := a'
  obtain ⟨q', hq', ej⟩ := b'
  rw [hq, Option.some.injEq] at hq'
  subst hq'
  obtain ⟨y, k⟩ := q
  have ey : y = j := ej
  subst ey
  have z := inL.1 (List.mem_of_getElem? hq)
  obtain ⟨g0, K, a1, a2, a3⟩ := W.at_ y k z.1 z.2
  have eq0 : g0 = g := by
    have z2 : hs.getD k 0 = g := eg
    rw [← z2, Array.getD_eq_getD_getElem?, ← Array.getElem?_toList, a1] <;> rfl
  subst eq0
  refine ⟨K, a2, fun c hc => ?_⟩
  show way m g0 c ∈ (liveOf m own).map (·.1)
  obtain ⟨k2, ek2⟩ := Option.ne_none_iff_exists'.mp (a3 c hc)
  exact List.mem_map.mpr ⟨(way m g0 c, k2), inL.2 ⟨way_in g0 c, ek2⟩, rfl⟩
end Tb
set_option maxRecDepth 100000
set_option maxHeartbeats 4000000
namespace Tb
open PySem PySem.Spec PyProof.Rows L2

section
variable {P : Program} {w : World} {A : Around} {E : Value → Shared → Prop} {s : Shared}
/-- the masks that come about -/
def Four (m : Nat) : Prop := m = 7 ∨ m = 31 ∨ m = 127 ∨ m = 511
theorem Four.msk {m : Nat} (h : Four m) : Msk m := by
  rcases h with rfl | rfl | rfl | rfl
  · exact msk7
  · exact msk31
  · exact msk127
  · exact msk511
/-- at a stands a set of the tuples of L, all of whose ints are told -/
structure SetG (P : Program) (w : World) (h : Heap) (a : Addr) (L : List (Addr × List Int)) (es : Array (Int × Value)) (ep : Nat) (t : SetTable) : Prop where
  obj : ∃ o, h.get? a = some o ∧ o.ExactSet ∧ o.data = .set es ep t
  row : es.toList = rowsOf P w L
  tab : Tab t (L.map fun q => thash P w q.2)
  uni : (L.map (·.2)).Nodup
  tup : ∀ q ∈ L, IsT P w h q.2 q.1
  pln : t.plain = true
  ldd : w.params.followText "set-order" = true ∨ t.led = true
  rm : L.length * 5 < t.mask * 3
  four : Four t.mask
variable {a : Addr} {L : List (Addr × List Int)} {es : Array (Int × Value)} {ep : Nat} {t : SetTable}
theorem SetG.sz (R : SetG P w s.heap a L es ep t) : es.size = L.length := by
  have z := congrArg List.length R.row
  simpa [rowsOf] using z
theorem SetG.few (R : SetG P w s.heap a L es ep t) : L.length < 307 := by
  have z := R.rm
  have y := R.four.msk.top
  omega
theorem SetG.fit (R : SetG P w s.heap a L es ep t) : t.fits es.size = true := by
  have n1 := R.tab.size
  have n2 := R.sz
  have n3 := R.rm
  rw [List.length_map] at n1
  have n4 : t.fill = t.place.size := by
    show t.place.size + t.dummies.size = _
    rw [R.tab.dum] <;> rfl
  unfold SetTable.fits
  rw [n4, Bool.and_eq_true, beq_iff_eq, decide_eq_true_eq]
  omega
theorem SetG.item (R : SetG P w s.heap a L es ep t) {i : Nat} {q : Addr × List Int} (h : L[i]? = some q) : es[i]? = some (thash P w q.2, Value.ref q.1) := by
  rw [← Array.getElem?_toList, R.row, rowsOf, List.getElem?_map, h] <;> rfl
theorem SetG.stays (R : SetG P w s.heap a L es ep t) : t.gaveWay = false := by
  unfold SetTable.gaveWay
  rw [R.tab.msk.odd] <;> rfl

abbrev go0 (m : Nat) (g : Int) : SetTable.Probe := runAt m (SetTable.bits g % (m + 1)) (SetTable.bits g)
theorem clear_nth (m : Nat) : ∀ (n : Nat) (p : SetTable.Probe), p.dummy = none → (nth m p n).dummy = none
  | 0, _, h => h
  | n + 1, p, h => clear_nth m n (adv m p) (by
    unfold adv
    split <;> exact h)

/-- a search for a tuple of ints, from step c of its way on -/
theorem seek (R : SetG P w s.heap a L es ep t) {x : Addr} {k : List Int} (hx : IsT P w s.heap k x) (hu : A.units < cLine) (ad : Bool) {g : Int} (eg : thash P w k = g) {K : Nat} (lK : K < 10 * SetTable.turns t.mask)
    (F : Frst t.mask g (· ∈ t.place.toList) K) {Q : SetFound → Shared → Prop} (yes : k ∈ L.map (·.2) → ∀ o : Option Nat, (ad = false → o.isSome = true) → Q (.there o) s) (no : k ∉ L.map (·.2) → Q (.free (way t.mask g K) false) s) :
    ∀ (f c : Nat) (at_ : Option SetTable.Probe), at_.getD (t.probeStart g) = nth t.mask (go0 t.mask g) c → c ≤ K → K < f + c →
      (∀ (i : Nat) q, L[i]? = some q → q.2 = k → ∃ d, c ≤ d ∧ d < K ∧ t.place.toList[i]? = some (way t.mask g d)) → wpAny (model P w) A (setSearchFrom a (.ref x) g ad f at_) Q E s
  | 0, c, _, _, lc, lf, _ => absurd lf (by omega)
  | f + 1, c, at_, ea, lc, lf, back => by
    obtain ⟨o, oa, xa, da⟩ := R.obj
    have fit := R.fit
    rw [setSearchFrom_succ]
    refine wpAny_bind (wpAny_setState_of oa da fit ?_)
    dsimp only
    refine wp_if_neg (by rw [R.stays]; decide) ?_
    try refine wpAny_bind (wpAny_pure ?_)
    have from_c : ∀ n, nth t.mask (nth t.mask (go0 t.mask g) c) n = nth t.mask (go0 t.mask g) (c + n) := fun n => (nth_add t.mask c _ n).symm
    have j_c : ∀ n, (nth t.mask (nth t.mask (go0 t.mask g) c) n).j = way t.mask g (c + n) := fun n => congrArg SetTable.Probe.j (from_c n)
    have hash : ∀ (i : Nat) q, L[i]? = some q → (es[i]?.map (·.1)).getD 0 = thash P w q.2 := fun i q hq => by rw [R.item hq] <;> rfl
    have told := go_spec t R.tab.ris R.tab.dum (fun i => (es[i]?.map (·.1)).getD 0) g (10 * SetTable.turns t.mask) (K - c) (nth t.mask (go0 t.mask g) c) (clear_nth _ c _ rfl) (by omega)
      (fun n hn => by rw [j_c]; exact F.2 (c + n) (by omega)) (by rw [j_c, Nat.add_sub_cancel' lc]; exact F.1)
    rcases told with ⟨n, i, ln, pi, hi, un, pr⟩ | ⟨un, pr⟩
    · have pr1 : t.probe (fun i => (es[i]?.map (·.1)).getD 0) g (at_.getD (t.probeStart g)) = some (.candidate (way t.mask g (c + n)) i (nth t.mask (go0 t.mask g) (c + (n + 1)))) := by
        rw [ea, ← j_c, ← from_c]
        exact pr
      rw [pr1]
      dsimp only
      rw [j_c] at pi
      have li : i < L.length := by
        have z := R.tab.num
        have y := (List.getElem?_eq_some_iff.mp pi).1
        rw [List.length_map] at z
        omega
      obtain ⟨q, hq⟩ : ∃ q, L[i]? = some q := ⟨_, List.getElem?_eq_getElem li⟩
      have mq := List.mem_of_getElem? hq
      have tq := R.tup q mq
      have live : t.slot (way t.mask g (c + n)) = .live i := slot_live R.tab.ris pi
      have tail : wpAny (model P w) A (searchRest a (.ref x) g ad f es t (way t.mask g (c + n)) i (nth t.mask (go0 t.mask g) (c + (n + 1)))) Q E s := by
        have on : ¬ q.2 = k → wpAny (model P w) A (setSearchFrom a (.ref x) g ad f (some (nth t.mask (go0 t.mask g) (c + (n + 1))))) Q E s := fun nk =>
          seek R hx hu ad eg lK F yes no f (c + (n + 1)) _ rfl (by omega) (by omega) fun i0 q0 h0 k0 => by
            obtain ⟨d, d1, d2, d3⟩ := back i0 q0 h0 k0
            refine ⟨d, Classical.byContradiction fun z => ?_, d2, d3⟩
            by_cases y : d = c + n
            · rw [y] at d3
              have l0 := slot_live R.tab.ris d3
              rw [live] at l0
              injection l0 with l0
              rw [← l0, hq, Option.some.injEq] at h0
              exact nk (h0 ▸ k0)
            · refine un (d - c) i0 (by omega) (by rw [j_c, Nat.add_sub_cancel' d1]; exact d3) ?_
              exact (hash i0 q0 h0).trans (k0 ▸ eg)
        unfold searchRest
        rw [R.item hq]
        dsimp only
        refine wpAny_bind (wpAny_holding (wpAny_eqBool_tuple hu tq hx ?_))
        refine wpAny_bind (wpAny_setState_of oa da fit ?_)
        dsimp only
        by_cases ek : q.2 = k
        · have here : k ∈ L.map (·.2) := List.mem_map.mpr ⟨q, mq, ek⟩
          cases ad with
          | true =>
            refine wp_if_pos (by simp [ek]) (wpAny_pure (yes here none fun z => nomatch z))
          | false =>
            refine wp_if_neg (by simp) ?_
            try refine wpAny_bind (wpAny_pure ?_)
            rw [sameMem]
            dsimp only
            simp only [if_true, live, R.item hq]
            refine wpAny_bind (wpAny_isSame_ref_self (wpAny_bind (wpAny_pure ?_)))
            simp only [if_true]
            exact wp_if_pos (by simp [ek]) (wpAny_pure (yes here (some i) fun _ => rfl))
        · refine wp_if_neg (by simp [ek]) ?_
          try refine wpAny_bind (wpAny_pure ?_)
          rw [sameMem]
          dsimp only
          simp only [if_true, live, R.item hq]
          refine wpAny_bind (wpAny_isSame_ref_self (wpAny_bind (wpAny_pure ?_)))
          simp only [if_true]
          exact wp_if_neg (by simp [ek]) (on ek)
      cases el : t.led with
      | true =>
        refine wp_if_neg (by simp) ?_
        try refine wpAny_bind (wpAny_pure ?_)
        exact tail
      | false =>
        refine wp_if_pos (by simp) (wpAny_bind (seen_tup hx (fun y hy => ?_) ?_))
        · obtain ⟨e, he, rfl⟩ := List.mem_map.mp hy
          have me : e ∈ es.toList := by
            have z : e ∈ es ∧ e.1 = g := by simpa using he
            simpa using z.1
          rw [R.row] at me
          obtain ⟨r, mr, rfl⟩ := List.mem_map.mp me
          exact ⟨r.2, r.1, rfl, R.tup r mr⟩
        · refine wp_if_neg (by decide) ?_
          try refine wpAny_bind (wpAny_pure ?_)
          exact tail
    · have pr1 : t.probe (fun i => (es[i]?.map (·.1)).getD 0) g (at_.getD (t.probeStart g)) = some (.empty (way t.mask g K) none) := by
        have z := j_c (K - c)
        rw [Nat.add_sub_cancel' lc] at z
        rw [ea, ← z]
        exact pr
      rw [pr1]
      dsimp only
      refine wpAny_pure (no fun here => ?_)
      obtain ⟨q0, m0, k0⟩ := List.mem_map.mp here
      obtain ⟨i0, h0⟩ := List.getElem?_of_mem m0
      obtain ⟨d, d1, d2, d3⟩ := back i0 q0 h0 k0
      refine un (d - c) i0 (by omega) (by rw [j_c, Nat.add_sub_cancel' d1]; exact d3) ?_
      exact (hash i0 q0 h0).trans (k0 ▸ eg)

/-- setSearch -/
theorem seek0 (R : SetG P w s.heap a L es ep t) {x : Addr} {k : List Int} (hx : IsT P w s.heap k x) (hu : A.units < cLine) (ad : Bool) {Q : SetFound → Shared → Prop}
    (yes : k ∈ L.map (·.2) → ∀ o : Option Nat, (ad = false → o.isSome = true) → Q (.there o) s) (no : ∀ K, k ∉ L.map (·.2) → Frst t.mask (thash P w k) (· ∈ t.place.toList) K → Q (.free (way t.mask (thash P w k) K) false) s) :
    wpAny (model P w) A (setSearch a (.ref x) (thash P w k) ad) Q E s := by
  have z := R.rm
  obtain ⟨K, lK, F⟩ := R.tab.frst (by rw [List.length_map]; omega) (thash P w k)
  have top := R.four.msk.top
  have tn : SetTable.turns t.mask = t.mask + 15 := rfl
  refine seek R hx hu ad rfl lK F yes (fun n => no K n F) 100000 0 none rfl (Nat.zero_le _) (by omega) fun i q hq hk => ?_
  have e1 : (L.map fun q => thash P w q.2)[i]? = some (thash P w k) := by rw [List.getElem?_map, hq, ← hk] <;> rfl
  have li : i < t.place.toList.length := by
    rw [R.tab.num]
    exact (List.getElem?_eq_some_iff.mp e1).1
  obtain ⟨d, ld, ed⟩ := R.tab.ahead F e1 (List.getElem?_eq_getElem li)
  exact ⟨d, Nat.zero_le _, ld, by rw [ed]; exact List.getElem?_eq_getElem li⟩
/-- whether it is there -/
theorem has_at (R : SetG P w s.heap a L es ep t) {x : Addr} {k : List Int} (hx : IsT P w s.heap k x) (hu : A.units < cLine) {Q : Bool → Shared → Prop} (h : ∀ n, Q (decide (k ∈ L.map (·.2))) { s with toks := n }) :
    wpAny (model P w) A (setContains a (.ref x)) Q E s := by
  unfold setContains
  refine wpAny_holding ?_
  refine wpAny_bind (wpAny_pyHash_tuple hu hx ?_)
  refine wpAny_bind ?_
  have R1 : SetG P w ({ s with toks := s.toks + (k.length + 1) } : Shared).heap a L es ep t := R
  obtain ⟨o, oa, xa, da⟩ := R1.obj
  unfold setFind
  rw [show (100000 : Nat) = 99999 + 1 from rfl]
  unfold setFindIn
  refine wpAny_bind (wpAny_setState_of oa da R1.fit ?_)
  dsimp only
  refine wp_if_neg (by simp [byScan, Value.scannable]) ?_
  try refine wpAny_bind (wpAny_pure ?_)
  refine wpAny_bind (seek0 (s := { s with toks := s.toks + (k.length + 1) }) R1 hx hu false (fun here o ho => ?_) fun K nhere _ => ?_)
  · refine wpAny_pure (wpAny_pure ?_)
    rw [ho rfl, ← decide_eq_true here]
    exact h _
  · refine wpAny_pure (wpAny_pure ?_)
    have z := h (s.toks + (k.length + 1))
    rw [decide_eq_false nhere] at z
    exact z
end
end Tb
set_option maxRecDepth 100000
set_option maxHeartbeats 4000000
namespace Tb
open PySem PySem.Spec PyProof.Rows L2

theorem up20 : SetTable.sizeAbove (SetTable.grown 5) = 32 := by decide +kernel
theorem up76 : SetTable.sizeAbove (SetTable.grown 19) = 128 := by decide +kernel
theorem up308 : SetTable.sizeAbove (SetTable.grown 77) = 512 := by decide +kernel
section
variable {P : Program} {w : World} {A : Around} {E : Value → Shared → Prop} {s : Shared}
variable {a : Addr} {L : List (Addr × List Int)} {es : Array (Int × Value)} {ep : Nat} {t : SetTable}
/-- a larger table -/
theorem wider {o : Obj} (oa : s.heap.get? a = some o) (xa : o.ExactSet) (da : o.data = .set es ep t) (row : es.toList = rowsOf P w L) (num : t.place.size = L.length) (dum : t.dummies = #[]) (le : L.length ≤ t.mask)
    (uni : (L.map (·.2)).Nodup) (tup : ∀ q ∈ L, IsT P w s.heap q.2 q.1) (pln : t.plain = true) (ldd : w.params.followText "set-order" = true ∨ t.led = true) {want m : Nat}
    (hw : SetTable.sizeAbove want = m + 1) (hm : Four m) (room : L.length * 5 < m * 3) {Q : Unit → Shared → Prop}
    (q : ∀ h1 L1 es1 ep1 t1, Heap.SameBut a s.heap h1 → SetG P w h1 a L1 es1 ep1 t1 → L1.Perm L → Q () { s with heap := h1 }) : wpAny (model P w) A (setRelay a want) Q E s := by
  have n1 : es.size = L.length := by
    have z := congrArg List.length row
    simpa [rowsOf] using z
  have fit : t.fits es.size = true := by
    have n2 : t.fill = t.place.size := by
      show t.place.size + t.dummies.size = _
      rw [dum] <;> rfl
    unfold SetTable.fits
    rw [n2, n1, num, Bool.and_eq_true, beq_iff_eq, decide_eq_true_eq]
    exact ⟨rfl, le⟩
  have top := hm.msk.top
  obtain ⟨t1, ord, e, pm, T, e1, e2, e3⟩ := relay_tab t (hs := es.map (·.1)) (want := want) (m := m) (by rw [hw] <;> rfl) hm.msk (by rw [Array.size_map, n1]; omega)
  rw [Array.size_map, n1] at pm
  obtain ⟨L1, r1, r2, r3⟩ := order_rows L es ord row pm
  rw [← r3] at T
  have n3 : (ord.filterMap (es[·]?)).size = es.size := by
    have z := congrArg List.length r1
    rw [Array.length_toList, rowsOf, List.length_map] at z
    rw [n1, ← r2.length_eq]
    exact z
  rw [setRelay_eq]
  refine wpAny_bind (wpAny_setState_of oa da fit ?_)
  dsimp only
  refine wp_if_neg (by rw [hw, sizeLine_eq]; omega) ?_
  try refine wpAny_bind (wpAny_pure ?_)
  rw [e]
  dsimp only
  refine wpAny_bind (wp_if_neg (by rw [n3]; simp) ?_)
  try refine wpAny_bind (wpAny_pure ?_)
  refine wpAny_pure ?_
  dsimp only
  refine wpAny_storeSet_of oa da ?_ (by rw [n3, n1, sizeLine_eq]; omega)
  have but : Heap.SameBut a s.heap (s.heap.update a (Obj.putSet (ord.filterMap (es[·]?)) t1)) := Heap.SameBut.update ..
  refine q _ L1 (ord.filterMap (es[·]?)) (ep + 1) t1 but ⟨⟨_, store_at oa da, ⟨xa.1, xa.2.1, xa.2.2⟩, rfl⟩, r1, T, (r2.map (·.2)).nodup_iff.mpr uni, fun p hp => isT_same (tup p (r2.mem_iff.mp hp)) oa da but, e3 ▸ pln, by rw [e2]; exact ldd, by rw [r2.length_eq, e1]; exact room, e1 ▸ hm⟩ r2

/-- one put in, which may be there -/
theorem put_in (R : SetG P w s.heap a L es ep t) {x : Addr} {k : List Int} (hx : IsT P w s.heap k x) (hu : A.units < cLine) (lim : L.length < 300) {Q : Bool → Shared → Prop}
    (q : ∀ b h1 L1 es1 ep1 t1, Heap.SameBut a s.heap h1 → SetG P w h1 a L1 es1 ep1 t1 → (k ∈ L.map (·.2) → L1 = L) → (k ∉ L.map (·.2) → L1.Perm ((x, k) :: L)) → Q b { s with heap := h1 }) :
    wpAny (model P w) A (setAddHashed a (.ref x) (thash P w k)) Q E s := by
  obtain ⟨o, oa, xa, da⟩ := R.obj
  have n0 := R.sz
  have room := R.rm
  unfold setAddHashed
  refine wpAny_holding ?_
  rw [show (100000 : Nat) = 99999 + 1 from rfl, setAddHashedIn_succ]
  refine wpAny_bind (wpAny_setState_of oa da R.fit ?_)
  dsimp only
  refine wp_if_neg (by simp [byScan, Value.scannable]) ?_
  try refine wpAny_bind (wpAny_pure ?_)
  refine wpAny_bind (seek0 R hx hu true (fun here o _ => ?_) fun K nh F => ?_)
  · dsimp only
    exact wpAny_pure (q false s.heap L es ep t (Heap.SameBut.refl a s.heap) R (fun _ => rfl) fun z => absurd here z)
  dsimp only
  refine wpAny_bind (wpAny_setState_of oa da R.fit ?_)
  dsimp only
  cases ept : t.put (way t.mask (thash P w k) K) with
  | mk t1 p =>
  obtain ⟨lp, _, T1, m1, d1, p1, f1⟩ := R.tab.more F ept
  rw [List.length_map] at lp f1
  have pl1 : t1.plain = true := p1.trans R.pln
  dsimp only
  first
    | (refine wpAny_bind ?_; refine wp_if_pos pl1 ?_; refine hashBy_tup hx ?_)
    | refine wp_if_pos pl1 (wpAny_bind (hashBy_tup hx ?_))
  simp only [if_true]
  have ins : (SetTable.insertAt es p (thash P w k, Value.ref x)).toList = rowsOf P w (L.take p ++ (x, k) :: L.drop p) := by rw [SetTable.toList_insertAt, rows_put, R.row]
  have hsh : (L.take p ++ (x, k) :: L.drop p).map (fun q => thash P w q.2) = (L.map fun q => thash P w q.2).take p ++ thash P w k :: (L.map fun q => thash P w q.2).drop p := by simp
  rw [← hsh] at T1
  have pm := put_perm L p (x, k)
  generalize L.take p ++ (x, k) :: L.drop p = L1 at pm T1 ins
  have n1 : L1.length = L.length + 1 := pm.length_eq
  have ne1 : (SetTable.insertAt es p (thash P w k, Value.ref x)).size = L.length + 1 := by
    have z := congrArg List.length ins
    rw [← n1]
    simpa [rowsOf] using z
  generalize SetTable.insertAt es p (thash P w k, Value.ref x) = es1 at ins ne1 ⊢
  have uni1 : (L1.map (·.2)).Nodup := (pm.map (·.2)).nodup_iff.mpr (List.nodup_cons.mpr ⟨nh, R.uni⟩)
  refine wpAny_bind (wpAny_storeSet_of oa da ?_ (by rw [ne1, sizeLine_eq]; omega))
  have but : Heap.SameBut a s.heap (s.heap.update a (Obj.putSet es1 t1)) := Heap.SameBut.update ..
  have oa1 := store_at (es' := es1) (t' := t1) oa da
  generalize s.heap.update a (Obj.putSet es1 t1) = h1 at but oa1 ⊢
  have tup1 : ∀ q ∈ L1, IsT P w h1 q.2 q.1 := fun q hq => by
    rcases List.mem_cons.mp (pm.mem_iff.mp hq) with rfl | hq
    · exact isT_same hx oa da but
    · exact isT_same (R.tup q hq) oa da but
  have ldd1 : w.params.followText "set-order" = true ∨ t1.led = true := by rw [d1]; exact R.ldd
  have full : t1.tooFull = decide (t.mask * 3 ≤ (L.length + 1) * 5) := by
    unfold SetTable.tooFull
    rw [f1, m1] <;> rfl
  have ex1 : ({ o with data := .set es1 (ep + 1) t1 } : Obj).ExactSet := ⟨xa.1, xa.2.1, xa.2.2⟩
  by_cases c : t.mask * 3 ≤ (L.length + 1) * 5
  · have cf : t1.tooFull = true := by rw [full]; exact decide_eq_true c
    have wide : ∃ m, SetTable.sizeAbove (SetTable.grown (L.length + 1)) = m + 1 ∧ Four m ∧ (L.length + 1) * 5 < m * 3 ∧ L.length + 1 ≤ t.mask := by
      rcases R.four with e | e | e | e <;> rw [e] at room c ⊢
      · exact ⟨31, by rw [show L.length + 1 = 5 by omega]; exact up20, .inr (.inl rfl), by omega, by omega⟩
      · exact ⟨127, by rw [show L.length + 1 = 19 by omega]; exact up76, .inr (.inr (.inl rfl)), by omega, by omega⟩
      · exact ⟨511, by rw [show L.length + 1 = 77 by omega]; exact up308, .inr (.inr (.inr rfl)), by omega, by omega⟩
      · omega
    obtain ⟨m, w1, w2, w3, w4⟩ := wide
    have num1 : t1.place.size = L1.length := by
      have z := T1.size
      rw [List.length_map] at z
      exact z
    rw [n0]
    have last : wpAny (model P w) A (setRelay a (SetTable.grown (L.length + 1))) (fun _ s' => wpAny (model P w) A (pure true) Q E s') E { s with heap := h1 } :=
      wider (s := { s with heap := h1 }) oa1 ex1 rfl ins num1 T1.dum (by rw [n1, m1]; exact w4) uni1 tup1 pl1 ldd1 w1 w2 (by rw [n1]; exact w3) fun h2 L2 es2 ep2 t2 b2 R2 pm2 =>
        wpAny_pure (q true h2 L2 es2 ep2 t2 (but.trans b2) R2 (fun z => absurd z nh) fun _ => pm2.trans pm)
    first
      | exact wpAny_bind (wp_if_pos (by simp [cf]) last)
      | exact wp_if_pos (by simp [cf]) (wpAny_bind last)
  · have cf : t1.tooFull = false := by rw [full]; exact decide_eq_false c
    have R1 : SetG P w h1 a L1 es1 (ep + 1) t1 := ⟨⟨_, oa1, ex1, rfl⟩, ins, T1, uni1, tup1, pl1, ldd1, by rw [n1, m1]; omega, m1 ▸ R.four⟩
    have last : wpAny (model P w) A (pure true) Q E { s with heap := h1 } := wpAny_pure (q true h1 L1 es1 (ep + 1) t1 but R1 (fun z => absurd z nh) fun _ => pm)
    first
      | exact wp_if_neg (by simp [cf]) last
      | exact wpAny_bind (wp_if_neg (by simp [cf]) (wpAny_pure last))

theorem SetG.on {h h1 : Heap} (R : SetG P w h a L es ep t) (ha : ∀ o, h.get? a = some o → h1.get? a = some o) (ht : ∀ q ∈ L, IsT P w h1 q.2 q.1) : SetG P w h1 a L es ep t :=
  ⟨let ⟨o, oa, r⟩ := R.obj; ⟨o, ha o oa, r⟩, R.row, R.tab, R.uni, ht, R.pln, R.ldd, R.rm, R.four⟩
/-- the object of a new set -/
abbrev fresh0 (w : World) : Obj := { cls := .type "set", dict := none, data := .set #[] 0 (.fresh 0 0 (!w.params.followText "set-order")) }
theorem setG_new {h : Heap} (ho : h.get? a = some (fresh0 w)) : SetG P w h a [] #[] 0 (.fresh 0 0 (!w.params.followText "set-order")) := by
  refine ⟨⟨_, ho, ⟨rfl, rfl, rfl⟩, rfl⟩, rfl, ⟨.nil, rfl, rfl, msk7, fun x hx => (by cases hx), fun i g j hi => (by simp at hi)⟩, .nil, fun q hq => (by cases hq), rfl, ?_, ?_, .inl rfl⟩
  · show _ ∨ (!w.params.followText "set-order") = true
    cases w.params.followText "set-order"
    · exact .inr rfl
    · exact .inl rfl
  · show 0 * 5 < 7 * 3
    decide
end
end Tb
set_option maxRecDepth 100000
set_option maxHeartbeats 4000000
namespace Tb
open PySem PySem.Spec PyProof.Rows L2
section
variable {P : Program} {w : World} {A : Around} {E : Value → Shared → Prop} {s : Shared}

/-- a set S, of what the first i items are -/
def Sofar (P : Program) (w : World) (ks : List (Addr × List Int)) (S : Addr) (i : Nat) (h : Heap) : Prop := ∃ L es ep t, SetG P w h S L es ep t ∧ Got ks i L
def Kept (h0 h : Heap) : Prop := ∀ b o, h0.get? b = some o → h.get? b = some o
theorem update_tups {I S : Addr} {fp wr : List Addr} {G : Array GenState → Array GenState → Prop} {n : Nat} {Pv : Nat → Value → Prop} {St : Nat → Shared → Prop} {R : Result → Shared → Prop}
    (W : WalksS P w A.in1 I fp wr G n Pv St) (nS : S ∉ fp) {ks : List (Addr × List Int)} (en : ks.length = n) (lim : n ≤ 300) (val : ∀ i v, Pv i v → ∃ q, ks[i]? = some q ∧ v = .ref q.1)
    {h0 : Heap} (hk : ∀ q ∈ ks, IsT P w h0 q.2 q.1) (S0 : h0.get? S = none) (w0 : ∀ b ∈ wr, h0.get? b = none) (hu : A.in1.units < cLine) :
    ∀ (d i : Nat) (s : Shared), i + d = n → St i s → Kept h0 s.heap → Sofar P w ks S i s.heap →
      (∀ s1, Moved (S :: wr) G s s1 → Sofar P w ks S n s1.heap → Kept h0 s1.heap → R (.ok (.ret .none)) s1) → codeAny (model P w) A (.builtin "set.update.loop" ⟨[.ref S, .ref I], []⟩) R s := by
  have nw : S ∉ wr := fun z => nS (W.sub _ z)
  have inw : ∀ b, b ∈ wr → b ∈ S :: wr := fun b z => List.mem_cons_of_mem _ z
  have kept : ∀ {s s1 : Shared}, Moved wr G s s1 → Kept h0 s.heap → Kept h0 s1.heap := fun mv kp b o e => mv.heap b o (fun z => (by rw [w0 b z] at e; cases e)) (kp b o e)
  have on : ∀ {i : Nat} {s s1 : Shared}, Moved wr G s s1 → Kept h0 s1.heap → Sofar P w ks S i s.heap → Sofar P w ks S i s1.heap := fun mv kp ⟨L, es, ep, t, r, g⟩ =>
    ⟨L, es, ep, t, r.on (fun o e => mv.heap S o nw e) fun q hq => isT_keep (hk q (List.mem_of_mem_take (g.sub q hq))) kp, g⟩
  intro d
  induction d with
  | zero =>
    intro i s e st kp so fin
    obtain rfl : i = n := e
    refine codeAny_builtin F.entry_set_update_loop ?_
    rw [Around.under_plainId F.plain_set_update_loop _]
    show wpAny _ A.in1 (pyNext (.ref I) >>= _) _ _ s
    refine wpAny_bind (W.done s _ _ st fun s1 mv => ?_)
    exact wpAny_pure (fin s1 (mv.mono inw) (on mv (kept mv kp) so) (kept mv kp))
  | succ d ih =>
    intro i s e st kp so fin
    refine codeAny_builtin F.entry_set_update_loop ?_
    rw [Around.under_plainId F.plain_set_update_loop _]
    show wpAny _ A.in1 (pyNext (.ref I) >>= _) _ _ s
    refine wpAny_bind (W.item i s _ _ (by omega) st fun v s1 pv st1 mv => ?_)
    obtain ⟨q, hq, rfl⟩ := val i v pv
    have kp1 := kept mv kp
    obtain ⟨L, es, ep, t, r, g⟩ := on mv kp1 so
    have hx : IsT P w s1.heap q.2 q.1 := isT_keep (hk q (List.mem_of_getElem? hq)) kp1
    show wpAny _ A.in1 (holding [Value.ref q.1] (setAdd S (.ref q.1)) >>= _) _ _ s1
    refine wpAny_bind (wpAny_holding ?_)
    unfold setAdd
    refine wpAny_holding ?_
    refine wpAny_bind (wpAny_pyHash_tuple hu hx ?_)
    refine put_in (s := { s1 with toks := s1.toks + (q.2.length + 1) }) r hx hu (by have := g.len; omega) fun _ h2 L2 es2 ep2 t2 but r2 c1 c2 => ?_
    have g2 : Got ks (i + 1) L2 := by
      by_cases c : q.2 ∈ L.map (·.2)
      · rw [c1 c]
        exact g.same hq c
      · exact g.more hq (c2 c)
    have kp2 : Kept h0 h2 := fun b o eb => (but.2 b (fun z => (by rw [z, S0] at eb; cases eb))).trans (kp1 b o eb)
    refine wpAny_pure ⟨plainId_quiet F.plain_set_update_loop _, ih (i + 1) _ (by omega) (W.frame _ s1 _ _ st1 (Nat.le_add_right _ _) fun b hb o eb => ?_) kp2 ⟨L2, es2, ep2, t2, r2, g2⟩ fun s3 mv3 so3 kp3 => ?_⟩
    · exact (but.2 b fun z => nS (z ▸ hb)).trans eb
    · refine fin s3 (Moved.trans W.gtrans ((mv.mono inw).then_heap (Nat.le_add_right _ _) fun b o nb eb => ?_) mv3) so3 kp3
      exact (but.2 b fun z => nb (z ▸ List.mem_cons_self)).trans eb

/-- set(xs), xs a list of up to 300 tuples of ints -/
theorem set_of_list {l : Addr} {its : Array Value} {ks : List (Addr × List Int)} {Q : Value → Shared → Prop} (cold : A.handled = none) (il : s.heap.IsList l its) (ei : its.toList = ks.map fun q => Value.ref q.1)
    (hk : ∀ q ∈ ks, IsT P w s.heap q.2 q.1) (lim : ks.length ≤ 300) (hu : A.units + 3 < cLine)
    (fin : ∀ (h1 : Heap) (n : Nat), Sofar P w ks s.heap.objs.size ks.length h1 → Kept s.heap h1 → Q (.ref s.heap.objs.size) { s with heap := h1, toks := n }) :
    wpAny (model P w) A (call (.type "set") [.ref l]) Q E s := by
  have ni : its.size = ks.length := by
    have z := congrArg List.length ei
    simpa using z
  obtain ⟨c, tl, mro⟩ := F.called_set.mro
  have f1 := F.called_set.made
  have f2 := F.called_set.sub
  have f3 := F.called_set.notType
  have f4 := F.called_set.canCreate
  have f5 := F.typeCall_set_1 (.ref l)
  refine wpAny_call (codeAny_of_tree ?_)
  show wpAny _ _ (callAny (.type "set") _) _ _ _
  refine wpAny_pure ⟨Code.quiet_builtin _ (by decide +kernel), codeAny_builtin F.entry_type_call ?_⟩
  rw [Around.under_plain (weight_type_call_type "set" [.ref l] []) rfl]
  repeat (any_goals (first | assumption | wp_step))
  generalize hS : s.heap.objs.size = S at fin ⊢
  have sG : (s.heap.push (fresh0 w)).get? S = some (fresh0 w) := by
    rw [← hS]
    exact Heap.get?_push_size _ rfl
  refine codeAny_mono (code_set_led1 (.ref l) (E := E) (Q₁ := fun v s1 => v = .ref S ∧ s1 = { s with heap := s.heap.push (fresh0 w) }) ⟨hS ▸ rfl, rfl⟩) fun r s1 hr => ?_
  match r, hr with
  | .error _, hr => exact hr
  | .ok (.ret v), hr =>
    obtain ⟨rfl, rfl⟩ := hr
    have ty : Shared.TypeIs { s with heap := s.heap.push (fresh0 w) } (.ref S) "set" := ⟨_, sG, rfl⟩
    have f6 := F.called_set.init.lookup
    have f7 := F.called_set.init.bind (.ref S)
    repeat (any_goals (first | assumption | wp_step))
    refine codeAny_mono (codeAny_call_builtin (R := wants (fun r s2 => r = .none ∧ ∃ h1 n, s2 = { s with heap := h1, toks := n } ∧ Sofar P w ks S ks.length h1 ∧ Kept s.heap h1) E) F.called_set.init.plain F.entry_set_init (check_set_init_1 ty ?_)) fun r2 s2 hr2 => ?_
    · obtain ⟨⟨ocls, odict, odata, oslots⟩, ol, (rfl : ocls = _), nl, (rfl : odata = _)⟩ := il
      have ol1 : (s.heap.push (fresh0 w)).get? l = some { cls := .type "list", dict := odict, data := .seq its nl, slots := oslots } := Heap.get?_push_of_some _ ol
      have il1 : (s.heap.push (fresh0 w)).IsList l its := ⟨_, ol1, rfl, nl, rfl⟩
      have g1 := F.sub_list_set
      have g2 := F.sub_list_frozenset
      have g3 : (Value.type "list" == Value.type "dict") = false := by decide
      unfold Builtin.«set.__init__» noKeywords Builtin.Frozenset.updateFrom
      generalize hPI : pyIter = PI
      wp_walk
      subst hPI
      refine wpAny_pyIter_list il1 (wpAny_bind (wpAny_runValue ?_))
      have lS : l < S := hS ▸ Heap.lt_size ol
      have nS : (s.heap.push (fresh0 w)).objs.size = S + 1 := by rw [Heap.size_push, hS]
      have off : ∀ b, S ≤ b → s.heap.get? b = none := fun b hb => by
        cases z : s.heap.get? b with
        | none => rfl
        | some o => exact absurd (Nat.lt_of_lt_of_le (hS ▸ Heap.lt_size z) hb) (Nat.lt_irrefl _)
      rw [nS]
      have new1 : ((s.heap.push (fresh0 w)).push { cls := .type "list_iterator", data := .fields #[.ref l, .int 0 0] }).get? S = some (fresh0 w) := Heap.get?_push_of_some _ sG
      have newI : ((s.heap.push (fresh0 w)).push { cls := .type "list_iterator", data := .fields #[.ref l, .int 0 0] }).get? (S + 1) = some { cls := .type "list_iterator", data := .fields #[.ref l, .int 0 0] } := by
        rw [← nS]
        exact Heap.get?_push_size _ rfl
      refine update_tups ((Walks.list (A := A.in1.in1.in1) (by simp [cold]) (S + 1) l (Nat.ne_of_lt (Nat.lt_succ_of_lt lS)) its).toS) (S := S) (fun z => (by
        rcases List.mem_cons.mp z with z | z
        · exact Nat.ne_of_lt (Nat.lt_succ_self S) z
        · exact Nat.ne_of_gt lS (List.mem_singleton.mp z))) (ks := ks) ni.symm (by omega) (fun i v hv => ?_) (h0 := s.heap) hk (off S (Nat.le_refl _))
        (fun b hb => off b (by rw [List.mem_singleton.mp hb]; exact Nat.le_succ S)) hu its.size 0 _ (Nat.zero_add _) ⟨⟨_, newI, rfl, rfl⟩, il1.push _⟩ (fun b o e => Heap.get?_push_of_some _ (Heap.get?_push_of_some _ e)) ⟨[], _, _, _, setG_new new1, Got.zero ks⟩ fun s3 mv so kp => ?_
      · have z : its.toList[i]? = some v := by rw [Array.getElem?_toList]; exact hv
        rw [ei, List.getElem?_map, Option.map_eq_some_iff] at z
        obtain ⟨q, hq, e⟩ := z
        exact ⟨q, hq, e.symm⟩
      · obtain ⟨h3, gens3, dr3, tk3, os3⟩ := s3
        obtain rfl : gens3 = s.gens := mv.gens
        obtain rfl : dr3 = s.drawn := mv.drawn
        obtain rfl : os3 = s.os := mv.os
        show wpAny _ _ _ _ _ _
        refine wpAny_pure ?_
        show wpAny _ _ (ret Value.none) _ _ _
        exact wpAny_pure ⟨rfl, h3, tk3, rfl, ni ▸ so, kp⟩
    · match r2, hr2 with
      | .error _, hr2 => exact hr2
      | .ok (.ret v), hr2 =>
        obtain ⟨rfl, h1, n, rfl, so, kp⟩ := hr2
        repeat (any_goals (first | assumption | wp_step))
        exact fin h1 n so kp
end
end Tb
set_option maxRecDepth 100000
set_option maxHeartbeats 4000000
namespace Tb
open PySem PySem.Spec PyProof.Rows L2

/-! ### the order of tuples of ints -/
def lx : List Int → List Int → Bool
  | _, [] => false
  | [], _ :: _ => true
  | a :: r, b :: q => if a = b then lx r q else decide (a < b)
theorem lx_asym : ∀ x y, lx x y = true → lx y x = false
  | _, [], h => by simp [lx] at h
  | [], _ :: _, _ => rfl
  | a :: r, b :: q, h => by
    unfold lx at h ⊢
    by_cases e : a = b
    · rw [if_pos e] at h
      rw [if_pos e.symm]
      exact lx_asym r q h
    · rw [if_neg e, decide_eq_true_eq] at h
      rw [if_neg (Ne.symm e)]
      exact decide_eq_false (by omega)
theorem lx_tr : ∀ x y z, lx y x = false → lx z y = false → lx z x = false
  | [], _, _, _, _ => by unfold lx; rfl
  | a :: r, [], z, h, _ => by simp [lx] at h
  | a :: r, b :: q, [], _, h => by simp [lx] at h
  | a :: r, b :: q, c :: p, h1, h2 => by
    unfold lx at h1 h2 ⊢
    by_cases e1 : b = a
    · rw [if_pos e1] at h1
      by_cases e2 : c = b
      · rw [if_pos e2] at h2
        rw [if_pos (e2.trans e1)]
        exact lx_tr r q p h1 h2
      · rw [if_neg e2, decide_eq_false_iff_not] at h2
        rw [if_neg (by omega)]
        exact decide_eq_false (by omega)
    · rw [if_neg e1, decide_eq_false_iff_not] at h1
      by_cases e2 : c = b
      · rw [if_neg (by omega)]
        exact decide_eq_false (by omega)
      · rw [if_neg e2, decide_eq_false_iff_not] at h2
        rw [if_neg (by omega)]
        exact decide_eq_false (by omega)
theorem lx_same : ∀ x y, lx x y = false → lx y x = false → x = y
  | [], [], _, _ => rfl
  | [], _ :: _, h, _ => by simp [lx] at h
  | _ :: _, [], _, h => by simp [lx] at h
  | a :: r, b :: q, h1, h2 => by
    unfold lx at h1 h2
    by_cases e : a = b
    · rw [if_pos e] at h1
      rw [if_pos e.symm] at h2
      rw [e, lx_same r q h1 h2]
    · rw [if_neg e, decide_eq_false_iff_not] at h1
      rw [if_neg (Ne.symm e), decide_eq_false_iff_not] at h2
      omega
theorem lx_swo {α : Type} (f : α → List Int) : SrtO.Swo fun v u => lx (f v) (f u) := ⟨fun x y => lx_asym (f x) (f y), fun x y z => lx_tr (f x) (f y) (f z)⟩

section
variable {prog : Program} {w : World} {A : Around} {E : Value → Shared → Prop} {s : Shared}
theorem lex_any {b : Bool} {Q : Bool → Shared → Prop} {xs : List Value} {ns : List Int} (hx : IntsAre xs ns) : ∀ {ys : List Value} {ms : List Int} (i : Nat), IntsAre ys ms → Q (lx ns ms) s →
    PySem.W.KatLex prog w A b (decide (xs.length < ys.length)) Q (xs.zip ys) i s := by
  induction hx with
  | nil =>
    intro ys ms i hy h
    cases hy with
    | nil => exact PySem.W.kat_nil h
    | cons q u hy =>
      have z : Q true s := h
      exact PySem.W.kat_nil (by simpa using z)
  | @cons p t xs ns hx ih =>
    intro ys ms i hy h
    cases hy with
    | nil =>
      have z : Q false s := h
      exact PySem.W.kat_nil (by simpa using z)
    | @cons q u ys ms hy =>
      have el : decide ((Value.int p t :: xs).length < (Value.int q u :: ys).length) = decide (xs.length < ys.length) := by simp
      rw [el]
      show PySem.W.KatLex prog w A b _ Q ((Value.int p t, Value.int q u) :: xs.zip ys) i s
      refine PySem.W.kat_cons (wpAny_eqBool_int ?_)
      unfold lx at h
      by_cases e : p = q
      · subst e
        rw [if_pos rfl] at h
        rw [beq_self_eq_true]
        exact PySem.W.kat_yes (ih (i + 1) hy h)
      · rw [if_neg e] at h
        rw [show (p == q) = false from beq_eq_false_iff_ne.mpr e]
        exact PySem.W.kat_no (TS.oneLt_ints _ h)
/-- values that are tuples of one or more ints, these ints -/
def AreT (h : Heap) (f : Value → List Int) (vs : List Value) : Prop := ∀ v ∈ vs, TS.TupInts h v (f v) ∧ f v ≠ []
theorem AreT.keeps {h h1 : Heap} {f : Value → List Int} {vs : List Value} (x : AreT h f vs) (k : ∀ b o, h.get? b = some o → o.cls = .type "tuple" → h1.get? b = some o) : AreT h1 f vs := fun v hv => ⟨(x v hv).1.keeps k, (x v hv).2⟩
theorem firsts {h : Heap} {f : Value → List Int} : ∀ vs : List Value, AreT h f vs → ∃ fs, PySem.W.KatTups h vs fs ∧ fs.length = vs.length ∧ ∀ v ∈ fs, ∃ n t, v = Value.int n t
  | [], _ => ⟨[], PySem.W.KatTups.nil, rfl, fun v hv => by simp at hv⟩
  | v :: vs, x => by
    obtain ⟨fs, k, n1, n2⟩ := firsts vs fun u hu => x u (List.mem_cons_of_mem _ hu)
    obtain ⟨⟨a, xs, rfl, ⟨o, oa, oc, n, od⟩, is⟩, ne⟩ := x v List.mem_cons_self
    obtain ⟨y, ys, e⟩ : ∃ y ys, xs.toList = y :: ys := by
      cases z : xs.toList with
      | nil =>
        rw [z] at is
        generalize f (.ref a) = l at is ne
        cases is
        exact absurd rfl ne
      | cons y ys => exact ⟨y, ys, rfl⟩
    obtain ⟨m, t, ey⟩ := is.all y (by rw [e]; exact List.mem_cons_self)
    have e0 : xs[0]? = some y := by
      rw [← Array.getElem?_toList, e] <;> rfl
    refine ⟨y :: fs, PySem.W.KatTups.cons oa oc od e0 k, by simp [n1], fun u hu => ?_⟩
    rcases List.mem_cons.mp hu with rfl | hu
    · exact ⟨m, t, ey⟩
    · exact n2 u hu
theorem tups_cmp {f : Value → List Int} {vs : List Value} (x : AreT s.heap f vs) : SrtO.Cmp prog w A s (tuples' true) (fun p => p.1 ∈ vs) (SrtO.lt2 fun v u => lx (f v) (f u)) := by
  intro p q hp hq
  have t1 := (x _ hp).1
  have t2 := (x _ hq).1
  show wpAny (model prog w) A (keyLt' (tuples' true) p.1 q.1) (fun r s' => s' = s ∧ r = lx (f p.1) (f q.1)) (fun _ _ => False) s
  generalize f p.1 = ns at t1 ⊢
  generalize f q.1 = ms at t2 ⊢
  obtain ⟨a, xs, e1, ⟨o, oa, oc, n, od⟩, i1⟩ := t1
  obtain ⟨b, ys, e2, ⟨o2, ob, oc2, n2, od2⟩, i2⟩ := t2
  rw [e1, e2]
  refine PySem.W.kat_lt oa od ob od2 ?_
  rw [← Array.length_toList, ← Array.length_toList]
  exact lex_any i1 0 i2 ⟨rfl, rfl⟩
theorem tups_sortable {a : Addr} {f : Value → List Int} {vs : List Value} (h0 : 0 < vs.length) (x : AreT s.heap f vs) (ha : ∀ o, s.heap.get? a = some o → o.cls ≠ .type "tuple") : SrtO.SortableO prog w A s a vs fun v u => lx (f v) (f u) := by
  intro h1 keep
  have x1 : AreT h1 f vs := x.keeps fun b o e c => keep b o (fun z => (by subst z; exact ha o e c)) e
  obtain ⟨fs, k, n1, n2⟩ := firsts vs x1
  refine ⟨tuples' true, fun Q E q => ?_, tups_cmp x1⟩
  refine PySem.W.kat_kind (T := .type "int") k (by omega) (fun v hv => ?_) (by rfl) ?_
  · obtain ⟨n, t, rfl⟩ := n2 v hv
    exact PySem.W.Looks.now
  · rw [show (Value.type "int" != Value.type "tuple") = true by decide +kernel]
    exact q
end
end Tb
set_option maxRecDepth 100000
set_option maxHeartbeats 4000000
namespace Tb
open PySem PySem.Spec PyProof.Rows L2
/-- tuples, each before the next -/
def Asc (L : List (Addr × List Int)) : Prop := L.Pairwise fun q r => lx q.2 r.2 = true
section
variable {P : Program} {w : World} {A : Around} {E : Value → Shared → Prop} {s : Shared}
variable {a : Addr} {L : List (Addr × List Int)} {es : Array (Int × Value)} {ep : Nat} {t : SetTable}
theorem asc_of {L : List (Addr × List Int)} (h : L.Pairwise fun q r => lx r.2 q.2 = false) (u : (L.map (·.2)).Nodup) : Asc L := by
  have u2 : L.Pairwise fun q r => q.2 ≠ r.2 := List.pairwise_map.mp u
  refine (h.and u2).imp fun {q r} z => ?_
  cases e : lx q.2 r.2 with
  | true => rfl
  | false => exact absurd (lx_same q.2 r.2 e z.1) z.2
/-- sorted(set) -/
theorem sorted_setG {Q : Value → Shared → Prop} (R : SetG P w s.heap a L es ep t) (cold : A.handled = none) (ne : ∀ q ∈ L, q.2 ≠ [])
    (fin : ∀ s1 p (out : Array Value) (c : Nat) (L1 : List (Addr × List Int)), Kept s.heap s1.heap → s1.gens = s.gens → s1.os = s.os → s.heap.objs.size ≤ p →
      s1.heap.get? p = some (seqObj "list" out c) → out.toList = L1.map (fun q => Value.ref q.1) → L1.Perm L → Asc L1 → Q (.ref p) s1) :
    wpAny (model P w) A (call (.builtin "sorted") [.ref a]) Q E s := by
  obtain ⟨o, oa, xa, da⟩ := R.obj
  have few := R.few
  have n0 := R.sz
  refine Calls.call_function_entry kind_sorted plain_sorted entry_sorted (args_sorted1 _) ?_
  unfold Builtin.«sorted»
  refine wpAny_bind (m := checkCount "sorted" 1 1 _) (wpAny_pure ?_)
  refine wpAny_bind (collect_set (A := A.in1) cold ⟨o, oa, xa.1, da⟩ R.fit (by unfold scanBound; omega) R.tab.ris R.ldd fun s1 vs k1 z1 g1 o1 pm => ?_)
  have e0 : es.toList.map (·.2) = L.map fun q => Value.ref q.1 := by
    rw [R.row, rowsOf, List.map_map] <;> rfl
  rw [e0] at pm
  have nv : vs.length < 307 := by rw [pm.length_eq, List.length_map]; exact few
  have only : ∀ q ∈ L, ∀ r ∈ L, q.1 = r.1 → q = r := fun q hq r hr e => by
    have t1 := R.tup q hq
    rw [e] at t1
    exact Prod.ext e (t1.inj (R.tup r hr))
  have uniL : L.Nodup := List.Pairwise.of_map (·.2) (fun q r h z => h (congrArg (·.2) z)) R.uni
  have back : ∀ us : List Value, us.Perm (L.map fun q => Value.ref q.1) → ∃ L1 : List (Addr × List Int), us = L1.map (fun q => Value.ref q.1) ∧ L1.Perm L := fun us hp => by
    have pick : ∀ us : List Value, (∀ v ∈ us, v ∈ L.map fun q => Value.ref q.1) → ∃ L1 : List (Addr × List Int), us = L1.map (fun q => Value.ref q.1) ∧ ∀ q ∈ L1, q ∈ L := by
      intro us
      induction us with
      | nil => exact fun _ => ⟨[], rfl, fun q hq => by cases hq⟩
      | cons v us ih =>
        intro hm
        obtain ⟨q, hq, rfl⟩ := List.mem_map.mp (hm v List.mem_cons_self)
        obtain ⟨L1, e1, i1⟩ := ih fun u hu => hm u (List.mem_cons_of_mem _ hu)
        refine ⟨q :: L1, by rw [List.map_cons, e1], fun r hr => ?_⟩
        rcases List.mem_cons.mp hr with rfl | hr
        · exact hq
        · exact i1 r hr
    obtain ⟨L1, e1, i1⟩ := pick us fun v hv => hp.mem_iff.mp hv
    have uniR : (L.map fun q => Value.ref q.1).Nodup := List.pairwise_map.mpr (List.Pairwise.imp_of_mem (fun {q r} hq hr h z => h (only q hq r hr (Value.ref.inj z))) uniL)
    have uni0 : (L1.map fun q => Value.ref q.1).Nodup := by rw [← e1]; exact hp.nodup_iff.mpr uniR
    have uni1 : L1.Nodup := L2.nodup_of_map uni0
    refine ⟨L1, e1, (List.perm_ext_iff_of_nodup uni1 uniL).mpr fun q => ⟨i1 q, fun hq => ?_⟩⟩
    have m1 : Value.ref q.1 ∈ us := hp.mem_iff.mpr (List.mem_map.mpr ⟨q, hq, rfl⟩)
    rw [e1] at m1
    obtain ⟨r, hr, e⟩ := List.mem_map.mp m1
    rw [← only r (i1 r hr) q hq (Value.ref.inj e)]
    exact hr
  refine wpAny_bind (wpAny_newList ?_ (by rw [sizeLine_eq]; omega))
  have il : (s1.heap.push (seqObj "list" vs.toArray 0)).get? s1.heap.objs.size = some (seqObj "list" vs.toArray 0) := Heap.get?_push_size _ rfl
  have tp : ∀ q ∈ L, TS.TupInts (s1.heap.push (seqObj "list" vs.toArray 0)) (.ref q.1) q.2 := fun q hq => tupInts_of (P := P) (w := w) (isT_keep (R.tup q hq) fun b u e => Heap.get?_push_of_some _ (k1 b u e))
  have num : ∀ q ∈ L, TS.intsOf (s1.heap.push (seqObj "list" vs.toArray 0)) (.ref q.1) = q.2 := fun q hq => (tp q hq).ints
  have are : AreT (s1.heap.push (seqObj "list" vs.toArray 0)) (TS.intsOf (s1.heap.push (seqObj "list" vs.toArray 0))) vs := fun v hv => by
    obtain ⟨q, hq, rfl⟩ := List.mem_map.mp (pm.mem_iff.mp hv)
    rw [num q hq]
    exact ⟨tp q hq, ne q hq⟩
  refine wpAny_bind (wpAny_holding (wpAny_call_entry slot_list_sort ⟨_, il, rfl⟩ entry_list_sort
    (SrtO.list_sort_ord (s := { s1 with heap := s1.heap.push (seqObj "list" vs.toArray 0) }) (lx_swo (TS.intsOf (s1.heap.push (seqObj "list" vs.toArray 0)))) il (by rw [sizeLine_eq]; omega) (fun h2 => tups_sortable (by omega) are fun o e => ?_) fun out h1 h2 => ⟨_, rfl, ?_⟩) (args_list_sort _)))
  · rw [il, Option.some.injEq] at e
    rw [← e]
    exact fun z => absurd (Value.type.inj z) (by decide)
  obtain ⟨c, hc⟩ := sortedHeap_at (vs := vs) (out := out.toArray) il
  obtain ⟨L1, e1, pL⟩ := back out (h2.perm.trans pm)
  have inL : ∀ q ∈ L1, q ∈ L := fun q hq => pL.mem_iff.mp hq
  have srt : L1.Pairwise fun q r => lx r.2 q.2 = false := by
    rw [e1] at h1
    refine List.Pairwise.imp_of_mem (fun {q r} hq hr z => ?_) (List.pairwise_map.mp h1)
    have z1 : lx (TS.intsOf (s1.heap.push (seqObj "list" vs.toArray 0)) (.ref r.1)) (TS.intsOf (s1.heap.push (seqObj "list" vs.toArray 0)) (.ref q.1)) = false := z
    rw [num q (inL q hq), num r (inL r hr)] at z1
    exact z1
  refine wpAny_pure ⟨_, rfl, fin _ s1.heap.objs.size out.toArray c L1 (fun b u e => ?_) g1 o1 z1 hc e1 pL (asc_of srt ((pL.map (·.2)).nodup_iff.mpr R.uni))⟩
  have q1 := k1 b u e
  have lt := Heap.lt_size q1
  show (sortedHeap (s1.heap.push (seqObj "list" vs.toArray 0)) s1.heap.objs.size vs out.toArray).get? b = some u
  rw [sortedHeap_old (Nat.ne_of_lt lt) (by rw [size_push']; exact Nat.lt_succ_of_lt lt)]
  exact Heap.get?_push_of_some _ q1
end
end Tb
set_option maxRecDepth 100000
set_option maxHeartbeats 4000000
namespace Tb
open PySem PySem.Spec PyProof.Rows L2
/-- the set alone, without what is known of its tuples -/
structure Set0 (P : Program) (w : World) (h : Heap) (a : Addr) (L : List (Addr × List Int)) : Prop where
  ex : ∃ (es : Array (Int × Value)) (ep : Nat) (t : SetTable), (∃ o, h.get? a = some o ∧ o.ExactSet ∧ o.data = .set es ep t) ∧ es.toList = rowsOf P w L ∧ Tab t (L.map fun q => thash P w q.2) ∧ (L.map (·.2)).Nodup ∧
    t.plain = true ∧ (w.params.followText "set-order" = true ∨ t.led = true) ∧ L.length * 5 < t.mask * 3 ∧ Four t.mask
theorem SetG.bare {P : Program} {w : World} {h : Heap} {a : Addr} {L : List (Addr × List Int)} {es : Array (Int × Value)} {ep : Nat} {t : SetTable} (R : SetG P w h a L es ep t) : Set0 P w h a L :=
  ⟨es, ep, t, R.obj, R.row, R.tab, R.uni, R.pln, R.ldd, R.rm, R.four⟩
theorem Set0.with {P : Program} {w : World} {h : Heap} {a : Addr} {L : List (Addr × List Int)} (R : Set0 P w h a L) (ht : ∀ q ∈ L, IsT P w h q.2 q.1) : ∃ es ep t, SetG P w h a L es ep t := by
  obtain ⟨es, ep, t, h1, h2, h3, h4, h5, h6, h7, h8⟩ := R.ex
  exact ⟨es, ep, t, h1, h2, h3, h4, ht, h5, h6, h7, h8⟩
/-- in the heap of the layer: a set of tuples of ints; L: their addresses and ints -/
def SetGO (P : Program) (w : World) (a : Addr) (L : List (Addr × List Int)) : HO := .ext fun h => Set0 P w h a L
theorem Set0.ok {P : Program} {w : World} {H : Hp} {h : Heap} {a : Addr} {L : List (Addr × List Int)} (R : Set0 P w h a L) : ObjOk P w H h a (SetGO P w a L) := by
  have ⟨_, _, _, ⟨o, oa, _⟩, _⟩ := R.ex
  refine ⟨R, ⟨o, oa⟩, fun h1 h2 p k => ?_⟩
  have ⟨es, ep, t, ⟨o2, oa2, r⟩, q⟩ := Set0.ex p
  exact ⟨es, ep, t, ⟨o2, k o2 oa2, r⟩, q⟩
section
variable {X : Cx}
theorem stT {K : PySem.W.Frag} {H H1 : Hp} {a : Addr} {xs : List V} (h : SqT K H a xs) (s : Same H H1) : SqT K H1 a xs := by
  rcases h with (h | ⟨o, h⟩) | h
  · exact .inl (.inl (s _ _ h))
  · exact .inl (.inr ⟨o, s _ _ h⟩)
  · exact .inr h
/-- all of L are tuples that stand -/
def Tups (K : PySem.W.Frag) (H : Hp) (L : List (Addr × List Int)) : Prop := ∀ q ∈ L, SqT K H q.1 (q.2.map V.int)
theorem Tups.same {K : PySem.W.Frag} {H H1 : Hp} {L : List (Addr × List Int)} (h : Tups K H L) (s : Same H H1) : Tups K H1 L := fun q hq => stT (h q hq) s
theorem set_in {pins : List (Addr × Obj)} {σ : L2.St} {H : Hp} {s : Shared} {a : Addr} {L : List (Addr × List Int)} (I : Inv X pins σ H s) (ha : H a = some (SetGO X.prog X.w a L)) (ht : Tups X.K H L) : ∃ es ep t, SetG X.prog X.w s.heap a L es ep t :=
  Set0.with (I.hok a _ ha).1 fun q hq => I.isT (ht q hq)
/-- set() -/
def rSet0G (P : Program) (w : World) : List V → Hp → VK → Prop := fun xs H Q => xs = [] ∧ ∀ p, H p = none → Q (.ref p) (upd H p (SetGO P w p []))
theorem cr_set0G : CallR X (.type "set") (rSet0G X.prog X.w) := by
  intro pins s σ H xs us Q I r h
  obtain ⟨rfl, q⟩ := h
  cases r
  refine setR_new fun _ => ?_
  have new : SetG X.prog X.w (s.heap.push (fresh0 X.w)) s.heap.objs.size [] _ _ _ := setG_new (Heap.get?_push_size _ rfl)
  exact ⟨.ref _, upd H s.heap.objs.size (SetGO X.prog X.w s.heap.objs.size []), I.laid (t' := s.toks) (fun b u e => Heap.get?_push_of_some _ e) (Nat.le_refl _) new.bare.ok, rfl, q _ (I.hok.fresh (Nat.le_refl _))⟩
/-- set(xs), xs a list of up to 300 tuples of ints -/
def rSetL (K : PySem.W.Frag) (P : Program) (w : World) : List V → Hp → VK → Prop := fun xs H Q => ∃ (l : Addr) (ks : List (Addr × List Int)), xs = [V.ref l] ∧ SqL K H l (ks.map fun q => V.ref q.1) ∧ Tups K H ks ∧ ks.length ≤ 300 ∧
  ∀ a L, H a = none → (∀ q ∈ L, q ∈ ks) → (∀ q ∈ ks, q.2 ∈ L.map (·.2)) → (L.map (·.2)).Nodup → Q (.ref a) (upd H a (SetGO P w a L))
theorem cr_setL (cold : X.calm = true) (hu : X.A.units + 64 < cLine) : CallR X (.type "set") (rSetL X.K X.prog X.w) := by
  intro pins s σ H xs us Q I r h
  obtain ⟨l, ks, rfl, hl, hk, lim, q⟩ := h
  rw [Vals.ref1 r]
  obtain ⟨its, rv, pl, _⟩ := I.list hl
  refine set_of_list (P := X.prog) (w := X.w) (ks := ks) (I.ok.hd cold) pl.isList (by simpa using refs_of_vals rv) (fun q hq => I.isT (hk q hq)) lim (by omega) fun h1 n so kp => ?_
  obtain ⟨L, es, ep, t, R, g⟩ := so
  refine ⟨.ref s.heap.objs.size, upd H s.heap.objs.size (SetGO X.prog X.w s.heap.objs.size L), I.laid (t' := n) kp (Nat.le_refl _) R.bare.ok, rfl, q _ L (I.hok.fresh (Nat.le_refl _)) (fun q hq => List.mem_of_mem_take (g.sub q hq)) (fun q hq => g.all q ?_) R.uni⟩
  rw [List.take_length]
  exact hq
/-- found.add(t) -/
def rAddG (K : PySem.W.Frag) (P : Program) (w : World) : V → List V → Hp → VK → Prop := fun x xs H Q => ∃ (a b : Addr) (k : List Int) (L : List (Addr × List Int)), x = V.ref a ∧ xs = [V.ref b] ∧ H a = some (SetGO P w a L) ∧ Tups K H L ∧ SqT K H b (k.map V.int) ∧ L.length < 300 ∧
  ∀ L1, (k ∈ L.map (·.2) → L1 = L) → (k ∉ L.map (·.2) → L1.Perm ((b, k) :: L)) → Q .non (upd H a (SetGO P w a L1))
theorem mt_addG (hu : X.A.units + 64 < cLine) : MtR X "set.add" (rAddG X.K X.prog X.w) := by
  intro pins s σ H x xs v us Q I rx rxs h
  obtain ⟨a, b, k, L, rfl, rfl, ha, ht, hb, lim, q⟩ := h
  cases rx
  rw [Vals.ref1 rxs]
  obtain ⟨es, ep, t, R⟩ := set_in I ha ht
  have hx := I.isT hb
  obtain ⟨o, oa, xa, da⟩ := R.obj
  refine wpAny_call_entry F.slot_set_add ⟨o, oa, xa.1⟩ F.entry_set_add ?_ (F.args_set_add_2 _ _)
  unfold Builtin.«set.add» Builtin.Frozenset.oneOther
  simp only [List.isEmpty_nil, bind_assoc]
  unfold Builtin.Frozenset.addrOf setAdd
  refine wpAny_bind (wpAny_pure ?_)
  try dsimp only
  refine wpAny_bind (wpAny_pure ?_)
  try dsimp only
  refine wpAny_bind (wpAny_holding ?_)
  have hu1 : X.A.in1.units < cLine := by show X.A.units + 1 < cLine; omega
  refine wpAny_bind (wpAny_pyHash_tuple hu1 hx ?_)
  refine put_in (s := { s with toks := s.toks + (k.length + 1) }) R hx hu1 lim fun _ h1 L1 es1 ep1 t1 but R1 c1 c2 => ?_
  show wpAny _ _ (ret Value.none) _ _ _
  refine wpAny_pure ⟨_, rfl, .non, upd H a (SetGO X.prog X.w a L1), I.write (e := a) (t' := s.toks + (k.length + 1)) (by rw [ha]; trivial) (.inl rfl) (fun b u hb hu => (but.2 b hb).trans hu) ?_ R1.bare.ok, rfl, q L1 c1 c2⟩
  obtain ⟨o1, oa1, _⟩ := R1.obj
  exact ⟨o1, oa1⟩
def tAddG (K : PySem.W.Frag) (P : Program) (w : World) (to : TE) (t : TA) : TE := fun σ H Q => to σ H fun x H1 => (∃ a L, x = V.ref a ∧ H1 a = some (SetGO P w a L)) ∧ t σ H1 fun xs H2 => rAddG K P w x xs H2 Q
theorem pe_addG {o e : Expr} {es : List Expr} {to : TE} {t : TA} {apos cpos : Pos} (hu : X.A.units + 64 < cLine) (ho : PE X o to) (ha : PA X (e :: es) t)
    (hbase : attributeBase o "add" X.env (eval o X.env) = eval o X.env := by rfl)
    (hfew : ((backTo cpos (starEach (e :: es) X.env)).all (fun x => !x.1) && (backToKw cpos (keywordEach [] X.env)).all (fun x => x.1.isSome)
      && decide ((e :: es).length + ([] : List Keyword).length + (if ([] : List Keyword).isEmpty then 0 else 1) < 30)) = true := by rfl)
    (hline : (apos.endLine == cpos.line) = true := by rfl) (hs : starEach (e :: es) X.env = (false, eval e X.env) :: starEach es X.env := by rfl) (hplain : (backTo cpos (starEach es X.env)).any (·.1) = false := by rfl) :
    PE X (.Call (.Attribute o "add" apos) (e :: es) [] cpos) (tAddG X.K X.prog X.w to t) := by
  refine ⟨fun pins s σ H Q I h => ?_⟩
  refine wpAny_Call_method_late hbase hfew hline rfl (thn (ho.run pins s σ H _ I h) fun v s1 ⟨x, H1, I1, r1, ⟨a, L, ex, hS⟩, q1⟩ => ?_)
  subst ex
  cases r1
  have R0 : Set0 X.prog X.w s1.heap a L := (I1.hok a _ hS).1
  obtain ⟨_, _, _, ⟨o1, oa, xa, _⟩, _⟩ := R0.ex
  refine ⟨"set", "set.add", F.plainAttrs_set, F.slot_set_add, F.type_set_add, ⟨o1, oa, xa.1⟩, fun b eb => ?_, ?_⟩
  · injection eb with eb
    subst eb
    exact ⟨o1, oa, xa.2.1⟩
  have hA := ha.run cpos pins s1 σ H1 _ I1 q1
  rw [hs] at hA ⊢
  refine Calls.callWith_builtin (by show (false || (backTo cpos (starEach es X.env)).any (·.1)) = false; rw [hplain] <;> rfl) (Calls.evalArgs_plain ?_)
  exact thn hA fun us s2 ⟨vs, H2, I2, r2, q2⟩ => mt_addG hu pins s2 σ H2 (.ref a) vs (.ref a) us Q I2 rfl r2 q2
/-- t in found, t not in found -/
def rInG (K : PySem.W.Frag) (P : Program) (w : World) (neg : Bool) : V → V → Hp → VK → Prop := fun x y H Q => ∃ (a b : Addr) (k : List Int) (L : List (Addr × List Int)), x = V.ref b ∧ y = V.ref a ∧ H a = some (SetGO P w a L) ∧ Tups K H L ∧ SqT K H b (k.map V.int) ∧
  Q (.bl (if neg then !decide (k ∈ L.map (·.2)) else decide (k ∈ L.map (·.2)))) H
theorem or_inG (hu : X.A.units + 64 < cLine) : OpR X (compareOp .In) (rInG X.K X.prog X.w false) := by
  intro pins s σ H x y v u Q I rx ry h
  obtain ⟨a, b, k, L, rfl, rfl, ha, ht, hb, q⟩ := h
  cases rx
  cases ry
  obtain ⟨es, ep, t, R⟩ := set_in I ha ht
  obtain ⟨o, oa, xa, da⟩ := R.obj
  have ty : s.TypeIs (.ref a) "set" := ⟨o, oa, xa.1⟩
  show wpAny _ _ (do return Value.bool (← contains (.ref a) (.ref b))) _ _ s
  refine wpAny_bind ?_
  unfold contains
  try with_reducible refine wpAny_holding ?_
  refine wpAny_bind (wpAny_specialOf ty F.slot_set_contains.lookup ?_)
  show wpAny _ _ (if (some (Value.builtin "set.__contains__") == some Value.none) = true then _ else _) _ _ s
  rw [if_neg (by rw [beq_builtin_none]; exact Bool.false_ne_true)]
  refine wpAny_bind (wpAny_callSpecialUnlessNone?_slot (name := Str.ofString "__contains__") ty F.slot_set_contains (wpAny_call_entry F.slot_set_contains ty entry_set_contains ?_ (F.args_set_contains_2 _ _)))
  unfold Builtin.«frozenset.__contains__» Builtin.Frozenset.oneOther
  simp only [List.isEmpty_nil, bind_assoc]
  unfold Builtin.Frozenset.addrOf Builtin.Frozenset.withSetAsKey
  refine wpAny_bind (wpAny_pure ?_)
  try dsimp only
  refine wpAny_bind (wpAny_pure ?_)
  try dsimp only
  refine wpAny_bind (wpAny_tryCatch ?_)
  refine has_at R (I.isT hb) (by show X.A.units + 1 < cLine; omega) fun n => ?_
  show wpAny _ _ (ret (Value.bool _)) _ _ _
  exact wpAny_pure ⟨_, rfl, wpAny_truthy_bool (wpAny_pure ⟨V.bl (decide (k ∈ L.map fun q : Addr × List Int => q.2)), H, I.tok n, rfl, q⟩)⟩
theorem or_notinG (hu : X.A.units + 64 < cLine) : OpR X (compareOp .NotIn) (rInG X.K X.prog X.w true) := by
  intro pins s σ H x y v u Q I rx ry h
  obtain ⟨a, b, k, L, rfl, rfl, ha, ht, hb, q⟩ := h
  cases rx
  cases ry
  obtain ⟨es, ep, t, R⟩ := set_in I ha ht
  obtain ⟨o, oa, xa, da⟩ := R.obj
  have ty : s.TypeIs (.ref a) "set" := ⟨o, oa, xa.1⟩
  show wpAny _ _ (do return Value.bool (!(← contains (.ref a) (.ref b)))) _ _ s
  refine wpAny_bind ?_
  unfold contains
  try with_reducible refine wpAny_holding ?_
  refine wpAny_bind (wpAny_specialOf ty F.slot_set_contains.lookup ?_)
  show wpAny _ _ (if (some (Value.builtin "set.__contains__") == some Value.none) = true then _ else _) _ _ s
  rw [if_neg (by rw [beq_builtin_none]; exact Bool.false_ne_true)]
  refine wpAny_bind (wpAny_callSpecialUnlessNone?_slot (name := Str.ofString "__contains__") ty F.slot_set_contains (wpAny_call_entry F.slot_set_contains ty entry_set_contains ?_ (F.args_set_contains_2 _ _)))
  unfold Builtin.«frozenset.__contains__» Builtin.Frozenset.oneOther
  simp only [List.isEmpty_nil, bind_assoc]
  unfold Builtin.Frozenset.addrOf Builtin.Frozenset.withSetAsKey
  refine wpAny_bind (wpAny_pure ?_)
  try dsimp only
  refine wpAny_bind (wpAny_pure ?_)
  try dsimp only
  refine wpAny_bind (wpAny_tryCatch ?_)
  refine has_at R (I.isT hb) (by show X.A.units + 1 < cLine; omega) fun n => ?_
  show wpAny _ _ (ret (Value.bool _)) _ _ _
  exact wpAny_pure ⟨_, rfl, wpAny_truthy_bool (wpAny_pure ⟨V.bl (!decide (k ∈ L.map fun q : Addr × List Int => q.2)), H, I.tok n, rfl, q⟩)⟩
/-- sorted(set) -/
def rSortedG (K : PySem.W.Frag) (P : Program) (w : World) : List V → Hp → VK → Prop := fun vs H Q => ∃ (a : Addr) (L : List (Addr × List Int)), vs = [V.ref a] ∧ H a = some (SetGO P w a L) ∧ Tups K H L ∧ (∀ q ∈ L, q.2 ≠ []) ∧
  ∀ (L1 : List (Addr × List Int)) (p : Addr), L1.Perm L → Asc L1 → L1.length < 307 → H p = none → Q (.ref p) (upd H p (.lst (L1.map fun q => V.ref q.1)))
theorem cr_sortedG (cold : X.calm = true) : CallR X (.builtin "sorted") (rSortedG X.K X.prog X.w) := by
  intro pins s σ H vs us Q I r h
  obtain ⟨a, L, rfl, ha, ht, ne, q⟩ := h
  obtain ⟨es, ep, t, R⟩ := set_in I ha ht
  rw [Vals.ref1 r]
  refine sorted_setG R (I.ok.hd cold) ne fun s1 p out c L1 k g o lp hp eo pm asc => ?_
  have few : L1.length < 307 := by rw [pm.length_eq]; exact R.few
  have ln : (L1.map fun q => V.ref q.1).length ≤ sizeLine := by rw [List.length_map, sizeLine_eq]; omega
  have np : H p = none := I.hok.fresh lp
  have vr : Vals (L1.map fun q => V.ref q.1) out.toList := by rw [eo]; exact vals_of_refs L1
  have J : Inv X pins σ (upd H p (.lst (L1.map fun q => V.ref q.1))) { s with heap := s1.heap, gens := s1.gens, drawn := s1.drawn, toks := s1.toks } :=
    I.call (ch := []) (Un.laid k lp np) (I.hok.laid k lp ⟨ln, out.toList, c, vr, hp⟩) (by rw [g]; exact I.bare) (fun _ z => nomatch z)
  have e : s1 = { s with heap := s1.heap, gens := s1.gens, drawn := s1.drawn, toks := s1.toks } := by
    cases s1
    cases s
    cases o
    rfl
  rw [e]
  exact ⟨.ref p, _, J, rfl, q L1 p pm asc few np⟩
end
end Tb
set_option maxRecDepth 100000
set_option maxHeartbeats 4000000
/-! List comprehensions of any number of clauses. -/
namespace Cn
open PySem PySem.Spec PyProof.Rows L2

/-- what stands within the innermost test at the clause before k -/
def inAct (elt : Expr) (gs : List Comprehension) (scope : Scope) (pos : Pos) (k : Nat) (acc : Value) (env : Env) : Sem Unit :=
  match gs[k]? with
  | some g => do
    let x ← eval g.iter env
    standAt g.iter.pos
    let x ← foldedSetIterable g.iter env x
    let _ ← runOwn (.compStart (.ListComp elt gs scope pos) k (← holding [x] (pyIter x)) acc env) env
  | none => do let _ ← call (.builtin "list.append") [acc, ← eval elt env]
theorem turn_mid {elt : Expr} {gs : List Comprehension} {scope : Scope} {pos : Pos} {k : Nat} {tg iter tg1 iter1 : Expr} {ifs ifs1 : List Expr} (h : gs[k]? = some ⟨tg, iter, ifs, 0⟩) (h1 : gs[k + 1]? = some ⟨tg1, iter1, ifs1, 0⟩) (it acc : Value) (env : Env) :
    compTurn (.ListComp elt gs scope pos) k it acc env = (do
      standAt iter.pos
      match ← pyNext it with
      | none => pure (.done .next)
      | some v =>
        letOwnedTupleGo tg it v
        assign tg env v
        let mut ok := true
        for c in ifs do
          if ok then ok ← isTrue c env (eval c env)
        if ok then
          let x ← eval iter1 env
          standAt iter1.pos
          let x ← foldedSetIterable iter1 env x
          let _ ← runOwn (.compStart (.ListComp elt gs scope pos) (k + 1) (← holding [x] (pyIter x)) acc env) env
        again (.compLoop (.ListComp elt gs scope pos) k it acc env)) := by
  unfold compTurn
  dsimp only
  rw [h, h1]
  rfl
theorem turn_last {elt : Expr} {gs : List Comprehension} {scope : Scope} {pos : Pos} {k : Nat} {tg iter : Expr} {ifs : List Expr} (h : gs[k]? = some ⟨tg, iter, ifs, 0⟩) (h1 : gs[k + 1]? = none) (it acc : Value) (env : Env) :
    compTurn (.ListComp elt gs scope pos) k it acc env = (do
      standAt iter.pos
      match ← pyNext it with
      | none => pure (.done .next)
      | some v =>
        letOwnedTupleGo tg it v
        assign tg env v
        let mut ok := true
        for c in ifs do
          if ok then ok ← isTrue c env (eval c env)
        if ok then
          (do let _ ← call (.builtin "list.append") [acc, ← eval elt env])
        again (.compLoop (.ListComp elt gs scope pos) k it acc env)) := by
  unfold compTurn
  dsimp only
  rw [h, h1]
  rfl
section
variable {prog : Program} {w : World} {A : Around} {R : Result → Shared → Prop} {s : Shared} {elt tg iter : Expr} {ifs : List Expr} {gs : List Comprehension} {scope : Scope} {pos : Pos} {it acc : Value} {env : Env} {k : Nat}
/-- a clause's loop -/
theorem loop_at (hk : gs[k]? = some ⟨tg, iter, ifs, 0⟩) (ha : ∀ g ∈ gs, g.is_async = 0) (I : Nat → Shared → Prop)
    (turn : ∀ n s, I n s → wpAny (model prog w) A (pyNext it) (fun r s1 => match r with
      | none => R (.ok .next) s1
      | some v => wpAny (model prog w) A (letOwnedTupleGo tg it v) (fun _ s2 => wpAny (model prog w) A (assign tg env v) (fun _ s3 =>
          wpAny (model prog w) A (forIn ifs true fun c r => if r = true then do let ok ← isTrue c env (eval c env); pure (ForInStep.yield ok) else pure (ForInStep.yield r)) (fun ok s4 =>
            if ok = true then wpAny (model prog w) A (inAct elt gs scope pos (k + 1) acc env) (fun _ s5 => ∃ m, m < n ∧ I m s5) (fun _ _ => False) s4
            else ∃ m, m < n ∧ I m s4) (fun _ _ => False) s3) (fun _ _ => False) s2) (fun _ _ => False) s1) (fun _ _ => False) s)
    (n : Nat) (h : I n s) : codeAny (model prog w) A (.compLoop (.ListComp elt gs scope pos) k it acc env) R s := by
  refine codeAny_loop rfl I (fun n s hI => ?_) n h
  show wpAny _ A ((compTurn (.ListComp elt gs scope pos) k it acc env).onRaise (fun x => do noteFrame x env; theTreesLotGoes x)) _ _ s
  refine wpAny_noted ?_
  have step := turn n s hI
  clear turn hI
  cases h1 : gs[k + 1]? with
  | none =>
    have ein : inAct elt gs scope pos (k + 1) acc env = (do let _ ← call (.builtin "list.append") [acc, ← eval elt env]) := by
      unfold inAct
      rw [h1]
    rw [ein] at step
    rw [turn_last hk h1]
    refine wpAny_bind (wpAny_standAt (wpAny_bind (thnF step fun r s1 h1 => ?_)))
    cases r with
    | none => exact wpAny_pure h1
    | some v =>
      refine wpAny_bind (thnF h1 fun _ s2 h2 => wpAny_bind (thnF h2 fun _ s3 h3 => wpAny_bind (thnF h3 fun ok s4 h4 => ?_)))
      cases ok with
      | false => exact wpAny_pure ⟨rfl, h4⟩
      | true => exact wpAny_bind (thnF h4 fun _ s5 h5 => wpAny_pure ⟨rfl, h5⟩)
  | some g =>
    obtain ⟨tg1, iter1, ifs1, ay⟩ := g
    obtain rfl : ay = 0 := ha _ (List.mem_of_getElem? h1)
    have ein : inAct elt gs scope pos (k + 1) acc env = (do
        let x ← eval iter1 env
        standAt iter1.pos
        let x ← foldedSetIterable iter1 env x
        let _ ← runOwn (.compStart (.ListComp elt gs scope pos) (k + 1) (← holding [x] (pyIter x)) acc env) env) := by
      unfold inAct
      rw [h1]
    rw [ein] at step
    rw [turn_mid hk h1]
    refine wpAny_bind (wpAny_standAt (wpAny_bind (thnF step fun r s1 h1 => ?_)))
    cases r with
    | none => exact wpAny_pure h1
    | some v =>
      refine wpAny_bind (thnF h1 fun _ s2 h2 => wpAny_bind (thnF h2 fun _ s3 h3 => wpAny_bind (thnF h3 fun ok s4 h4 => ?_)))
      cases ok with
      | false => exact wpAny_pure ⟨rfl, h4⟩
      | true =>
        simp only [if_true] at h4 ⊢
        have h5 := wpAny_bind (f := fun _ => again (.compLoop (.ListComp elt gs scope pos) k it acc env)) (thnF (Q' := fun _ s' => wpAny (model prog w) (A.under (.compLoop (.ListComp elt gs scope pos) k it acc env)) (again (.compLoop (.ListComp elt gs scope pos) k it acc env)) (fun fin s' => match fin with
          | .done f => R (.ok f) s'
          | .again c' => c' = .compLoop (.ListComp elt gs scope pos) k it acc env ∧ ∃ m, m < n ∧ I m s') (notedBy (model prog w) A env fun e s' => R (.error e) s') s') h4 fun _ s5 h5 => wpAny_pure ⟨rfl, h5⟩)
        simp only [bind_assoc, pure_bind] at h5 ⊢
        exact h5
/-- a clause's start -/
theorem start_at (hk : gs[k]? = some ⟨tg, iter, ifs, 0⟩) (h0 : codeAny (model prog w) A (.compLoop (.ListComp elt gs scope pos) k it acc env) R s)
    (h : wpAny (model prog w) A (pyIter it) (fun it1 s1 => codeAny (model prog w) A (.compLoop (.ListComp elt gs scope pos) k it1 acc env) R s1) (fun _ _ => False) s) :
    codeAny (model prog w) A (.compStart (.ListComp elt gs scope pos) k it acc env) R s := by
  refine codeAny_of_tree ?_
  show wpAny _ _ ((compStart (.ListComp elt gs scope pos) k it acc env).onRaise (fun x => do noteFrame x env; standAt theWindowsPlace)) _ _ s
  refine wpAny_notedAt ?_
  unfold compStart
  have hk2 : (clausesOf (.ListComp elt gs scope pos))[k]? = some ⟨tg, iter, ifs, 0⟩ := hk
  rw [hk2]
  show wpAny _ _ (ask >>= _) _ _ s
  refine wpAny_bind (wpAny_askSetting (wpAny_ite ?_))
  split
  · first
      | exact wpAny_bind (wpAny_pure (wpAny_pure (And.intro rfl h0)))
      | exact wpAny_pure (And.intro rfl h0)
  · refine wpAny_bind (wpAny_rule ?_)
    show wpAny _ _ (standAt iter.pos >>= _) _ _ s
    exact wpAny_bind (wpAny_standAt (wpAny_bind (thnF h fun it1 s1 h1 => wpAny_pure (And.intro rfl h1))))
end

/-! ### the readings -/
/-- a clause: what it walks, its target, its tests, the slots that a turn begins without -/
structure Cl where
  wi : TI
  g : TG
  tt : TT
  vs : List Nat
/-- from here all the clauses that are left bring Nx about -/
def tCls (te : TE) (D : Addr) : List Cl → L2.St → Hp → (Hp → Prop) → Prop
  | [], σ, H, Nx => te σ H fun y H1 => ∃ acc, H1 D = some (.lst acc) ∧ acc.length < sizeLine ∧ Nx (upd H1 D (.lst (acc ++ [y])))
  | c :: cs, σ, H, Nx => c.wi σ H fun J H1 => ∃ W : Nat → Nat → Hp → Prop, (∃ m, W 0 m H1) ∧ ∀ i m H, W i m H → (J.stop i H ∧ Nx H) ∨
      (J.go i H ∧ ∃ N1 : Hp → Prop, (∀ H', N1 H' → ∃ m', m' < m ∧ W (i + 1) m' H') ∧ ∀ x H', J.yld i H x H' → c.g x (wipe σ c.vs) H' fun σ2 H2 => wipe σ2 c.vs = wipe σ c.vs ∧ c.tt σ2 H2 fun b H3 =>
        if b = true then tCls te D cs σ2 H3 N1 else N1 H3)
structure PCl (Y : Cx) (e : Comprehension) (c : Cl) : Prop where
  it : PI Y e.target e.iter c.wi
  tg : PG Y e.target c.g
  ts : PTs Y e.ifs c.tt
  pl : ∀ x, foldedSetIterable e.iter Y.env x = pure x
def PCls (Y : Cx) : List Nat → List Comprehension → List Cl → Prop
  | _, [], [] => True
  | vs, e :: es, c :: cs => PCl Y e c ∧ (∀ i ∈ c.vs, i ∈ vs) ∧ PCls Y c.vs es cs
  | _, _, _ => False
def Keeps (vs : List Nat) (σ σ1 : L2.St) : Prop := σ1.length = σ.length ∧ ∀ j v, j ∉ vs → σ[j]? = some (some v) → σ1[j]? = some (some v)
theorem keeps_wipe {σ : L2.St} {vs us : List Nat} (h : ∀ i ∈ us, i ∈ vs) : Keeps vs σ (wipe σ us) := ⟨wipe_length σ us, fun j v n e => (wipe_out fun z => n (h j z)).trans e⟩
theorem keeps_back {σ σ2 σ3 : L2.St} {vs : List Nat} (w : wipe σ2 vs = wipe σ vs) (k : Keeps vs σ2 σ3) : (wipe σ vs).length = σ3.length ∧ ∀ (j : Nat) v, (wipe σ vs)[j]? = some (some v) → σ3[j]? = some (some v) := by
  refine ⟨by rw [← w, wipe_length, k.1], fun j v e => ?_⟩
  rw [← w] at e
  obtain ⟨e1, e2⟩ := wipe_some e
  exact k.2 j v e2 e1
theorem inner {Y : Cx} {elt : Expr} {gs : List Comprehension} {scope : Scope} {pos : Pos} {te : TE} {D : Addr} (calm : Y.calm = true) (yx : Y.xe = fun _ _ => False) (he : PE Y elt te) (ha : ∀ g ∈ gs, g.is_async = 0) :
    ∀ (es : List Comprehension) (cs : List Cl) (vs : List Nat) (k : Nat), gs.drop k = es → PCls Y vs es cs → ∀ (pins : List (Addr × Obj)) (s : Shared) (σ : L2.St) (H : Hp) (Nx : Hp → Prop), Inv Y pins σ H s → tCls te D cs σ H Nx →
      wpAny (model Y.prog Y.w) Y.A (inAct elt gs scope pos k (.ref D) Y.env) (fun _ s' => ∃ σ' H', Inv Y pins σ' H' s' ∧ Keeps vs σ σ' ∧ Nx H') (fun _ _ => False) s
  | [], [], vs, k, hd, _, pins, s, σ, H, Nx, I, q => by
    have hk : gs[k]? = none := List.getElem?_eq_none (List.drop_eq_nil_iff.mp hd)
    have r := he.run pins s σ H _ I q
    rw [yx] at r
    unfold inAct
    rw [hk]
    refine wpAny_bind (thnF r fun u s1 ⟨y, H1, I1, ry, acc, hD, hz, nx⟩ => ?_)
    refine wpAny_bind (app_ok I1 hD hz ry fun s2 I2 => wpAny_pure ⟨σ, _, I2, ⟨rfl, fun _ _ _ e => e⟩, nx⟩)
  | ⟨tg, iter, ifs, ay⟩ :: es, c :: cs, vs, k, hd, ⟨pc, hv, pcs⟩, pins, s, σ, H, Nx, I, q => by
    have hk : gs[k]? = some ⟨tg, iter, ifs, ay⟩ := by
      have z := congrArg (fun l => l[0]?) hd
      simpa using z
    obtain rfl : ay = 0 := ha _ (List.mem_of_getElem? hk)
    have hd1 : gs.drop (k + 1) = es := by
      have z := congrArg List.tail hd
      simpa using z
    have r := pc.it.run pins s σ H _ I q
    rw [yx] at r
    unfold inAct
    rw [hk]
    dsimp only
    refine wpAny_bind (thnF r fun x s1 h1 => wpAny_bind (wpAny_standAt (wpAny_bind (wpAny_of_eq (pc.pl x) (wpAny_bind (wpAny_holding (thnF h1 fun itv s2 h2 => ?_)))))))
    obtain ⟨it, fp, tn, J, H2, e, I2, T, st2, f2, W, ⟨m0, w0⟩, turn⟩ := h2
    subst e
    have fpo : ∀ {H' : Hp}, (∀ b ∈ fp, H' b = none) → ∀ b ∈ fp, FpOk Y pins H' b := fun hn b hb => ⟨hn b hb, (f2 b hb).2⟩
    have loop : codeAny (model Y.prog Y.w) Y.A (.compLoop (.ListComp elt gs scope pos) k (.ref it) (.ref D) Y.env) (fun r s' => match r with
        | .ok _ => ∃ σ' H', Inv Y pins σ' H' s' ∧ Keeps vs σ σ' ∧ Nx H'
        | .error _ => False) s2 := by
      refine loop_at hk ha (fun m s' => ∃ j H', Inv Y pins (wipe σ c.vs) H' s' ∧ tn j s'.heap ∧ (∀ b ∈ fp, H' b = none) ∧ W j m H') ?_ m0 ⟨0, H2, I2.weak (wipe_length _ _) (fun j v e => (wipe_some e).1), st2, fun b hb => (f2 b hb).1, w0⟩
      rintro m s3 ⟨j, H3, I3, st3, n3, w3⟩
      rcases turn j m H3 w3 with ⟨stop, nx⟩ | ⟨go, N1, back, step⟩
      · refine thnF (T.done Y rfl rfl rfl calm j pins s3 _ H3 (fun _ _ => False) I3 (fpo n3) st3 stop) fun r s4 ⟨hr, I4⟩ => ?_
        subst hr
        exact ⟨_, H3, I4, keeps_wipe hv, nx⟩
      · refine thnF (T.item Y rfl rfl rfl calm j pins s3 _ H3 (fun _ _ => False) I3 (fpo n3) st3 go) fun r s4 ⟨u, hr, h4⟩ => ?_
        subst hr
        refine thnF h4 fun _ s5 ⟨x, H5, I5, r5, y5, st5, n5⟩ => ?_
        have I5p := I5.pinned (fpo n5) (T.obj _ _ st5)
        have pg := pc.tg.run _ s5 _ H5 x u _ I5p r5 (step x H5 y5)
        rw [yx] at pg
        refine thnF pg fun _ s6 ⟨σ6, H6, I6, w6, q6⟩ => ?_
        have pt := pc.ts.run _ s6 σ6 H6 _ I6 q6
        rw [yx] at pt
        refine thnF pt fun b s7 ⟨H7, I7, q7⟩ => ?_
        have fin : ∀ {σ8 : L2.St} {s8 : Shared} {H8 : Hp}, Inv Y (pins ++ pinsAt fp s5.heap) σ8 H8 s8 → Keeps c.vs σ6 σ8 → N1 H8 → ∃ m', m' < m ∧ ∃ j H', Inv Y pins (wipe σ c.vs) H' s8 ∧ tn j s8.heap ∧ (∀ b ∈ fp, H' b = none) ∧ W j m' H' := fun {σ8 s8 H8} I8 kp nx => by
          obtain ⟨m1, lm, w1⟩ := back H8 nx
          have pin8 : ∀ b ∈ fp, ∀ o, s5.heap.get? b = some o → s8.heap.get? b = some o ∧ H8 b = none := fun b hb o e =>
            let z := I8.pin (b, o) (List.mem_append_right _ (List.mem_append_right _ (mem_pinsAt hb e)))
            ⟨z.1, z.2.1⟩
          obtain ⟨k1, k2⟩ := keeps_back w6 kp
          refine ⟨m1, lm, j + 1, H8, I8.unpinned.weak k1 k2, T.keep _ _ _ st5 fun b hb o e => (pin8 b hb o e).1, fun b hb => ?_, w1⟩
          obtain ⟨o, e, _⟩ := T.obj _ _ st5 b hb
          exact (pin8 b hb o e).2
        cases b with
        | false =>
          simp only [Bool.false_eq_true, if_false] at q7 ⊢
          exact fin I7 ⟨rfl, fun _ _ _ e => e⟩ q7
        | true =>
          simp only [if_true] at q7 ⊢
          exact thnF (inner calm yx he ha es cs c.vs (k + 1) hd1 pcs _ s7 σ6 H7 N1 I7 q7) fun _ s8 ⟨σ8, H8, I8, kp, nx⟩ => fin I8 kp nx
    refine wpAny_bind (wpAny_runOwn ?_)
    rw [Around.mark_none]
    refine codeAny_mono (start_at hk loop (T.self Y.A 0 _ _ _ st2 loop)) fun r s' hr => ?_
    cases r with
    | ok f =>
      first
        | exact wpAny_pure hr
        | exact hr
    | error e => exact hr.elim
  | [], _ :: _, _, _, _, h, _, _, _, _, _, _, _ => h.elim
  | _ :: _, [], _, _, _, h, _, _, _, _, _, _, _ => h.elim

/-- the whole comprehension -/
def tLcN (c : Cl) (cs : List Cl) (te : TE) : TE := fun σ H Q => c.wi σ H fun J H1 => ∀ D, H1 D = none → ∃ W : Nat → Nat → Hp → Prop, (∃ m, W 0 m (upd H1 D (.lst []))) ∧ ∀ i m H, W i m H → (J.stop i H ∧ Q (.ref D) H) ∨
  (J.go i H ∧ ∃ N1 : Hp → Prop, (∀ H', N1 H' → ∃ m', m' < m ∧ W (i + 1) m' H') ∧ ∀ x H', J.yld i H x H' → c.g x (wipe σ c.vs) H' fun σ2 H2 => wipe σ2 c.vs = wipe σ c.vs ∧ c.tt σ2 H2 fun b H3 =>
    if b = true then tCls te D cs σ2 H3 N1 else N1 H3)
section
variable {X : Cx}
/-- the contexts of the block -/
abbrev InBlk (X : Cx) (scope : Scope) (p : Cx → Prop) : Prop := ∀ (s : Shared) (H : Hp) (C : Addr) (cl : List (Str × Addr)) (fp : List Addr), p (X.blk s H scope (compEnvC scope cl C X.env) fp)
theorem coreN {pins : List (Addr × Obj)} {s : Shared} {σ : L2.St} {H : Hp} {Q : VK} {elt tg iter : Expr} {ifs : List Expr} {es : List Comprehension} {scope : Scope} {own : List (Str × Nat)} {pos pos2 : Pos} {wi : TI} {g : TG} {tt : TT} {cs : List Cl} {te : TE} {use : Option (Value → Sem Unit)} {Qf : Value → Shared → Prop}
    (calm : X.calm = true) (nd : X.N.Nodup) (I : Inv X pins σ H s) (hi : PI X tg iter wi) (ok : BlkOk X.N X.env.scope scope own) (hg : InBlk X scope fun Y => PG Y tg g) (ht : InBlk X scope fun Y => PTs Y ifs tt) (hr : InBlk X scope fun Y => PCls Y (own.map (·.2)) es cs) (he : InBlk X scope fun Y => PE Y elt te)
    (hs : ∀ x, foldedSetIterable iter X.env x = pure x) (ha : ∀ e ∈ es, e.is_async = 0) (h : tLcN ⟨wi, g, tt, own.map (·.2)⟩ cs te σ H Q)
    (fin : ∀ D C s' m H', Inv X pins σ H' s' → Q (.ref D) H' → s'.heap.Ns C m → FpOk X pins H' C → compPost (model X.prog X.w) X.A X.xe use Qf (.ref D) C (.ok .next) s') :
    wpAny (model X.prog X.w) X.A (comprehension (.ListComp elt (⟨tg, iter, ifs, 0⟩ :: es) scope pos) scope X.env pos2 (newList []) false (eval iter X.env) use) Qf X.xe s := by
  have free : ∀ y ∈ scope.names, y.2 = .free → ∃ c, X.env.cells.lookup y.1 = some c := fun y hy e => (ok.free y hy e).elim (fun k => I.ok.has _ (.inl k)) fun k => I.ok.has _ (.inr k)
  refine wpAny_comprehension_free (use := use) rfl hs (closure_ok free) ok.kind (fun y hy e => by rw [ok.uniq y hy, e]) (thn (hi.run pins s σ H _ I h) fun xv s1 hx => thn hx fun itv s2 h2 => ?_)
  obtain ⟨it, fp, tn, J, H2, e, I2, T, st2, f2, q⟩ := h2
  subst e
  refine wpAny_newObj_type (newEnv_comp ?_) (by show 0 ≤ sizeLine; decide)
  generalize eD : s2.heap.objs.size = D
  have nD : H2 D = none := I2.hok.fresh (Nat.le_of_eq eD)
  obtain ⟨W, ⟨m0, w0⟩, turn⟩ := q D nD
  obtain ⟨s3, e3⟩ : ∃ s3 : Shared, s3 = { s2 with heap := s2.heap.push { cls := .type "list", data := .seq ([] : List Value).toArray } } := ⟨_, rfl⟩
  rw [← e3]
  have h3 : s3.heap = s2.heap.push { cls := .type "list", data := .seq ([] : List Value).toArray } := by rw [e3]
  have at3 : s3.heap.get? D = some { cls := .type "list", data := .seq ([] : List Value).toArray } := by
    rw [h3, ← eD]
    exact Heap.get?_push_size _ rfl
  have I3 : Inv X pins σ (upd H2 D (.lst [])) s3 := by
    have z : ∀ b o, s2.heap.get? b = some o → s3.heap.get? b = some o := fun b o e => by rw [h3]; exact Heap.get?_push_of_some _ e
    have y := I2.laid (t' := s2.toks) (h' := s3.heap) z (Nat.le_of_eq eD) (o := .lst []) ⟨Nat.zero_le _, [], 0, .nil, at3⟩
    rw [e3] at y ⊢
    exact y
  have small : ∀ b ∈ fp, b < s2.heap.objs.size := fun b hb => by
    obtain ⟨o, e, _⟩ := T.obj _ _ st2 b hb
    exact Heap.lt_size e
  have f3 : ∀ b ∈ fp, FpOk X pins (upd H2 D (.lst [])) b ∧ b < s3.heap.objs.size := fun b hb => by
    have lt := small b hb
    refine ⟨⟨?_, (f2 b hb).2⟩, by rw [h3, Heap.size_push]; exact Nat.lt_succ_of_lt lt⟩
    rw [upd_ne (by rw [← eD]; exact Nat.ne_of_lt lt)]
    exact (f2 b hb).1
  have st3 : tn 0 s3.heap := T.keep _ _ _ st2 fun b _ o e => by rw [h3]; exact Heap.get?_push_of_some _ e
  have I4 := block_start I3 ok nd f3
  have pg := hg s3 (upd H2 D (.lst [])) s3.heap.objs.size (cellsFrom (s3.heap.objs.size + 1) scope.names (cloFrom X.env.cells scope.names [])) fp
  have pt := ht s3 (upd H2 D (.lst [])) s3.heap.objs.size (cellsFrom (s3.heap.objs.size + 1) scope.names (cloFrom X.env.cells scope.names [])) fp
  have pe := he s3 (upd H2 D (.lst [])) s3.heap.objs.size (cellsFrom (s3.heap.objs.size + 1) scope.names (cloFrom X.env.cells scope.names [])) fp
  have pr := hr s3 (upd H2 D (.lst [])) s3.heap.objs.size (cellsFrom (s3.heap.objs.size + 1) scope.names (cloFrom X.env.cells scope.names [])) fp
  show codeAny _ _ (.compStart (.ListComp elt (⟨tg, iter, ifs, 0⟩ :: es) scope pos) 0 (.ref it) (.ref D) (compEnvC scope (cellsFrom (s3.heap.objs.size + 1) scope.names (cloFrom X.env.cells scope.names [])) s3.heap.objs.size X.env)) (compPost (model X.prog X.w) X.A X.xe use Qf (.ref D) s3.heap.objs.size) { s3 with heap := pushCells (s3.heap.push { cls := .type "dict", data := .dict #[] }) scope.names }
  have nfp : ∀ b ∈ fp, (upd H2 D (.lst [])) b = none := fun b hb => (f3 b hb).1.1
  generalize hce : compEnvC scope (cellsFrom (s3.heap.objs.size + 1) scope.names (cloFrom X.env.cells scope.names [])) s3.heap.objs.size X.env = ce at I4 pg pt pe pr ⊢
  have cL : ce.locals = s3.heap.objs.size := by subst hce; rfl
  generalize upd H2 D (.lst []) = H3 at I3 I4 pg pt pe pr w0 nfp f3
  have st4 : tn 0 (pushCells (s3.heap.push { cls := .type "dict", data := .dict #[] }) scope.names) := T.keep _ _ _ st3 fun b _ o e => pushCells_keeps _ _ _ _ (Heap.get?_push_of_some _ e)
  generalize es4 : ({ s3 with heap := pushCells (s3.heap.push { cls := .type "dict", data := .dict #[] }) scope.names } : Shared) = s4 at I4 ⊢
  have st4 : tn 0 s4.heap := by rw [← es4]; exact st4
  have fpo : ∀ {σ' : L2.St} {H' : Hp} {s' : Shared}, Inv (X.blk s3 H3 scope ce fp) [] σ' H' s' → (∀ b ∈ fp, H' b = none) → ∀ b ∈ fp, FpOk (X.blk s3 H3 scope ce fp) [] H' b := fun {σ' H' s'} I' hn b hb =>
    ⟨hn b hb, (I'.ok.exf b hb).1, I'.ok.exfs b hb, .inl hb, fun x c e => (I'.ok.exf b hb).2 x c e, fun p hp => absurd (show p ∈ ([] : List (Addr × Obj)) ++ [] from hp) (by simp)⟩
  have all0 : ∀ g ∈ (⟨tg, iter, ifs, 0⟩ :: es : List Comprehension), g.is_async = 0 := fun g hgm => by
    rcases List.mem_cons.mp hgm with rfl | z
    · rfl
    · exact ha g z
  have loop : codeAny (model X.prog X.w) X.A (.compLoop (.ListComp elt (⟨tg, iter, ifs, 0⟩ :: es) scope pos) 0 (.ref it) (.ref D) ce) (compPost (model X.prog X.w) X.A X.xe use Qf (.ref D) s3.heap.objs.size) s4 := by
    refine loop_at (tg := tg) (iter := iter) (ifs := ifs) rfl all0 (fun m s' => ∃ j H', Inv (X.blk s3 H3 scope ce fp) [] (wipe σ (own.map (·.2))) H' s' ∧ tn j s'.heap ∧ (∀ b ∈ fp, H' b = none) ∧ W j m H') ?_ m0 ⟨0, H3, I4, st4, nfp, w0⟩
    rintro m s5 ⟨j, H5, I5, st5, n5, w5⟩
    rcases turn j m H5 w5 with ⟨stop, qq⟩ | ⟨go, N1, back, step⟩
    · refine thnF (T.done (X.blk s3 H3 scope ce fp) rfl rfl rfl calm j [] s5 _ H5 (fun _ _ => False) I5 (fpo I5 n5) st5 stop) fun r s6 ⟨hr, I6⟩ => ?_
      subst hr
      have I7 : Inv X pins σ H5 s6 := I3.call' (ch := fp) I6.os I6.base I6.hok I6.bare fun b hb => ⟨(f3 b hb).1.2.2.2.1, (f3 b hb).1.2.1, (f3 b hb).1.2.2.2.2.1, (f3 b hb).1.2.2.2.2.2⟩
      have nC : H5 s3.heap.objs.size = none := by
        have z : H5 ce.locals = none := I6.free
        rw [cL] at z
        exact z
      obtain ⟨ns, hns, _⟩ := I6.loc
      have hns : s6.heap.Ns ce.locals ns := hns
      rw [cL] at hns
      exact fin D s3.heap.objs.size s6 ns H5 I7 qq hns (I3.fpOk (Nat.le_refl _) nC)
    · refine thnF (T.item (X.blk s3 H3 scope ce fp) rfl rfl rfl calm j [] s5 _ H5 (fun _ _ => False) I5 (fpo I5 n5) st5 go) fun r s6 ⟨u, hr, h6⟩ => ?_
      subst hr
      refine thnF h6 fun _ s7 ⟨x, H7, I7, r7, y7, st7, n7⟩ => ?_
      have I7p := I7.pinned (fpo I7 n7) (T.obj _ _ st7)
      refine thnF (pg.run _ s7 _ H7 x u _ I7p r7 (step x H7 y7)) fun _ s8 ⟨σ8, H8, I8, w8, q8⟩ => ?_
      refine thnF (pt.run _ s8 σ8 H8 _ I8 q8) fun b s9 ⟨H9, I9, q9⟩ => ?_
      have done : ∀ {σ9 : L2.St} {s' : Shared} {H' : Hp}, Inv (X.blk s3 H3 scope ce fp) ([] ++ pinsAt fp s7.heap) σ9 H' s' → Keeps (own.map (·.2)) σ8 σ9 → N1 H' →
          ∃ m', m' < m ∧ ∃ j H', Inv (X.blk s3 H3 scope ce fp) [] (wipe σ (own.map (·.2))) H' s' ∧ tn j s'.heap ∧ (∀ b ∈ fp, H' b = none) ∧ W j m' H' := fun {σ9 s' H'} I' kp nx => by
        obtain ⟨m1, lm, w1⟩ := back H' nx
        have pin9 : ∀ b ∈ fp, ∀ o, s7.heap.get? b = some o → s'.heap.get? b = some o ∧ H' b = none := fun b hb o e =>
          let z := I'.pin (b, o) (List.mem_append_right _ (List.mem_append_right _ (mem_pinsAt hb e)))
          ⟨z.1, z.2.1⟩
        obtain ⟨k1, k2⟩ := keeps_back w8 kp
        refine ⟨m1, lm, j + 1, H', (I'.unpinned (pins := [])).weak k1 k2, T.keep _ _ _ st7 fun b hb o e => (pin9 b hb o e).1, fun b hb => ?_, w1⟩
        obtain ⟨o, e, _⟩ := T.obj _ _ st7 b hb
        exact (pin9 b hb o e).2
      cases b with
      | false =>
        simp only [Bool.false_eq_true, if_false] at q9 ⊢
        exact done I9 ⟨rfl, fun _ _ _ e => e⟩ q9
      | true =>
        simp only [if_true] at q9 ⊢
        exact thnF (inner (Y := X.blk s3 H3 scope ce fp) calm rfl pe all0 es cs (own.map (·.2)) 1 rfl pr _ s9 σ8 H9 N1 I9 q9) fun _ s' ⟨σ9, H', I', kp, nx⟩ => done I' kp nx
  exact codeAny_compStart_list loop (T.self X.A 0 _ _ _ st4 loop)
/-- [elt for .. for .. ..] as a value -/
theorem pe_lcN {elt tg iter : Expr} {ifs : List Expr} {es : List Comprehension} {scope : Scope} {own : List (Str × Nat)} {pos : Pos} {wi : TI} {g : TG} {tt : TT} {cs : List Cl} {te : TE} (calm : X.calm = true) (nd : X.N.Nodup) (hi : PI X tg iter wi) (ok : BlkOk X.N X.env.scope scope own)
    (hg : InBlk X scope fun Y => PG Y tg g) (ht : InBlk X scope fun Y => PTs Y ifs tt) (hr : InBlk X scope fun Y => PCls Y (own.map (·.2)) es cs) (he : InBlk X scope fun Y => PE Y elt te) (hs : ∀ x, foldedSetIterable iter X.env x = pure x := by intro _; rfl) (ha : ∀ e ∈ es, e.is_async = 0 := by decide) :
    PE X (.ListComp elt (⟨tg, iter, ifs, 0⟩ :: es) scope pos) (tLcN ⟨wi, g, tt, own.map (·.2)⟩ cs te) := by
  refine ⟨fun pins s σ H Q I h => ?_⟩
  rw [eval_ListComp]
  refine coreN calm nd I hi ok hg ht hr he hs ha h fun D C s' m H' I' q hn f => ⟨m, hn, fun h'' sb => ?_⟩
  obtain ⟨f0, f1, f2, f3, f4, f5⟩ := f
  exact ⟨.ref D, H', I'.turned (t' := s'.toks) (fun b o hb e => (sb.2 b hb).trans e) f0 f1 f3 f4 f5, rfl, q⟩
/-- name = [elt for .. for .. ..], the name a local -/
theorem ps_setLcN {i : Nat} {y : Str} {py : Pos} {elt tg iter : Expr} {ifs : List Expr} {es : List Comprehension} {scope : Scope} {own : List (Str × Nat)} {pos spos : Pos} {wi : TI} {g : TG} {tt : TT} {cs : List Cl} {te : TE} (calm : X.calm = true) (nd : X.N.Nodup) (hy : X.N[i]? = some y) (hyl : X.env.scope.names.lookup y = some .local)
    (hsw : swapsWith (.ListComp elt (⟨tg, iter, ifs, 0⟩ :: es) scope pos) (some (.Name y py)) spos.line X.env = pure true) (hi : PI X tg iter wi) (ok : BlkOk X.N X.env.scope scope own)
    (hg : InBlk X scope fun Y => PG Y tg g) (ht : InBlk X scope fun Y => PTs Y ifs tt) (hr : InBlk X scope fun Y => PCls Y (own.map (·.2)) es cs) (he : InBlk X scope fun Y => PE Y elt te) (hs : ∀ x, foldedSetIterable iter X.env x = pure x := by intro _; rfl) (ha : ∀ e ∈ es, e.is_async = 0 := by decide) :
    PS X (.Assign [.Name y py] (.ListComp elt (⟨tg, iter, ifs, 0⟩ :: es) scope pos) spos) (tAsg (tLcN ⟨wi, g, tt, own.map (·.2)⟩ cs te) (gName i)) := by
  refine ⟨fun pins s σ H D I h => ?_⟩
  rw [exec_Assign_Name_used _ _ _ _ hsw]
  refine wpAny_bind (wpAny_standAt (wpAny_bind ?_))
  show wpAny _ X.A (do let _ ← comprehension (.ListComp elt (⟨tg, iter, ifs, 0⟩ :: es) scope pos) scope X.env (firstIterPos (⟨tg, iter, ifs, 0⟩ :: es) pos) (newList []) false (eval iter X.env) (some (assign (.Name y py) X.env))) _ _ s
  have h : tLcN ⟨wi, g, tt, own.map (·.2)⟩ cs te σ H (fun x H1 => gName i x σ H1 D.nx) := h
  refine wpAny_bind (thn (coreN (Qf := fun _ s' => SP X pins D .next s') calm nd I hi ok hg ht hr he hs ha h fun L C s' m H' I' q hn f => ?_) fun _ s' hq => wpAny_pure (wpAny_pure hq))
  show wpAny _ _ (assign (.Name y py) X.env (.ref L)) _ _ _
  refine wpAny_assign_Name (store_ok2 (v := V.ref L) I' nd hy (.inl hyl) rfl (fun s2 I2 ⟨a, sb, ha⟩ => ?_) (.inr hyl))
  obtain ⟨f0, f1, f2, f3, f4, f5⟩ := f
  have ne : C ≠ a := ha.elim (fun z => z ▸ f1) fun z e => f4 y a z e.symm
  refine ⟨m, hn.sameBut sb ne, fun h3 sb3 => ?_⟩
  exact ⟨_, H', I2.turned (t' := s2.toks) (fun b o hb e => (sb3.2 b hb).trans e) f0 f1 f3 f4 f5, q⟩
end
end Cn
set_option maxRecDepth 100000
set_option maxHeartbeats 4000000
/-! Lambdas with parameters and captured names, handed on and called elsewhere. -/
namespace Lm
open PySem PySem.Spec PyProof.Rows L2 LamX NdefX
open Classical

/-! ### things held still -/
/-- the addresses that a closure has -/
def At (cl : List (Str × Addr)) (b : Addr) : Prop := ∃ y, cl.lookup y = some b
/-- without them -/
noncomputable def off (cl : List (Str × Addr)) (H : Hp) : Hp := fun b => if At cl b then none else H b
/-- H1, at them as in H -/
noncomputable def as_ (cl : List (Str × Addr)) (H H1 : Hp) : Hp := fun b => if At cl b then H b else H1 b
theorem off_at {cl : List (Str × Addr)} {H : Hp} {b : Addr} (h : At cl b) : off cl H b = none := if_pos h
theorem off_ne {cl : List (Str × Addr)} {H : Hp} {b : Addr} (h : ¬ At cl b) : off cl H b = H b := if_neg h
theorem as_at {cl : List (Str × Addr)} {H H1 : Hp} {b : Addr} (h : At cl b) : as_ cl H H1 b = H b := if_pos h
theorem as_ne {cl : List (Str × Addr)} {H H1 : Hp} {b : Addr} (h : ¬ At cl b) : as_ cl H H1 b = H1 b := if_neg h
/-- at each of them stands an object that is not to change -/
def Still (cl : List (Str × Addr)) (H : Hp) : Prop := ∀ b, At cl b → ∃ o, H b = some (.frz o (.own b))
section
variable {P : Program} {w : World} {cl : List (Str × Addr)} {H H1 : Hp} {h h1 : Heap} {fs : List Addr} {outer : List Env} {s s1 : Shared} {Q : VK} {u : Value}
theorem still_ne (st : Still cl H) {b : Addr} {o : HO} (e : H b = some o) (n : ∀ x y, o ≠ .frz x y) : ¬ At cl b := fun z => by
  obtain ⟨x, ex⟩ := st b z
  rw [ex, Option.some.injEq] at e
  exact n _ _ e.symm
theorem off_none {b : Addr} (n : H b = none) : off cl H b = none := by
  by_cases z : At cl b
  · exact off_at z
  · rw [off_ne z]
    exact n
theorem off_ok (st : Still cl H) (hok : HOk P w H h) : HOk P w (off cl H) h := fun b u e => by
  have nb : ¬ At cl b := fun z => by rw [off_at z] at e; cases e
  rw [off_ne nb] at e
  refine (hok b u e).stay (fun _ _ _ q => q) (fun d q => ?_) fun d xs q => ?_
  · rw [off_ne (still_ne st q fun _ _ z => by cases z)]
    exact q
  · rw [off_ne (still_ne st q fun _ _ z => by cases z)]
    exact q
/-- they are shown for the time of a call: what is told behind it is told without them -/
theorem end_off (hn : ∀ b, At cl b → H b = none) (st : Still cl H1) (same : ∀ b, ¬ At cl b → H1 b = H b) (hk : HOk P w H1 s.heap) (nf : ∀ b, At cl b → b ∉ frs outer)
    (e : CE outer P w H1 s (fun v H2 => Q v (off cl H2)) u s1) : CE outer P w H s Q u s1 := by
  obtain ⟨v, H2, os, bare, un, hok, rv, q⟩ := e
  have st2 : Still cl H2 := fun b z => by
    obtain ⟨o, eo⟩ := st b z
    exact ⟨o, un.frzs _ _ _ eo⟩
  have obj : ∀ b, At cl b → ∃ o, s.heap.get? b = some o ∧ s1.heap.get? b = some o := fun b z => by
    obtain ⟨o, eo⟩ := st b z
    exact ⟨o, (hk b _ eo).1, (hok b _ (un.frzs _ _ _ eo)).1⟩
  have back : ∀ b, ¬ At cl b → H1 b = none → H b = none := fun b z n => (same b z) ▸ n
  refine ⟨v, off cl H2, os, bare, ⟨fun b o e n nf1 nx => ?_, fun b o e n f1 nx => ?_, fun b o e n nx => ?_, un.there, fun b xs e => ?_, fun b o x e => ?_, fun b ps e => ?_⟩, off_ok st2 hok, rv, q⟩
  · by_cases z : At cl b
    · obtain ⟨o2, e1, e2⟩ := obj b z
      rw [e1] at e
      exact e2.trans e
    · exact un.keep b o e ((same b z).trans n) nf1 nx
  · have z : ¬ At cl b := fun z => nf b z f1
    exact un.slot b o e ((same b z).trans n) f1 nx
  · by_cases z : At cl b
    · exact off_at z
    · rw [off_ne z]
      exact un.free b o e ((same b z).trans n) nx
  · have z : ¬ At cl b := fun z => by rw [hn b z] at e; cases e
    rw [off_ne z]
    exact un.tups b xs ((same b z).trans e)
  · have z : ¬ At cl b := fun z => by rw [hn b z] at e; cases e
    rw [off_ne z]
    exact un.frzs b o x ((same b z).trans e)
  · have z : ¬ At cl b := fun z => by rw [hn b z] at e; cases e
    rw [off_ne z]
    exact un.tbls b ps ((same b z).trans e)
/-- they are hidden for the time of a call -/
theorem end_on (st : Still cl H) (hk : HOk P w H s.heap) (nf : ∀ b ∈ frs outer, H b = none) (e : CE outer P w (off cl H) s (fun v H2 => Q v (as_ cl H H2)) u s1) : CE outer P w H s Q u s1 := by
  obtain ⟨v, H2, os, bare, un, hok, rv, q⟩ := e
  have off1 : ∀ b, At cl b → b ∉ frs outer := fun b z f1 => by
    obtain ⟨o, eo⟩ := st b z
    rw [nf b f1] at eo
    cases eo
  have obj : ∀ b o, H b = some (.frz o (.own b)) → At cl b → s.heap.get? b = some o ∧ s1.heap.get? b = some o := fun b o eo z => by
    have e1 : s.heap.get? b = some o := (hk b _ eo).1
    exact ⟨e1, un.keep b o e1 (off_at z) (off1 b z) (by simp)⟩
  have none2 : ∀ b, At cl b → H2 b = none := fun b z => by
    obtain ⟨o, eo⟩ := st b z
    exact un.free b o (obj b o eo z).1 (off_at z) (by simp)
  refine ⟨v, as_ cl H H2, os, bare, ⟨fun b o e n nf1 nx => ?_, fun b o e n f1 nx => ?_, fun b o e n nx => ?_, un.there, fun b xs e => ?_, fun b o x e => ?_, fun b ps e => ?_⟩, fun b x e => ?_, rv, q⟩
  · exact un.keep b o e (off_none n) nf1 nx
  · exact un.slot b o e (off_none n) f1 nx
  · have z : ¬ At cl b := fun z => by
      obtain ⟨o2, eo⟩ := st b z
      rw [n] at eo
      cases eo
    rw [as_ne z]
    exact un.free b o e (off_none n) nx
  · have z := still_ne st e fun _ _ z => by cases z
    rw [as_ne z]
    exact un.tups b xs ((off_ne z).trans e)
  · by_cases z : At cl b
    · rw [as_at z]
      exact e
    · rw [as_ne z]
      exact un.frzs b o x ((off_ne z).trans e)
  · have z := still_ne st e fun _ _ z => by cases z
    rw [as_ne z]
    exact un.tbls b ps ((off_ne z).trans e)
  · by_cases z : At cl b
    · rw [as_at z] at e
      obtain ⟨o, eo⟩ := st b z
      rw [eo, Option.some.injEq] at e
      subst e
      exact ⟨(obj b o eo z).2, ⟨o, (obj b o eo z).2⟩⟩
    · rw [as_ne z] at e
      have pass : ∀ d y, H2 d = some y → as_ cl H H2 d = some y := fun d y q => by
        have nd : ¬ At cl d := fun z2 => by rw [none2 d z2] at q; cases q
        rw [as_ne nd]
        exact q
      exact (hok b x e).stay (fun _ _ _ q => q) (fun d q => pass d _ q) fun d xs q => pass d _ q
end
end Lm
set_option maxRecDepth 100000
set_option maxHeartbeats 4000000
namespace Lm
open PySem PySem.Spec PyProof.Rows L2 LamX NdefX
open Classical

/-! ### the made lambda -/
structure LF where
  qual : Str
  params : Arguments
  body : Expr
  scope : Scope
  cl : List (Str × Addr)
  c : Addr
abbrev LF.fd (F : LF) (pm ctv : Value) : FuncData := PySem.W.kla_fn "<lambda>" F.qual F.params F.body F.scope F.cl pm (.ref F.c) ctv
abbrev LF.nf (F : LF) : NF := ⟨"<lambda>", F.qual, F.params, [], F.scope, F.cl, F.c⟩
def LamO (f : Addr) (F : LF) : HO := .ext fun h => ∃ (od : Option Addr) (sl : Array (Option Value)) (pm ctv : Value), h.get? f = some (⟨.type "function", od, .func (F.fd pm ctv), sl⟩ : Obj)
theorem lamO_at {P : Program} {w : World} {H : Hp} {h : Heap} {f : Addr} {F : LF} (hok : HOk P w H h) (e : H f = some (LamO f F)) : ∃ (od : Option Addr) (sl : Array (Option Value)) (pm ctv : Value), h.get? f = some (⟨.type "function", od, .func (F.fd pm ctv), sl⟩ : Obj) := (hok f _ e).1
section
variable {X : Cx} {pins : List (Addr × Obj)} {σ : L2.St} {H : Hp} {s : Shared}
theorem inv_lam {F : LF} {o : Obj} {t' : Nat} {pm ctv : Value} (I : Inv X pins σ H s) (ho : o = { cls := .type "function", data := .func (F.fd pm ctv) }) :
    Inv X pins σ (upd H s.heap.objs.size (LamO s.heap.objs.size F)) { s with heap := s.heap.push o, toks := t' } := by
  subst ho
  refine I.laid (a := s.heap.objs.size) (fun b u e => Heap.get?_push_of_some _ e) (Nat.le_refl _) ?_
  have e : (s.heap.push ({ cls := .type "function", data := .func (F.fd pm ctv) } : Obj)).get? s.heap.objs.size = some ({ cls := .type "function", data := .func (F.fd pm ctv) } : Obj) := Heap.get?_push_size _ rfl
  exact ⟨⟨_, _, pm, ctv, e⟩, ⟨_, e⟩, fun h1 h2 ⟨od, sl, p, t, z⟩ st => ⟨od, sl, p, t, st _ z⟩⟩
/-- the lambda's object is made: its code object is new, or found in the table -/
theorem lam_new {T : List (Addr × Str)} {c P : Addr} {params : Arguments} {body : Expr} {scope : Scope} {pos : Pos} {E : Value → Shared → Prop} {Q : Value → Shared → Prop} (I : Inv X pins σ H s) (TB : TabB X.base X.mg c P) (hcode : X.env.code = .ref c)
    (hm : (P, X.env.qual ++ "<lambda>") ∈ T) (hu : ∀ p ∈ T, p.1 = P → p.2 = X.env.qual ++ "<lambda>") (hT : Tabs T H) (hdef : defaultsOf params X.env = ([], [])) (hfree : ∀ y ∈ scope.names, y.2 = .free → ∃ c, X.env.cells.lookup y.1 = some c)
    (h : ∀ (f c1 : Addr) (H1 : Hp) (s1 : Shared), Inv X pins σ H1 s1 → ExtN H H1 → (∀ b, H1 b = none → H b = none) → Tabs T H1 → H f = none → H1 f = some (LamO f ⟨X.env.qual ++ "<lambda>", params, body, scope, cloFrom X.env.cells scope.names [], c1⟩) → H1 c1 = some (CodeO c1 (X.env.qual ++ "<lambda>")) → Q (.ref f) s1) :
    wpAny (model X.prog X.w) X.A (eval (.Lambda params body scope pos) X.env) Q E s := by
  obtain ⟨ps, hP, ht, ha⟩ := hT _ hm
  refine PySem.W.kla_eval hdef ?_
  have bP : s.heap.BuiltinsAt X.mg P := TB.bm.keeps I.bk
  have oP : s.heap.get? P = some { cls := .none, data := .fields ps } := I.hok P _ hP
  cases hc : codeAmong pos ps.toList with
  | none =>
    refine PySem.W.kla_makeFunction (mg := X.mg) (c := c) (P := P) (ps := ps) (closure_ok hfree) I.ok.glob (I.mod.glob.keeps I.bk) hcode (TB.code.keeps I.bk) oP ht hc TB.gP bP fun c1 ctv h1 tk hx hge hlt hrec htb => ?_
    obtain ⟨c2, oc, vs, t, e2, hoc, hd, hv⟩ := hrec
    cases e2
    have nC : H c1 = none := I.hok.fresh hge
    have I1 := inv_table (t' := tk) (more := #[rawInt pos.line, rawInt pos.col, .ref c1]) (h' := h1) I hP (fun b o hb e => hx b o hb e) htb hge ⟨oc, vs, t, hoc, hd, hv⟩
    have hE : ExtN H (upd (upd H P (.tbl (ps ++ #[rawInt pos.line, rawInt pos.col, .ref c1]))) c1 (CodeO c1 (X.env.qual ++ "<lambda>"))) := fun b o e n => by
      rw [upd_ne (ne_of_none e nC), upd_ne (fun z => n ps (Option.some.inj (e.symm.trans (by rw [z]; exact hP))))]
      exact e
    have eL : (ps ++ #[rawInt pos.line, rawInt pos.col, .ref c1]).toList = ps.toList ++ [rawInt pos.line, rawInt pos.col, .ref c1] := by simp
    have T1 : Tabs T (upd (upd H P (.tbl (ps ++ #[rawInt pos.line, rawInt pos.col, .ref c1]))) c1 (CodeO c1 (X.env.qual ++ "<lambda>"))) := fun p hp => by
      by_cases hb : p.1 = P
      · rw [hu p hp hb, hb]
        refine ⟨_, by rw [upd_ne (ne_of_none hP nC), upd_same], by rw [eL]; exact PySem.TriplesOk_snoc _ _ _ _ ht, fun p' cv hcv => ?_⟩
        rw [eL] at hcv
        rcases among_app _ ht hcv with z | z
        · obtain ⟨c0, e1, e2⟩ := ha p' cv z
          exact ⟨c0, e1, hE _ _ e2 codeO_ne⟩
        · exact ⟨c1, z, upd_same⟩
      · obtain ⟨ps', a1, a2, a3⟩ := hT p hp
        refine ⟨ps', by rw [upd_ne (ne_of_none a1 nC), upd_ne hb]; exact a1, a2, fun p' cv hcv => ?_⟩
        obtain ⟨c0, e1, e2⟩ := a3 p' cv hcv
        exact ⟨c0, e1, hE _ _ e2 codeO_ne⟩
    have nF := I1.hok.fresh (Nat.le_refl _)
    have I2 := inv_lam (F := ⟨X.env.qual ++ "<lambda>", params, body, scope, cloFrom X.env.cells scope.names [], c1⟩) (t' := tk) (pm := (X.mg "__name__").getD .none) (ctv := ctv) I1 rfl
    refine h h1.objs.size c1 _ _ I2 (fun b o e n => ?_) (fun b e => upd_none (upd_none (upd_none e))) (T1.ext fun b o e => ?_) (I.hok.fresh (Nat.le_trans hge (Nat.le_of_lt hlt))) upd_same ?_
    · have e1 := hE b o e n
      exact (upd_ne (ne_of_none e1 nF)).trans e1
    · exact (upd_ne (ne_of_none e nF)).trans e
    · exact (upd_ne (Nat.ne_of_lt hlt)).trans upd_same
  | some cv =>
    obtain ⟨c1, e, hco⟩ := ha pos cv hc
    subst e
    refine PySem.W.kla_makeFunctionHit (mg := X.mg) (c := c) (P := P) (ps := ps) (closure_ok hfree) I.ok.glob (I.mod.glob.keeps I.bk) hcode (TB.code.keeps I.bk) oP ht hc bP fun ctv h1 tk hx hsz => ?_
    have I1 : Inv X pins σ H { s with heap := h1, toks := tk } := I.kept hx
    have nF : H h1.objs.size = none := I1.hok.fresh (Nat.le_refl _)
    have I2 := inv_lam (F := ⟨X.env.qual ++ "<lambda>", params, body, scope, cloFrom X.env.cells scope.names [], c1⟩) (t' := tk) (pm := (X.mg "__name__").getD .none) (ctv := ctv) I1 rfl
    refine h h1.objs.size c1 _ _ I2 (fun b o e n => ?_) (fun b e => upd_none e) (hT.ext fun b o e => ?_) nF upd_same ?_
    · exact (upd_ne (ne_of_none e nF)).trans e
    · exact (upd_ne (ne_of_none e nF)).trans e
    · exact (upd_ne (ne_of_none hco nF)).trans hco
end
/-- the reading of «lambda ..: ..» as a value -/
def tLamV (T : List (Addr × Str)) (mk : Addr → LF) : TE := fun σ H Q => Tabs T H ∧ ∀ (f c1 : Addr) (H1 : Hp), ExtN H H1 → (∀ b, H1 b = none → H b = none) → Tabs T H1 → H f = none → H1 f = some (LamO f (mk c1)) → H1 c1 = some (CodeO c1 (mk c1).qual) → Q (.ref f) H1
theorem pe_lam {X : Cx} {T : List (Addr × Str)} {c P : Addr} {params : Arguments} {body : Expr} {scope : Scope} {pos : Pos} (TB : TabB X.base X.mg c P) (hcode : X.env.code = .ref c) (hm : (P, X.env.qual ++ "<lambda>") ∈ T) (hu : ∀ p ∈ T, p.1 = P → p.2 = X.env.qual ++ "<lambda>")
    (hdef : defaultsOf params X.env = ([], [])) (hfree : ∀ y ∈ scope.names, y.2 = .free → X.env.scope.names.lookup y.1 = some .cell ∨ X.env.scope.names.lookup y.1 = some .free) :
    PE X (.Lambda params body scope pos) (tLamV T fun c1 => ⟨X.env.qual ++ "<lambda>", params, body, scope, cloFrom X.env.cells scope.names [], c1⟩) := by
  refine ⟨fun pins s σ H Q I ⟨hT, h⟩ => ?_⟩
  refine lam_new I TB hcode hm hu hT hdef (fun y hy e => (hfree y hy e).elim (fun z => I.ok.has _ (.inl z)) fun z => I.ok.has _ (.inr z)) fun f c1 H1 s1 I1 eN nn T1 f0 f1 cc => ⟨.ref f, H1, I1, rfl, h f c1 H1 eN nn T1 f0 f1 cc⟩

/-! ### its promise -/
structure LOk (P : Program) (w : World) (K : PySem.W.Frag) (mg : Str → Option Value) (base : Heap) (CX : CXT) (k : Nat) (f : Addr) (F : LF) (ps fr : List Str) (sp : List (Option V) → Sp) : Prop where
  len : ∀ ws vs H Q E, sp ws vs H Q E → vs.length = ps.length
  run : ∀ (A : Around) (outer : List Env) (s : Shared) (H : Hp) (us : List Value) (vs : List V) (ws : List (Option V)) (Q : VK) (E : XK), Room k A → Env0 P w K mg base A outer s H → H f = some (LamO f F) → H F.c = some (CodeO F.c F.qual) →
    CellsAt F.cl fr ws s.heap H → Vals vs us → sp ws vs H Q E → codeAny (model P w) A (.call (.ref f) ⟨us, []⟩) (CR CX outer P w H s Q E) s
section
variable {CX : CXT} {P : Program} {w : World} {K : PySem.W.Frag} {mg : Str → Option Value} {base : Heap} {N ps fr : List Str} {F : LF} {f : Addr} {k j : Nat} {sp : List (Option V) → Sp}
theorem LOk.mono (o : LOk P w K mg base CX j f F ps fr sp) (h : j ≤ k) : LOk P w K mg base CX k f F ps fr sp := ⟨o.len, fun A outer s H us vs ws Q E hr => o.run A outer s H us vs ws Q E (hr.mono h)⟩
/-- by its body -/
theorem lok_of (S : NScope N ps fr F.scope) (hb : ∀ (pm ctv : Value) (us : List Value), us.length = ps.length → bindArgs (F.fd pm ctv) ⟨us, []⟩ = pure (ps.zip us)) (len : ∀ ws vs H Q E, sp ws vs H Q E → vs.length = ps.length)
    (hbody : ∀ (A : Around) (outer : List Env) (s : Shared) (H : Hp) (vs : List V) (ws : List (Option V)) (Q : VK) (E : XK), Room k (A.deeper (envF F.nf f s.heap.objs.size)) → ws.length = fr.length → sp ws vs H Q E →
      ∃ t, PE (ncx CX P w K mg base N F.nf f A outer s H E) F.body t ∧ t (startF N vs ws) H Q) : LOk P w K mg base CX (k + 1) f F ps fr sp := by
  refine ⟨len, fun A outer s H us vs ws Q E hr e0 hf hc C r hsp => ?_⟩
  have hl := len _ _ _ _ _ hsp
  have lim : s.heap.NoLimit := e0.mod.nolimit.keeps fun b o e => (e0.bs b o e).1
  obtain ⟨od, sl, pm, ctv, ho⟩ := lamO_at e0.hok hf
  refine PySem.W.kla_callFunE hr.depth ho rfl S.co S.gen rfl (codeO_at e0.hok hc) ?_
  rw [hb pm ctv us (by rw [← r.length]; exact hl)]
  refine wpAny_pure (wpAny_newFunctionEnv S.nocell (fun ⟨n, _⟩ hy => S.par n (List.of_mem_zip hy).1) (fun h₁ hns hsb => ⟨lim.fresh _ hsb, ?_⟩) S.kind)
  show codeAny _ _ (.expr F.body (envF F.nf f s.heap.objs.size)) _ _
  have kp : ∀ b o, s.heap.get? b = some o → h₁.get? b = some o := fun b o e => hsb.extBut b o (Nat.ne_of_lt (Heap.lt_size e)) (Heap.get?_push_of_some _ e)
  obtain ⟨t, ht, hq⟩ := hbody A outer s H vs ws Q E (hr.deeper _) C.len hsp
  have I : Inv (ncx CX P w K mg base N F.nf f A outer s H E) [] (startF N vs ws) H { s with heap := h₁, toks := s.toks + (ps.zip us).length } := inv_startN (F := F.nf) S hr.hd e0 hl r C hns kp
  refine PySem.W.kla_codeExpr (wpAny_mono (ht.run [] _ (startF N vs ws) H Q I hq) (fun v s1 hs => ?_) fun e s1 hs => hs)
  obtain ⟨x, H1, J, rv, q⟩ := hs
  exact ⟨x, H1, J.os, J.bare, J.base, J.hok, rv, q⟩
end
end Lm
set_option maxRecDepth 100000
set_option maxHeartbeats 4000000
namespace Lm
open PySem PySem.Spec PyProof.Rows L2 LamX NdefX
open Classical

/-- captured cells, held still: they hold vs -/
structure PinC (cl : List (Str × Addr)) (fr : List Str) (vs : List V) (H : Hp) : Prop where
  len : vs.length = fr.length
  all : ∀ y c, cl.lookup y = some c → y ∈ fr
  inj : ∀ x y c, cl.lookup x = some c → cl.lookup y = some c → x = y
  has : ∀ (i : Nat) (y : Str), fr[i]? = some y → ∃ c o v u, cl.lookup y = some c ∧ H c = some (.frz o (.own c)) ∧ vs[i]? = some v ∧ o.data = .cell (some u) ∧ L2.RelV v u
section
variable {cl : List (Str × Addr)} {fr : List Str} {vs : List V} {H H1 : Hp}
theorem PinC.same (p : PinC cl fr vs H) (s : ∀ b o, H b = some o → H1 b = some o) : PinC cl fr vs H1 := ⟨p.len, p.all, p.inj, fun i y e => let ⟨c, o, v, u, a1, a2, a3⟩ := p.has i y e; ⟨c, o, v, u, a1, s _ _ a2, a3⟩⟩
theorem PinC.still (p : PinC cl fr vs H) : Still cl H := fun b ⟨y, ey⟩ => by
  obtain ⟨i, hi⟩ := List.mem_iff_getElem?.mp (p.all y b ey)
  obtain ⟨c, o, v, u, a1, a2, _⟩ := p.has i y hi
  rw [ey, Option.some.injEq] at a1
  subst a1
  exact ⟨o, a2⟩
theorem PinC.cells {P : Program} {w : World} {h : Heap} (p : PinC cl fr vs H) (hok : HOk P w H h) : CellsAt cl fr (vs.map some) h (off cl H) := by
  have one : ∀ (i : Nat) (y : Str), fr[i]? = some y → ∃ c v u, cl.lookup y = some c ∧ vs[i]? = some v ∧ L2.RelV v u ∧ h.IsCell c (some u) := fun i y e => by
    obtain ⟨c, o, v, u, a1, a2, a3, a4, a5⟩ := p.has i y e
    exact ⟨c, v, u, a1, a3, a5, o, (hok c _ a2).1, a4⟩
  refine ⟨by rw [List.length_map]; exact p.len, fun y c e => ⟨off_at ⟨y, e⟩, ?_⟩, p.inj, fun i y e => ?_⟩
  · obtain ⟨i, hi⟩ := List.mem_iff_getElem?.mp (p.all y c e)
    obtain ⟨c2, v, u, a1, _, _, a2⟩ := one i y hi
    rw [e, Option.some.injEq] at a1
    subst a1
    exact ⟨_, a2⟩
  · obtain ⟨c, v, u, a1, a2, a3, a4⟩ := one i y e
    refine ⟨c, a1, fun v2 e2 => ?_⟩
    rw [List.getElem?_map, a2] at e2
    cases e2
    exact ⟨u, a3, a4⟩
end

/-! ### a function as a value -/
/-- at f stands a lambda with captured names; sp: what a call of it does, seen from outside -/
def FunV (P : Program) (w : World) (K : PySem.W.Frag) (mg : Str → Option Value) (base : Heap) (k : Nat) (f : Addr) (sp : Sp) (H : Hp) : Prop :=
  ∃ (F : LF) (ps fr : List Str) (vs : List V) (spl : List (Option V) → Sp), H f = some (LamO f F) ∧ H F.c = some (CodeO F.c F.qual) ∧ PinC F.cl fr vs H ∧ LOk P w K mg base CX0 k f F ps fr spl ∧
    ∀ us H1 Q E, (∀ b o, H b = some o → H1 b = some o) → sp us H1 Q E → spl (vs.map some) us (off F.cl H1) (fun v H2 => Q v (as_ F.cl H1 H2)) E
theorem FunV.same {P : Program} {w : World} {K : PySem.W.Frag} {mg : Str → Option Value} {base : Heap} {k : Nat} {f : Addr} {sp : Sp} {H H1 : Hp} (v : FunV P w K mg base k f sp H) (s : ∀ b o, H b = some o → H1 b = some o) : FunV P w K mg base k f sp H1 := by
  obtain ⟨F, ps, fr, vs, spl, a1, a2, a3, a4, a5⟩ := v
  exact ⟨F, ps, fr, vs, spl, s _ _ a1, s _ _ a2, a3.same s, a4, fun us H2 Q E s2 q => a5 us H2 Q E (fun b o e => s2 b o (s b o e)) q⟩
/-- f(e, ..), f a name that holds such a function -/
def tCallV (P : Program) (w : World) (K : PySem.W.Frag) (mg : Str → Option Value) (base : Heap) (k : Nat) (i : Nat) (t : TA) : TE := fun σ H Q => ∃ f F, σ[i]? = some (some (.ref f)) ∧ H f = some (LamO f F) ∧ t σ H fun vs H1 => ∃ sp, FunV P w K mg base k f sp H1 ∧ sp vs H1 Q (fun _ _ _ => False)
theorem pe_callV {X : Cx} {i j k : Nat} {x : Str} {t : TA} {e : Expr} {es : List Expr} {p pos : Pos} (hr : Room j X.A) (hk : k ≤ j) (hN : X.N[i]? = some x) (hv : Vis X.env.scope x) (ha : PA X (e :: es) t)
    (hd : (x == ("__debug__" : Str)) = false := by decide) (hcd : (x == ("__classdict__" : Str)) = false := by decide)
    (he : starEach (e :: es) X.env = (false, eval e X.env) :: starEach es X.env := by rfl) (hpl : (backTo pos (starEach es X.env)).any (·.1) = false := by rfl) :
    PE X (.Call (.Name x p) (e :: es) [] pos) (tCallV X.prog X.w X.K X.mg X.base k i t) := by
  refine ⟨fun pins s σ H Q I h => ?_⟩
  obtain ⟨f, F0, hs, hf, ht⟩ := h
  refine wpAny_Call_Name_kw (thn ((pe_var (pos := p) hN hv hd hcd).run pins s σ H (fun v H1 => v = .ref f ∧ H1 = H) I ⟨.ref f, hs, rfl, rfl⟩) fun u s1 ⟨v, H1, I1, r1, q1⟩ => ?_)
  obtain ⟨ev, eH⟩ := q1
  subst ev
  rw [eH] at I1
  obtain rfl : u = Value.ref f := r1
  have fnAt : ∀ {H : Hp} {s : Shared} {F : LF}, Inv X pins σ H s → H f = some (LamO f F) → PySem.W.FnAt f s.heap := fun I e => by
    obtain ⟨od, sl, pm, ctv, ho⟩ := lamO_at I.hok e
    exact ⟨_, od, _, sl, ho⟩
  refine PySem.W.callWith_F (first := []) (fnAt I1 hf) (thn (ha.run pos pins s1 σ H _ I1 ht) fun us s2 ⟨vs, H2, I2, r, sp, fv, q⟩ => ?_) he hpl
  obtain ⟨F, ps, fr, cs, spl, b1, b2, pc, lo, imp⟩ := fv
  refine ⟨fnAt I2 b1, ?_⟩
  show wpAny _ _ (call (.ref f) us) _ _ _
  have st := pc.still
  have env : Env0 X.prog X.w X.K X.mg X.base X.A X.stack s2 (off F.cl H2) := by
    have z := I2.env0
    exact ⟨z.frames, z.mod, fun b o e => ⟨(z.bs b o e).1, off_none (z.bs b o e).2⟩, z.bsz, z.funs, fun b hb => off_none (z.frf b hb), off_ok st z.hok, z.bare⟩
  have g1 : off F.cl H2 f = some (LamO f F) := by
    rw [off_ne (still_ne st b1 fun _ _ z => by unfold LamO at z; cases z)]
    exact b1
  have g2 : off F.cl H2 F.c = some (CodeO F.c F.qual) := by
    rw [off_ne (still_ne st b2 fun _ _ z => by unfold CodeO at z; cases z)]
    exact b2
  refine wpAny_call (codeAny_mono (lo.run X.A X.stack s2 (off F.cl H2) us vs _ _ _ (hr.mono hk) env g1 g2 (pc.cells I2.hok) r (imp vs H2 Q _ (fun _ _ z => z) q)) fun r s3 hq => ?_)
  cases r with
  | error e => exact False.elim hq
  | ok fl =>
    cases fl with
    | ret u => exact I2.after (end_on st I2.hok I2.env0.frf hq)
    | next => exact False.elim hq
    | brk => exact False.elim hq
    | cont => exact False.elim hq
end Lm
set_option maxRecDepth 100000
set_option maxHeartbeats 4000000
namespace Lm
open PySem PySem.Spec PyProof.Rows L2 LamX NdefX
open Classical
/-- g(e, ..), a def that gets a lambda with the closure cl; the captured names stand at js -/
def tCallPin (cl : List (Str × Addr)) (fr : List Str) (js : List Nat) (sp : Sp) (t : TA) : TE := fun σ H Q => ∃ ws : List V, js.map (slotAt σ) = ws.map some ∧ t σ H fun us H1 => ∀ H2, PinC cl fr ws H2 → (∀ b, ¬ At cl b → H2 b = H1 b) → (∀ b, At cl b → H1 b = none) →
  sp us H2 (fun v H3 => Q v (off cl H3)) (fun _ _ _ => False)
section
variable {X : Cx} {pins : List (Addr × Obj)} {σ : L2.St} {H : Hp} {s : Shared} {cl : List (Str × Addr)} {fr : List Str} {js : List Nat}
/-- the cells of the running def's own names, held still for a call -/
theorem pin_cells (I : Inv X pins σ H s) (cp : Caps X cl fr js) (all : ∀ y c, cl.lookup y = some c → y ∈ fr) (own : ∀ y ∈ fr, X.fn y = true) {ws : List V} (hw : js.map (slotAt σ) = ws.map some) :
    ∃ H2, PinC cl fr ws H2 ∧ (∀ b, ¬ At cl b → H2 b = H b) ∧ (∀ b, At cl b → H b = none) ∧ Env0 X.prog X.w X.K X.mg X.base X.A X.stack s H2 ∧ ∀ b, At cl b → b ∉ frs X.stack := by
  have C := cells_of I cp
  have objs : ∀ b, At cl b → ∃ o v, s.heap.get? b = some o ∧ o.data = .cell v := fun b ⟨y, ey⟩ => by
    obtain ⟨_, v, o, h1, h2⟩ := C.all y b ey
    exact ⟨o, v, h1, h2⟩
  have nH : ∀ b, At cl b → H b = none := fun b ⟨y, ey⟩ => (C.all y b ey).1
  have young : ∀ b, At cl b → X.s_0.heap.objs.size ≤ b := fun b ⟨y, ey⟩ => I.ok.cab y b (own y (all y b ey)) (cp.sub y b ey)
  have e0 := I.env0
  have nbase : ∀ b, At cl b → X.base.get? b = none := fun b z => by
    cases e : X.base.get? b with
    | none => rfl
    | some o => exact absurd (Nat.lt_of_lt_of_le (Heap.lt_size e) (Nat.le_trans I.ok.bsz (young b z))) (Nat.lt_irrefl _)
  have nfr : ∀ b, At cl b → b ∉ frs X.stack := fun b z hb => by
    rcases List.mem_cons.mp (I.stkSub b hb) with e | e
    · obtain ⟨o, v, h1, h2⟩ := objs b z
      obtain ⟨m, ⟨o2, es, ep, h3, h4, _⟩, _⟩ := I.loc
      rw [e, h3, Option.some.injEq] at h1
      subst h1
      rw [h4] at h2
      cases h2
    · have e' : b ∈ frs X.outer := e
      obtain ⟨_, o, h1, _⟩ := I.ok.funs.mem e'
      exact absurd (Nat.lt_of_lt_of_le (Heap.lt_size h1) (young b z)) (Nat.lt_irrefl _)
  obtain ⟨H2, e2⟩ : ∃ H2 : Hp, H2 = fun b => if h : At cl b then some (.frz (objs b h).choose (.own b)) else H b := ⟨_, rfl⟩
  have at2 : ∀ b, At cl b → ∃ o v, s.heap.get? b = some o ∧ o.data = .cell v ∧ H2 b = some (.frz o (.own b)) := fun b z => by
    obtain ⟨v, h1, h2⟩ := (objs b z).choose_spec
    refine ⟨_, v, h1, h2, ?_⟩
    rw [e2]
    exact dif_pos z
  have ne2 : ∀ b, ¬ At cl b → H2 b = H b := fun b z => by
    rw [e2]
    exact dif_neg z
  clear e2
  have keep : ∀ d y, H d = some y → H2 d = some y := fun d y q => by
    rw [ne2 d fun z => by rw [nH d z] at q; cases q]
    exact q
  have lw : ws.length = fr.length := by
    have z := congrArg List.length hw
    rw [List.length_map, List.length_map] at z
    have y := C.len
    rw [List.length_map] at y
    omega
  refine ⟨H2, ⟨lw, all, C.inj, fun i y ey => ?_⟩, ne2, nH, ⟨e0.frames, e0.mod, fun b o e => ⟨(e0.bs b o e).1, ?_⟩, e0.bsz, e0.funs, fun b hb => ?_, fun b x e => ?_, e0.bare⟩, nfr⟩
  · obtain ⟨c, hc, hv⟩ := C.has i y ey
    obtain ⟨v, ev⟩ : ∃ v, ws[i]? = some v := by
      have li : i < ws.length := by rw [lw]; exact (List.getElem?_eq_some_iff.mp ey).1
      exact ⟨_, List.getElem?_eq_getElem li⟩
    obtain ⟨u, ru, o, h1, h2⟩ := hv v (by rw [hw, List.getElem?_map, ev] <;> rfl)
    obtain ⟨o2, _, h3, _, h5⟩ := at2 c ⟨y, hc⟩
    rw [h1, Option.some.injEq] at h3
    subst h3
    exact ⟨c, o, v, u, hc, h5, ev, h2, ru⟩
  · rw [ne2 b fun z => by rw [nbase b z] at e; cases e]
    exact (e0.bs b o e).2
  · rw [ne2 b fun z => nfr b z hb]
    exact e0.frf b hb
  · by_cases z : At cl b
    · obtain ⟨o, v, h1, _, h3⟩ := at2 b z
      rw [h3, Option.some.injEq] at e
      subst e
      exact ⟨h1, o, h1⟩
    · rw [ne2 b z] at e
      exact (e0.hok b x e).stay (fun _ _ _ q => q) (fun d q => keep d _ q) fun d xs q => keep d _ q
theorem pe_callPin {k : Nat} {g : Addr} {fd : FuncData} {ps : List Str} {sp : Sp} {x : Str} {t : TA} {e : Expr} {es : List Expr} {p pos : Pos} (G : FnOk X.prog X.w X.K X.mg X.base CX0 k g fd ps sp) (hr : Room k X.A) (hg : Gl X x) (hm : X.mg x = some (.ref g)) (hk : PySem.W.keepIn X.K (.ref g) = true) (hb : Binds X.K fd ps [])
    (cp : X.Ok → Caps X cl fr js) (all : ∀ y c, cl.lookup y = some c → y ∈ fr) (own : ∀ y ∈ fr, X.fn y = true) (ha : PA X (e :: es) t) (hdb : (x == ("__debug__" : Str)) = false := by decide)
    (he : starEach (e :: es) X.env = (false, eval e X.env) :: starEach es X.env := by rfl) (hpl : (backTo pos (starEach es X.env)).any (·.1) = false := by rfl) :
    PE X (.Call (.Name x p) (e :: es) [] pos) (tCallPin cl fr js sp t) := by
  refine ⟨fun pins s σ H Q I ⟨ws, hw, h⟩ => ?_⟩
  refine wpAny_Call_Name_kw (ld_glob I hg hm ?_ hdb)
  refine PySem.W.callWith_K (h₀ := X.base) I.ok.mod.kin hk (thn (ha.run pos pins s σ H _ I h) fun us s1 ⟨vs, H1, I1, r, q⟩ => ⟨I1.kIn, ?_⟩) he hpl
  obtain ⟨H2, pc, same, nH, env, nfr⟩ := pin_cells I1 (cp I1.ok) all own hw
  have q2 := q H2 pc same nH
  have hl : us.length = ps.length := by rw [← r.length]; exact G.len _ _ _ _ q2
  have b := hb s1 us I1.kIn (by rw [List.append_nil]; exact hl)
  rw [List.append_nil] at b
  refine wpAny_call (codeAny_mono (G.run X.A X.stack s1 H2 ⟨us, []⟩ us vs _ _ hr env b r q2) fun r s2 hq => ?_)
  cases r with
  | error e => exact False.elim hq
  | ok fl =>
    cases fl with
    | ret u => exact I1.after (end_off nH pc.still same env.hok nfr hq)
    | next => exact False.elim hq
    | brk => exact False.elim hq
    | cont => exact False.elim hq
end
/-- a lambda's closure has just the names that it captures -/
theorem clo_all {cells : List (Str × Addr)} {names : List (Str × NameKind)} {fr : List Str} (h : ∀ y ∈ names, y.2 = .free → y.1 ∈ fr) : ∀ y c, (cloFrom cells names []).lookup y = some c → y ∈ fr := fun y c e => by
  rcases cloFrom_mem (PySem.mem_of_lookup e) with hm | ⟨h1, h2⟩
  · cases hm
  · exact h _ h1 rfl
end Lm
set_option maxRecDepth 100000
set_option maxHeartbeats 4000000
namespace RD
open PySem PySem.Spec PyProof.Rows L2
/-- a def of the top: where it stands, that its name leads there, that its arguments are bound as they come -/
structure Df (K : PySem.W.Frag) (mg : Str → Option Value) (x : Str) (st : Stmt) (ps : List Str) where
  f : Addr
  fd : FuncData
  F : Fun K x x st f fd
  g : mg x = some (.ref f)
  b : Binds K fd ps []
/-- the built-in names that the program and the laws use stay the built-ins' -/
structure Bn (mg : Str → Option Value) : Prop where
  gn : ∀ x ∈ (["isinstance", "int", "bool", "str", "list", "tuple", "len", "range", "enumerate", "set", "sorted", "max", "min", "abs", "repr", "sum", "any", "all"] : List Str), mg x = none
theorem smu {H H1 : Hp} {l : Addr} {o : HO} (s : Same H H1) (n : H1 l = none) : Same H (upd H1 l o) := fun b u q => by
  rw [upd_ne (ne_of_none (s b u q) n)]
  exact s b u q
/-! ### values -/
/-- any value that is no object of the heap -/
inductive Pln : V → Prop where
  | int (i : Int) : Pln (.int i)
  | bl (b : Bool) : Pln (.bl b)
  | str (x : Str) : Pln (.str x)
  | non : Pln .non
/-- the name of its type -/
def tyN : V → String
  | .int _ => "int"
  | .bl _ => "bool"
  | .str _ => "str"
  | _ => "NoneType"
theorem Pln.ty {K : PySem.W.Frag} {H : Hp} {x : V} (p : Pln x) : TyX K H x (.type (tyN x)) := by
  cases p with
  | int i => exact .base (.int i)
  | bl b => exact .base (.bl b)
  | str x => exact .base (.str x)
  | non => exact .base .non
def isI : V → Bool
  | .int _ => true
  | _ => false
def isB : V → Bool
  | .bl _ => true
  | _ => false
theorem kit_int {K : PySem.W.Frag} {x : V} (p : Pln x) : PySem.W.kitOne K (.type (tyN x)) (.type "int") = some (isI x || isB x) := by
  have h1 : kitB "int" "int" = some true := by decide +kernel
  have h2 : kitB "bool" "int" = some true := by decide +kernel
  have h3 : kitB "str" "int" = some false := by decide +kernel
  have h4 : kitB "NoneType" "int" = some false := by decide +kernel
  cases p
  · exact kit_ty h1
  · exact kit_ty h2
  · exact kit_ty h3
  · exact kit_ty h4
theorem kit_bool {K : PySem.W.Frag} {x : V} (p : Pln x) : PySem.W.kitOne K (.type (tyN x)) (.type "bool") = some (isB x) := by
  have h1 : kitB "int" "bool" = some false := by decide +kernel
  have h2 : kitB "bool" "bool" = some true := by decide +kernel
  have h3 : kitB "str" "bool" = some false := by decide +kernel
  have h4 : kitB "NoneType" "bool" = some false := by decide +kernel
  cases p
  · exact kit_ty h1
  · exact kit_ty h2
  · exact kit_ty h3
  · exact kit_ty h4
theorem kit_seq {K : PySem.W.Frag} {n : String} {b1 b2 : Bool} (h1 : kitB n "list" = some b1) (h2 : kitB n "tuple" = some b2) : PySem.W.kitAny K (.type n) [.type "list", .type "tuple"] = some (b1 || b2) := by
  refine kitAny_cons (kit_ty h1) (fun e => ?_) fun e => by rw [e] <;> rfl
  subst e
  refine kitAny_cons (kit_ty h2) (fun e => ?_) fun e => by rw [e] <;> rfl
  subst e
  rfl
theorem kit_no {K : PySem.W.Frag} {x : V} (p : Pln x) : PySem.W.kitAny K (.type (tyN x)) [.type "list", .type "tuple"] = some false := by
  have h1 : kitB "int" "list" = some false ∧ kitB "int" "tuple" = some false := by decide +kernel
  have h2 : kitB "bool" "list" = some false ∧ kitB "bool" "tuple" = some false := by decide +kernel
  have h3 : kitB "str" "list" = some false ∧ kitB "str" "tuple" = some false := by decide +kernel
  have h4 : kitB "NoneType" "list" = some false ∧ kitB "NoneType" "tuple" = some false := by decide +kernel
  cases p
  · exact kit_seq h1.1 h1.2
  · exact kit_seq h2.1 h2.2
  · exact kit_seq h3.1 h3.2
  · exact kit_seq h4.1 h4.2
theorem kit_list {K : PySem.W.Frag} : PySem.W.kitAny K (.type "list") [.type "list", .type "tuple"] = some true := by
  have h1 : kitB "list" "list" = some true ∧ kitB "list" "tuple" = some false := by decide +kernel
  exact kit_seq h1.1 h1.2
theorem kit_tuple {K : PySem.W.Frag} : PySem.W.kitAny K (.type "tuple") [.type "list", .type "tuple"] = some true := by
  have h1 : kitB "tuple" "list" = some false ∧ kitB "tuple" "tuple" = some true := by decide +kernel
  exact kit_seq h1.1 h1.2
def isNum : V → Bool
  | .int i => decide (0 ≤ i)
  | _ => false
def isBelow (m : Int) : V → Bool
  | .int i => decide (0 ≤ i) && decide (i < m)
  | _ => false
def sp_is_integer : Sp := fun vs H Q _ => ∃ x, vs = [x] ∧ Pln x ∧ Q (.bl (isI x)) H
def sp_is_number : Sp := fun vs H Q _ => ∃ x, vs = [x] ∧ Pln x ∧ Q (.bl (isNum x)) H
def sp_is_below : Sp := fun vs H Q _ => ∃ x m, vs = [x, .int m] ∧ Pln x ∧ Q (.bl (isBelow m x)) H
section
variable {P : Program} {w : World} {K : PySem.W.Frag} {mg : Str → Option Value} {base : Heap}
theorem sc_is_integer : FnScope ["value"] ["value"] (defScope s_is_integer) := ⟨rfl, rfl, rfl, by decide +kernel, rfl, by decide +kernel, by decide +kernel⟩
theorem ok_is_integer (D : Df K mg "is_integer" s_is_integer ["value"]) (B : Bn mg) : FnOk P w K mg base CX0 1 D.f D.fd ["value"] sp_is_integer := by
  refine D.F.ok sc_is_integer (fun vs H Q E h => ?_) (fun cdv A outer s H vs Q E hr h => ?_)
  · obtain ⟨x, rfl, _⟩ := h
    rfl
  · obtain ⟨x, rfl, px, k⟩ := h
    have gn := B.gn
    refine ⟨_, pss_one (ps_ret (pe_and (pe_callB call_isi rfl (gn _ (by decide)) boot_isinstance (pa_cons (pv 0) (pa_cons (pe_bltn (v := .ty "int") rfl (gn _ (by decide)) PyProof.Rows.boot_int rfl) pa_nil)))
      (pe_one (pe_not (pe_callB call_isi rfl (gn _ (by decide)) boot_isinstance (pa_cons (pv 0) (pa_cons (pe_bltn (v := .ty "bool") rfl (gn _ (by decide)) PyProof.Rows.boot_bool rfl) pa_nil))))))), ?_⟩
    refine ⟨x, rfl, x, .ty "int", _, _, _, rfl, .ty "int", px.ty, kit_int px, _, rfl, ?_⟩
    cases px with
    | int i => exact ⟨_, rfl, _, .ty "bool", _, _, _, rfl, .ty "bool", (Pln.int i).ty, kit_bool (.int i), _, rfl, k⟩
    | bl b => exact ⟨_, rfl, _, .ty "bool", _, _, _, rfl, .ty "bool", (Pln.bl b).ty, kit_bool (.bl b), _, rfl, k⟩
    | str b => exact k
    | non => exact k
theorem sc_is_number : FnScope ["value"] ["value"] (defScope s_is_number) := ⟨rfl, rfl, rfl, by decide +kernel, rfl, by decide +kernel, by decide +kernel⟩
theorem ok_is_number (D : Df K mg "is_number" s_is_number ["value"]) (D1 : Df K mg "is_integer" s_is_integer ["value"]) (B : Bn mg) : FnOk P w K mg base CX0 2 D.f D.fd ["value"] sp_is_number := by
  have G1 : FnOk P w K mg base CX0 1 D1.f D1.fd ["value"] sp_is_integer := ok_is_integer D1 B
  refine D.F.ok sc_is_number (fun vs H Q E h => ?_) (fun cdv A outer s H vs Q E hr h => ?_)
  · obtain ⟨x, rfl, _⟩ := h
    rfl
  · obtain ⟨x, rfl, px, k⟩ := h
    refine ⟨_, pss_one (ps_ret (pe_and (pe_call G1 hr rfl D1.g D1.F.kp D1.b .nil pass0 (pa_cons (pv 0) pa_nil)) (pe_one (pe_cmp (pc_ge (pv 0) pe_int) rfl)))), ?_⟩
    refine ⟨x, rfl, x, rfl, px, _, rfl, ?_⟩
    cases px with
    | int i => exact ⟨_, rfl, i, 0, rfl, rfl, k⟩
    | bl b => exact k
    | str b => exact k
    | non => exact k
theorem sc_is_below : FnScope ["value", "many"] ["value", "many"] (defScope s_is_below) := ⟨rfl, rfl, rfl, by decide +kernel, rfl, by decide +kernel, by decide +kernel⟩
theorem ok_is_below (D : Df K mg "is_below" s_is_below ["value", "many"]) (D2 : Df K mg "is_number" s_is_number ["value"]) (D1 : Df K mg "is_integer" s_is_integer ["value"]) (B : Bn mg) : FnOk P w K mg base CX0 3 D.f D.fd ["value", "many"] sp_is_below := by
  have G2 : FnOk P w K mg base CX0 2 D2.f D2.fd ["value"] sp_is_number := ok_is_number D2 D1 B
  refine D.F.ok sc_is_below (fun vs H Q E h => ?_) (fun cdv A outer s H vs Q E hr h => ?_)
  · obtain ⟨x, m, rfl, _⟩ := h
    rfl
  · obtain ⟨x, m, rfl, px, k⟩ := h
    refine ⟨_, pss_one (ps_ret (pe_and (pe_call G2 hr rfl D2.g D2.F.kp D2.b .nil pass0 (pa_cons (pv 0) pa_nil)) (pe_one (pe_cmp (pc_lt (pv 0) (pv 1)) rfl)))), ?_⟩
    refine ⟨x, rfl, x, rfl, px, _, rfl, ?_⟩
    cases px with
    | int i =>
      by_cases c : 0 ≤ i
      · have e : isNum (.int i) = true := decide_eq_true c
        rw [e]
        refine ⟨_, rfl, _, rfl, i, m, rfl, rfl, ?_⟩
        have z : isBelow m (.int i) = decide (i < m) := by simp [isBelow, c]
        rw [z] at k
        exact k
      · have e : isNum (.int i) = false := decide_eq_false c
        rw [e]
        have z : isBelow m (.int i) = false := by simp [isBelow, c]
        rw [z] at k
        exact k
    | bl b => exact k
    | str b => exact k
    | non => exact k
/-! ### sequences -/
/-- a list or a tuple at a, its items -/
def SqA (K : PySem.W.Frag) (H : Hp) (a : Addr) (xs : List V) : Prop := H a = some (.lst xs) ∨ H a = some (.tup xs)
theorem SqA.same {H H1 : Hp} {a : Addr} {xs : List V} (h : SqA K H a xs) (s : Same H H1) : SqA K H1 a xs := h.imp (s _ _) (s _ _)
theorem SqA.sq {H : Hp} {a : Addr} {xs : List V} (h : SqA K H a xs) : SqL K H a xs ∨ SqT K H a xs := h.imp (fun z => .of z) fun z => .of z
def sp_is_sequence (K : PySem.W.Frag) : Sp := fun vs H Q _ => ∃ x, vs = [x] ∧ ((Pln x ∧ ∀ H1, Same H H1 → Q (.bl false) H1) ∨ (∃ a xs, x = .ref a ∧ SqA K H a xs ∧ ∀ H1, Same H H1 → Q (.bl true) H1))
theorem sc_is_sequence : FnScope ["value"] ["value"] (defScope s_is_sequence) := ⟨rfl, rfl, rfl, by decide +kernel, rfl, by decide +kernel, by decide +kernel⟩
theorem ok_is_sequence (D : Df K mg "is_sequence" s_is_sequence ["value"]) (B : Bn mg) : FnOk P w K mg base CX0 1 D.f D.fd ["value"] (sp_is_sequence K) := by
  refine D.F.ok sc_is_sequence (fun vs H Q E h => ?_) (fun cdv A outer s H vs Q E hr h => ?_)
  · obtain ⟨x, rfl, _⟩ := h
    rfl
  · obtain ⟨x, rfl, h⟩ := h
    have gn := B.gn
    refine ⟨_, pss_one (ps_ret (pe_callB call_isiT rfl (gn _ (by decide)) boot_isinstance (pa_cons (pv 0) (pa_cons (pe_tup (pa_cons (pe_bltn (v := .ty "list") rfl (gn _ (by decide)) PyProof.Rows.boot_list rfl) (pa_cons (pe_bltn (v := .ty "tuple") rfl (gn _ (by decide)) PyProof.Rows.boot_tuple rfl) pa_nil))) pa_nil)))), ?_⟩
    refine ⟨x, rfl, (by show 2 ≤ sizeLine; decide), fun t nt => ?_⟩
    have s1 := smu (o := .tup [.ty "list", .ty "tuple"]) (fun _ _ q => q : Same H H) nt
    rcases h with ⟨px, k⟩ | ⟨a, xs, rfl, hs, k⟩
    · refine ⟨x, t, _, _, _, false, rfl, upd_same, .cons (.ty _) (.cons (.ty _) .nil), px.ty, kit_no px, k _ s1⟩
    · rcases hs with hs | hs
      · exact ⟨_, t, _, _, _, true, rfl, upd_same, .cons (.ty _) (.cons (.ty _) .nil), .base (.lst (s1 _ _ hs)), kit_list, k _ s1⟩
      · exact ⟨_, t, _, _, _, true, rfl, upd_same, .cons (.ty _) (.cons (.ty _) .nil), .base (.tup (s1 _ _ hs)), kit_tuple, k _ s1⟩
end
end RD
set_option maxRecDepth 100000
set_option maxHeartbeats 4000000
namespace RD
open PySem PySem.Spec PyProof.Rows L2
theorem take_all {α : Type} {p : α → Bool} {xs : List α} {i : Nat} {x : α} (h : xs[i]? = some x) : (xs.take (i + 1)).all p = ((xs.take i).all p && p x) := by
  rw [take_next h, List.all_append]
  simp
theorem all_false {α : Type} {p : α → Bool} {xs : List α} {x : α} (h : x ∈ xs) (n : p x = false) : xs.all p = false := by
  rw [List.all_eq_false]
  exact ⟨x, h, by rw [n]; decide⟩
def sp_are_below : Sp := fun vs H Q _ => ∃ a m xs, vs = [.ref a, .int m] ∧ H a = some (.tup xs) ∧ (∀ x ∈ xs, Pln x) ∧ Q (.bl (xs.all (isBelow m))) H
/-- what a triple of numbers below m is -/
def rowB (n : Int) (m : Int) (xs : List V) : Bool := decide ((xs.length : Int) = n) && xs.all (isBelow m)
def sp_is_row : Sp := fun vs H Q _ => ∃ x n m, vs = [x, .int n, .int m] ∧ ((Pln x ∧ Q (.bl false) H) ∨ (∃ a xs, x = .ref a ∧ H a = some (.lst xs) ∧ Q (.bl false) H) ∨ ∃ a xs, x = .ref a ∧ H a = some (.tup xs) ∧ (∀ x ∈ xs, Pln x) ∧ Q (.bl (rowB n m xs)) H)
def sp_is_triple : Sp := fun vs H Q _ => ∃ x m, vs = [x, .int m] ∧ ((Pln x ∧ Q (.bl false) H) ∨ (∃ a xs, x = .ref a ∧ H a = some (.lst xs) ∧ Q (.bl false) H) ∨ ∃ a xs, x = .ref a ∧ H a = some (.tup xs) ∧ (∀ x ∈ xs, Pln x) ∧ Q (.bl (rowB 3 m xs)) H)
/-- the defs of module values -/
structure Vals_ (K : PySem.W.Frag) (mg : Str → Option Value) where
  i : Df K mg "is_integer" s_is_integer ["value"]
  n : Df K mg "is_number" s_is_number ["value"]
  b : Df K mg "is_below" s_is_below ["value", "many"]
  s : Df K mg "is_sequence" s_is_sequence ["value"]
  a : Df K mg "are_below" s_are_below ["values", "many"]
  r : Df K mg "is_row" s_is_row ["value", "length", "many"]
  t : Df K mg "is_triple" s_is_triple ["value", "many"]
section
variable {P : Program} {w : World} {K : PySem.W.Frag} {mg : Str → Option Value} {base : Heap}
theorem sc_are_below : FnScope ["values", "many", "value"] ["values", "many"] (defScope s_are_below) := ⟨rfl, rfl, rfl, by decide +kernel, rfl, by decide +kernel, by decide +kernel⟩
theorem ok_are_below (D : Vals_ K mg) (B : Bn mg) : FnOk P w K mg base CX0 4 D.a.f D.a.fd ["values", "many"] sp_are_below := by
  have G3 : FnOk P w K mg base CX0 3 D.b.f D.b.fd ["value", "many"] sp_is_below := ok_is_below D.b D.n D.i B
  refine D.a.F.ok sc_are_below (fun vs H Q E h => ?_) (fun cdv A outer s H vs Q E hr h => ?_)
  · obtain ⟨a, m, xs, rfl, _⟩ := h
    rfl
  · obtain ⟨a, m, xs, rfl, ha, px, k⟩ := h
    refine ⟨_, pss_cons (ps_for PassesOwn.never rfl (pi_tup (pv 0)) (pg_name (i := 2) sc_are_below.nd rfl (.inl rfl)) (pss_one (ps_if (pt_not (pt_val (pe_call G3 hr rfl D.b.g D.b.F.kp D.b.b .nil pass0 (pa_cons (pv 2) (pa_cons (pv 1) pa_nil))))) (pss_one (ps_ret pe_bl)) pss_nil))) (pss_one (ps_ret pe_bl)), ?_⟩
    refine ⟨_, rfl, a, rfl, ⟨_, .of ha⟩, for_tup (K := K) (a := a) (xs := xs) (fun i σ H1 => (∃ o, σ = [some (.ref a), some (.int m), o]) ∧ H1 = H ∧ (xs.take i).all (isBelow m) = true) ⟨⟨_, rfl⟩, rfl, rfl⟩ (fun i σ H1 _ ⟨_, e, _⟩ => e ▸ .of ha) (fun i x σ H1 hx => ?_) (fun σ H1 ⟨_, e, q⟩ => ?_)⟩
    · rintro ⟨⟨o, rfl⟩, rfl, q⟩
      have pl := px x (List.mem_of_getElem? hx)
      refine ⟨x, rfl, _, rfl, x, m, rfl, pl, _, rfl, ?_⟩
      cases c : isBelow m x with
      | true => exact iteF ⟨⟨_, rfl⟩, rfl, by rw [take_all hx, q, c] <;> rfl⟩
      | false =>
        rw [all_false (List.mem_of_getElem? hx) c] at k
        exact iteT k
    · rw [List.take_length] at q
      rw [q] at k
      subst e
      exact k
theorem sc_is_row : FnScope ["value", "length", "many"] ["value", "length", "many"] (defScope s_is_row) := ⟨rfl, rfl, rfl, by decide +kernel, rfl, by decide +kernel, by decide +kernel⟩
theorem ok_is_row (D : Vals_ K mg) (B : Bn mg) : FnOk P w K mg base CX0 5 D.r.f D.r.fd ["value", "length", "many"] sp_is_row := by
  have G4 : FnOk P w K mg base CX0 4 D.a.f D.a.fd ["values", "many"] sp_are_below := ok_are_below D B
  refine D.r.F.ok sc_is_row (fun vs H Q E h => ?_) (fun cdv A outer s H vs Q E hr h => ?_)
  · obtain ⟨x, n, m, rfl, _⟩ := h
    rfl
  · obtain ⟨x, n, m, rfl, h⟩ := h
    have gn := B.gn
    refine ⟨_, pss_one (ps_ret (pe_and (pe_callB call_isi rfl (gn _ (by decide)) boot_isinstance (pa_cons (pv 0) (pa_cons (pe_bltn (v := .ty "tuple") rfl (gn _ (by decide)) PyProof.Rows.boot_tuple rfl) pa_nil)))
      (pe_and (pe_cmp (pc_eqI (pe_callB call_len_seq rfl (gn _ (by decide)) PySem.boot_len (pa_cons (pv 0) pa_nil)) (pv 1)) rfl) (pe_one (pe_call G4 hr rfl D.a.g D.a.F.kp D.a.b .nil pass0 (pa_cons (pv 0) (pa_cons (pv 2) pa_nil))))))), ?_⟩
    have kt : ∀ {n : String} {b : Bool}, kitB n "tuple" = some b → PySem.W.kitOne K (.type n) (.type "tuple") = some b := fun h => kit_ty h
    rcases h with ⟨px, k⟩ | ⟨a, xs, rfl, ha, k⟩ | ⟨a, xs, rfl, ha, px, k⟩
    · refine ⟨x, rfl, x, .ty "tuple", _, _, false, rfl, .ty "tuple", px.ty, ?_, _, rfl, k⟩
      have h1 : kitB "int" "tuple" = some false ∧ kitB "bool" "tuple" = some false ∧ kitB "str" "tuple" = some false ∧ kitB "NoneType" "tuple" = some false := by decide +kernel
      cases px
      · exact kt h1.1
      · exact kt h1.2.1
      · exact kt h1.2.2.1
      · exact kt h1.2.2.2
    · exact ⟨_, rfl, _, .ty "tuple", _, _, false, rfl, .ty "tuple", .base (.lst ha), kt (by decide +kernel), _, rfl, k⟩
    · refine ⟨_, rfl, _, .ty "tuple", _, _, true, rfl, .ty "tuple", .base (.tup ha), kt (by decide +kernel), _, rfl, ?_⟩
      refine ⟨_, rfl, a, xs, rfl, .inr (.of ha), _, rfl, _, n, rfl, rfl, _, rfl, ?_⟩
      unfold rowB at k
      refine ite2 (fun c => ?_) fun c => ?_
      · have c1 : decide ((xs.length : Int) = n) = true := c
        rw [c1, Bool.true_and] at k
        exact ⟨_, rfl, _, rfl, a, m, xs, rfl, ha, px, k⟩
      · have c1 : decide ((xs.length : Int) = n) = false := Bool.not_eq_true _ |>.mp c
        rw [c1, Bool.false_and] at k
        exact k
theorem sc_is_triple : FnScope ["value", "many"] ["value", "many"] (defScope s_is_triple) := ⟨rfl, rfl, rfl, by decide +kernel, rfl, by decide +kernel, by decide +kernel⟩
theorem ok_is_triple (D : Vals_ K mg) (B : Bn mg) : FnOk P w K mg base CX0 6 D.t.f D.t.fd ["value", "many"] sp_is_triple := by
  have G5 : FnOk P w K mg base CX0 5 D.r.f D.r.fd ["value", "length", "many"] sp_is_row := ok_is_row D B
  refine D.t.F.ok sc_is_triple (fun vs H Q E h => ?_) (fun cdv A outer s H vs Q E hr h => ?_)
  · obtain ⟨x, m, rfl, _⟩ := h
    rfl
  · obtain ⟨x, m, rfl, h⟩ := h
    refine ⟨_, pss_one (ps_ret (pe_call G5 hr rfl D.r.g D.r.F.kp D.r.b .nil pass0 (pa_cons (pv 0) (pa_cons pe_int (pa_cons (pv 1) pa_nil))))), ?_⟩
    exact ⟨x, rfl, _, rfl, x, 3, m, rfl, h⟩
end
end RD
set_option maxRecDepth 100000
set_option maxHeartbeats 4000000
/-! enumerate of a tuple. -/
namespace En
open PySem PySem.Spec PyProof.Rows L2
open AutoSeq1 (wpAny_loadPart')
set_option maxHeartbeats 4000000 in
theorem made (l : Addr) (items : Array Value) (n : Nat) (dct : Option Addr) (sl : Array (Option Value)) :
    Meets (Builtin.«enumerate.__new__» ⟨[.type "enumerate", .ref l], []⟩) (fun _ R s => s.heap.get? l = some { cls := .type "tuple", dict := dct, data := .seq items n, slots := sl } ∧
      R (.ok (.ret (.ref (s.heap.push { cls := .type "tuple_iterator", data := .fields #[.ref l, .int 0 0] }).objs.size)))
        { s with heap := (s.heap.push { cls := .type "tuple_iterator", data := .fields #[.ref l, .int 0 0] }).push { cls := .type "enumerate", data := .fields #[.none, .bool false, .ref s.heap.objs.size, rawInt 0, .none, .none] } }) :=
  .of_wp fun prog w A R s h => by
    obtain ⟨hp, g, d, tk, os⟩ := s
    obtain ⟨hl, h⟩ := h
    have hsub := sub_enumerate
    have hT : Heap.IsTuple (Shared.heap ⟨hp, g, d, tk, os⟩) l items := ⟨_, hl, rfl, n, rfl⟩
    wp_walk using wpAny_loadPart' hl
    refine wpAny_stack_any fun st => wpAny_pure ?_
    split
    · rename_i c _ _ _ _ _
      cases (c == Value.type "enumerate")
      · wp_walk using wpAny_loadPart' hl, wpAny_pyIter_tuple hT
        exact ⟨_, rfl, h⟩
      · wp_walk using wpAny_loadPart' hl, wpAny_pyIter_tuple hT
        exact ⟨_, rfl, h⟩
    · wp_walk using wpAny_loadPart' hl, wpAny_pyIter_tuple hT
      exact ⟨_, rfl, h⟩
section
variable {prog : Program} {w : World} {A : Around} {E : Value → Shared → Prop} {s : Shared}
theorem call_tuple {l : Addr} {items : Array Value} {Q : Value → Shared → Prop} (hL : s.heap.IsTuple l items)
    (h : ∀ h', IsEnum h' (s.heap.objs.size + 1) s.heap.objs.size 0 .none → h'.IsTupleIter s.heap.objs.size l 0 → h'.objs.size = s.heap.objs.size + 2 →
      (∀ b o, s.heap.get? b = some o → h'.get? b = some o) → Q (.ref (s.heap.objs.size + 1)) { s with heap := h' }) :
    wpAny (model prog w) A (call (.type "enumerate") [.ref l]) Q E s := by
  obtain ⟨⟨c, dct, dt, sl⟩, hl, hc, n, hd⟩ := hL
  obtain rfl : c = .type "tuple" := hc
  obtain rfl : dt = .seq items n := hd
  refine callType_new F.called_enumerate (by decide) (F.typeCall_enumerate_1 _) (F.newCall_enumerate_1 _) (fun obj => F.args_object_init_2 obj _) F.entry_enumerate_new (made l items n dct sl) ⟨hl, ?_⟩
  have hz : (s.heap.push { cls := .type "tuple_iterator", data := .fields #[.ref l, .int 0 0] }).objs.size = s.heap.objs.size + 1 := Heap.size_push ..
  show _ ∧ _
  rw [hz]
  have he : IsEnum ((s.heap.push { cls := .type "tuple_iterator", data := .fields #[.ref l, .int 0 0] }).push { cls := .type "enumerate", data := .fields #[.none, .bool false, .ref s.heap.objs.size, rawInt 0, .none, .none] }) (s.heap.objs.size + 1) s.heap.objs.size 0 .none := by
    have z := Heap.get?_push_size (s.heap.push { cls := .type "tuple_iterator", data := .fields #[.ref l, .int 0 0] }) (o := { cls := .type "enumerate", data := .fields #[.none, .bool false, .ref s.heap.objs.size, rawInt 0, .none, .none] }) rfl
    rw [hz] at z
    exact z
  exact ⟨⟨_, he, rfl⟩, h _ he ⟨_, Heap.get?_push_of_some _ (Heap.get?_push_size _ rfl), rfl, rfl⟩ (by rw [Heap.size_push, hz]) fun b o x => Heap.get?_push_of_some _ (Heap.get?_push_of_some _ x)⟩
end
/-- the tuple at a, each item in a new pair -/
def Itet (K : PySem.W.Frag) (a : Addr) : It :=
  ⟨fun i H => ∃ (xs : List V) (x : V), SqT K H a xs ∧ xs[i]? = some x, fun i H v H' => ∃ T x, v = .ref T ∧ H T = none ∧ H' = upd H T (.tup [.int (i : Nat), x]) ∧ ∀ xs, SqT K H a xs → xs[i]? = some x, fun i H => ∃ xs : List V, SqT K H a xs ∧ xs.length = i⟩
theorem turn {P : Program} {w : World} {K : PySem.W.Frag} {elts : List Expr} {kk : Nat} {tpos : Pos} (a e it : Addr) :
    Turn P w K (.Tuple elts kk tpos) (Itet K a) [e, it] e (fun i h => (∃ old, IsEnum h e it ((i : Nat) : Int) old) ∧ h.IsTupleIter it a i ∧ e ≠ it) where
  mem := by simp
  obj := fun i h st b hb => by
    obtain ⟨⟨old, he⟩, ⟨o, ho, hc, hd⟩, _⟩ := st
    rcases List.mem_cons.mp hb with rfl | z
    · exact ⟨_, he, fun v q => nomatch q⟩
    · rw [List.mem_singleton.mp z]
      exact ⟨o, ho, fun v q => by rw [hd] at q; cases q⟩
  keep := fun i h h' st k => let ⟨⟨old, he⟩, hi, hne⟩ := st; ⟨⟨old, k e (by simp) _ he⟩, hi.at fun o q => k it (by simp) o q, hne⟩
  item := by
    intro X hP hw hK hc i pins s σ H E I hf st hg
    subst hP hw hK
    obtain ⟨⟨old, he⟩, hit, hne⟩ := st
    obtain ⟨xs, x, hq, hx⟩ := hg
    obtain ⟨its, rv, p, hz⟩ := I.tuple hq
    obtain ⟨u, hu, ru⟩ := rv.get hx
    have ht : s.heap.IsTuple a its.toArray := p
    have ait : a ≠ it := fun z => by
      obtain ⟨o1, h1, _, n1, d1⟩ := p
      obtain ⟨o2, h2, _, d2⟩ := hit
      rw [z, h2, Option.some.injEq] at h1
      subst h1
      rw [d2] at d1
      cases d1
    have ae : e ≠ a := fun z => by
      obtain ⟨o1, h1, _, n1, d1⟩ := p
      have h2 : s.heap.get? e = some _ := he
      rw [z, h1, Option.some.injEq] at h2
      rw [h2] at d1
      cases d1
    have hel : e < s.heap.objs.size := Heap.lt_size he
    have hil : it < s.heap.objs.size := by
      obtain ⟨_, q, _⟩ := hit
      exact Heap.lt_size q
    have hlt : i < its.toArray.size := by
      have z := (List.getElem?_eq_some_iff.mp hu).1
      simpa using z
    refine wpAny_pyNext_enum_itemD (Draws.tuple (A := X.A.in1) (I.ok.hd hc) it a ait its.toArray) he ⟨hit, ht⟩ hlt hne (by simp [hne, ae]) fun y h' tk hy ho hst hT hsz hk => ?_
    obtain rfl : u = y := by
      have z : its.toArray[i]? = some y := hy
      rw [List.getElem?_toArray, hu] at z
      exact Option.some.inj z
    refine ⟨_, rfl, wpAny_letOwnedTupleGo_enum (s := { s with heap := h', toks := tk + 1 }) ho fun h2 he2 sb => ?_⟩
    have hT2 : h2.get? s.heap.objs.size = some { cls := .type "tuple", data := .seq #[.int i tk, u] } := (sb.2 _ (Nat.ne_of_gt hel)).trans hT
    have new : ObjOk X.prog X.w (upd H s.heap.objs.size (.tup [.int (i : Nat), x])) h2 s.heap.objs.size (.tup [.int (i : Nat), x]) :=
      ⟨by show 2 ≤ sizeLine; decide, [.int i tk, u], .cons ⟨_, rfl⟩ (.cons ru .nil), ⟨_, hT2, rfl, _, rfl⟩⟩
    have I1 : Inv X pins σ (upd H s.heap.objs.size (.tup [.int (i : Nat), x])) { s with heap := h2, toks := tk + 1 } :=
      I.turnedNew (ch := [e, it]) (fun b ob hb q => (sb.2 b (fun z => hb (by simp [z]))).trans (hk b ob (fun z => hb (by simp [z])) (fun z => hb (by simp [z])) q)) hf (Nat.le_refl _) new
    refine ⟨.ref s.heap.objs.size, _, I1, rfl, ⟨_, x, rfl, I.hok.fresh (Nat.le_refl _), rfl, fun ys hy => by rw [I.tuple_inj hy hq]; exact hx⟩, ⟨⟨u, ?_⟩, hst.1.at fun o q => (sb.2 it (Ne.symm hne)).trans q, hne⟩, fun b hb => ?_⟩
    · have e1 : ((i + 1 : Nat) : Int) = (i : Int) + 1 := by omega
      rw [e1]
      exact he2
    · have lb : b < s.heap.objs.size := by
        rcases List.mem_cons.mp hb with rfl | z
        · exact hel
        · rw [List.mem_singleton.mp z]
          exact hil
      rw [upd_ne (Nat.ne_of_lt lb)]
      exact (hf b hb).1
  done := by
    intro X hP hw hK hc i pins s σ H E I hf st hg
    subst hP hw hK
    obtain ⟨⟨old, he⟩, hit, hne⟩ := st
    obtain ⟨xs, hq, hx⟩ := hg
    obtain ⟨its, rv, p, hz⟩ := I.tuple hq
    obtain ⟨f0, f1, f2, f3, f4, f5⟩ := hf it (by simp)
    have ait : a ≠ it := fun z => by
      obtain ⟨o1, h1, _, n1, d1⟩ := p
      obtain ⟨o2, h2, _, d2⟩ := hit
      rw [z, h2, Option.some.injEq] at h1
      subst h1
      rw [d2] at d1
      cases d1
    have en : its.toArray.size = i := by
      have z := rv.length
      simp
      omega
    refine wpAny_pyNext_enum_endD (Draws.tuple (A := X.A.in1) (I.ok.hd hc) it a ait its.toArray) he ⟨en ▸ hit, p⟩ fun h' eb => ⟨rfl, I.turned (t' := s.toks) (fun b o hb q => eb b o hb q) f0 f1 f3 f4 f5⟩
  self := fun A i s Q E st h => let ⟨⟨_, he⟩, _⟩ := st; wpAny_pyIter_enum he h
def iEnumT (K : PySem.W.Frag) (ta : TA) : TI := fun σ H R => ta σ H fun vs H1 => ∃ a xs, vs = [.ref a] ∧ SqT K H1 a xs ∧ R (Itet K a) H1
theorem pi_enumT {X : Cx} {e : Expr} {ta : TA} {p pos tpos : Pos} {elts : List Expr} {kk : Nat} (hg : Gl X "enumerate") (hm : X.mg "enumerate" = none) (ha : PA X [e] ta) (hs : starEach [e] X.env = [(false, eval e X.env)] := by rfl) :
    PI X (.Tuple elts kk tpos) (.Call (.Name "enumerate" p) [e] [] pos) (iEnumT X.K ta) := by
  refine ⟨fun pins s σ H R I h => ?_⟩
  refine Call_ (ld_blt I hg hm boot_enumerate (PyProof.Rows.callWith_type1 (thn (ha.run pos pins s σ H _ I h) fun us s1 ⟨vs, H1, I1, r1, q1⟩ => ?_) hs rfl))
  obtain ⟨a, xs, rfl, hq, q⟩ := q1
  rw [Vals.ref1 r1]
  obtain ⟨its, rv, p', hz⟩ := I1.tuple hq
  refine call_tuple (items := its.toArray) p' fun h' he hit hsz hk => wpAny_pyIter_enum he ?_
  have I2 : Inv X pins σ H1 { s1 with heap := h' } := I1.kept (t' := s1.toks) hk
  refine ⟨s1.heap.objs.size + 1, [s1.heap.objs.size + 1, s1.heap.objs.size], _, _, H1, rfl, I2, turn a (s1.heap.objs.size + 1) s1.heap.objs.size, ⟨⟨.none, he⟩, hit, Nat.succ_ne_self _⟩, fun b hb => ?_, q⟩
  have ge : s1.heap.objs.size ≤ b := by
    rcases List.mem_cons.mp hb with rfl | z
    · exact Nat.le_succ _
    · rw [List.mem_singleton.mp z]
      exact Nat.le_refl _
  exact I1.fpOk ge (I1.hok.fresh ge)
end En
set_option maxRecDepth 100000
set_option maxHeartbeats 4000000
namespace RD
open PySem PySem.Spec PyProof.Rows L2
/-! ### enumerate of a list or a tuple -/
structure EnumJ (a : Addr) (xs : List V) (o : HO) (J : It) : Prop where
  stop : ∀ i H, H a = some o → i = xs.length → J.stop i H
  go : ∀ i H x, H a = some o → xs[i]? = some x → J.go i H
  yld : ∀ i H v H1, H a = some o → J.yld i H v H1 → ∃ T x, v = .ref T ∧ H T = none ∧ H1 = upd H T (.tup [.int (i : Nat), x]) ∧ xs[i]? = some x
def iEnumA (ta : TA) : TI := fun σ H R => ta σ H fun vs H1 => ∃ a xs o, vs = [.ref a] ∧ H1 a = some o ∧ (o = .lst xs ∨ o = .tup xs) ∧ ∀ J, EnumJ a xs o J → R J H1
theorem pi_enumA {X : Cx} {e : Expr} {ta : TA} {p pos tpos : Pos} {elts : List Expr} {kk : Nat} (hg : Gl X "enumerate") (hm : X.mg "enumerate" = none) (ha : PA X [e] ta) (hs : starEach [e] X.env = [(false, eval e X.env)] := by rfl) :
    PI X (.Tuple elts kk tpos) (.Call (.Name "enumerate" p) [e] [] pos) (iEnumA ta) := by
  refine ⟨fun pins s σ H R I h => ?_⟩
  -- both ways at once: a reading that fits the list's and the tuple's
  refine Call_ (ld_blt I hg hm boot_enumerate (PyProof.Rows.callWith_type1 (thn (ha.run pos pins s σ H _ I h) fun us s1 ⟨vs, H1, I1, r1, q1⟩ => ?_) hs rfl))
  obtain ⟨a, xs, o, rfl, ho, ho2, q⟩ := q1
  rw [Vals.ref1 r1]
  have ge : ∀ b ∈ [s1.heap.objs.size + 1, s1.heap.objs.size], s1.heap.objs.size ≤ b := fun b hb => by
    rcases List.mem_cons.mp hb with rfl | z
    · exact Nat.le_succ _
    · rw [List.mem_singleton.mp z]
      exact Nat.le_refl _
  rcases ho2 with rfl | rfl
  · obtain ⟨its, rv, p', hz⟩ := I1.list (.of ho : SqL X.K H1 a xs)
    refine call_enumerate_list p'.isList fun h' he hit hsz hk => wpAny_pyIter_enum he ?_
    have I2 : Inv X pins σ H1 { s1 with heap := h' } := I1.kept (t' := s1.toks) hk
    refine ⟨s1.heap.objs.size + 1, [s1.heap.objs.size + 1, s1.heap.objs.size], _, _, H1, rfl, I2, turn_enum a (s1.heap.objs.size + 1) s1.heap.objs.size, ⟨⟨.none, he⟩, hit, Nat.succ_ne_self _⟩, fun b hb => I1.fpOk (ge b hb) (I1.hok.fresh (ge b hb)), q _ ⟨fun i H e1 e2 => ⟨xs, .of e1, Nat.le_of_eq e2.symm⟩, fun i H x e1 e2 => ⟨xs, x, .of e1, e2⟩, fun i H v H2 e1 ⟨T, x, a1, a2, a3, a4⟩ => ⟨T, x, a1, a2, a3, a4 xs (.of e1)⟩⟩⟩
  · obtain ⟨its, rv, p', hz⟩ := I1.tuple (.of ho : SqT X.K H1 a xs)
    refine En.call_tuple (items := its.toArray) p' fun h' he hit hsz hk => wpAny_pyIter_enum he ?_
    have I2 : Inv X pins σ H1 { s1 with heap := h' } := I1.kept (t' := s1.toks) hk
    refine ⟨s1.heap.objs.size + 1, [s1.heap.objs.size + 1, s1.heap.objs.size], _, _, H1, rfl, I2, En.turn a (s1.heap.objs.size + 1) s1.heap.objs.size, ⟨⟨.none, he⟩, hit, Nat.succ_ne_self _⟩, fun b hb => I1.fpOk (ge b hb) (I1.hok.fresh (ge b hb)), q _ ⟨fun i H e1 e2 => ⟨xs, .of e1, e2.symm⟩, fun i H x e1 e2 => ⟨xs, x, .of e1, e2⟩, fun i H v H2 e1 ⟨T, x, a1, a2, a3, a4⟩ => ⟨T, x, a1, a2, a3, a4 xs (.of e1)⟩⟩⟩
theorem for_enum {a : Addr} {xs : List V} {o : HO} {J : It} {g : TG} {tb : TS} {D : Ends} {σ : L2.St} {H : Hp} (E : EnumJ a xs o J) (Pv : Nat → L2.St → Hp → Prop) (h0 : Pv 0 σ H) (hl : ∀ i σ H, Pv i σ H → H a = some o)
    (hs : ∀ i x σ H T, xs[i]? = some x → Pv i σ H → H T = none → g (.ref T) σ (upd H T (.tup [.int (i : Nat), x])) fun σ2 H2 => tb { D with nx := Pv (i + 1), ct := Pv (i + 1), bk := D.nx } σ2 H2) (hd : ∀ σ H, Pv xs.length σ H → D.nx σ H) :
    ∃ W : Nat → Nat → L2.St → Hp → Prop, (∃ m, W 0 m σ H) ∧ ∀ i m σ H, W i m σ H →
      (J.stop i H ∧ D.nx σ H) ∨ (J.go i H ∧ ∃ N : L2.St → Hp → Prop, (∀ σ' H', N σ' H' → ∃ m', m' < m ∧ W (i + 1) m' σ' H') ∧ ∀ x H', J.yld i H x H' → g x σ H' fun σ2 H2 => tb { D with nx := N, ct := N, bk := D.nx } σ2 H2) := by
  refine ⟨fun i m σ H => m = xs.length - i ∧ i ≤ xs.length ∧ Pv i σ H, ⟨xs.length, by simp, Nat.zero_le _, h0⟩, ?_⟩
  rintro i m σ H ⟨rfl, hi, p⟩
  have q := hl i σ H p
  by_cases lt : i < xs.length
  · refine .inr ⟨E.go i H _ q (List.getElem?_eq_getElem lt), Pv (i + 1), fun σ' H' p' => ⟨xs.length - (i + 1), by omega, rfl, lt, p'⟩, fun v H' y => ?_⟩
    obtain ⟨T, x, rfl, nT, rfl, hx⟩ := E.yld i H v H' q y
    exact hs i x σ H T hx p nT
  · obtain rfl : i = xs.length := by omega
    exact .inl ⟨E.stop _ H q rfl, hd σ H p⟩
end RD
set_option maxRecDepth 100000
set_option maxHeartbeats 4000000
/-! Rules of our own: repr of data, isinstance of a pinned exception, an own base's __init__ that is ValueError's, a class called by keyword. -/
namespace Rd
open PySem PySem.Spec PyProof.Rows L2

/-- repr(x), x data without dicts -/
def rRepr (K : PySem.W.Frag) : List V → Hp → VK → Prop := fun xs H Q => ∃ (x : V) (d : PyData), xs = [x] ∧ Dp K H x d ∧ d.showable = true ∧ d.hasDict = false ∧ d.depth ≤ 50 ∧ d.shown.length ≤ sizeLine ∧ Q (.str d.shown) H
theorem call_repr {X : Cx} (hg : X.A.guards = some []) (hu : X.A.units + 100 < cLine) : CallR X (.builtin "repr") (rRepr X.K) := by
  intro pins s σ H xs us Q I r h
  obtain ⟨x, d, rfl, i, hs, hd, hdp, hz, q⟩ := h
  obtain ⟨u, rfl, ru⟩ := vals1 r
  obtain ⟨as, rd⟩ := Dp.reads I d x u i ru
  have leaf : ∀ tk, EP X pins σ Q (.str d.shown tk) { s with toks := s.toks + 1 } := fun tk => ⟨.str d.shown, H, I.tok _, ⟨_, rfl⟩, q⟩
  cases i with
  | non => cases ru; exact PySem.P.repr_of_none (leaf _)
  | bl b => cases ru; exact PySem.P.repr_of_bool (leaf _)
  | int n => obtain ⟨t, rfl⟩ := ru; exact PySem.P.repr_of_int (by simpa [PyData.showable] using hs) (leaf _)
  | str y => obtain ⟨t, rfl⟩ := ru; exact PySem.P.repr_of_str (leaf _) hz
  | lst _ _ =>
    cases ru
    exact repr_of_reads' rd hs (PyData.noDict_hsm hd) hg (by omega) (fun _ _ e => e) (fun h' u tk k => ⟨.str _, H, I.kept (t' := tk) k, ⟨_, rfl⟩, q⟩) hz
  | tup _ _ =>
    cases ru
    exact repr_of_reads' rd hs (PyData.noDict_hsm hd) hg (by omega) (fun _ _ e => e) (fun h' u tk k => ⟨.str _, H, I.kept (t' := tk) k, ⟨_, rfl⟩, q⟩) hz
end Rd
set_option maxRecDepth 100000
set_option maxHeartbeats 4000000
namespace Rd
open PySem PySem.Spec PyProof.Rows L2

/-! ### isinstance of an exception that is pinned -/
theorem instAt {H : Hp} {P : Program} {w : World} {h : Heap} {a D : Addr} {oe : Obj} {d : Option Addr} (ok : HOk P w H h) (hget : h.get? a = some oe) (hz : Zc (.ref D) d oe) (hf : ∃ vs, oe.data = .fields vs)
    (hd : d = none ∨ ∃ dd fs, d = some dd ∧ H dd = some (.xd fs)) : ∃ od, PySem.W.InstAt h a oe D od := by
  obtain ⟨vs, hv⟩ := hf
  have no : PySem.W.notCls oe = true := by unfold PySem.W.notCls; rw [hv] <;> rfl
  rcases hd with e | ⟨dd, fs, e, q⟩
  · exact ⟨none, hget, hz.1, no, by rw [hz.2, e]; trivial⟩
  · obtain ⟨mA, ⟨od, es, ep, ho, _⟩, _⟩ := ok dd _ q
    exact ⟨some od, hget, hz.1, no, by rw [hz.2, e]; exact ho⟩
def rIsP (K : PySem.W.Frag) (a : Addr) (cls : Value) (d : Option Addr) : List V → Hp → VK → Prop := fun xs H Q => ∃ (D : Addr) (c : V) (cv : Value) (b : Bool), cls = .ref D ∧ ExcC K D ∧ xs = [.ref a, c] ∧ (∀ u, RelV c u → u = cv) ∧ PySem.W.kitOne K (.ref D) cv = some b ∧
  (d = none ∨ ∃ dd fs, d = some dd ∧ H dd = some (.xd fs)) ∧ Q (.bl b) H
theorem call_isP {X : Cx} {a : Addr} {cls : Value} {oe : Obj} {d : Option Addr} (hp : (a, oe) ∈ X.pn) (hz : Zc cls d oe) (hf : ∃ vs, oe.data = .fields vs) : CallR X (.builtin "isinstance") (rIsP X.K a cls d) := by
  intro pins s σ H xs us Q I r h
  obtain ⟨D, c, cv, b, rfl, C, rfl, hcv, e, hd, q⟩ := h
  cases r with
  | cons rx rr =>
    cases rr with
    | cons rt rr =>
      cases rr
      cases rx
      have ec := hcv _ rt
      subst ec
      obtain ⟨hget, _⟩ := I.pin (a, oe) (List.mem_append.mpr (.inl hp))
      obtain ⟨od, J⟩ := instAt I.hok hget hz hf hd
      obtain ⟨cd, hc, _⟩ := PySem.W.any_some C.hd
      exact PySem.W.kia_one (PySem.W.kitx_exc (by rw [hc]; rfl) C.hg C.hk C.hs C.ha C.hn C.ht C.hm) I.kIn J e (fun z => nomatch z) fun tk => ⟨.bl b, H, I.kept (t' := tk) fun _ _ z => z, rfl, q⟩
/-- e.f of a pinned exception that has its dict -/
def tXfD (K : PySem.W.Frag) (a : Addr) (cls : Value) (d : Option Addr) (n : Str) (te : TE) : TE := fun σ H Q => te σ H fun x H1 => ∃ (C dd : Addr) (fs : List (Str × V)) (v : V), x = .ref a ∧ cls = .ref C ∧ XfC K C ∧ PySem.W.findIn K (.ref C) n = some none ∧ d = some dd ∧ H1 dd = some (.xd fs) ∧ fs.lookup n = some v ∧ Q v H1
theorem pe_xfD {X : Cx} {a : Addr} {oe : Obj} {cls : Value} {d : Option Addr} {e : Expr} {te : TE} {pos : Pos} {n : Str} (hp : (a, oe) ∈ X.pn) (hz : Zc cls d oe) (hf : ∃ vs, oe.data = .fields vs) (he : PE X e te)
    (hb : attributeBase e n X.env (eval e X.env) = eval e X.env := by rfl) : PE X (.Attribute e n pos) (tXfD X.K a cls d n te) := by
  refine ⟨fun pins s σ H Q I h => ?_⟩
  refine attr_of hb (thn (he.run pins s σ H _ I h) fun u s1 hh => ?_)
  obtain ⟨x, H1, I1, rx, C, dd, fs, v, ex, ec, T, hno, ed, ea, l, q⟩ := hh
  subst ex ec ed
  obtain rfl : u = Value.ref a := rx
  obtain ⟨ha, _⟩ := I1.pin (a, oe) (List.mem_append_left _ hp)
  obtain ⟨mA, hns, hr⟩ := I1.hok dd _ ea
  obtain ⟨od, ho, hl⟩ := lookIn_ns hns
  obtain ⟨u, hu, ru⟩ := RelO.some_of (v := v) (o := mA n) (by rw [← l]; exact hr n)
  obtain ⟨vs, hv⟩ := hf
  have J : PySem.W.InstAt s1.heap a oe C (some od) := ⟨ha, hz.1, by unfold PySem.W.notCls; rw [hv] <;> rfl, by rw [hz.2]; exact ho⟩
  exact HandSPX.exc_get I1.kIn J T.ga T.gg T.exC (PySem.W.findObj_own T.hdC hno rfl (by rw [hl, hu])) (handed_of ru) ⟨v, H1, I1.tok _, ru, q⟩
theorem pe_imp {X : Cx} {e : Expr} {t t' : TE} (h : PE X e t) (w : ∀ σ H Q, t' σ H Q → t σ H Q) : PE X e t' := ⟨fun pins s σ H Q I q => h.run pins s σ H Q I (w _ _ _ q)⟩

/-! ### Base.__init__(self, ..), Base an own class that has ValueError's -/
theorem pe_reinit {X : Cx} {e : Expr} {es : List Expr} {ta : TA} {x : Str} {C0 : Addr} {p1 p2 pos : Pos} {pl : Sem Bool} (hg : Gl X x) (hm : X.mg x = some (.ref C0))
    (h1 : PySem.W.specialIn X.K (.ref C0) "__getattribute__" = some (some (.builtin "type.__getattribute__"))) (h2 : PySem.W.readsIn X.K C0 (.type "type") = true) (h3 : PySem.W.findCls X.K (.ref C0) (.type "type") "__init__" = some (.val (.builtin "ValueError.__init__")))
    (ha : PA X (e :: es) ta)
    (hc : eval (.Call (.Attribute (.Name x p1) "__init__" p2) (e :: es) [] pos) X.env = (do
      let ov ← eval (.Name x p1) X.env
      standAt p2.atName
      let (f, first) ← holding [ov] (getMethod ov "__init__" pl)
      callWith pos f first (backTo pos (starEach (e :: es) X.env)) (backToKw pos (keywordEach [] X.env))) := by rfl)
    (he : starEach (e :: es) X.env = (false, eval e X.env) :: starEach es X.env := by rfl) (hpl : (backTo pos (starEach es X.env)).any (·.1) = false := by rfl) (hdb : (x == ("__debug__" : Str)) = false := by decide) :
    PE X (.Call (.Attribute (.Name x p1) "__init__" p2) (e :: es) [] pos) (tVeI X.K ta) := by
  refine ⟨fun pins s σ H Q I h => ?_⟩
  refine PySem.W.methodCall_KW (ld_glob I hg hm ?_ hdb) hc
  refine PySem.W.method_cls I.kIn h1 (PySem.W.cls_value I.kIn h2 h3 (by decide +kernel) ?_)
  show wpAny _ _ (callWith pos (Value.builtin "ValueError.__init__") [] (backTo pos (starEach (e :: es) X.env)) []) _ _ _
  refine PyProof.Rows.callWith_method1 (thn (ha.run pos pins _ σ H _ (I.tok _) h) fun us s1 ⟨vs, H1, I1, r1, a, C, ws, ev, hl, T, ea, q⟩ => ?_) he hpl
  subst ev
  cases r1 with
  | @cons _ u0 _ ur ra rw' =>
    obtain rfl : u0 = Value.ref a := ra
    have hlen : ur.length ≤ sizeLine := by
      rw [← Paired.length rw', sizeLine_eq]
      omega
    exact oinit_ok T I1 ea hlen fun s' J => ⟨.non, H1, J, rfl, q⟩

/-! ### raise C(e), C with its own __init__, its context None -/
theorem pmk_oexN {X : Cx} {CX : CXT} {x : Str} {e : Expr} {es : List Expr} {ta : TA} {p pos : Pos} {C fI : Addr} {k : Nat} {fd : FuncData} {ps : List Str} {sp : Sp} {ds : List Value} {dvs : List V} (T : OexC X.K C) (iC : PySem.W.findIn X.K (.ref C) "__init__" = some (some (.ref fI))) (tI : PySem.W.typeIn X.K (.ref fI) = some (.type "function"))
    (F1 : FnOk X.prog X.w X.K X.mg X.base CX k fI fd ps sp) (hr : Room (k + 1) X.A) (hb : Binds X.K fd ps ds) (hd : Vals dvs ds) (hx : Passes CX X (fun _ _ _ => False)) (hg : Gl X x) (hm : X.mg x = some (.ref C)) (ha : PA X (e :: es) ta)
    (hdb : (x == ("__debug__" : Str)) = false := by decide) (he : starEach (e :: es) X.env = (false, eval e X.env) :: starEach es X.env := by rfl) (hpl : (backTo pos (starEach es X.env)).any (·.1) = false := by rfl) :
    L2N.PMk X (.Call (.Name x p) (e :: es) [] pos) (tMkO C sp dvs ta) := by
  intro pins s σ H Q I h
  obtain ⟨nm, q, N, bs, bm, sn, sub, ab, col, dd, k0, k1, k2, k3, k5, hC, hbm⟩ := T.cls
  refine wpAny_Call_Name_kw (ld_glob I hg hm ?_ hdb)
  refine PySem.W.callWith_K (h₀ := X.base) I.ok.mod.kin T.kC (thn (ha.run pos pins s σ H _ I h) fun us s1 ⟨vs, H1, I1, r1, hz, q1⟩ => ⟨I1.kIn, ?_⟩) he hpl
  show wpAny _ _ (call (.ref C) us) _ _ _
  obtain ⟨hp, g, dr, tk, os⟩ := s1
  have hsz : hp.objs.size ≤ hp.objs.size + 1 := Nat.le_succ _
  have hn : H1 (hp.objs.size + 1) = none := I1.hok.fresh hsz
  have hq := q1 (hp.objs.size + 1) hn
  have kk : ∀ b o, hp.get? b = some o → ((hp.push (PySem.W.kdv_tup us)).push (PySem.HandSPX.excO C hp.objs.size)).get? b = some o := fun b o e => Heap.get?_push_of_some _ (Heap.get?_push_of_some _ e)
  have hget : ((hp.push (PySem.W.kdv_tup us)).push (PySem.HandSPX.excO C hp.objs.size)).get? (hp.objs.size + 1) = some (PySem.HandSPX.excO C hp.objs.size) := by heap_get
  have I2 : Inv X pins σ (upd H1 (hp.objs.size + 1) (exo (hp.objs.size + 1) C none)) ⟨(hp.push (PySem.W.kdv_tup us)).push (PySem.HandSPX.excO C hp.objs.size), g, dr, tk, os⟩ :=
    I1.laid (t' := tk) (a := hp.objs.size + 1) (o := exo (hp.objs.size + 1) C none) (h' := (hp.push (PySem.W.kdv_tup us)).push (PySem.HandSPX.excO C hp.objs.size)) kk hsz (exo_ok hget)
  have r2 : Vals (V.ref (hp.objs.size + 1) :: (vs ++ dvs)) (Value.ref (hp.objs.size + 1) :: (us ++ ds)) := .cons rfl (r1.append hd)
  have hl : (Value.ref (hp.objs.size + 1) :: us ++ ds).length = ps.length := by
    have e := r2.length
    rw [F1.len _ _ _ _ hq] at e
    exact e.symm
  have hus : us.length ≤ sizeLine := by
    rw [← Paired.length r1, sizeLine_eq]
    omega
  refine wpAny_call (PySem.HandSPX.call_own F.excBase_ValueError (fun Y => PySem.HandSPX.refsVE_contains Y bm hbm) (I1.kIn _ _ hC) (PySem.W.looks_findIn I1.kIn iC) (fun self => PySem.W.bind_fn I1.kIn self tI) hus
    (codeAny_mono (F1.run _ X.stack _ _ ⟨Value.ref (hp.objs.size + 1) :: us, []⟩ (Value.ref (hp.objs.size + 1) :: (us ++ ds)) _ _ (fun _ _ _ => False) (hr.make C us []) (I2.env0.make C us []) (hb _ (Value.ref (hp.objs.size + 1) :: us) I2.kIn hl) r2 hq) fun r s' hq' => ?_))
  cases r with
  | error er => exact hx pins σ _ _ er s' I2 hq'
  | ok fl =>
    cases fl with
    | ret u =>
      obtain ⟨v, H2, os2, bare2, un2, hok2, rv, ev, d, fs, ea, ed, hd1, q2⟩ := hq'
      subst ev
      obtain ⟨h2, g2, d2, t2, os'⟩ := s'
      obtain ⟨t0, G, J, kG, ge, hoe, na⟩ := mk_end0 (d2 := d2) (t2 := t2) I1 hsz kk un2 hok2 os2 bare2 ea ed hd1
      refine ⟨rv, ⟨hp.objs.size + 1, _, _, ⟨G, g2, d2, t2, os'⟩, _, .ref C, some d, rfl, J, kG, ge, hoe, ⟨rfl, rfl, fun vs hv => ?_⟩, rfl, rfl, na, rfl, bare2, raises_own T.exC T.tyC, q2⟩⟩
      cases hv
      rfl
    | next => exact False.elim hq'
    | brk => exact False.elim hq'
    | cont => exact False.elim hq'
/-- raise C(), C without an own __init__ -/
theorem pmk_own0 {X : Cx} {C : Addr} {bmB : List Value} {B newId initId : String} {x : Str} {p pos : Pos} (F : ExcBaseFacts B newId initId bmB) (q : PySem.W.excIn X.K C bmB newId = true) (gC : X.mg x = some (.ref C)) (kC : PySem.W.keepIn X.K (.ref C) = true) (r : Raises X (.ref C)) (hg : Gl X x)
    (hdb : (x == ("__debug__" : Str)) = false := by decide) : L2N.PMk X (.Call (.Name x p) [] [] pos) (fun _ H Q => Q (.ref C) none H) := by
  intro pins s σ H Q I h
  refine wpAny_Call_Name_kw (ld_glob I hg gC ?_ hdb)
  refine PySem.W.callWith_K0 I.kIn kC ?_
  show wpAny _ _ (call (.ref C) []) _ _ _
  obtain ⟨bm, N, nm, qn, bs, hdct, sn, sub, ab, col, dd, k0, k1, k2, k3, k5, mN, hC, hN, hni, T⟩ := exc_obj I.kIn q
  refine wpAny_call_exc_subT F T hC hN hni (fun h' e hm => ?_) (by show 0 ≤ sizeLine; omega)
  exact L2N.mk_of I hm r h (I.hok.gone hm.new)
end Rd
set_option maxRecDepth 100000
set_option maxHeartbeats 4000000
namespace PySem
namespace RdX
open PySem.HandSPX
/-! ### C(at=v): an own exception class over ValueError called with keywords alone -/
section
variable {M : Model} {prog : Program} {w : World} {A : Around} {E : Value → Shared → Prop} {R : Result → Shared → Prop} {h : Heap} {g : Array GenState} {d : Drawn} {t : Nat} {os : OsState}
variable {nm q : Str} {C N : Addr} {bs bm : List Value} {hdct : Bool} {sn : List Str} {sub : List Value} {ab : Bool} {col : Option Bool} {dd : Option Addr} {k0 k1 k2 k3 k5 : Option Value} {kw : List (Str × Value)}
theorem kw_check_type (hC : h.get? C = some (excClassObj nm q C N bs bm hdct sn sub ab col dd k0 k1 k2 k3 k5 "ValueError.__new__")) {Q : Unit → Shared → Prop}
    (hq : Q () ⟨h, g, d, t, os⟩) : wpAny M A (checkBuiltinCall "type.__call__" ⟨[.ref C], kw⟩) Q E ⟨h, g, d, t, os⟩ := by
  have typ : W.Looks M h (isInstance (.ref C) (.type "type")) true :=
    W.Looks.andThen (a := .type "type") (fun A Q E s k q => wpAny_typeOf_ref (k _ _ hC) q) (by show W.Looks M h (isSubtype (.type "type") (.type "type")) true; rw [tc_sub]; exact .now)
  exact W.check_slot tc_kind tc_split typ (W.tc_args _ _ _) hq
theorem kw_check_new (hbm : refsVE bm = true) (hC : h.get? C = some (excClassObj nm q C N bs bm hdct sn sub ab col dd k0 k1 k2 k3 k5 "ValueError.__new__")) {Q : Unit → Shared → Prop}
    (hq : Q () ⟨h, g, d, t, os⟩) : wpAny M A (checkBuiltinCall "ValueError.__new__" ⟨[.ref C], kw⟩) Q E ⟨h, g, d, t, os⟩ := by
  have F := F.excBase_ValueError
  have hB : (Value.ref C :: bm).contains (.type "ValueError") = true := by rw [List.contains_cons, refsVE_contains _ bm hbm, F.hasB, Bool.or_true]
  simp only [checkBuiltinCall, F.newKind, F.newSplit, F.newRow]
  repeat (first | refine wpAny_loadPart_at hC ?_ | (refine wpAny_isSubtype_exc hC ?_; rw [hB]) | refine wpAny_staticBase_exc hC ?_ | refine wpAny_madeBy_exc hC ?_ | simp only [bne_self_eq_false, Bool.false_eq_true, if_false] | wp_step)
  exact hq
theorem kw_new (hbm : refsVE bm = true) (hC : h.get? C = some (excClassObj nm q C N bs bm hdct sn sub ab col dd k0 k1 k2 k3 k5 "ValueError.__new__"))
    (hq : R (.ok (.ret (.ref (h.objs.size + 1)))) ⟨(h.push (W.kdv_tup [])).push (excO C h.objs.size), g, d, t, os⟩) :
    codeAny (model prog w) A (.builtin "ValueError.__new__" ⟨[.ref C], kw⟩) R ⟨h, g, d, t, os⟩ := by
  have F := F.excBase_ValueError
  have hends := F.ends
  have c1 : (Value.ref C :: bm).contains (.type "ValueError") = true := by rw [List.contains_cons, refsVE_contains _ bm hbm, F.hasB, Bool.or_true]
  have c2 : (Value.ref C :: bm).contains (.type "AttributeError") = false := by rw [List.contains_cons, refsVE_contains _ bm hbm, F.noAttr]; rfl
  have c3 : (Value.ref C :: bm).contains (.type "NameError") = false := by rw [List.contains_cons, refsVE_contains _ bm hbm, F.noName]; rfl
  refine codeAny_builtinAt F.entry ?_
  unfold Builtin.«BaseException.__new__»
  refine wpAt_bind ?_
  show wpAt _ _ _ (stack >>= _) _ _ _
  refine wpAt_bind (wpAt_stack fun p below => wpAt_of_wpAny ?_)
  wp_walk
  refine wpAt_of_wpAny ?_
  rw [F.owner]
  have hz : ([] : List Value).length ≤ sizeLine := Nat.zero_le _
  repeat (first | with_reducible refine wpAny_madeHere_exc F.canon hC ?_ | with_reducible refine wpAny_loadPart_at hC ?_ | (with_reducible refine wpAny_isSubtype_exc hC ?_; first | rw [c1] | rw [c2] | rw [c3]) | wp_step)
  show R _ _
  rw [Heap.size_push]
  exact hq
theorem kw_type_call {fI : Addr} {Q : Fin → Shared → Prop} (hbm : refsVE bm = true) (hC : h.get? C = some (excClassObj nm q C N bs bm hdct sn sub ab col dd k0 k1 k2 k3 k5 "ValueError.__new__"))
    (hi : W.Looks (model prog w) h (typeLookup (.ref C) "__init__") (some (.ref fI))) (hb : ∀ self, W.Looks (model prog w) h (bindSpecial (.ref fI) self) (.ref fI, [self]))
    (hq : codeAny (model prog w) A (.call (.ref fI) ⟨[.ref (h.objs.size + 1)], kw⟩)
      (fun r s' => match r with | .ok (.ret v) => v = .none ∧ Q (.done (.ret (.ref (h.objs.size + 1)))) s' | .ok _ => False | .error e => E e s') ⟨(h.push (W.kdv_tup [])).push (excO C h.objs.size), g, d, t, os⟩) :
    wpAny (model prog w) A (Builtin.«type.__call__» ⟨[.ref C], kw⟩) Q E ⟨h, g, d, t, os⟩ := by
  repeat (first | with_reducible refine wpAny_loadPart_at hC ?_ | with_reducible refine wpAny_madeBy_exc hC ?_ | wp_step)
  refine codeAny_call_builtin_code (Code.quiet_builtin _ F.excBase_ValueError.quiet) (kw_check_new hbm hC ?_)
  refine kw_new hbm hC ?_
  show wpAny _ _ _ _ _ _
  have k : ∀ b o, h.get? b = some o → ((h.push (W.kdv_tup [])).push (excO C h.objs.size)).get? b = some o := fun b o e => Heap.get?_push_of_some _ (Heap.get?_push_of_some _ e)
  have hC1 := k _ _ hC
  have hx : ((h.push (W.kdv_tup [])).push (excO C h.objs.size)).get? (h.objs.size + 1) = some (excO C h.objs.size) := by heap_get
  have cC : (Value.ref C :: bm).contains (.ref C) = true := by simp
  have i1 := hi.keeps k
  have b1 := (hb (.ref (h.objs.size + 1))).keeps k
  unfold isInstance
  repeat (first | with_reducible refine wpAny_loadPart_at hx ?_ | (with_reducible refine wpAny_isSubtype_exc hC1 ?_; rw [cC]) | wp_step)
  show wpAny _ _ (typeLookup (.ref C) _) _ _ _
  refine i1.at ?_
  refine wpAny_holding (wpAny_bind (b1.at ?_))
  refine wpAny_bind (wpAny_call (codeAny_mono hq fun r s' z => ?_))
  rcases r with e | (v | _ | _ | _) <;> first | exact z | exact z.elim | skip
  obtain ⟨rfl, z⟩ := z
  first
    | exact wpAny_pure (wpAny_pure z)
    | (wp_walk; exact z)
theorem kw_call {fI : Addr} (hbm : refsVE bm = true) (hC : h.get? C = some (excClassObj nm q C N bs bm hdct sn sub ab col dd k0 k1 k2 k3 k5 "ValueError.__new__"))
    (hi : W.Looks (model prog w) h (typeLookup (.ref C) "__init__") (some (.ref fI))) (hb : ∀ self, W.Looks (model prog w) h (bindSpecial (.ref fI) self) (.ref fI, [self]))
    (hq : codeAny (model prog w) (A.under (.builtin "type.__call__" ⟨[.ref C], kw⟩)) (.call (.ref fI) ⟨[.ref (h.objs.size + 1)], kw⟩) (W.InitBack (h.objs.size + 1) R) ⟨(h.push (W.kdv_tup [])).push (excO C h.objs.size), g, d, t, os⟩) :
    codeAny (model prog w) A (.call (.ref C) ⟨[], kw⟩) R ⟨h, g, d, t, os⟩ := by
  have f1 := tc_lookup
  have f2 := tc_bind (.ref C)
  have hTy : (⟨h, g, d, t, os⟩ : Shared).TypeIs (.ref C) "type" := ⟨_, hC, rfl⟩
  refine codeAny_of_tree ?_
  show wpAny _ _ (callAny (.ref C) _) _ _ _
  repeat (any_goals (first | assumption | with_reducible refine wpAny_loadPart_at hC ?_ | wp_step))
  refine ⟨rfl, ?_⟩
  refine codeAny_call_builtin_at (Code.quiet_builtin _ (by decide +kernel)) entry_typeCall (kw_check_type hC (kw_type_call hbm hC hi hb ?_))
  refine codeAny_mono hq fun r s' z => ?_
  rcases r with e | (v | _ | _ | _) <;> exact z
end
end RdX
end PySem
set_option maxRecDepth 100000
set_option maxHeartbeats 4000000
namespace Rd
open PySem PySem.Spec PyProof.Rows L2

/-- C(at=e) as a value: an exception of the class at C, as its own __init__ leaves it -/
def tMkE (C : Addr) (sp : Sp) (tk : TA) : TE := fun σ H Q => tk σ H fun vs H1 => ∀ a, H1 a = none → sp (.ref a :: vs) (upd H1 a (exo a C none)) (fun v H2 => v = .non ∧ Q (.ref a) H2) fun _ _ _ => False
theorem pe_mkE {X : Cx} {CX : CXT} {x : Str} {kws : List Keyword} {tk : TA} {p pos : Pos} {C fI : Addr} {k : Nat} {fd : FuncData} {ps ks : List Str} {sp : Sp} (T : OexC X.K C) (iC : PySem.W.findIn X.K (.ref C) "__init__" = some (some (.ref fI))) (tI : PySem.W.typeIn X.K (.ref fI) = some (.type "function"))
    (F1 : FnOk X.prog X.w X.K X.mg X.base CX k fI fd ps sp) (hr : Room (k + 1) X.A) (hb : ∀ (s : Shared) (u : Value) (ws : List Value), X.K.In s.heap → (u :: ws).length = ps.length → BindsTo s fd ⟨[u], ks.zip ws⟩ (ps.zip (u :: ws))) (hx : Passes CX X (fun _ _ _ => False)) (hg : Gl X x) (hm : X.mg x = some (.ref C)) (hkw : PK X kws tk)
    (hall : (backToKw pos (keywordEach kws X.env)).all (·.1.isSome) = true := by rfl) (hks : (backToKw pos (keywordEach kws X.env)).filterMap (·.1) = ks := by rfl) (hdb : (x == ("__debug__" : Str)) = false := by decide)
    (hpl : ((backTo pos (starEach [] X.env)).any (·.1) || (backToKw pos (keywordEach kws X.env)).any (·.1.isNone)) = false := by rfl) :
    PE X (.Call (.Name x p) [] kws pos) (tMkE C sp tk) := by
  refine ⟨fun pins s σ H Q I h => ?_⟩
  obtain ⟨nm, q, N, bs, bm, sn, sub, ab, col, dd, k0, k1, k2, k3, k5, hC, hbm⟩ := T.cls
  refine wpAny_Call_Name_kw (ld_glob I hg hm ?_ hdb)
  refine PySem.W.callWith_KW0 (h₀ := X.base) I.ok.mod.kin T.kC hall ?_ hpl
  refine thn (hkw.run pos pins s σ H _ I h) fun ws s1 ⟨vs, H1, I1, r1, q1⟩ => ⟨I1.kIn, ?_⟩
  rw [hks]
  show wpAny _ _ (call (.ref C) [] (ks.zip ws)) _ _ _
  obtain ⟨hp, g, dr, tk, os⟩ := s1
  have hsz : hp.objs.size ≤ hp.objs.size + 1 := Nat.le_succ _
  have hn : H1 (hp.objs.size + 1) = none := I1.hok.fresh hsz
  have hq := q1 (hp.objs.size + 1) hn
  have kk : ∀ b o, hp.get? b = some o → ((hp.push (PySem.W.kdv_tup [])).push (PySem.HandSPX.excO C hp.objs.size)).get? b = some o := fun b o e => Heap.get?_push_of_some _ (Heap.get?_push_of_some _ e)
  have hget : ((hp.push (PySem.W.kdv_tup [])).push (PySem.HandSPX.excO C hp.objs.size)).get? (hp.objs.size + 1) = some (PySem.HandSPX.excO C hp.objs.size) := by heap_get
  have I2 : Inv X pins σ (upd H1 (hp.objs.size + 1) (exo (hp.objs.size + 1) C none)) ⟨(hp.push (PySem.W.kdv_tup [])).push (PySem.HandSPX.excO C hp.objs.size), g, dr, tk, os⟩ :=
    I1.laid (t' := tk) (a := hp.objs.size + 1) (o := exo (hp.objs.size + 1) C none) (h' := (hp.push (PySem.W.kdv_tup [])).push (PySem.HandSPX.excO C hp.objs.size)) kk hsz (exo_ok hget)
  have r2 : Vals (V.ref (hp.objs.size + 1) :: vs) (Value.ref (hp.objs.size + 1) :: ws) := .cons rfl r1
  have hl : (Value.ref (hp.objs.size + 1) :: ws).length = ps.length := by
    rw [← r2.length]
    exact F1.len _ _ _ _ hq
  refine wpAny_call (PySem.RdX.kw_call hbm (I1.kIn _ _ hC) (PySem.W.looks_findIn I1.kIn iC) (fun self => PySem.W.bind_fn I1.kIn self tI)
    (codeAny_mono (F1.run _ X.stack _ _ ⟨[Value.ref (hp.objs.size + 1)], ks.zip ws⟩ (Value.ref (hp.objs.size + 1) :: ws) _ _ (fun _ _ _ => False) (hr.make C [] (ks.zip ws)) (I2.env0.make C [] (ks.zip ws)) (hb _ _ ws I2.kIn hl) r2 hq) fun r s' hq' => ?_))
  cases r with
  | error er => exact hx pins σ _ _ er s' I2 hq'
  | ok fl =>
    cases fl with
    | ret u =>
      obtain ⟨v, H2, I3, rv, ev, q3⟩ := I2.after hq'
      subst ev
      exact ⟨rv, ⟨V.ref (hp.objs.size + 1), H2, I3, rfl, q3⟩⟩
    | next => exact False.elim hq'
    | brk => exact False.elim hq'
    | cont => exact False.elim hq'

/-- e.f, e such an exception with its dict -/
def tExF (K : PySem.W.Frag) (n : Str) (te : TE) : TE := fun σ H Q => te σ H fun x H1 => ∃ (a C d : Addr) (fs : List (Str × V)) (v : V), x = .ref a ∧ XfC K C ∧ PySem.W.findIn K (.ref C) n = some none ∧ H1 a = some (exo a C (some d)) ∧ H1 d = some (exd d fs) ∧ fs.lookup n = some v ∧ Q v H1
theorem pe_exF {X : Cx} {e : Expr} {te : TE} {pos : Pos} {n : Str} (he : PE X e te) (hb : attributeBase e n X.env (eval e X.env) = eval e X.env := by rfl) : PE X (.Attribute e n pos) (tExF X.K n te) := by
  refine ⟨fun pins s σ H Q I h => ?_⟩
  refine attr_of hb (thn (he.run pins s σ H _ I h) fun u s1 hh => ?_)
  obtain ⟨x, H1, I1, rx, a, C, d, fs, v, ex, T, hno, ea, ed, l, q⟩ := hh
  subst ex
  obtain rfl : u = Value.ref a := rx
  obtain ⟨t1, ho⟩ := exo_at I1.hok ea
  obtain ⟨mA, hns, hr⟩ := exd_at I1.hok ed
  obtain ⟨od, hod, hl⟩ := lookIn_ns hns
  obtain ⟨u, hu, ru⟩ := RelO.some_of (v := v) (o := mA n) (by rw [← l]; exact hr n)
  have J : PySem.W.InstAt s1.heap a _ C (some od) := ⟨ho, rfl, rfl, hod⟩
  exact HandSPX.exc_get I1.kIn J T.ga T.gg T.exC (PySem.W.findObj_own T.hdC hno rfl (by rw [hl, hu])) (handed_of ru) ⟨v, H1, I1.tok _, ru, q⟩

theorem env0_kin {P : Program} {w : World} {K : PySem.W.Frag} {mg : Str → Option Value} {base : Heap} {A : Around} {outer : List Env} {s : Shared} {H : Hp} (e0 : Env0 P w K mg base A outer s H) : K.In s.heap := e0.mod.kin.keeps fun b o e => (e0.bs b o e).1
theorem env0_nolimit {P : Program} {w : World} {K : PySem.W.Frag} {mg : Str → Option Value} {base : Heap} {A : Around} {outer : List Env} {s : Shared} {H : Hp} (e0 : Env0 P w K mg base A outer s H) : s.heap.NoLimit := e0.mod.nolimit.keeps fun b o e => (e0.bs b o e).1
theorem binds_vis {N ps : List Str} {sc : Scope} {n : Nat} (S : FnScope N ps sc) (us : List Value) : ∀ y ∈ ps.zip us, sc.names.lookup y.1 = some .local ∨ (sc.names.lookup y.1 = some .cell ∧ ((cellsFrom n sc.names []).lookup y.1).isSome = true) := fun y hy =>
  (S.par y.1 (List.of_mem_zip (show (y.1, y.2) ∈ _ from hy)).1).imp id fun q => ⟨q, PySem.W.cellsFrom_some _ _ _ (.inl q)⟩
/-- a body's end is the call's end -/
def fv : Flow → Value
  | .ret v => v
  | _ => .none
theorem body_end {X : Cx} {Q : VK} {pins : List (Addr × Obj)} {fl : Flow} {s' : Shared} (h : SP X pins { nx := fun _ H' => Q .non H', rt := Q } fl s') (hex : X.ex = []) :
    CE X.outer X.prog X.w X.H_0 X.s_0 Q (fv fl) s' := by
  cases fl with
  | ret u =>
    obtain ⟨v, _, H', J, rv, q⟩ := h
    exact ⟨v, H', J.os, J.bare, hex ▸ J.base, J.hok, rv, q⟩
  | next =>
    obtain ⟨_, H', J, q⟩ := h
    exact ⟨.non, H', J.os, J.bare, hex ▸ J.base, J.hok, rfl, q⟩
  | brk => exact h.elim fun _ h => h.elim fun _ h => h.2.elim
  | cont => exact h.elim fun _ h => h.elim fun _ h => h.2.elim
/-! ### defs that are called where no guard stands (repr is not under way) -/
structure FnG (P : Program) (w : World) (K : PySem.W.Frag) (mg : Str → Option Value) (base : Heap) (CX : CXT) (k : Nat) (f : Addr) (fd : FuncData) (ps : List Str) (sp : Sp) : Prop where
  len : ∀ vs H Q E, sp vs H Q E → vs.length = ps.length
  run : ∀ (A : Around) (outer : List Env) (s : Shared) (H : Hp) (args : Args) (us : List Value) (vs : List V) (Q : VK) (E : XK), A.guards = some [] → Room k A → Env0 P w K mg base A outer s H → BindsTo s fd args (ps.zip us) → Vals vs us → sp vs H Q E →
    codeAny (model P w) A (.call (.ref f) args) (CR CX outer P w H s Q E) s
/-- by its body -/
theorem fn_ofG {CX : CXT} {P : Program} {w : World} {K : PySem.W.Frag} {mg : Str → Option Value} {base : Heap} {k : Nat} {x qual : Str} {st : Stmt} {f : Addr} {fd : FuncData} {N ps : List Str} {sp : Sp} (F : Fun K x qual st f fd) (S : FnScope N ps (defScope st))
    (len : ∀ vs H Q E, sp vs H Q E → vs.length = ps.length)
    (hbody : ∀ (cdv : Value) (A : Around) (outer : List Env) (s : Shared) (H : Hp) (vs : List V) (Q : VK) (E : XK), A.guards = some [] → Room k (A.deeper (envOfC qual (defScope st) s.heap.objs.size f cdv)) → sp vs H Q E →
      ∃ t, PSs (cxOf CX P w K mg base N qual (defScope st) f cdv A outer s H E) (defBody st) t ∧ t { nx := fun _ H' => Q .non H', rt := Q } (start N vs) H) :
    FnG P w K mg base CX (k + 1) f fd ps sp := by
  refine ⟨len, fun A outer s H args us vs Q E hgd hr e0 hb r hsp => ?_⟩
  obtain ⟨oc, od, kV, doc, pm, an, cdv, ct, osl, rfl, lk, hcd⟩ := F.ex
  have hl := len _ _ _ _ hsp
  refine codeAny_call_function hr.depth (env0_kin e0 _ _ lk) rfl S.co S.gen rfl (PySem.W.codeRec_of (env0_kin e0) hcd) (hb _ _ _ _ ?_)
  refine wpAny_newFunctionEnv_cells S.kind (binds_vis S us) fun env he s1 x => ?_
  subst he
  refine ⟨(env0_nolimit e0).keeps x.toInCall.keep, codeAny_func ?_⟩
  obtain ⟨t, ht, hq⟩ := hbody cdv A outer s H vs Q E hgd (hr.deeper _) hsp
  exact wpAny_mono (ht.run [] s1 (start N vs) H _ (inv_start S hr.hd e0 hl r x) hq) (fun fl s' hs => (by cases fl <;> exact body_end hs rfl)) fun e s' hs => hs

/-! ### defs that are called while an exception is handled, and that know its object -/
structure FnP (P : Program) (w : World) (K : PySem.W.Frag) (mg : Str → Option Value) (base : Heap) (CX : CXT) (k : Nat) (f : Addr) (fd : FuncData) (ps : List Str) (sp : Addr × Obj → Sp) : Prop where
  len : ∀ p vs H Q E, sp p vs H Q E → vs.length = ps.length
  run : ∀ (A : Around) (outer : List Env) (s : Shared) (H : Hp) (args : Args) (us : List Value) (vs : List V) (Q : VK) (E : XK) (p : Addr × Obj), L2H.RoomH k A → L2H.Hot1 A p → L2H.PinOk outer H s p → Env0 P w K mg base A outer s H → BindsTo s fd args (ps.zip us) → Vals vs us → sp p vs H Q E →
    codeAny (model P w) A (.call (.ref f) args) (CR CX outer P w H s Q E) s
theorem fn_ofP {CX : CXT} {P : Program} {w : World} {K : PySem.W.Frag} {mg : Str → Option Value} {base : Heap} {k : Nat} {x qual : Str} {st : Stmt} {f : Addr} {fd : FuncData} {N ps : List Str} {sp : Addr × Obj → Sp} (F : Fun K x qual st f fd) (S : FnScope N ps (defScope st))
    (len : ∀ p vs H Q E, sp p vs H Q E → vs.length = ps.length)
    (hbody : ∀ (cdv : Value) (A : Around) (outer : List Env) (s : Shared) (H : Hp) (vs : List V) (Q : VK) (E : XK) (p : Addr × Obj), L2H.Hot1 A p → L2H.RoomH k (A.deeper (envOfC qual (defScope st) s.heap.objs.size f cdv)) → sp p vs H Q E →
      ∃ t, PSs (L2H.cxH CX P w K mg base N qual (defScope st) f cdv A outer s H E p) (defBody st) t ∧ t { nx := fun _ H' => Q .non H', rt := Q } (start N vs) H) :
    FnP P w K mg base CX (k + 1) f fd ps sp := by
  refine ⟨len, fun A outer s H args us vs Q E p hr hot hpin e0 hb r hsp => ?_⟩
  obtain ⟨oc, od, kV, doc, pm, an, cdv, ct, osl, rfl, lk, hcd⟩ := F.ex
  have hl := len _ _ _ _ _ hsp
  refine codeAny_call_function hr.depth (env0_kin e0 _ _ lk) rfl S.co S.gen rfl (PySem.W.codeRec_of (env0_kin e0) hcd) (hb _ _ _ _ ?_)
  refine wpAny_newFunctionEnv_cells S.kind (binds_vis S us) fun env he s1 x => ?_
  subst he
  refine ⟨(env0_nolimit e0).keeps x.toInCall.keep, codeAny_func ?_⟩
  obtain ⟨t, ht, hq⟩ := hbody cdv A outer s H vs Q E p hot (hr.deeper _) hsp
  exact wpAny_mono (ht.run [] s1 (start N vs) H _ (L2H.inv_startH S hpin e0 hl r x) hq) (fun fl s' hs => (by cases fl <;> exact body_end hs rfl)) fun e s' hs => hs
end Rd
set_option maxRecDepth 100000
set_option maxHeartbeats 4000000
namespace Rd
open PySem PySem.Spec PyProof.Rows L2
abbrev St := L2.St
section
variable {X : Cx} {CX : CXT} {k : Nat} {f : Addr} {fd : FuncData} {ps : List Str} {sp : Sp} {E : XK} {x : Str} {p pos : Pos} {e : Expr} {es : List Expr} {t : TA}
/-- a call's end in the caller's context -/
theorem call_end {pins : List (Addr × Obj)} {σ : St} {H : Hp} {s s' : Shared} {Q : VK} {r : Result} (I : Inv X pins σ H s) (hx : ∀ e s', CX X.stack H s E e s' → X.xe e s') (hq : CR CX X.stack X.prog X.w H s Q E r s') :
    (∃ u, r = .ok (.ret u) ∧ EP X pins σ Q u s') ∨ ∃ e, r = .error e ∧ X.xe e s' := by
  cases r with
  | error e => exact .inr ⟨e, rfl, hx e s' hq⟩
  | ok fl =>
    cases fl with
    | ret u => exact .inl ⟨u, rfl, I.after hq⟩
    | next => exact False.elim hq
    | brk => exact False.elim hq
    | cont => exact False.elim hq
theorem call_back {pins : List (Addr × Obj)} {σ : St} {Q : VK} {r : Result} {s' : Shared} (h : (∃ u, r = .ok (.ret u) ∧ EP X pins σ Q u s') ∨ ∃ e, r = .error e ∧ X.xe e s') :
    (match r with | .ok (.ret v) => EP X pins σ Q v s' | .ok _ => False | .error e => X.xe e s') := by
  rcases h with ⟨u, rfl, q⟩ | ⟨e, rfl, q⟩ <;> exact q
theorem run_fnG {pins : List (Addr × Obj)} {σ : St} {H : Hp} {s : Shared} {Q : VK} {us : List Value} {vs : List V} (F : FnG X.prog X.w X.K X.mg X.base CX k f fd ps sp) (hgd : X.A.guards = some []) (hr : Room k X.A) (hb : Binds X.K fd ps []) (hx : Passes CX X E)
    (I : Inv X pins σ H s) (r : Vals vs us) (h : sp vs H Q E) : wpAny (model X.prog X.w) X.A (call (.ref f) us) (EP X pins σ Q) X.xe s := by
  have hl : us.length = ps.length := by rw [← r.length]; exact F.len _ _ _ _ h
  have b := hb s us I.kIn (by rw [List.append_nil]; exact hl)
  rw [List.append_nil] at b
  refine wpAny_call (codeAny_mono (F.run X.A X.stack s H ⟨us, []⟩ us vs Q E hgd hr I.env0 b r h) fun r s' hq => ?_)
  have z := call_back (call_end I (fun e s' => hx pins σ H s e s' I) hq)
  rcases r with e | (v | _ | _ | _) <;> exact z
theorem pe_callG (F : FnG X.prog X.w X.K X.mg X.base CX k f fd ps sp) (hgd : X.A.guards = some []) (hr : Room k X.A) (hg : Gl X x) (hm : X.mg x = some (.ref f)) (hk : PySem.W.keepIn X.K (.ref f) = true) (hb : Binds X.K fd ps []) (hx : Passes CX X E)
    (ha : PA X (e :: es) t) (hdb : (x == ("__debug__" : Str)) = false := by decide) (he : starEach (e :: es) X.env = (false, eval e X.env) :: starEach es X.env := by rfl) (hpl : (backTo pos (starEach es X.env)).any (·.1) = false := by rfl) :
    PE X (.Call (.Name x p) (e :: es) [] pos) (tCall sp [] E t) := by
  refine ⟨fun pins s σ H Q I h => ?_⟩
  refine wpAny_Call_Name_kw (ld_glob I hg hm ?_ hdb)
  refine PySem.W.callWith_K (h₀ := X.base) I.ok.mod.kin hk (thn (ha.run pos pins s σ H _ I h) fun us s1 ⟨vs, H1, I1, r, q⟩ => ⟨I1.kIn, ?_⟩) he hpl
  exact run_fnG F hgd hr hb hx I1 r (by simpa using q)
/-- f(e, ..) while the exception p is handled; f's promise knows p -/
theorem pe_callP {sp : Addr × Obj → Sp} (F : FnP X.prog X.w X.K X.mg X.base CX k f fd ps sp) {q : Addr × Obj} (hot : L2H.Hot1 X.A q) (hq : q ∈ X.pn) (hr : L2H.RoomH k X.A) (hg : Gl X x) (hm : X.mg x = some (.ref f)) (hk : PySem.W.keepIn X.K (.ref f) = true) (hb : Binds X.K fd ps []) (hx : Passes CX X E)
    (ha : PA X (e :: es) t) (hdb : (x == ("__debug__" : Str)) = false := by decide) (he : starEach (e :: es) X.env = (false, eval e X.env) :: starEach es X.env := by rfl) (hpl : (backTo pos (starEach es X.env)).any (·.1) = false := by rfl) :
    PE X (.Call (.Name x p) (e :: es) [] pos) (tCall (sp q) [] E t) := by
  refine ⟨fun pins s σ H Q I h => ?_⟩
  refine wpAny_Call_Name_kw (ld_glob I hg hm ?_ hdb)
  refine PySem.W.callWith_K (h₀ := X.base) I.ok.mod.kin hk (thn (ha.run pos pins s σ H _ I h) fun us s1 ⟨vs, H1, I1, r, h1⟩ => ⟨I1.kIn, ?_⟩) he hpl
  have h2 : sp q vs H1 Q E := by simpa using h1
  have hl : us.length = ps.length := by rw [← r.length]; exact F.len _ _ _ _ _ h2
  have b := hb s1 us I1.kIn (by rw [List.append_nil]; exact hl)
  rw [List.append_nil] at b
  have P1 := I1.pin q (List.mem_append_left _ hq)
  have hpin : L2H.PinOk X.stack H1 s1 q := ⟨P1.1, P1.2.1, fun hmm => (List.mem_cons.mp (I1.stkSub q.1 hmm)).elim P1.2.2.1 P1.2.2.2.1, P1.2.2.2.2⟩
  refine wpAny_call (codeAny_mono (F.run X.A X.stack s1 H1 ⟨us, []⟩ us vs Q E q hr hot hpin I1.env0 b r h2) fun r s' hq => ?_)
  have z := call_back (call_end I1 (fun e s' => hx pins σ H1 s1 e s' I1) hq)
  rcases r with e | (v | _ | _ | _) <;> exact z
end

/-! ### [elt for x in range(n)] while an exception is handled -/
/-- D the new list; Pv by the turn -/
def tLcR (n : Nat) (g : TG) (te : TE) (vs : List Nat) : TE := fun σ H Q => ∀ D, H D = none → ∃ Pv : Nat → Hp → Prop, Pv 0 (upd H D (.lst [])) ∧
  (∀ i H1, i < n → Pv i H1 → g (.int (i : Int)) (wipe σ vs) H1 fun σ2 H2 => wipe σ2 vs = wipe σ vs ∧ te σ2 H2 fun y H4 => ∃ acc, H4 D = some (.lst acc) ∧ acc.length < sizeLine ∧ Pv (i + 1) (upd H4 D (.lst (acc ++ [y])))) ∧
  ∀ H1, Pv n H1 → Q (.ref D) H1
section
variable {X : Cx}
/-- a walk over range(n), whatever is handled -/
theorem range_at {n : Nat} {j : Nat} {cp p rp : Pos} {pins : List (Addr × Obj)} {σ : St} {H : Hp} {s : Shared} (hn : n < 2 ^ 62) (hgl : Gl X "range") (hm : X.mg "range" = none) (I : Inv X pins σ H s) :
    wpAny (model X.prog X.w) X.A (eval (.Call (.Name "range" p) [.Constant (.int (n : Int)) j cp] [] rp) X.env) (fun v s1 => wpAny (model X.prog X.w) X.A (pyIter v)
      (fun itv s2 => ∃ it, itv = .ref it ∧ Inv X pins σ H s2 ∧ IsRangeIter s2.heap it ((0 : Nat) : Int) ((n : Int) - ((0 : Nat) : Int)) 1 ∧ FpOk X pins H it) X.xe s1) X.xe s := by
  have ha : PA X [.Constant (.int (n : Int)) j cp] (tCons (tC (.int n)) tNil) := pa_cons pe_int pa_nil
  refine Call_ (ld_blt I hgl hm boot_range (PyProof.Rows.callWith_type1 (thn (ha.run rp pins s σ H (fun vs H1 => vs = [.int (n : Int)] ∧ H1 = H) I ⟨rfl, rfl⟩) fun us s1 hx => ?_) rfl rfl))
  obtain ⟨vs, H1, I1, r1, ev, eH⟩ := hx
  subst ev
  subst eH
  obtain ⟨u, rfl, t, rfl⟩ := vals1 r1
  refine call_range_1 ?_
  refine wpAny_pyIter_range (IsRange.new ..) (small_one (by omega) (by omega) (by omega) (by omega)) ?_
  have I2 : Inv X pins σ H1 { s1 with heap := s1.heap.push { cls := .type "range", data := .fields #[.int 0 s1.toks, .int (n : Int) t, .int 1 (s1.toks + 1)] }, toks := s1.toks + 1 + 1 } := I1.kept fun b o e => Heap.get?_push_of_some _ e
  refine ⟨_, rfl, I2.kept (t' := s1.toks + 1 + 1) fun b o e => Heap.get?_push_of_some _ e, ?_, I2.fpOk (Nat.le_refl _) (I2.hok.fresh (Nat.le_refl _))⟩
  have e2 : (n : Int) - ((0 : Nat) : Int) = Builtin.Range.rangeSize 0 (n : Int) 1 := by rw [rangeSize_one]; split <;> omega
  rw [e2]
  exact Heap.get?_push_size _ rfl
theorem range_next {pins : List (Addr × Obj)} {σ : St} {H : Hp} {s : Shared} {it : Addr} {n i : Nat} {E : Value → Shared → Prop} {Q : Option Value → Shared → Prop} (I : Inv X pins σ H s) (f : FpOk X pins H it) (st : IsRangeIter s.heap it (i : Int) ((n : Int) - (i : Int)) 1) (hi : i < n)
    (h : ∀ h' t', IsRangeIter h' it ((i + 1 : Nat) : Int) ((n : Int) - ((i + 1 : Nat) : Int)) 1 → Inv X pins σ H { s with heap := h', toks := t' } → Q (some (.int (i : Int) s.toks)) { s with heap := h', toks := t' }) :
    wpAny (model X.prog X.w) X.A (pyNext (.ref it)) Q E s := by
  obtain ⟨f0, f1, f2, f3, f4, f5⟩ := f
  refine wpAny_pyNext_range_item st (by omega) fun h' st' sb => ?_
  have e1 : (i : Int) + 1 = ((i + 1 : Nat) : Int) := by omega
  have e2 : (n : Int) - (i : Int) - 1 = (n : Int) - ((i + 1 : Nat) : Int) := by omega
  rw [e1, e2] at st'
  exact h h' _ st' (I.turned (fun b o hb e => (sb.2 b hb).trans e) f0 f1 f3 f4 f5)
end
end Rd
set_option maxRecDepth 100000
set_option maxHeartbeats 4000000
namespace Rd
open PySem PySem.Spec PyProof.Rows L2 HotX
section
variable {X : Cx}
theorem pe_lcR {n : Nat} {elt tg : Expr} {scope : Scope} {own : List (Str × Nat)} {j : Nat} {cp p rp pos : Pos} {g : TG} {te : TE} (hn : n < 2 ^ 62) (hot : L2H.HotC X) (hN : X.N.Nodup) (ok : BlkOk X.N X.env.scope scope own) (hgl : Gl X "range") (hm : X.mg "range" = none)
    (hg : ∀ (s : Shared) (H : Hp) (C : Addr) (cl : List (Str × Addr)) (fp : List Addr), PG (X.blk s H scope (compEnvC scope cl C X.env) fp) tg g)
    (he : ∀ (s : Shared) (H : Hp) (C : Addr) (cl : List (Str × Addr)) (fp : List Addr), PE (X.blk s H scope (compEnvC scope cl C X.env) fp) elt te)
    (hs : ∀ x, foldedSetIterable (.Call (.Name "range" p) [.Constant (.int (n : Int)) j cp] [] rp) X.env x = pure x := by intro _; rfl) :
    PE X (.ListComp elt [⟨tg, .Call (.Name "range" p) [.Constant (.int (n : Int)) j cp] [] rp, [], 0⟩] scope pos) (tLcR n g te (own.map (·.2))) := by
  refine ⟨fun pins s σ H Q I h => ?_⟩
  rw [eval_ListComp]
  refine wpAny_comprehension_free (use := none) rfl hs (closure_ok fun y hy e => I.ok.has _ (ok.free y hy e)) ok.kind (fun y hy e => by rw [ok.uniq y hy, e])
    (thn (range_at hn hgl hm I) fun xv s1 hx => thn hx fun itv s2 h2 => ?_)
  obtain ⟨it, rfl, I2, st2, f2⟩ := h2
  refine wpAny_newObj_type (newEnv_comp ?_) (by show 0 ≤ sizeLine; decide)
  generalize hD : s2.heap.objs.size = D
  obtain ⟨Pv, p0, turn, fin⟩ := h D (I2.hok.fresh (Nat.le_of_eq hD))
  -- the new list stands
  generalize hs3 : ({ s2 with heap := s2.heap.push { cls := .type "list", data := .seq ([] : List Value).toArray } } : Shared) = s3
  have h3 : s3.heap = s2.heap.push { cls := .type "list", data := .seq ([] : List Value).toArray } := by rw [← hs3]
  have I3 : Inv X pins σ (upd H D (.lst [])) s3 := by
    rw [← hs3]
    refine I2.laid (t' := s2.toks) (fun b o e => Heap.get?_push_of_some _ e) (Nat.le_of_eq hD) ⟨Nat.zero_le _, [], 0, .nil, ?_⟩
    rw [← hD]
    exact Heap.get?_push_size _ rfl
  have itlt : it < s2.heap.objs.size := Heap.lt_size st2
  have f3 : FpOk X pins (upd H D (.lst [])) it := ⟨by rw [upd_ne (by rw [← hD]; exact Nat.ne_of_lt itlt)]; exact f2.1, f2.2⟩
  have f3' : ∀ b ∈ [it], FpOk X pins (upd H D (.lst [])) b ∧ b < s3.heap.objs.size := fun b hb => by
    obtain rfl : b = it := by simpa using hb
    exact ⟨f3, by rw [h3, Heap.size_push]; exact Nat.lt_succ_of_lt itlt⟩
  have st3 : IsRangeIter s3.heap it ((0 : Nat) : Int) ((n : Int) - ((0 : Nat) : Int)) 1 := by
    rw [h3]
    exact Heap.get?_push_of_some _ st2
  have I4 := block_start I3 ok hN f3'
  have pg := hg s3 (upd H D (.lst [])) s3.heap.objs.size (cellsFrom (s3.heap.objs.size + 1) scope.names (cloFrom X.env.cells scope.names [])) [it]
  have pe := he s3 (upd H D (.lst [])) s3.heap.objs.size (cellsFrom (s3.heap.objs.size + 1) scope.names (cloFrom X.env.cells scope.names [])) [it]
  show codeAny _ _ (.compStart _ 0 (.ref it) (.ref D) (compEnvC scope (cellsFrom (s3.heap.objs.size + 1) scope.names (cloFrom X.env.cells scope.names [])) s3.heap.objs.size X.env)) (compPost (model X.prog X.w) X.A X.xe none (EP X pins σ Q) (.ref D) s3.heap.objs.size) { s3 with heap := pushCells (s3.heap.push { cls := .type "dict", data := .dict #[] }) scope.names }
  generalize hce : compEnvC scope (cellsFrom (s3.heap.objs.size + 1) scope.names (cloFrom X.env.cells scope.names [])) s3.heap.objs.size X.env = ce at I4 pg pe ⊢
  have cL : ce.locals = s3.heap.objs.size := by subst hce; rfl
  generalize hH3 : upd H D (.lst []) = H3 at I3 I4 pg pe p0 f3 f3'
  generalize hs4 : ({ s3 with heap := pushCells (s3.heap.push { cls := .type "dict", data := .dict #[] }) scope.names } : Shared) = s4 at I4 ⊢
  have st4 : IsRangeIter s4.heap it ((0 : Nat) : Int) ((n : Int) - ((0 : Nat) : Int)) 1 := by
    rw [← hs4]
    exact pushCells_keeps _ _ _ _ (Heap.get?_push_of_some _ st3)
  have stat : ∀ {σ' : St} {H' : Hp} {s' : Shared}, Inv (X.blk s3 H3 scope ce [it]) [] σ' H' s' → H' it = none → FpOk (X.blk s3 H3 scope ce [it]) [] H' it := fun {σ' H' s'} I' hn =>
    ⟨hn, (I'.ok.exf it (by simp)).1, I'.ok.exfs it (by simp), .inl (by simp), fun x c e => (I'.ok.exf it (by simp)).2 x c e, fun p hp => absurd (show p ∈ ([] : List (Addr × Obj)) ++ [] from hp) (by simp)⟩
  have loop : codeAny (model X.prog X.w) X.A (.compLoop (.ListComp elt [⟨tg, .Call (.Name "range" p) [.Constant (.int (n : Int)) j cp] [] rp, [], 0⟩] scope pos) 0 (.ref it) (.ref D) ce) (compPost (model X.prog X.w) X.A X.xe none (EP X pins σ Q) (.ref D) s3.heap.objs.size) s4 := by
    refine compLoop_any (fun m s' => ∃ i H', m = n - i ∧ i ≤ n ∧ Inv (X.blk s3 H3 scope ce [it]) [] (wipe σ (own.map (·.2))) H' s' ∧ IsRangeIter s'.heap it (i : Int) ((n : Int) - (i : Int)) 1 ∧ H' it = none ∧ Pv i H') ?_ (n - 0) ⟨0, H3, rfl, Nat.zero_le _, I4, st4, f3.1, p0⟩
    rintro m s5 ⟨i, H5, rfl, hi, I5, st5, n5, w5⟩
    by_cases hlt : i < n
    · refine range_next (X := X.blk s3 H3 scope ce [it]) I5 (stat I5 n5) st5 hlt fun h6 t6 st6 I6 => ?_
      have go : ∀ {Q' : Unit → Shared → Prop} {E'}, Q' () { s5 with heap := h6, toks := t6 } → wpAny (model X.prog X.w) X.A (letOwnedTupleGo tg (.ref it) (.int (i : Int) s5.toks)) Q' E' { s5 with heap := h6, toks := t6 } := fun {Q' E'} q =>
        go_of (s := { s5 with heap := h6, toks := t6 }) (n := "range_iterator") st6 rfl rfl (by decide) q
      refine go ?_
      have I6' := I6.pinned (fp := [it]) (fun b hb => (by obtain rfl : b = it := by simpa using hb
                                                          exact stat I6 n5)) fun b hb => (by obtain rfl : b = it := by simpa using hb
                                                                                             exact ⟨_, st6, fun v z => by have z' : Data.fields _ = Data.cell v := z; cases z'⟩)
      refine thnF (pg.run _ _ _ H5 (.int (i : Int)) (.int (i : Int) s5.toks) _ I6' ⟨_, rfl⟩ (turn i H5 hlt w5)) fun _ s8 ⟨σ8, H8, I8, hw8, q8⟩ => ?_
      refine wpAny_tests_nil ?_
      rw [if_pos rfl]
      refine thnF (pe.run _ s8 σ8 H8 _ I8 q8) fun z s10 ⟨yv, H10, I10, r10, acc, hD10, hz10, nx⟩ => ?_
      refine app_ok (X := X.blk s3 H3 scope ce [it]) I10 hD10 hz10 r10 fun s11 I11 => ?_
      obtain ⟨e11, n11, _⟩ := I11.pin (it, _) (List.mem_append_right _ (List.mem_append_right _ (mem_pinsAt (by simp) st6)))
      refine ⟨n - (i + 1), by omega, i + 1, _, rfl, hlt, (I11.unpinned (pins := [])).weak (by rw [← hw8, wipe_length]) (fun jj v e => ?_), e11, n11, nx⟩
      rw [← hw8] at e
      exact (wipe_some e).1
    · have ei : i = n := by omega
      subst ei
      have I7 : Inv X pins σ H5 s5 := I3.call' (ch := [it]) I5.os I5.base I5.hok I5.bare fun b hb => (by
        obtain rfl : b = it := by simpa using hb
        exact ⟨f3.2.2.2.1, f3.2.1, f3.2.2.2.2.1, f3.2.2.2.2.2⟩)
      obtain ⟨x1, hat⟩ := hot.at I7
      refine pyNext_range_end_hot hat st5 (by omega) fun h' eb => ?_
      have I8 : Inv X pins σ H5 { s5 with heap := h' } := I7.kept (t' := s5.toks) fun b o e => eb b o e
      have nC : H5 s3.heap.objs.size = none := by
        have z : H5 ce.locals = none := I5.free
        rw [cL] at z
        exact z
      obtain ⟨mm, hns, _⟩ := I5.loc
      have hns : s5.heap.Ns ce.locals mm := hns
      rw [cL] at hns
      obtain ⟨f0, f1, f2', f3a, f4, f5⟩ := I3.fpOk (Nat.le_refl _) nC
      refine ⟨mm, hns.keeps fun b o e => eb b o e, fun h'' sb => ?_⟩
      exact ⟨.ref D, H5, I8.turned (t' := s5.toks) (fun b o hb e => (sb.2 b hb).trans e) f0 f1 f3a f4 f5, rfl, fin H5 w5⟩
  exact codeAny_compStart_list loop (wpAny_pyIter_rangeiter st4 loop)
end
end Rd
set_option maxRecDepth 100000
set_option maxHeartbeats 4000000
namespace Rd
open PySem PySem.Spec PyProof.Rows L2

/-! ### the end of a law whose def asks that no guard stands -/
/-- the script, locked, unless it is the module's own; nothing else -/
def scriptH (K : PySem.W.Frag) (a : Addr) (vs : List Value) (ns : List Int) : Hp := fun b =>
  if b = a ∧ K.lookup a = none then some (.frz { cls := .type "list", data := .seq vs.toArray } (.lst (ns.map V.int))) else none
theorem scriptH_only (K : PySem.W.Frag) (a : Addr) (vs : List Value) (ns : List Int) : Only (scriptH K a vs ns) := fun b => by
  unfold scriptH
  split
  · exact .inr ⟨_, _, rfl⟩
  · exact .inl rfl
theorem scriptH_at {K : PySem.W.Frag} {a b : Addr} {vs : List Value} {ns : List Int} {o : HO} (h : scriptH K a vs ns b = some o) : b = a ∧ K.lookup a = none ∧ o = .frz { cls := .type "list", data := .seq vs.toArray } (.lst (ns.map V.int)) := by
  unfold scriptH at h
  split at h
  · rename_i q
    exact ⟨q.1, q.2, (Option.some.inj h).symm⟩
  · cases h
theorem law_callG {P : Program} {w : World} {K : PySem.W.Frag} {mg mb : Str → Option Value} {CX : CXT} {k : Nat} {fa a : Addr} {fd : FuncData} {x : Str} {sp : Sp} {s1 : Shared} {vs : List Value} {ns : List Int}
    (KX : K.In s1.heap) (hns : s1.heap.Ns mainGlobals mg) (hb : s1.heap.Ns builtinsNs mb) (hbb : ∀ x : Str, x ≠ "__name__" → mb x = bootBuiltins x) (hlim : s1.heap.NoLimit) (hg : s1.gens = #[])
    (ha : s1.heap.get? a = some { cls := .type "list", data := .seq vs.toArray }) (hi : IntsAre vs ns) (hl : ns.length ≤ sizeLine) (hr : Room k callerA)
    (F : ∀ base : Heap, K.In base → base.Ns mainGlobals mg → FnG P w K mg base CX k fa fd [x] sp) (hbind : ∀ (s : Shared) (u : Value), BindsTo s fd ⟨[u], []⟩ [(x, u)])
    (hsp : ∀ H : Hp, Only H → SqL K H a (ns.map V.int) → sp [.ref a] H (fun v _ => v = .bl true) fun _ _ _ => False) (hCX : ∀ H e s', CX [] H s1 (fun _ _ _ => False) e s' → False) :
    codeAny (model P w) callerA (.call (.ref fa) ⟨[.ref a], []⟩) (fun r s' => r = .ok (.ret (.bool true)) ∧ OldK s1.heap s'.heap ∧ s'.os = s1.os ∧ AllBare s'.gens) s1 := by
  have rv := vals_ints hi
  have lenV := hi.length
  let H := scriptH K a vs ns
  have hS : SqL K H a (ns.map V.int) := by
    cases hk : K.lookup a with
    | none => exact .inl (.inr ⟨_, if_pos ⟨rfl, hk⟩⟩)
    | some o =>
      have e := KX a o hk
      rw [ha] at e
      cases e
      exact .inr ⟨_, vs.toArray, _, hk, rfl, rfl, rfl, by rw [List.size_toArray, lenV]; exact hl, by simpa using rv⟩
  have hok : HOk P w H s1.heap := fun b o z => by
    obtain ⟨rfl, hk, rfl⟩ := scriptH_at z
    exact ⟨ha, by rw [List.length_map]; exact hl, vs, _, rv, ha⟩
  -- what is read of the module lies outside of what is tracked
  have out : ∀ {b : Addr} {o : Obj}, s1.heap.get? b = some o → ((∃ es ep, o.data = .dict es ep) ∨ K.lookup b = some o) → (hidT s1.heap H).get? b = some o := fun {b o} e h => hidT_get e (by
    cases q : H b with
    | none => rfl
    | some u =>
      obtain ⟨rfl, hk, _⟩ := scriptH_at q
      rcases h with ⟨es, ep, d⟩ | h
      · rw [ha] at e
        cases e
        cases d
      · rw [hk] at h
        cases h)
  have nsK : ∀ {b : Addr} {m : Str → Option Value}, s1.heap.Ns b m → (hidT s1.heap H).Ns b m := fun ⟨o, es, ep, e, d, r⟩ => ⟨o, es, ep, out e (.inl ⟨es, ep, d⟩), d, r⟩
  have hKb : K.In (hidT s1.heap H) := fun b o e => out (KX b o e) (.inr e)
  have hM : Mod K mg (hidT s1.heap H) := ⟨hKb, nsK hns, ⟨mb, nsK hb, hbb⟩, let ⟨mc, h1, h2⟩ := hlim; ⟨mc, nsK h1, h2⟩⟩
  have e0 : Env0 P w K mg (hidT s1.heap H) callerA [] s1 H := ⟨rfl, hM, fun b o e => of_hidT e, Nat.le_of_eq (hidT_size _ _), trivial, fun b hb => absurd (show b ∈ ([] : List Addr) from hb) (by simp), hok, .of_eq hg⟩
  refine codeAny_mono ((F _ hKb (nsK hns)).run callerA [] s1 H ⟨[.ref a], []⟩ [.ref a] [.ref a] _ _ rfl hr e0 (hbind s1 (.ref a)) (.cons rfl .nil) (hsp H (scriptH_only K a vs ns) hS)) fun r s' h => ?_
  cases r with
  | error e => exact (hCX H e s' h).elim
  | ok fl =>
    cases fl with
    | next => exact False.elim h
    | brk => exact False.elim h
    | cont => exact False.elim h
    | ret u =>
      obtain ⟨v, H', os, bare, un, hok', r', q⟩ := h
      have q' : v = .bl true := q
      subst q'
      obtain rfl : u = Value.bool true := r'
      refine ⟨rfl, OldK.of_keep fun b o e => ?_, os, bare⟩
      cases q : H b with
      | none => exact un.keep b o e q (fun z => absurd (show b ∈ ([] : List Addr) from z) (by simp)) (by simp)
      | some u =>
        obtain ⟨rfl, hk, rfl⟩ := scriptH_at q
        obtain ⟨e1, _⟩ := hok _ _ q
        obtain ⟨e2, _⟩ := hok' _ _ (un.frzs _ _ _ q)
        rw [e] at e1
        cases e1
        exact e2
theorem walk_ofG {l : PySem.W.OpenLaw} {n k : Nat} {q : Program} {loose : List Str} {XP : (Str → Option Value) → Heap → Prop} {YP : World → Heap → Prop} {d : DefRec} {K : Params → PySem.W.Frag} {CX : World → CXT} {sp : World → Sp} {x : Str}
    (hn : l.most = some n) (hn2 : n ≤ sizeLine) (hdf : d.params.defaults = []) (hr : Room k callerA) (hY : ∀ (w : World) (h : Heap), YP w h → (K w.params).In h)
    (F : ∀ (w : World) (mg : Str → Option Value) (fa : Addr) (h : Heap), (K w.params).In h → h.Ns mainGlobals mg → mg d.name = some (.ref fa) →
      ∃ fd : FuncData, (∀ (s : Shared) (u : Value), BindsTo s fd ⟨[u], []⟩ [(x, u)]) ∧ ∀ base : Heap, (K w.params).In base → base.Ns mainGlobals mg → FnG l.prog w (K w.params) mg base (CX w) k fa fd [x] (sp w))
    (hsp : ∀ (w : World) (H : Hp) (a : Addr) (ns : List Int), ns.length ≤ n → Only H → SqL (K w.params) H a (ns.map V.int) → sp w [.ref a] H (fun v _ => v = .bl true) fun _ _ _ => False)
    (hCX : ∀ (w : World) (H : Hp) (s : Shared) (e : Value) (s' : Shared), CX w [] H s (fun _ _ _ => False) e s' → False) :
    PySem.W.WalkO q loose XP YP l.row.toRowW d [] (fun f vs => PySem.call f vs) := by
  refine Att.attach_call hn hdf fun w s₀ s₁ mg mb fa o pm cd doc a vs ns G Y ho hd hcd hmg hobj hints hlen hg => ?_
  obtain ⟨fd, hb, hF⟩ := F w mg fa _ (hY w _ Y) G.T.g hmg
  exact law_callG (hY w _ Y) G.T.g G.T.b G.T.builtins G.T.nolimit hg hobj hints (Nat.le_trans hlen hn2) hr hF hb (fun H hO hS => hsp w H a ns hlen hO hS) fun H e s' => hCX w H s₁ e s'
end Rd
set_option maxRecDepth 100000
set_option maxHeartbeats 4000000
namespace RD
open PySem PySem.Spec PyProof.Rows L2 Rd
/-! ### the errors that keep what they are given -/
structure Err (K : PySem.W.Frag) (mg : Str → Option Value) (x : Str) (C fI : Addr) : Prop where
  o : OexC K C
  xf : XfC K C
  ec : ExcC K C
  g : mg x = some (.ref C)
  i : PySem.W.findIn K (.ref C) "__init__" = some (some (.ref fI))
  t : PySem.W.typeIn K (.ref fI) = some (.type "function")
  n : PySem.W.findIn K (.ref C) "at" = some none
structure Bse (K : PySem.W.Frag) (mg : Str → Option Value) (C0 : Addr) : Prop where
  g : mg "RingsError" = some (.ref C0)
  h1 : PySem.W.specialIn K (.ref C0) "__getattribute__" = some (some (.builtin "type.__getattribute__"))
  h2 : PySem.W.readsIn K C0 (.type "type") = true
  h3 : PySem.W.findCls K (.ref C0) (.type "type") "__init__" = some (.val (.builtin "ValueError.__init__"))
def spInit (C : Addr) : Sp := fun vs H Q _ => ∃ (a : Addr) (v : V), vs = [.ref a, v] ∧ H a = some (exo a C none) ∧ ∀ d, H d = none → d ≠ a → Q .non (upd (upd H d (exd d [("at", v)])) a (exo a C (some d)))
abbrev i_InvalidKind : Stmt := inClass k_InvalidKind 0
/-- what is known of an error's class -/
structure Er (P : Program) (w : World) (K : PySem.W.Frag) (mg : Str → Option Value) (base : Heap) (x : Str) (C : Addr) : Prop where
  ex : ∃ fI fd, Err K mg x C fI ∧ FnOk P w K mg base CX0 1 fI fd ["self", "at"] (spInit C) ∧ Binds K fd ["self", "at"] []
/-- the error is raised: E hears its class, its dict, the heap -/
def Raise (E : XK) (C : Addr) (v : V) (H : Hp) : Prop := ∀ d, H d = none → E (.ref C) (some d) (upd H d (.xd [("at", v)]))
theorem del_eq {H : Hp} {a d : Addr} {o1 o2 o3 o : HO} (na : H a = none) (ne : d ≠ a) : upd (del (upd (upd (upd H a o1) d o2) a o3) a) d o = upd H d o := by
  funext b
  by_cases hd : b = d
  · subst hd
    rw [upd_same, upd_same]
  · rw [upd_ne hd, upd_ne hd]
    by_cases ha : b = a
    · subst ha
      rw [del_same, na]
    · rw [del_ne ha, upd_ne ha, upd_ne hd, upd_ne ha]
theorem raise_read {C : Addr} {E : XK} {H : Hp} {v : V} (k : Raise E C v H) (a : Addr) (na : H a = none) :
    spInit C [.ref a, v] (upd H a (exo a C none)) (fun z H2 => z = .non ∧ ∃ (d : Addr) (fs : List (Str × V)), H2 a = some (exo a C (some d)) ∧ H2 d = some (exd d fs) ∧ H d = none ∧ E (.ref C) (some d) (upd (del H2 a) d (.xd fs))) (fun _ _ _ => False) := by
  refine ⟨a, v, rfl, upd_same, fun d nd ne => ?_⟩
  have nH : H d = none := by
    rw [upd_ne ne] at nd
    exact nd
  refine ⟨rfl, d, [("at", v)], upd_same, by rw [upd_ne ne]; exact upd_same, nH, ?_⟩
  rw [del_eq na ne]
  exact k d nH
section
variable {P : Program} {w : World} {K : PySem.W.Frag} {mg : Str → Option Value} {base : Heap}
theorem sc_iK : FnScope ["self", "at"] ["self", "at"] (defScope i_InvalidKind) := ⟨rfl, rfl, rfl, by decide +kernel, rfl, by decide +kernel, by decide +kernel⟩
theorem er_InvalidKind {f C C0 : Addr} {fd : FuncData} (F : Fun K "__init__" "InvalidKind.__init__" i_InvalidKind f fd) (B : Bse K mg C0) (T : Err K mg "InvalidKind" C f) (b : Binds K fd ["self", "at"] []) : Er P w K mg base "InvalidKind" C := by
  refine ⟨f, fd, T, F.ok sc_iK (fun vs H Q E h => ?_) (fun cdv A outer s H vs Q E hr h => ?_), b⟩
  · obtain ⟨a, v, rfl, _⟩ := h
    rfl
  · obtain ⟨a, v, rfl, ha, k⟩ := h
    refine ⟨_, pss_cons (ps_expr (pe_reinit rfl B.g B.h1 B.h2 B.h3 (pa_cons (pv 0) (pa_cons pe_str pa_nil)))) (pss_one (ps_ost (pv 0) (pv 1))), ?_⟩
    exact ⟨_, rfl, a, C, _, rfl, by decide, T.o, ha, _, rfl, _, rfl, a, C, rfl, T.o, T.n, .inl ⟨ha, fun d hd hne => k d hd hne⟩⟩
end
/-- a def that may raise, by its body -/
theorem okN {P : Program} {w : World} {K : PySem.W.Frag} {mg : Str → Option Value} {base : Heap} {x qual : Str} {st : Stmt} {f : Addr} {fd : FuncData} {N ps : List Str} {k : Nat} {sp : Sp} (F : Fun K x qual st f fd) (S : FnScope N ps (defScope st)) (len : ∀ vs H Q E, sp vs H Q E → vs.length = ps.length)
    (hbody : ∀ (cdv : Value) (A : Around) (outer : List Env) (s : Shared) (H : Hp) (vs : List V) (Q : VK) (E : XK), Room k (A.deeper (envOfC qual (defScope st) s.heap.objs.size f cdv)) → sp vs H Q E →
      ∃ t, PSs (cxOf (L2N.CX P w) P w K mg base N qual (defScope st) f cdv A outer s H E) (defBody st) t ∧ t { nx := fun _ H' => Q .non H', rt := Q } (start N vs) H) : FnOk P w K mg base (L2N.CX P w) (k + 1) f fd ps sp := by
  obtain ⟨oc, od, kV, doc, pm, an, cdv, ct, osl, rfl, lk, hcd⟩ := F.ex
  exact fn_of lk hcd S len (fun A outer s H vs Q E hr h => hbody cdv A outer s H vs Q E hr h)
/-- what a callee raises is raised on -/
theorem passN {P : Program} {w : World} {K : PySem.W.Frag} {mg : Str → Option Value} {base : Heap} {N : List Str} {qual : Str} {scope : Scope} {f : Addr} {cdv : Value} {A : Around} {outer : List Env} {s : Shared} {H : Hp} {E : XK} :
    Passes (L2N.CX P w) (cxOf (L2N.CX P w) P w K mg base N qual scope f cdv A outer s H E) E := L2N.passes_call (W := fun cls d _ H' => E cls d H') (L2N.takes_of rfl rfl rfl rfl) fun _ _ _ _ h => h
/-! ### check_turned, check_triples -/
/-- the entry i of turned is right -/
def turnOk (xs : List V) (i : Nat) : Bool := match xs[i]? with
  | some (.int b) => isBelow xs.length (.int b) && (match xs[b.toNat]? with
    | some y => isBelow xs.length y && decide (y = .int i)
    | none => false)
  | _ => false
def turnBad (xs : List V) : Option Nat := if xs = [] then some 0 else (List.range xs.length).find? fun i => !turnOk xs i
def sp_check_turned (C : Addr) : Sp := fun vs H Q E => ∃ x, vs = [x] ∧ ((Pln x ∧ ∀ H1, Same H H1 → Raise E C (.int 0) H1) ∨ ∃ a xs o, x = .ref a ∧ H a = some o ∧ (o = .lst xs ∨ o = .tup xs) ∧ (∀ x ∈ xs, Pln x) ∧
  (turnBad xs = none → ∀ H1, Same H H1 → Q .non H1) ∧ ∀ n, turnBad xs = some n → ∀ H1, Same H H1 → Raise E C (.int (n : Nat)) H1)
end RD
set_option maxRecDepth 100000
set_option maxHeartbeats 4000000
namespace RD
open PySem PySem.Spec PyProof.Rows L2 Rd
theorem same0 (H : Hp) : Same H H := fun _ _ q => q
theorem sTr {H H1 H2 : Hp} (a : Same H H1) (b : Same H1 H2) : Same H H2 := fun c o q => b c o (a c o q)
theorem ixA {K : PySem.W.Frag} {H : Hp} {a : Addr} {xs : List V} {j : Nat} {v : V} {Q : VK} (h : SqA K H a xs) (e : xs[j]? = some v) (k : Q v H) : rIx K (.ref a) (.int (j : Nat)) H Q :=
  h.elim (fun z => .inl ⟨a, xs, j, v, rfl, rfl, .of z, atI_nat e, k⟩) fun z => .inr (.inl ⟨a, xs, j, v, rfl, rfl, .of z, atI_nat e, k⟩)
theorem below_int {n : Nat} {x : V} (h : isBelow n x = true) : ∃ j : Nat, x = .int (j : Nat) ∧ j < n := by
  cases x with
  | int b =>
    simp only [isBelow, Bool.and_eq_true, decide_eq_true_eq] at h
    exact ⟨b.toNat, by rw [Int.toNat_of_nonneg h.1], by omega⟩
  | _ => cases h
theorem turnBad_at {xs : List V} {i : Nat} (h : i < xs.length) (ok : ∀ j, j < i → turnOk xs j = true) (bad : turnOk xs i = false) : turnBad xs = some i := by
  unfold turnBad
  rw [if_neg (by rintro rfl; simp at h)]
  exact find_range _ h (by rw [bad] <;> rfl) fun j hj => by rw [ok j hj] <;> rfl
theorem turnBad_no {xs : List V} (ne : xs ≠ []) (ok : ∀ j, j < xs.length → turnOk xs j = true) : turnBad xs = none := by
  unfold turnBad
  rw [if_neg ne]
  exact find_range_none _ fun j hj => by rw [ok j hj] <;> rfl
section
variable {P : Program} {w : World} {K : PySem.W.Frag} {mg : Str → Option Value} {base : Heap}
theorem sc_check_turned : FnScope ["turned", "many", "x", "back"] ["turned"] (defScope s_check_turned) := ⟨rfl, rfl, rfl, by decide +kernel, rfl, by decide +kernel, by decide +kernel⟩
theorem ok_check_turned {C : Addr} (D : Df K mg "check_turned" s_check_turned ["turned"]) (M : Vals_ K mg) (B : Bn mg) (T : Er P w K mg base "InvalidKind" C) : FnOk P w K mg base (L2N.CX P w) 4 D.f D.fd ["turned"] (sp_check_turned C) := by
  have GS : FnOk P w K mg base CX0 1 M.s.f M.s.fd ["value"] (sp_is_sequence K) := ok_is_sequence M.s B
  have GB : FnOk P w K mg base CX0 3 M.b.f M.b.fd ["value", "many"] sp_is_below := ok_is_below M.b M.n M.i B
  obtain ⟨fI, fdI, TI, GI, bI⟩ := T.ex
  refine okN D.F sc_check_turned (fun vs H Q E h => ?_) (fun cdv A outer s H vs Q E hr h => ?_)
  · obtain ⟨x, rfl, _⟩ := h
    rfl
  · obtain ⟨x, rfl, h⟩ := h
    have gn := B.gn
    have hr1 := hr.mono (show 1 ≤ 3 by decide)
    have hr2 := hr.mono (show 2 ≤ 3 by decide)
    refine ⟨_, pss_cons (ps_if (PW.pt (pw_or (pt_not (pt_val (pe_call GS hr1 rfl M.s.g M.s.F.kp M.s.b .nil pass0 (pa_cons (pv 0) pa_nil)))) (pw_or1 (pt_cmpR op_eq (pe_callB call_len_seq rfl (gn _ (by decide)) PySem.boot_len (pa_cons (pv 0) pa_nil)) pe_int (nomark _)))))
        (pss_one (L2N.ps_raise rfl (L2N.takes_of rfl rfl rfl rfl) (pmk_oexN TI.o TI.i TI.t GI hr2 bI .nil pass0 rfl TI.g (pa_cons pe_int pa_nil)))) pss_nil)
      (pss_cons (ps_set (i := 1) sc_check_turned.nd rfl (.inl rfl) (pe_callB call_len_seq rfl (gn _ (by decide)) PySem.boot_len (pa_cons (pv 0) pa_nil)))
      (pss_one (ps_for (passes_of rfl) rfl (pi_enumA rfl (gn _ (by decide)) (pa_cons (pv 0) pa_nil)) (pg_tup rfl (pgs_cons (pg_name (i := 2) sc_check_turned.nd rfl (.inl rfl)) (pgs_cons (pg_name (i := 3) sc_check_turned.nd rfl (.inl rfl)) pgs_nil)))
        (pss_cons (ps_if (pt_not (pt_val (pe_call GB hr rfl M.b.g M.b.F.kp M.b.b .nil pass0 (pa_cons (pv 3) (pa_cons (pv 1) pa_nil)))))
            (pss_one (L2N.ps_raise rfl (L2N.takes_of rfl rfl rfl rfl) (pmk_oexN TI.o TI.i TI.t GI hr2 bI .nil pass0 rfl TI.g (pa_cons (pv 2) pa_nil)))) pss_nil)
        (pss_one (ps_if (PW.pt (pw_or (pt_not (pt_val (pe_call GB hr rfl M.b.g M.b.F.kp M.b.b .nil pass0 (pa_cons (pe_ix ix_seq (pv 0) (pv 3) (fun _ _ => rfl)) (pa_cons (pv 1) pa_nil))))) (pw_or1 (pt_cmpR op_ne (pe_ix ix_seq (pv 0) (pv 3) (fun _ _ => rfl)) (pv 2) (nomark _)))))
            (pss_one (L2N.ps_raise rfl (L2N.takes_of rfl rfl rfl rfl) (pmk_oexN TI.o TI.i TI.t GI hr2 bI .nil pass0 rfl TI.g (pa_cons (pv 2) pa_nil)))) pss_nil)))))), ?_⟩
    rcases h with ⟨px, k⟩ | ⟨a, xs, o, rfl, ho, ho2, px, k1, k2⟩
    · refine ⟨x, rfl, x, rfl, .inl ⟨px, fun H1 s1 => ⟨_, rfl, iteT (iteT ⟨(show 1 ≤ 1000 by decide), fun a na => raise_read (k H1 s1) a na⟩)⟩⟩⟩
    · have sq : SqA K H a xs := by
        rcases ho2 with rfl | rfl
        · exact .inl ho
        · exact .inr ho
      refine ⟨_, rfl, _, rfl, .inr ⟨a, xs, rfl, sq, fun H1 s1 => ⟨_, rfl, iteF ?_⟩⟩⟩
      have sq1 := sq.same s1
      refine ⟨_, rfl, a, xs, rfl, sq1.sq, rfl, _, rfl, ?_⟩
      by_cases ce : xs = []
      · subst ce
        refine iteT ⟨(show 1 ≤ 1000 by decide), fun a na => raise_read (k2 0 rfl H1 s1) a na⟩
      · have ne : (xs.length : Int) ≠ 0 := fun z => ce (List.eq_nil_of_length_eq_zero (by omega))
        refine ite2 (fun c => absurd (V.int.inj (of_decide_eq_true c)) ne) fun _ => ?_
        refine ⟨_, rfl, a, xs, rfl, sq1.sq, _, rfl, a, xs, o, rfl, s1 _ _ ho, ho2, fun J EJ => for_enum EJ (fun i σ H2 => (∃ o2 o3, σ = [some (.ref a), some (.int xs.length), o2, o3]) ∧ Same H1 H2 ∧ ∀ j, j < i → turnOk xs j = true) ⟨⟨_, _, rfl⟩, same0 _, fun j hj => absurd hj (Nat.not_lt_zero j)⟩
          (fun i σ H2 ⟨_, s2, _⟩ => s2 _ _ (s1 _ _ ho)) (fun i x σ H2 Ta hx => ?_) (fun σ H2 ⟨_, s2, ok⟩ => k1 (turnBad_no ce ok) H2 (sTr s1 s2))⟩
        rintro ⟨⟨o2, o3, rfl⟩, s2, ok⟩ nT
        have s3 : Same H1 (upd H2 Ta (.tup [.int (i : Nat), x])) := smu s2 nT
        have li : i < xs.length := (List.getElem?_eq_some_iff.mp hx).1
        refine ⟨Ta, _, rfl, .of upd_same, rfl, _, _, rfl, _, _, rfl, rfl, ?_⟩
        generalize upd H2 Ta (.tup [.int (i : Nat), x]) = H3 at s3 ⊢
        have pl := px x (List.mem_of_getElem? hx)
        refine ⟨_, rfl, _, rfl, x, xs.length, rfl, pl, _, rfl, ?_⟩
        cases c1 : isBelow xs.length x with
        | false =>
          have bad : turnOk xs i = false := by
            unfold turnOk
            rw [hx]
            cases x <;> first | rfl | (dsimp only; rw [c1] <;> rfl)
          exact iteT ⟨_, rfl, (show 1 ≤ 1000 by decide), fun a na => raise_read (k2 i (turnBad_at li ok bad) H3 (sTr s1 s3)) a na⟩
        | true =>
          obtain ⟨j, rfl, lj⟩ := below_int c1
          refine iteF ?_
          obtain ⟨y, hy⟩ : ∃ y, xs[j]? = some y := ⟨_, List.getElem?_eq_getElem lj⟩
          have sq3 := (sq1.same s3)
          refine ⟨_, rfl, _, rfl, ixA sq3 hy ⟨_, rfl, y, xs.length, rfl, px y (List.mem_of_getElem? hy), _, rfl, ?_⟩⟩
          have val : turnOk xs i = (isBelow xs.length y && decide (y = .int i)) := by
            unfold turnOk
            rw [hx]
            dsimp only
            rw [c1, Bool.true_and, Int.toNat_natCast, hy]
          cases c2 : isBelow xs.length y with
          | false =>
            rw [c2, Bool.false_and] at val
            exact iteT (iteT ⟨_, rfl, (show 1 ≤ 1000 by decide), fun a na => raise_read (k2 i (turnBad_at li ok val) H3 (sTr s1 s3)) a na⟩)
          | true =>
            obtain ⟨m, rfl, _⟩ := below_int c2
            refine iteF ⟨_, rfl, _, rfl, ixA sq3 hy ⟨_, rfl, rfl, _, rfl, ?_⟩⟩
            rw [c2, Bool.true_and] at val
            cases c3 : decide (V.int (m : Nat) = V.int (i : Nat)) with
            | true =>
              rw [c3] at val
              exact iteF ⟨⟨_, _, rfl⟩, s3, fun j hj => (Nat.lt_succ_iff_lt_or_eq.mp hj).elim (ok j) fun e => e ▸ val⟩
            | false =>
              rw [c3] at val
              exact iteT ⟨_, rfl, (show 1 ≤ 1000 by decide), fun a na => raise_read (k2 i (turnBad_at li ok val) H3 (sTr s1 s3)) a na⟩
end
end RD
set_option maxRecDepth 100000
set_option maxHeartbeats 4000000
namespace RD
open PySem PySem.Spec PyProof.Rows L2 Rd
/-- b: whether x is a triple of numbers below m -/
def Itm (H : Hp) (m : Int) (x : V) (b : Bool) : Prop := (Pln x ∧ b = false) ∨ (∃ a xs, x = .ref a ∧ H a = some (.lst xs) ∧ b = false) ∨ ∃ a xs, x = .ref a ∧ H a = some (.tup xs) ∧ (∀ x ∈ xs, Pln x) ∧ b = rowB 3 m xs
theorem Itm.same {H H1 : Hp} {m : Int} {x : V} {b : Bool} (h : Itm H m x b) (s : Same H H1) : Itm H1 m x b := by
  rcases h with h | ⟨a, xs, e, ha, q⟩ | ⟨a, xs, e, ha, q⟩
  · exact .inl h
  · exact .inr (.inl ⟨a, xs, e, s _ _ ha, q⟩)
  · exact .inr (.inr ⟨a, xs, e, s _ _ ha, q⟩)
/-- a triple's address, its ints -/
abbrev Tri := Addr × List Int
theorem pln_ints {ns : List Int} : ∀ x ∈ ns.map V.int, Pln x := fun x hx => by
  obtain ⟨n, _, rfl⟩ := List.mem_map.mp hx
  exact .int n
def triOk (m : Int) (ns : List Int) : Bool := decide (ns.length = 3) && ns.all fun n => decide (0 ≤ n) && decide (n < m)
theorem rowB_ints {m : Int} {ns : List Int} : rowB 3 m (ns.map V.int) = triOk m ns := by
  unfold rowB triOk
  rw [List.length_map, List.all_map]
  congr 1
  rw [decide_eq_decide]
  omega
theorem Itm.tri {H : Hp} {m : Int} {q : Tri} (h : H q.1 = some (.tup (q.2.map V.int))) : Itm H m (.ref q.1) (triOk m q.2) := .inr (.inr ⟨_, _, rfl, h, pln_ints, rowB_ints.symm⟩)
def firstNo (bs : List Bool) : Option Nat := (List.range bs.length).find? fun i => !bs.getD i true
theorem firstNo_at {bs : List Bool} {i : Nat} (h : bs[i]? = some false) (ok : ∀ j, j < i → bs[j]? = some true) : firstNo bs = some i := by
  refine find_range _ (List.getElem?_eq_some_iff.mp h).1 (by simp [List.getD, h]) fun j hj => ?_
  simp [List.getD, ok j hj]
theorem firstNo_no {bs : List Bool} (ok : ∀ j, j < bs.length → bs[j]? = some true) : firstNo bs = none :=
  find_range_none _ fun j hj => by simp [List.getD, ok j hj]
def sp_check_triples (C : Addr) : Sp := fun vs H Q E => ∃ x m, vs = [x, .int m] ∧ ((Pln x ∧ ∀ H1, Same H H1 → Raise E C (.int m) H1) ∨ ∃ a xs o bs, x = .ref a ∧ H a = some o ∧ (o = .lst xs ∨ o = .tup xs) ∧ bs.length = xs.length ∧
  (∀ (i : Nat) x b, xs[i]? = some x → bs[i]? = some b → Itm H m x b) ∧ (firstNo bs = none → ∀ H1, Same H H1 → Q .non H1) ∧ ∀ n, firstNo bs = some n → ∀ H1, Same H H1 → Raise E C (.int (m + (n : Nat))) H1)
section
variable {P : Program} {w : World} {K : PySem.W.Frag} {mg : Str → Option Value} {base : Heap}
theorem sc_check_triples : FnScope ["triples", "many", "at", "triple"] ["triples", "many"] (defScope s_check_triples) := ⟨rfl, rfl, rfl, by decide +kernel, rfl, by decide +kernel, by decide +kernel⟩
theorem ok_check_triples {C : Addr} (D : Df K mg "check_triples" s_check_triples ["triples", "many"]) (M : Vals_ K mg) (B : Bn mg) (T : Er P w K mg base "InvalidKind" C) : FnOk P w K mg base (L2N.CX P w) 7 D.f D.fd ["triples", "many"] (sp_check_triples C) := by
  have GS : FnOk P w K mg base CX0 1 M.s.f M.s.fd ["value"] (sp_is_sequence K) := ok_is_sequence M.s B
  have GT : FnOk P w K mg base CX0 6 M.t.f M.t.fd ["value", "many"] sp_is_triple := ok_is_triple M B
  obtain ⟨fI, fdI, TI, GI, bI⟩ := T.ex
  refine okN D.F sc_check_triples (fun vs H Q E h => ?_) (fun cdv A outer s H vs Q E hr h => ?_)
  · obtain ⟨x, m, rfl, _⟩ := h
    rfl
  · obtain ⟨x, m, rfl, h⟩ := h
    have gn := B.gn
    have hr1 := hr.mono (show 1 ≤ 6 by decide)
    have hr2 := hr.mono (show 2 ≤ 6 by decide)
    refine ⟨_, pss_cons (ps_if (pt_not (pt_val (pe_call GS hr1 rfl M.s.g M.s.F.kp M.s.b .nil pass0 (pa_cons (pv 0) pa_nil))))
        (pss_one (L2N.ps_raise rfl (L2N.takes_of rfl rfl rfl rfl) (pmk_oexN TI.o TI.i TI.t GI hr2 bI .nil pass0 rfl TI.g (pa_cons (pv 1) pa_nil)))) pss_nil)
      (pss_one (ps_for (passes_of rfl) rfl (pi_enumA rfl (gn _ (by decide)) (pa_cons (pv 0) pa_nil)) (pg_tup rfl (pgs_cons (pg_name (i := 2) sc_check_triples.nd rfl (.inl rfl)) (pgs_cons (pg_name (i := 3) sc_check_triples.nd rfl (.inl rfl)) pgs_nil)))
        (pss_one (ps_if (pt_not (pt_val (pe_call GT hr rfl M.t.g M.t.F.kp M.t.b .nil pass0 (pa_cons (pv 3) (pa_cons (pv 1) pa_nil)))))
            (pss_one (L2N.ps_raise rfl (L2N.takes_of rfl rfl rfl rfl) (pmk_oexN TI.o TI.i TI.t GI hr2 bI .nil pass0 rfl TI.g (pa_cons (pe_op op_add (pv 1) (pv 2)) pa_nil)))) pss_nil)))), ?_⟩
    rcases h with ⟨px, k⟩ | ⟨a, xs, o, bs, rfl, ho, ho2, lb, it, k1, k2⟩
    · exact ⟨x, rfl, x, rfl, .inl ⟨px, fun H1 s1 => ⟨_, rfl, iteT ⟨_, rfl, (show 1 ≤ 1000 by decide), fun a na => raise_read (k H1 s1) a na⟩⟩⟩⟩
    · have sq : SqA K H a xs := by
        rcases ho2 with rfl | rfl
        · exact .inl ho
        · exact .inr ho
      refine ⟨_, rfl, _, rfl, .inr ⟨a, xs, rfl, sq, fun H1 s1 => ⟨_, rfl, iteF ?_⟩⟩⟩
      refine ⟨_, rfl, a, xs, o, rfl, s1 _ _ ho, ho2, fun J EJ => for_enum EJ (fun i σ H2 => (∃ o2 o3, σ = [some (.ref a), some (.int m), o2, o3]) ∧ Same H1 H2 ∧ ∀ j, j < i → bs[j]? = some true) ⟨⟨_, _, rfl⟩, same0 _, fun j hj => absurd hj (Nat.not_lt_zero j)⟩
          (fun i σ H2 ⟨_, s2, _⟩ => s2 _ _ (s1 _ _ ho)) (fun i x σ H2 Ta hx => ?_) (fun σ H2 ⟨_, s2, ok⟩ => k1 (firstNo_no (lb ▸ ok)) H2 (sTr s1 s2))⟩
      rintro ⟨⟨o2, o3, rfl⟩, s2, ok⟩ nT
      have s3 : Same H1 (upd H2 Ta (.tup [.int (i : Nat), x])) := smu s2 nT
      have li : i < xs.length := (List.getElem?_eq_some_iff.mp hx).1
      refine ⟨Ta, _, rfl, .of upd_same, rfl, _, _, rfl, _, _, rfl, rfl, ?_⟩
      generalize upd H2 Ta (.tup [.int (i : Nat), x]) = H3 at s3 ⊢
      obtain ⟨b, hb⟩ : ∃ b, bs[i]? = some b := ⟨_, List.getElem?_eq_getElem (by omega)⟩
      have fin : ∀ {A B : Prop}, (b = false → A) → (b = true → B) → if (!b) = true then A else B := fun {A B} f g => by
        cases b
        · exact iteT (f rfl)
        · exact iteF (g rfl)
      have no : b = false → Raise E C (.int (m + (i : Nat))) H3 := fun e => k2 i (firstNo_at (e ▸ hb) ok) H3 (sTr s1 s3)
      have yes : b = true → ∀ j, j < i + 1 → bs[j]? = some true := fun e j hj => (Nat.lt_succ_iff_lt_or_eq.mp hj).elim (ok j) fun e2 => e2 ▸ e ▸ hb
      have out : ∀ {b2 : Bool}, b = b2 → if (!b2) = true then
          tMkO C (spInit C) [] (tCons (tOp (rI0 fun i j => .int (i + j)) (tVar 1) (tVar 2)) tNil) [some (.ref a), some (.int m), some (.int (i : Nat)), some x] H3 (fun cls d H' => E cls d H')
          else (∃ o2 o3, [some (.ref a), some (.int m), some (.int (i : Nat)), some x] = [some (.ref a), some (.int m), o2, o3]) ∧ Same H1 H3 ∧ ∀ j, j < i + 1 → bs[j]? = some true := fun {b2} e => by
        subst e
        exact fin (fun e => ⟨_, rfl, _, rfl, _, _, rfl, rfl, (show 1 ≤ 1000 by decide), fun a na => raise_read (no e) a na⟩) fun e => ⟨⟨_, _, rfl⟩, s3, yes e⟩
      rcases (it i x b hx hb).same (sTr s1 s3) with ⟨px, e⟩ | ⟨a2, ys, rfl, h2, e⟩ | ⟨a2, ys, rfl, h2, py, e⟩
      · exact ⟨_, rfl, _, rfl, _, m, rfl, .inl ⟨px, false, rfl, out e⟩⟩
      · exact ⟨_, rfl, _, rfl, _, m, rfl, .inr (.inl ⟨a2, ys, rfl, h2, false, rfl, out e⟩)⟩
      · exact ⟨_, rfl, _, rfl, _, m, rfl, .inr (.inr ⟨a2, ys, rfl, h2, py, _, rfl, out e⟩)⟩
end
end RD
set_option maxRecDepth 100000
set_option maxHeartbeats 4000000
namespace RD
open PySem PySem.Spec PyProof.Rows L2 Rd Tb
/-- a turning: so many relations, each turned twice itself -/
structure Tn (ts : List Int) : Prop where
  pos : ts ≠ []
  bd : ∀ i : Nat, i < ts.length → 0 ≤ ts.getD i 0 ∧ ts.getD i 0 < ts.length
  inv : ∀ i : Nat, i < ts.length → ts.getD (ts.getD i 0).toNat 0 = i
def tn (ts : List Int) (x : Int) : Int := ts.getD x.toNat 0
/-- the six readings -/
def six (ts : List Int) (x y z : Int) : List (List Int) := [[x, y, z], [z, tn ts y, x], [tn ts x, z, y], [y, tn ts z, tn ts x], [tn ts z, x, tn ts y], [tn ts y, tn ts x, tn ts z]]
def In (n : Nat) (x : Int) : Prop := 0 ≤ x ∧ x < n
theorem tn_at {ts : List Int} {x : Int} (h : In ts.length x) : (ts.map V.int)[x.toNat]? = some (.int (tn ts x)) := by
  have l : x.toNat < ts.length := by
    have := h.1
    have := h.2
    omega
  rw [List.getElem?_map, List.getElem?_eq_getElem l]
  simp [tn, List.getD, List.getElem?_eq_getElem l]
theorem ixI {K : PySem.W.Frag} {H : Hp} {a : Addr} {ts : List Int} {x : Int} {Q : VK} (h : SqA K H a (ts.map V.int)) (b : In ts.length x) (k : Q (.int (tn ts x)) H) : rIx K (.ref a) (.int x) H Q := by
  have z := ixA h (tn_at b) k
  rw [Int.toNat_of_nonneg b.1] at z
  exact z
theorem same1 {H : Hp} {l : Addr} {o : HO} (n : H l = none) : Same H (upd H l o) := smu (same0 H) n
theorem new7 {H : Hp} {t1 t2 t3 t4 t5 t6 l : Addr} {o1 o2 o3 o4 o5 o6 ol : HO} (n1 : H t1 = none) (n2 : upd H t1 o1 t2 = none) (n3 : upd (upd H t1 o1) t2 o2 t3 = none) (n4 : upd (upd (upd H t1 o1) t2 o2) t3 o3 t4 = none)
    (n5 : upd (upd (upd (upd H t1 o1) t2 o2) t3 o3) t4 o4 t5 = none) (n6 : upd (upd (upd (upd (upd H t1 o1) t2 o2) t3 o3) t4 o4) t5 o5 t6 = none) (nl : upd (upd (upd (upd (upd (upd H t1 o1) t2 o2) t3 o3) t4 o4) t5 o5) t6 o6 l = none) :
    ∃ H1, H1 = upd (upd (upd (upd (upd (upd (upd H t1 o1) t2 o2) t3 o3) t4 o4) t5 o5) t6 o6) l ol ∧ Same H H1 ∧ H1 t1 = some o1 ∧ H1 t2 = some o2 ∧ H1 t3 = some o3 ∧ H1 t4 = some o4 ∧ H1 t5 = some o5 ∧ H1 t6 = some o6 ∧ H1 l = some ol := by
  have s7 := same1 (o := ol) nl
  have s6 := sTr (same1 (o := o6) n6) s7
  have s5 := sTr (same1 (o := o5) n5) s6
  have s4 := sTr (same1 (o := o4) n4) s5
  have s3 := sTr (same1 (o := o3) n3) s4
  have s2 := sTr (same1 (o := o2) n2) s3
  exact ⟨_, rfl, sTr (same1 n1) s2, s2 _ _ upd_same, s3 _ _ upd_same, s4 _ _ upd_same, s5 _ _ upd_same, s6 _ _ upd_same, s7 _ _ upd_same, upd_same⟩
/-- a new tuple of the ascending triples of these, each once -/
def NewAsc (K : PySem.W.Frag) (six : List (List Int)) (H : Hp) (Q : VK) : Prop := ∀ (L : List Tri) p H1, Same H H1 → Asc L → (∀ q ∈ L, q.2 ∈ six) → (∀ r ∈ six, r ∈ L.map (·.2)) → Tups K H1 L → H1 p = some (.tup (L.map fun q => V.ref q.1)) → Q (.ref p) H1
def sp_readings (K : PySem.W.Frag) : Sp := fun vs H Q _ => ∃ a t ts x y z, vs = [.ref a, .ref t] ∧ SqA K H a (ts.map V.int) ∧ H t = some (.tup [.int x, .int y, .int z]) ∧ In ts.length x ∧ In ts.length y ∧ In ts.length z ∧ NewAsc K (six ts x y z) H Q
section
variable {P : Program} {w : World} {K : PySem.W.Frag} {mg : Str → Option Value} {base : Heap}
theorem sc_readings : FnScope ["turned", "triple", "x", "y", "z", "back_x", "back_y", "back_z", "found"] ["turned", "triple"] (defScope s_readings) := ⟨rfl, rfl, rfl, by decide +kernel, rfl, by decide +kernel, by decide +kernel⟩
theorem ok_readings (D : Df K mg "readings" s_readings ["turned", "triple"]) (B : Bn mg) : FnOk P w K mg base CX0 1 D.f D.fd ["turned", "triple"] (sp_readings K) := by
  refine D.F.ok sc_readings (fun vs H Q E h => ?_) (fun cdv A outer s H vs Q E hr h => ?_)
  · obtain ⟨a, t, ts, x, y, z, rfl, _⟩ := h
    rfl
  · obtain ⟨a, t, ts, x, y, z, rfl, ha, ht, ix, iy, iz, k⟩ := h
    have gn := B.gn
    have nd := sc_readings.nd
    refine ⟨_, pss_cons (ps_asg (pv 1) (pg_tup rfl (pgs_cons (pg_name (i := 2) nd rfl (.inl rfl)) (pgs_cons (pg_name (i := 3) nd rfl (.inl rfl)) (pgs_cons (pg_name (i := 4) nd rfl (.inl rfl)) pgs_nil)))))
      (pss_cons (ps_par3 (i := 5) (j := 6) (l := 7) rfl nd rfl rfl rfl (by decide) (by decide) (by decide) rfl rfl rfl (pa_cons (pe_ix ix_seq (pv 0) (pv 2) (fun _ _ => rfl)) (pa_cons (pe_ix ix_seq (pv 0) (pv 3) (fun _ _ => rfl)) (pa_cons (pe_ix ix_seq (pv 0) (pv 4) (fun _ _ => rfl)) pa_nil))) (by rfl))
      (pss_cons (ps_set (i := 8) nd rfl (.inl rfl) (pe_lst (pa_cons (pe_tup (pa_cons (pv 2) (pa_cons (pv 3) (pa_cons (pv 4) pa_nil)))) (pa_cons (pe_tup (pa_cons (pv 4) (pa_cons (pv 6) (pa_cons (pv 2) pa_nil))))
        (pa_cons (pe_tup (pa_cons (pv 5) (pa_cons (pv 4) (pa_cons (pv 3) pa_nil)))) (pa_cons (pe_tup (pa_cons (pv 3) (pa_cons (pv 7) (pa_cons (pv 5) pa_nil))))
        (pa_cons (pe_tup (pa_cons (pv 7) (pa_cons (pv 2) (pa_cons (pv 6) pa_nil)))) (pa_cons (pe_tup (pa_cons (pv 6) (pa_cons (pv 5) (pa_cons (pv 7) pa_nil)))) pa_nil))))))))
      (pss_one (ps_ret (pe_callTy call_tuple_of rfl (gn _ (by decide)) PyProof.Rows.boot_tuple (pa_cons (pe_callB (cr_sortedG rfl) rfl (gn _ (by decide)) PyProof.Rows.boot_sorted (pa_cons (pe_callTy (cr_setL rfl hr.units) rfl (gn _ (by decide)) PyProof.Rows.boot_set (pa_cons (pv 8) pa_nil)) pa_nil)) pa_nil)))))), ?_⟩
    refine ⟨_, rfl, t, _, rfl, .of ht, rfl, _, _, rfl, _, _, rfl, _, _, rfl, rfl, ?_⟩
    refine ⟨_, rfl, _, rfl, ixI ha ix ⟨_, rfl, _, rfl, ixI ha iy ⟨_, rfl, _, rfl, ixI ha iz ?_⟩⟩⟩
    refine ⟨_, _, _, rfl, ?_⟩
    have z3 : 3 ≤ sizeLine := by decide
    refine ⟨_, rfl, _, rfl, _, rfl, z3, fun t1 n1 => ⟨_, rfl, _, rfl, _, rfl, z3, fun t2 n2 => ⟨_, rfl, _, rfl, _, rfl, z3, fun t3 n3 => ⟨_, rfl, _, rfl, _, rfl, z3, fun t4 n4 => ⟨_, rfl, _, rfl, _, rfl, z3, fun t5 n5 => ⟨_, rfl, _, rfl, _, rfl, z3, fun t6 n6 => ⟨(by show 6 ≤ sizeLine; decide), fun l nl => ?_⟩⟩⟩⟩⟩⟩⟩
    obtain ⟨H7, e7, s7, h1, h2, h3, h4, h5, h6, hl⟩ := new7 (o1 := .tup [.int x, .int y, .int z]) (o2 := .tup [.int z, .int (tn ts y), .int x]) (o3 := .tup [.int (tn ts x), .int z, .int y]) (o4 := .tup [.int y, .int (tn ts z), .int (tn ts x)])
      (o5 := .tup [.int (tn ts z), .int x, .int (tn ts y)]) (o6 := .tup [.int (tn ts y), .int (tn ts x), .int (tn ts z)]) (ol := .lst [.ref t1, .ref t2, .ref t3, .ref t4, .ref t5, .ref t6]) n1 n2 n3 n4 n5 n6 nl
    show gName 8 (V.ref l) _ (upd (upd (upd (upd (upd (upd (upd H t1 (.tup [.int x, .int y, .int z])) t2 (.tup [.int z, .int (tn ts y), .int x])) t3 (.tup [.int (tn ts x), .int z, .int y])) t4 (.tup [.int y, .int (tn ts z), .int (tn ts x)])) t5 (.tup [.int (tn ts z), .int x, .int (tn ts y)])) t6 (.tup [.int (tn ts y), .int (tn ts x), .int (tn ts z)])) l (.lst [.ref t1, .ref t2, .ref t3, .ref t4, .ref t5, .ref t6])) _
    rw [← e7]
    clear e7
    have tk : Tups K H7 [(t1, [x, y, z]), (t2, [z, tn ts y, x]), (t3, [tn ts x, z, y]), (t4, [y, tn ts z, tn ts x]), (t5, [tn ts z, x, tn ts y]), (t6, [tn ts y, tn ts x, tn ts z])] := by
      intro q hq
      simp only [List.mem_cons, List.not_mem_nil, or_false] at hq
      rcases hq with rfl | rfl | rfl | rfl | rfl | rfl
      · exact .of h1
      · exact .of h2
      · exact .of h3
      · exact .of h4
      · exact .of h5
      · exact .of h6
    refine ⟨_, rfl, l, [(t1, [x, y, z]), (t2, [z, tn ts y, x]), (t3, [tn ts x, z, y]), (t4, [y, tn ts z, tn ts x]), (t5, [tn ts z, x, tn ts y]), (t6, [tn ts y, tn ts x, tn ts z])], rfl, .of hl, tk, (by show 6 ≤ 300; decide), fun S L nS sub all uni => ?_⟩
    have sS := same1 (o := SetGO P w S L) nS
    have mem : ∀ q ∈ L, q.2 ∈ six ts x y z := fun q hq => List.mem_map.mpr ⟨q, sub q hq, rfl⟩
    have al2 : ∀ r ∈ six ts x y z, r ∈ L.map (·.2) := fun r hr => by
      obtain ⟨q, hq, e⟩ := List.mem_map.mp (show r ∈ [(t1, [x, y, z]), (t2, [z, tn ts y, x]), (t3, [tn ts x, z, y]), (t4, [y, tn ts z, tn ts x]), (t5, [tn ts z, x, tn ts y]), (t6, [tn ts y, tn ts x, tn ts z])].map (·.2) from hr)
      exact e ▸ all q hq
    have tL : Tups K H7 L := fun q hq => tk q (sub q hq)
    refine ⟨S, L, rfl, upd_same, tL.same sS, fun q hq e => ?_, fun L1 p1 pm asc _ np1 => ?_⟩
    · have z := mem q hq
      rw [e] at z
      simp [six] at z
    · have s1 := same1 (o := .lst (L1.map fun q => V.ref q.1)) np1
      refine ⟨p1, _, rfl, .inl ⟨.of upd_same, fun p np => ?_⟩⟩
      have s2 := same1 (o := .tup (L1.map fun q => V.ref q.1)) np
      exact k L1 p _ (sTr s7 (sTr sS (sTr s1 s2))) asc (fun q hq => mem q (pm.mem_iff.mp hq)) (fun r hr => ((pm.map (·.2)).mem_iff).mpr (al2 r hr)) (fun q hq => stT (tL q (pm.mem_iff.mp hq)) (sTr sS (sTr s1 s2))) upd_same
end
end RD
set_option maxRecDepth 100000
set_option maxHeartbeats 4000000
namespace RD
open PySem PySem.Spec PyProof.Rows L2 Rd Tb
def sixL (ts : List Int) : List Int → List (List Int)
  | [x, y, z] => six ts x y z
  | _ => []
/-- all readings of t are among D -/
def closed (ts : List Int) (D : List (List Int)) (t : List Int) : Bool := (sixL ts t).all fun r => decide (r ∈ D)
def lack (ts : List Int) (D : List (List Int)) : Option Nat := (List.range D.length).find? fun i => !closed ts D (D.getD i [])
theorem lack_at {ts : List Int} {D : List (List Int)} {i : Nat} {t : List Int} (h : D[i]? = some t) (bad : closed ts D t = false) (ok : ∀ j u, j < i → D[j]? = some u → closed ts D u = true) : lack ts D = some i := by
  have l := (List.getElem?_eq_some_iff.mp h).1
  refine find_range _ l (by simp [List.getD, h, bad]) fun j hj => ?_
  have e := List.getElem?_eq_getElem (Nat.lt_trans hj l)
  simp [List.getD, e, ok j _ hj e]
theorem lack_no {ts : List Int} {D : List (List Int)} (ok : ∀ (j : Nat) u, D[j]? = some u → closed ts D u = true) : lack ts D = none :=
  find_range_none _ fun j hj => by
    have e := List.getElem?_eq_getElem hj
    simp [List.getD, e, ok j _ e]
def optV : Option Nat → V
  | none => .non
  | some i => .int (i : Nat)
theorem tri_parts {m : Nat} {t : List Int} (h : triOk m t = true) : ∃ x y z, t = [x, y, z] ∧ In m x ∧ In m y ∧ In m z := by
  unfold triOk at h
  simp only [Bool.and_eq_true, decide_eq_true_eq, List.all_eq_true] at h
  obtain ⟨l, b⟩ := h
  match t, l, b with
  | [x, y, z], _, b =>
    have bx := b x (by simp)
    have b2 := b y (by simp)
    have bz := b z (by simp)
    exact ⟨x, y, z, rfl, bx, b2, bz⟩
def sp_lacking (K : PySem.W.Frag) : Sp := fun vs H Q _ => ∃ a l ts ks, vs = [.ref a, .ref l] ∧ SqA K H a (ts.map V.int) ∧ H l = some (.lst (ks.map fun q : Tri => V.ref q.1)) ∧ Tups K H ks ∧ ks.length ≤ 300 ∧ (∀ q ∈ ks, H q.1 = some (.tup (q.2.map V.int)) ∧ triOk ts.length q.2 = true) ∧
  ∀ H1, Same H H1 → Q (optV (lack ts (ks.map (·.2)))) H1
section
variable {P : Program} {w : World} {K : PySem.W.Frag} {mg : Str → Option Value} {base : Heap}
theorem sc_lacking : FnScope ["turned", "triples", "known", "at", "triple", "reading"] ["turned", "triples"] (defScope s_lacking_reading) := ⟨rfl, rfl, rfl, by decide +kernel, rfl, by decide +kernel, by decide +kernel⟩
theorem ok_lacking (D : Df K mg "lacking_reading" s_lacking_reading ["turned", "triples"]) (R : Df K mg "readings" s_readings ["turned", "triple"]) (B : Bn mg) : FnOk P w K mg base CX0 2 D.f D.fd ["turned", "triples"] (sp_lacking K) := by
  have GR : FnOk P w K mg base CX0 1 R.f R.fd ["turned", "triple"] (sp_readings K) := ok_readings R B
  refine D.F.ok sc_lacking (fun vs H Q E h => ?_) (fun cdv A outer s H vs Q E hr h => ?_)
  · obtain ⟨a, l, ts, ks, rfl, _⟩ := h
    rfl
  · obtain ⟨a, l, ts, ks, rfl, ha, hl, tk, lim, ok, k⟩ := h
    have gn := B.gn
    have nd := sc_lacking.nd
    refine ⟨_, pss_cons (ps_set (i := 2) nd rfl (.inl rfl) (pe_callTy (cr_setL rfl hr.units) rfl (gn _ (by decide)) PyProof.Rows.boot_set (pa_cons (pv 1) pa_nil)))
      (pss_cons (ps_for PassesOwn.never rfl (pi_enumA rfl (gn _ (by decide)) (pa_cons (pv 1) pa_nil)) (pg_tup rfl (pgs_cons (pg_name (i := 3) nd rfl (.inl rfl)) (pgs_cons (pg_name (i := 4) nd rfl (.inl rfl)) pgs_nil)))
        (pss_one (ps_for PassesOwn.never rfl (pi_tup (pe_call GR hr rfl R.g R.F.kp R.b .nil pass0 (pa_cons (pv 0) (pa_cons (pv 4) pa_nil)))) (pg_name (i := 5) nd rfl (.inl rfl))
          (pss_one (ps_if (pt_cmpR (or_notinG hr.units) (pv 5) (pv 2) rfl) (pss_one (ps_ret (pv 3))) pss_nil)))))
      (pss_one (ps_ret pe_non))), ?_⟩
    refine ⟨_, rfl, l, ks, rfl, .of hl, tk, lim, fun S L nS sub all uni => ?_⟩
    have sS := same1 (o := SetGO P w S L) nS
    have hS : (upd H S (SetGO P w S L)) S = some (SetGO P w S L) := upd_same
    show gName 2 (V.ref S) _ (upd H S (SetGO P w S L)) _
    generalize upd H S (SetGO P w S L) = H1 at sS hS ⊢
    have inL : ∀ r, r ∈ L.map (·.2) ↔ r ∈ ks.map (·.2) := fun r => ⟨fun h => by
        obtain ⟨q, hq, e⟩ := List.mem_map.mp h
        exact List.mem_map.mpr ⟨q, sub q hq, e⟩, fun h => by
        obtain ⟨q, hq, e⟩ := List.mem_map.mp h
        exact e ▸ all q hq⟩
    refine ⟨_, rfl, l, _, _, rfl, sS _ _ hl, .inl rfl, fun J EJ => for_enum EJ (fun i σ H2 => (∃ o3 o4 o5, σ = [some (.ref a), some (.ref l), some (.ref S), o3, o4, o5]) ∧ Same H1 H2 ∧ ∀ j u, j < i → (ks.map (·.2))[j]? = some u → closed ts (ks.map (·.2)) u = true)
      ⟨⟨_, _, _, rfl⟩, same0 _, fun j _ hj => absurd hj (Nat.not_lt_zero j)⟩ (fun i σ H2 ⟨_, s2, _⟩ => s2 _ _ (sS _ _ hl)) (fun i x σ H2 Ta hx => ?_) (fun σ H2 ⟨_, s2, cl⟩ => ?_)⟩
    · rintro ⟨⟨o3, o4, o5, rfl⟩, s2, cl⟩ nT
      have s3 : Same H1 (upd H2 Ta (.tup [.int (i : Nat), x])) := smu s2 nT
      refine ⟨Ta, _, rfl, .of upd_same, rfl, _, _, rfl, _, _, rfl, rfl, ?_⟩
      generalize upd H2 Ta (.tup [.int (i : Nat), x]) = H3 at s3 ⊢
      rw [List.getElem?_map, Option.map_eq_some_iff] at hx
      obtain ⟨q, hq, rfl⟩ := hx
      obtain ⟨t, u⟩ := q
      have mq := List.mem_of_getElem? hq
      obtain ⟨ht, ok1⟩ := ok _ mq
      obtain ⟨x, y, z, eu, ix, iy, iz⟩ := tri_parts ok1
      have eu : u = [x, y, z] := eu
      subst eu
      have sH := sTr sS s3
      have hu : (ks.map (·.2))[i]? = some [x, y, z] := by rw [List.getElem?_map, hq] <;> rfl
      refine ⟨_, rfl, _, rfl, a, t, ts, x, y, z, rfl, ha.same sH, sH _ _ ht, ix, iy, iz, fun M p H4 s4 asc mem al tm hp => ?_⟩
      have s14 := sTr s3 s4
      refine ⟨p, rfl, ⟨_, .of hp⟩, for_tup (K := K) (a := p) (xs := M.map fun q => V.ref q.1) (fun j σ H5 => (∃ o5, σ = [some (.ref a), some (.ref l), some (.ref S), some (.int (i : Nat)), some (.ref t), o5]) ∧ Same H4 H5 ∧ ∀ n q, n < j → M[n]? = some q → q.2 ∈ ks.map (·.2))
        ⟨⟨_, rfl⟩, same0 _, fun n _ hn => absurd hn (Nat.not_lt_zero n)⟩ (fun j σ H5 _ ⟨_, s5, _⟩ => .of (s5 _ _ hp)) (fun j v σ H5 hv => ?_) (fun σ H5 ⟨⟨o5, e⟩, s5, cm⟩ => ?_)⟩
      · rintro ⟨⟨o5, rfl⟩, s5, cm⟩
        rw [List.getElem?_map, Option.map_eq_some_iff] at hv
        obtain ⟨q, hq2, rfl⟩ := hv
        have s15 := sTr s14 s5
        have tL : Tups K H5 L := fun q hq => stT (tk q (sub q hq)) (sTr sS s15)
        refine ⟨_, rfl, _, rfl, S, q.1, q.2, L, rfl, rfl, s15 _ _ hS, tL, stT (tm q (List.mem_of_getElem? hq2)) s5, _, rfl, ?_⟩
        have e1 : decide (q.2 ∈ L.map (·.2)) = decide (q.2 ∈ ks.map (·.2)) := decide_eq_decide.mpr (inL q.2)
        show if (!decide (q.2 ∈ L.map (·.2))) = true then _ else _
        rw [e1]
        by_cases c : q.2 ∈ ks.map (·.2)
        · rw [decide_eq_true c]
          exact iteF ⟨⟨_, rfl⟩, s5, fun n q2 hn h2 => by
            rcases Nat.lt_succ_iff_lt_or_eq.mp hn with z | z
            · exact cm n q2 z h2
            · subst z
              rw [hq2, Option.some.injEq] at h2
              exact h2 ▸ c⟩
        · rw [decide_eq_false c]
          have bad : closed ts (ks.map (·.2)) [x, y, z] = false := all_false (mem q (List.mem_of_getElem? hq2)) (decide_eq_false c)
          have z := k H5 (sTr sS s15)
          rw [lack_at hu bad cl] at z
          exact iteT ⟨_, rfl, z⟩
      · subst e
        refine ⟨⟨_, _, _, rfl⟩, sTr s14 s5, fun n u2 hn h2 => ?_⟩
        rcases Nat.lt_succ_iff_lt_or_eq.mp hn with z | z
        · exact cl n u2 z h2
        · subst z
          rw [hu, Option.some.injEq] at h2
          subst h2
          refine List.all_eq_true.mpr fun r hr => decide_eq_true ?_
          obtain ⟨q, hq3, rfl⟩ := List.mem_map.mp (al r hr)
          obtain ⟨n2, hn2⟩ := List.getElem?_of_mem hq3
          have ln := (List.getElem?_eq_some_iff.mp hn2).1
          exact cm n2 q (by rw [List.length_map]; exact ln) hn2
    · have z := k H2 (sTr sS s2)
      rw [lack_no fun j u hu => cl j u (by
        have := (List.getElem?_eq_some_iff.mp hu).1
        rw [List.length_map] at this ⊢
        exact this) hu] at z
      exact z
end
end RD
set_option maxRecDepth 100000
set_option maxHeartbeats 4000000
namespace RD
open PySem PySem.Spec PyProof.Rows L2 Rd Tb
def bstep (B : List (List Int)) (t : List Int) : List (List Int) := match t with
  | [x, y, z] => B.set x.toNat ((B.getD x.toNat []).set y.toNat (Builtin.bitOr ((B.getD x.toNat []).getD y.toNat 0) (1 * 2 ^ z.toNat)))
  | _ => B
def btab (n : Nat) (T : List (List Int)) : List (List Int) := T.foldl bstep (List.replicate n (List.replicate n 0))
/-- a new tuple of new tuples of ints -/
def Rows2 (H : Hp) (p : Addr) (B : List (List Int)) : Prop := ∃ rs : List Addr, H p = some (.tup (rs.map V.ref)) ∧ rs.length = B.length ∧ ∀ (i : Nat) r b, rs[i]? = some r → B[i]? = some b → H r = some (.tup (b.map V.int))
theorem Rows2.same {H H1 : Hp} {p : Addr} {B : List (List Int)} (h : Rows2 H p B) (s : Same H H1) : Rows2 H1 p B := let ⟨rs, a, b, c⟩ := h; ⟨rs, s _ _ a, b, fun i r y e1 e2 => s _ _ (c i r y e1 e2)⟩
def rTupOf (K : PySem.W.Frag) : List V → Hp → VK → Prop := fun xs H Q => ∃ p ys, xs = [.ref p] ∧ ((SqL K H p ys ∧ ∀ l, H l = none → Q (.ref l) (upd H l (.tup ys))) ∨ (SqT K H p ys ∧ Q (.ref p) H))
theorem cr_tuple {X : Cx} : CallR X (.type "tuple") (rTupOf X.K) := call_tuple_of
def sp_bits : Sp := fun vs H Q _ => ∃ (n : Nat) (t : Addr) (ks : List Tri), vs = [.int (n : Nat), .ref t] ∧ n ≤ 100 ∧ H t = some (.tup (ks.map fun q : Tri => V.ref q.1)) ∧ (∀ q ∈ ks, H q.1 = some (.tup (q.2.map V.int)) ∧ triOk n q.2 = true) ∧ ∀ p H1, Same H H1 → H p = none → Rows2 H1 p (btab n (ks.map (·.2))) → Q (.ref p) H1
theorem tri_nat {n : Nat} {t : List Int} (h : triOk n t = true) : ∃ x y z : Nat, t = [(x : Int), (y : Int), (z : Int)] ∧ x < n ∧ y < n ∧ z < n := by
  obtain ⟨x, y, z, rfl, ix, iy, iz⟩ := tri_parts h
  refine ⟨x.toNat, y.toNat, z.toNat, by rw [Int.toNat_of_nonneg ix.1, Int.toNat_of_nonneg iy.1, Int.toNat_of_nonneg iz.1], ?_, ?_, ?_⟩
  · have := ix.1; have := ix.2; omega
  · have := iy.1; have := iy.2; omega
  · have := iz.1; have := iz.2; omega
theorem ixN_at {n j : Nat} (h : j < n) : ixN n (j : Int) = some j := by
  unfold ixN
  rw [if_pos (by omega), if_pos (by omega), Int.toNat_natCast]
theorem bstep_nat (B : List (List Int)) (x y z : Nat) : bstep B [(x : Int), (y : Int), (z : Int)] = B.set x ((B.getD x []).set y (Builtin.bitOr ((B.getD x []).getD y 0) (1 * 2 ^ z))) := by
  simp [bstep]
section
variable {P : Program} {w : World} {K : PySem.W.Frag} {mg : Str → Option Value} {base : Heap}
theorem sc_bits : FnScope ["many", "triples", "table", "x", "y", "z", "_", "row"] ["many", "triples"] (defScope s_bits_table) := ⟨rfl, rfl, rfl, by decide +kernel, rfl, by decide +kernel, by decide +kernel⟩
theorem ok_bits (D : Df K mg "bits_table" s_bits_table ["many", "triples"]) (B : Bn mg) : FnOk P w K mg base CX0 1 D.f D.fd ["many", "triples"] sp_bits := by
  refine D.F.ok sc_bits (fun vs H Q E h => ?_) (fun cdv A outer s H vs Q E hr h => ?_)
  · obtain ⟨n, t, ks, rfl, _⟩ := h
    rfl
  · obtain ⟨n, t, ks, rfl, ln, ht, ok, k⟩ := h
    have gn := B.gn
    have nd := sc_bits.nd
    refine ⟨_, pss_cons (ps_setLc (i := 2) (own := [("_", 6)]) (g := gName 6) (tt := tYes) rfl nd rfl rfl (sw_true rfl rfl rfl (by decide +kernel)) (pi_range1 rfl (gn _ (by decide)) (pa_cons (pv 0) pa_nil)) (blkOk_by (N := ["many", "triples", "table", "x", "y", "z", "_", "row"]) (sc := defScope s_bits_table) (by decide +kernel))
        (fun _ _ _ _ _ => pg_name (i := 6) nd rfl (Or.inl rfl)) (fun _ _ _ _ _ => pts_nil) (fun _ _ _ _ _ => pe_op op_rep (pe_lst (pa_cons pe_int pa_nil)) (pv 0)))
      (pss_cons (ps_for PassesOwn.never rfl (pi_tup (pv 1)) (pg_tup rfl (pgs_cons (pg_name (i := 3) nd rfl (.inl rfl)) (pgs_cons (pg_name (i := 4) nd rfl (.inl rfl)) (pgs_cons (pg_name (i := 5) nd rfl (.inl rfl)) pgs_nil))))
        (pss_one (ps_asg (pe_op op_or (pe_ix ix_list (pe_ix ix_list (pv 2) (pv 3) (fun _ _ => rfl)) (pv 4) (fun _ _ => rfl)) (pe_op op_shl pe_int (pv 5))) (pg_sub (pe_ix ix_list (pv 2) (pv 3) (fun _ _ => rfl)) (pv 4) set_list))))
      (pss_one (ps_ret (pe_callTy (r := rTupOf K) cr_tuple rfl (gn _ (by decide)) PyProof.Rows.boot_tuple (pa_cons (pe_lc (own := [("row", 7)]) (g := gName 7) (tt := tYes) rfl nd (pi_list (pv 2)) (blkOk_by (N := ["many", "triples", "table", "x", "y", "z", "_", "row"]) (sc := defScope s_bits_table) (by decide +kernel))
        (fun _ _ _ _ _ => pg_name (i := 7) nd rfl (Or.inl rfl)) (fun _ _ _ _ _ => pts_nil) (fun _ _ _ _ _ => pe_callTy (r := rTupOf K) cr_tuple rfl (gn _ (by decide)) PyProof.Rows.boot_tuple (pa_cons (pv 7) pa_nil))) pa_nil))))), ?_⟩
    have b62 : -(2 ^ 62) ≤ (n : Int) ∧ (n : Int) < 2 ^ 62 := by omega
    have b63 : -(2 ^ 63) ≤ (n : Int) ∧ (n : Int) < 2 ^ 63 := by omega
    have zl : 1000 ≤ sizeLine := by decide
    refine ⟨_, rfl, n, rfl, b62.1, b62.2, fun D nD => lc_range (lo := 0) (n := n) (fun i H1 => Same H H1 ∧ ∃ rs : List Addr, H1 D = some (.lst (rs.map V.ref)) ∧ rs.length = i ∧ (∀ r ∈ rs, H r = none ∧ r ≠ D ∧ H1 r = some (.lst ((List.replicate n (0 : Int)).map V.int))) ∧ rs.Nodup)
      ⟨same1 nD, ([] : List Addr), upd_same, rfl, fun r hr => absurd hr (by simp), List.nodup_nil⟩ (fun i H1 hi ⟨s1, rs, hD, lr, each, uni⟩ => ?_) (fun H1 ⟨s1, rs, hD, lr, each, uni⟩ => ?_)⟩
    · refine ⟨rfl, (by show 1 ≤ sizeLine; decide), fun l nl => ⟨_, rfl, l, n, _, rfl, rfl, upd_same, b63.1, b63.2, ?_, fun p np => ?_⟩⟩
      · show 1 * ((n : Int).toNat) ≤ sizeLine
        rw [Int.toNat_natCast]
        omega
      have sl := same1 (o := .lst [.int 0]) nl
      have sp := same1 (o := .lst (List.replicate (n : Int).toNat [V.int 0]).flatten) np
      have hp : (upd (upd H1 l (.lst [.int 0])) p (.lst (List.replicate (n : Int).toNat [V.int 0]).flatten)) p = some (.lst ((List.replicate n (0 : Int)).map V.int)) := by
        rw [upd_same]
        simp
      have s2 := sTr sl sp
      generalize upd (upd H1 l (.lst [.int 0])) p (.lst (List.replicate (n : Int).toNat [V.int 0]).flatten) = H2 at s2 hp ⊢
      have np1 : H1 p = none := by
        cases z : H1 p with
        | none => rfl
        | some o => rw [sl _ _ z] at np; cases np
      have pD : p ≠ D := fun z => by rw [z, hD] at np1; cases np1
      refine ⟨_, s2 _ _ hD, (by rw [List.length_map, lr]; omega), fun b o e => ?_, rs ++ [p], by rw [upd_same]; simp, by simp [lr], fun r hr => ?_, ?_⟩
      · rw [upd_ne (fun z => by rw [z, nD] at e; cases e)]
        exact s2 _ _ (s1 _ _ e)
      · rcases List.mem_append.mp hr with z | z
        · obtain ⟨a1, a2, a3⟩ := each r z
          exact ⟨a1, a2, by rw [upd_ne a2]; exact s2 _ _ a3⟩
        · rw [List.mem_singleton.mp z]
          refine ⟨?_, pD, by rw [upd_ne pD]; exact hp⟩
          cases y : H p with
          | none => rfl
          | some o => rw [s1 _ _ y] at np1; cases np1
      · refine List.nodup_append.mpr ⟨uni, by simp, fun r hr q hq e => ?_⟩
        rw [List.mem_singleton.mp hq] at e
        rw [e] at hr
        rw [(each p hr).2.2] at np1
        cases np1
    · -- the triples, one after another
      obtain ⟨T, eT⟩ : ∃ T, T = ks.map (·.2) := ⟨_, rfl⟩
      refine ⟨_, rfl, t, rfl, ⟨_, .of (s1 _ _ ht)⟩, for_tup (K := K) (a := t) (xs := ks.map fun q => V.ref q.1) (fun i σ H2 => (∃ o3 o4 o5, σ = [some (.int (n : Nat)), some (.ref t), some (.ref D), o3, o4, o5, none, none]) ∧ Same H H2 ∧ H2 D = some (.lst (rs.map V.ref)) ∧
          ((T.take i).foldl bstep (List.replicate n (List.replicate n 0))).length = n ∧ ∀ (j : Nat) r b, rs[j]? = some r → ((T.take i).foldl bstep (List.replicate n (List.replicate n 0)))[j]? = some b → H2 r = some (.lst (b.map V.int)) ∧ b.length = n)
        ⟨⟨_, _, _, rfl⟩, s1, hD, by simp, fun j r b hr hb => ?_⟩ (fun i σ H2 _ ⟨_, s2, _⟩ => .of (s2 _ _ ht)) (fun i v σ H2 hv => ?_) (fun σ H2 ⟨⟨o3, o4, o5, e⟩, s2, hD2, lB, rows⟩ => ?_)⟩
      · have z := (each r (List.mem_of_getElem? hr)).2.2
        have e : b = List.replicate n 0 := by
          have y := List.mem_of_getElem? hb
          simp at y
          exact y.2
        subst e
        exact ⟨z, by simp⟩
      · rintro ⟨⟨o3, o4, o5, rfl⟩, s2, hD2, lB, rows⟩
        rw [List.getElem?_map, Option.map_eq_some_iff] at hv
        obtain ⟨q, hq, rfl⟩ := hv
        obtain ⟨qa, qt⟩ := q
        obtain ⟨h1, h2⟩ := ok _ (List.mem_of_getElem? hq)
        obtain ⟨x, y, z, e, lx, ly, lz⟩ := tri_nat h2
        have e : qt = [(x : Int), (y : Int), (z : Int)] := e
        subst e
        have hT : T[i]? = some [(x : Int), (y : Int), (z : Int)] := by rw [eT, List.getElem?_map, hq] <;> rfl
        have eF : (T.take (i + 1)).foldl bstep (List.replicate n (List.replicate n 0)) = bstep ((T.take i).foldl bstep (List.replicate n (List.replicate n 0))) [(x : Int), (y : Int), (z : Int)] := by
          rw [take_next hT, List.foldl_append] <;> rfl
        rw [bstep_nat] at eF
        generalize (T.take i).foldl bstep (List.replicate n (List.replicate n 0)) = Bi at lB rows eF
        obtain ⟨r, hr⟩ : ∃ r, rs[x]? = some r := ⟨_, List.getElem?_eq_getElem (by omega)⟩
        obtain ⟨b, hb⟩ : ∃ b, Bi[x]? = some b := ⟨_, List.getElem?_eq_getElem (by omega)⟩
        obtain ⟨hrb, lb⟩ := rows x r b hr hb
        have gb : Bi.getD x [] = b := by simp [List.getD, hb]
        rw [gb] at eF
        have av : (b.map V.int)[y]? = some (.int (b.getD y 0)) := by
          have ly2 : y < b.length := by omega
          rw [List.getElem?_map, List.getElem?_eq_getElem ly2]
          simp [List.getD, List.getElem?_eq_getElem ly2]
        have ar : (rs.map V.ref)[x]? = some (.ref r) := by rw [List.getElem?_map, hr] <;> rfl
        refine ⟨qa, _, rfl, .of (s2 _ _ h1), rfl, _, _, rfl, _, _, rfl, _, _, rfl, rfl, ?_⟩
        refine ⟨_, rfl, _, rfl, D, _, x, _, rfl, rfl, .of hD2, atI_nat ar, _, rfl, r, _, y, _, rfl, rfl, .of hrb, atI_nat av, _, rfl, 1, z, rfl, rfl, ⟨by omega, by omega, by decide⟩, _, _, rfl, rfl, ?_⟩
        refine ⟨_, rfl, _, rfl, D, _, x, _, rfl, rfl, .of hD2, atI_nat ar, _, rfl, r, _, y, y, rfl, rfl, hrb, ixN_at (by rw [List.length_map]; omega), ?_⟩
        obtain ⟨nr, rD, _⟩ := each r (List.mem_of_getElem? hr)
        refine ⟨⟨_, _, _, rfl⟩, fun d o e => ?_, by rw [upd_ne (Ne.symm rD)]; exact hD2, by rw [eF, List.length_set]; exact lB, fun j r2 b2 hr2 hb2 => ?_⟩
        · rw [upd_ne (fun z => by rw [z, nr] at e; cases e)]
          exact s2 _ _ e
        · rw [eF, List.getElem?_set] at hb2
          by_cases c : x = j
          · subst c
            rw [hr, Option.some.injEq] at hr2
            subst hr2
            rw [if_pos rfl, if_pos (by omega), Option.some.injEq] at hb2
            subst hb2
            refine ⟨?_, by rw [List.length_set]; exact lb⟩
            rw [upd_same]
            simp
          · rw [if_neg c] at hb2
            have nrr : r2 ≠ r := fun z => by
              subst z
              have i1 := (List.getElem?_eq_some_iff.mp hr).1
              have i2 := (List.getElem?_eq_some_iff.mp hr2).1
              have e1 : rs[x] = r2 := (List.getElem?_eq_some_iff.mp hr).2
              have e2 : rs[j] = r2 := (List.getElem?_eq_some_iff.mp hr2).2
              exact c ((List.getElem_inj uni).mp (e1.trans e2.symm))
            rw [upd_ne nrr]
            exact rows j r2 b2 hr2 hb2
      · subst e
        rw [List.length_map, show ks.length = T.length by rw [eT, List.length_map], List.take_length] at lB rows
        have eB : T.foldl bstep (List.replicate n (List.replicate n 0)) = btab n (ks.map (·.2)) := by rw [eT] <;> rfl
        rw [eB] at lB rows
        generalize btab n (ks.map (·.2)) = Bf at lB rows k
        refine ⟨_, rfl, D, rfl, ⟨_, .of hD2⟩, fun D2 nD2 => lc_list (K := K) (a := D) (xs := rs.map V.ref) (fun i H3 => Same H2 H3 ∧ ∃ us : List Addr, H3 D2 = some (.lst (us.map V.ref)) ∧ us.length = i ∧ ∀ (j : Nat) u b, us[j]? = some u → Bf[j]? = some b → u ≠ D2 ∧ H3 u = some (.tup (b.map V.int)))
          ⟨same1 nD2, ([] : List Addr), upd_same, rfl, fun j u b hu _ => absurd hu (by simp)⟩ (fun i H3 _ ⟨s3, _⟩ => .of (s3 _ _ hD2)) (fun i x H3 hx ⟨s3, us, hD3, lu, tups⟩ => ?_) (fun H3 ⟨s3, us, hD3, lu, tups⟩ => ?_)⟩
        · rw [List.getElem?_map, Option.map_eq_some_iff] at hx
          obtain ⟨r, hr, rfl⟩ := hx
          have li : i < n := by
            have := (List.getElem?_eq_some_iff.mp hr).1
            omega
          obtain ⟨b, hb⟩ : ∃ b, Bf[i]? = some b := ⟨_, List.getElem?_eq_getElem (by omega)⟩
          have hrb := (rows i r b hr hb).1
          refine ⟨rfl, _, rfl, r, _, rfl, .inl ⟨.of (s3 _ _ hrb), fun p np => ?_⟩⟩
          have sp := same1 (o := .tup (b.map V.int)) np
          have pD : p ≠ D2 := fun z => by rw [z, hD3] at np; cases np
          refine ⟨_, sp _ _ hD3, (by rw [List.length_map, lu]; omega), fun d o e => ?_, us ++ [p], by rw [upd_same]; simp, by simp [lu], fun j u b2 hu hb2 => ?_⟩
          · rw [upd_ne (fun z => by rw [z, nD2] at e; cases e)]
            exact sp _ _ (s3 _ _ e)
          · by_cases c : j < us.length
            · rw [List.getElem?_append_left c] at hu
              obtain ⟨n1, h1⟩ := tups j u b2 hu hb2
              exact ⟨n1, by rw [upd_ne n1]; exact sp _ _ h1⟩
            · rw [List.getElem?_append_right (by omega)] at hu
              have ej : j = i := by
                have := (List.getElem?_eq_some_iff.mp hu).1
                simp at this
                omega
              subst ej
              rw [lu, Nat.sub_self] at hu
              have eu : p = u := by simpa using hu
              subst eu
              rw [hb, Option.some.injEq] at hb2
              subst hb2
              exact ⟨pD, by rw [upd_ne pD]; exact upd_same⟩
        · have lr2 : (rs.map V.ref).length = rs.length := List.length_map _
          refine ⟨D2, _, rfl, .inl ⟨.of hD3, fun p np => ?_⟩⟩
          have sp := same1 (o := .tup (us.map V.ref)) np
          have sH := sTr s2 (sTr s3 sp)
          refine k p _ sH ?_ ⟨us, upd_same, by omega, fun j u b hu hb => sp _ _ (tups j u b hu hb).2⟩
          cases z : H p with
          | none => rfl
          | some o => rw [s3 _ _ (s2 _ _ z)] at np; cases np
end
end RD
set_option maxRecDepth 100000
set_option maxHeartbeats 4000000
namespace RD
open PySem PySem.Spec PyProof.Rows L2 Rd Tb
/-- what the top has made of the class Kind -/
structure KindC (K : PySem.W.Frag) (mg : Str → Option Value) (C f : Addr) : Prop where
  M : Mk K C f
  c : Cls K C
  g : mg "Kind" = some (.ref C)
  n1 : NoAttr K C "relations"
  n2 : NoAttr K C "turned"
  n3 : NoAttr K C "triples"
  n4 : NoAttr K C "bits"
/-- at x stands the kind of ts and T: its turned relations, its triples, its bits -/
def KindAt (C : Addr) (H : Hp) (x : Addr) (ts : List Int) (T : List (List Int)) : Prop := ∃ dx tt tr tb L, H x = some (.ins C dx [("relations", .int (ts.length : Nat)), ("turned", .ref tt), ("triples", .ref tr), ("bits", .ref tb)]) ∧
  H tt = some (.tup (ts.map V.int)) ∧ H tr = some (.tup (L.map fun q : Tri => V.ref q.1)) ∧ Asc L ∧ L.map (·.2) = T ∧ (∀ q ∈ L, H q.1 = some (.tup (q.2.map V.int))) ∧ Rows2 H tb (btab ts.length T)
theorem KindAt.same {C : Addr} {H H1 : Hp} {x : Addr} {ts : List Int} {T : List (List Int)} (h : KindAt C H x ts T) (s : Same H H1) : KindAt C H1 x ts T := by
  obtain ⟨dx, tt, tr, tb, L, a1, a2, a3, a4, a5, a6, a7⟩ := h
  exact ⟨dx, tt, tr, tb, L, s _ _ a1, s _ _ a2, s _ _ a3, a4, a5, fun q hq => s _ _ (a6 q hq), a7.same s⟩
/-- ascending lists of ints, each once, with these members -/
def AscOf (T D : List (List Int)) : Prop := T.Pairwise (fun q r => lx q r = true) ∧ ∀ t, t ∈ T ↔ t ∈ D
/-- all but the object at x stays -/
def SameB (x : Addr) (H H1 : Hp) : Prop := ∀ b o, H b = some o → b ≠ x → H1 b = some o
def sp_Kind_init (C CE : Addr) : Sp := fun vs H Q E => ∃ (x a l dx : Addr) (ts : List Int) (ks : List Tri), vs = [.ref x, .ref a, .ref l] ∧ ts.length ≤ 100 ∧ H x = some (.ins C dx []) ∧ (H a = some (.lst (ts.map V.int)) ∨ H a = some (.tup (ts.map V.int))) ∧ turnBad (ts.map V.int) = none ∧ H l = some (.lst (ks.map fun q : Tri => V.ref q.1)) ∧ ks.length ≤ 300 ∧
  (∀ q ∈ ks, H q.1 = some (.tup (q.2.map V.int)) ∧ triOk ts.length q.2 = true) ∧
  (lack ts (ks.map (·.2)) = none → ∀ H1 T, SameB x H H1 → AscOf T (ks.map (·.2)) → KindAt C H1 x ts T → Q .non H1) ∧ ∀ i, lack ts (ks.map (·.2)) = some i → ∀ H1, Same H H1 → Raise E CE (.int ((ts.length : Nat) + (i : Nat))) H1
theorem tuple_any {K : PySem.W.Frag} {H : Hp} {a : Addr} {xs : List V} {Q : VK} (h : SqA K H a xs) (k : ∀ t H1, Same H H1 → H1 t = some (.tup xs) → Q (.ref t) H1) : rTupOf K [.ref a] H Q := by
  rcases h with h | h
  · exact ⟨a, xs, rfl, .inl ⟨.of h, fun t nt => k t _ (same1 nt) upd_same⟩⟩
  · exact ⟨a, xs, rfl, .inr ⟨.of h, k a H (same0 H) h⟩⟩
theorem SameB.of {x : Addr} {H H1 : Hp} (s : Same H H1) : SameB x H H1 := fun b o e _ => s b o e
theorem SameB.tr {x : Addr} {H H1 H2 : Hp} (a : SameB x H H1) (b : SameB x H1 H2) : SameB x H H2 := fun c o e n => b c o (a c o e n) n
theorem Rows2.put {H : Hp} {x p C dx : Addr} {fs : List (Str × V)} {o : HO} {B : List (List Int)} (h : Rows2 H p B) (hx : H x = some (.ins C dx fs)) : Rows2 (upd H x o) p B := by
  obtain ⟨rs, a, b, c⟩ := h
  have ne : ∀ {d : Addr} {xs : List V}, H d = some (.tup xs) → d ≠ x := fun e z => by
    rw [z, hx] at e
    cases e
  exact ⟨rs, by rw [upd_ne (ne a)]; exact a, b, fun i r y e1 e2 => by rw [upd_ne (ne (c i r y e1 e2))]; exact c i r y e1 e2⟩
theorem SameB.put {x : Addr} {H : Hp} {o : HO} : SameB x H (upd H x o) := fun c u e n => by rw [upd_ne n]; exact e
section
variable {P : Program} {w : World} {K : PySem.W.Frag} {mg : Str → Option Value} {base : Heap}
abbrev i_Kind : Stmt := inClass k_Kind 0
theorem sc_Kind : FnScope ["self", "turned", "triples", "lacking"] ["self", "turned", "triples"] (defScope i_Kind) := ⟨rfl, rfl, rfl, by decide +kernel, rfl, by decide +kernel, by decide +kernel⟩
/-- the defs of module kinds -/
structure Kin (K : PySem.W.Frag) (mg : Str → Option Value) where
  ct : Df K mg "check_turned" s_check_turned ["turned"]
  cp : Df K mg "check_triples" s_check_triples ["triples", "many"]
  la : Df K mg "lacking_reading" s_lacking_reading ["turned", "triples"]
  bt : Df K mg "bits_table" s_bits_table ["many", "triples"]
  rd : Df K mg "readings" s_readings ["turned", "triple"]
theorem ok_Kind {C CE fK : Addr} {fdK : FuncData} (F : Fun K "__init__" "Kind.__init__" i_Kind fK fdK) (KC : KindC K mg C fK) (D : Kin K mg) (M : Vals_ K mg) (B : Bn mg) (T : Er P w K mg base "InvalidKind" CE) : FnOk P w K mg base (L2N.CX P w) 8 fK fdK ["self", "turned", "triples"] (sp_Kind_init C CE) := by
  have G1 : FnOk P w K mg base (L2N.CX P w) 4 D.ct.f D.ct.fd ["turned"] (sp_check_turned CE) := ok_check_turned D.ct M B T
  have G2 : FnOk P w K mg base (L2N.CX P w) 7 D.cp.f D.cp.fd ["triples", "many"] (sp_check_triples CE) := ok_check_triples D.cp M B T
  have G3 : FnOk P w K mg base CX0 2 D.la.f D.la.fd ["turned", "triples"] (sp_lacking K) := ok_lacking D.la D.rd B
  have G4 : FnOk P w K mg base CX0 1 D.bt.f D.bt.fd ["many", "triples"] sp_bits := ok_bits D.bt B
  obtain ⟨fI, fdI, TI, GI, bI⟩ := T.ex
  refine okN F sc_Kind (fun vs H Q E h => ?_) (fun cdv A outer s H vs Q E hr h => ?_)
  · obtain ⟨x, a, l, dx, ts, ks, rfl, _⟩ := h
    rfl
  · obtain ⟨x, a, l, dx, ts, ks, rfl, l100, hx, ha, ht, hl, lim, ok, k1, k2⟩ := h
    have gn := B.gn
    have nd := sc_Kind.nd
    have hr1 := hr.mono (show 1 ≤ 7 by decide)
    have hr2 := hr.mono (show 2 ≤ 7 by decide)
    have hr4 := hr.mono (show 4 ≤ 7 by decide)
    refine ⟨_, pss_cons (ps_expr (pe_call G1 hr4 rfl D.ct.g D.ct.F.kp D.ct.b .nil passN (pa_cons (pv 1) pa_nil)))
      (pss_cons (ps_expr (pe_call G2 hr rfl D.cp.g D.cp.F.kp D.cp.b .nil passN (pa_cons (pv 2) (pa_cons (pe_callB call_len_seq rfl (gn _ (by decide)) PySem.boot_len (pa_cons (pv 1) pa_nil)) pa_nil))))
      (pss_cons (ps_set (i := 3) nd rfl (.inl rfl) (pe_call G3 hr2 rfl D.la.g D.la.F.kp D.la.b .nil pass0 (pa_cons (pv 1) (pa_cons (pv 2) pa_nil))))
      (pss_cons (ps_if (pt_cmpR op_notN (pv 3) pe_non (nomark _)) (pss_one (L2N.ps_raise rfl (L2N.takes_of rfl rfl rfl rfl) (pmk_oexN TI.o TI.i TI.t GI hr2 bI .nil pass0 rfl TI.g (pa_cons (pe_op op_add (pe_callB call_len_seq rfl (gn _ (by decide)) PySem.boot_len (pa_cons (pv 1) pa_nil)) (pv 3)) pa_nil)))) pss_nil)
      (pss_cons (ps_fld (pv 0) (pe_callB call_len_seq rfl (gn _ (by decide)) PySem.boot_len (pa_cons (pv 1) pa_nil)) rfl)
      (pss_cons (ps_fld (pv 0) (pe_callTy (r := rTupOf K) cr_tuple rfl (gn _ (by decide)) PyProof.Rows.boot_tuple (pa_cons (pv 1) pa_nil)) rfl)
      (pss_cons (ps_fld (pv 0) (pe_callTy (r := rTupOf K) cr_tuple rfl (gn _ (by decide)) PyProof.Rows.boot_tuple (pa_cons (pe_callB (cr_sortedG rfl) rfl (gn _ (by decide)) PyProof.Rows.boot_sorted (pa_cons (pe_callTy (cr_setL rfl hr.units) rfl (gn _ (by decide)) PyProof.Rows.boot_set (pa_cons (pv 2) pa_nil)) pa_nil)) pa_nil)) rfl)
      (pss_one (ps_fld (pv 0) (pe_call G4 hr1 rfl D.bt.g D.bt.F.kp D.bt.b .nil pass0 (pa_cons (pe_fld (pv 0) rfl) (pa_cons (pe_fld (pv 0) rfl) pa_nil))) rfl)))))))), ?_⟩
    have sq : SqA K H a (ts.map V.int) := ha
    have lm : ((ts.map V.int).length : Int) = (ts.length : Nat) := by rw [List.length_map]
    obtain ⟨o, ho, ho2⟩ : ∃ o, H a = some o ∧ (o = .lst (ts.map V.int) ∨ o = .tup (ts.map V.int)) := by
      rcases ha with h | h
      · exact ⟨_, h, .inl rfl⟩
      · exact ⟨_, h, .inr rfl⟩
    refine ⟨_, rfl, .ref a, rfl, .inr ⟨a, ts.map V.int, o, rfl, ho, ho2, pln_ints, fun _ H1 s1 => ?_, fun n e => by rw [ht] at e; cases e⟩⟩
    refine ⟨_, rfl, _, rfl, a, _, rfl, (sq.same s1).sq, .ref l, _, rfl, .inr ⟨l, _, _, ks.map fun _ => true, rfl, s1 _ _ hl, .inl rfl, by simp, fun i v b hv hb => ?_, fun _ H2 s2 => ?_, fun n e => ?_⟩⟩
    · rw [List.getElem?_map, Option.map_eq_some_iff] at hv
      obtain ⟨q, hq, rfl⟩ := hv
      rw [List.getElem?_map, hq] at hb
      cases hb
      obtain ⟨h1, h2⟩ := ok q (List.mem_of_getElem? hq)
      have z := Itm.tri (m := ((ts.map V.int).length : Int)) (s1 _ _ h1)
      rw [lm, h2] at z
      rw [lm]
      exact z
    · have s12 := sTr s1 s2
      refine ⟨_, rfl, _, rfl, a, l, ts, ks, rfl, sq.same s12, s12 _ _ hl, fun q hq => .of (s12 _ _ (ok q hq).1), lim, fun q hq => ⟨s12 _ _ (ok q hq).1, (ok q hq).2⟩, fun H3 s3 => ?_⟩
      have s13 := sTr s12 s3
      cases hk : lack ts (ks.map (·.2)) with
      | some i =>
        refine ⟨_, rfl, rfl, _, rfl, iteT ⟨_, rfl, a, _, rfl, (sq.same s13).sq, _, rfl, _, _, rfl, rfl, (show 1 ≤ 1000 by decide), fun a na => ?_⟩⟩
        rw [lm]
        exact raise_read (k2 i hk H3 s13) a na
      | none =>
        refine ⟨_, rfl, rfl, _, rfl, iteF ?_⟩
        refine ⟨_, rfl, a, _, rfl, (sq.same s13).sq, _, rfl, x, C, dx, [], rfl, s13 _ _ hx, KC.c, KC.n1, (show 0 < 1000 by decide), ?_⟩
        have b4 : SameB x H3 (upd H3 x (.ins C dx (putF "relations" (.int ((ts.map V.int).length : Int)) []))) := SameB.put
        have x4 : (upd H3 x (.ins C dx (putF "relations" (.int ((ts.map V.int).length : Int)) []))) x = some (.ins C dx [("relations", .int (ts.length : Nat))]) := by
          rw [upd_same, lm] <;> rfl
        generalize upd H3 x (.ins C dx (putF "relations" (.int ((ts.map V.int).length : Int)) [])) = H4 at b4 x4 ⊢
        have nx : ∀ {o : HO}, (∀ fs, o ≠ .ins C dx fs) → ∀ b, H b = some o → b ≠ x := fun n b e z => by
          rw [z, hx, Option.some.injEq] at e
          exact n [] e.symm
        have c4 : SameB x H H4 := (SameB.of s13).tr b4
        have sq4 : SqA K H4 a (ts.map V.int) := by
          rcases ha with h | h
          · exact .inl (c4 _ _ h (nx (fun fs z => by cases z) a h))
          · exact .inr (c4 _ _ h (nx (fun fs z => by cases z) a h))
        have hl4 := c4 _ _ hl (nx (fun fs z => by cases z) l hl)
        have ok4 : ∀ q ∈ ks, H4 q.1 = some (.tup (q.2.map V.int)) := fun q hq => c4 _ _ (ok q hq).1 (nx (fun fs z => by cases z) q.1 (ok q hq).1)
        -- self.turned
        refine ⟨_, rfl, ?_⟩
        unfold tNil
        dsimp only
        refine tuple_any sq4 fun tt H5 s5 htt => ⟨_, rfl, x, C, dx, _, rfl, s5 _ _ x4, KC.c, KC.n2, (show 1 < 1000 by decide), ?_⟩
        have xt : tt ≠ x := fun z => by
          rw [z, s5 _ _ x4] at htt
          cases htt
        have c6 : SameB x H4 (upd H5 x (.ins C dx (putF "turned" (.ref tt) [("relations", .int (ts.length : Nat))]))) := (SameB.of s5).tr SameB.put
        have x6 : (upd H5 x (.ins C dx (putF "turned" (.ref tt) [("relations", .int (ts.length : Nat))]))) x = some (.ins C dx [("relations", .int (ts.length : Nat)), ("turned", .ref tt)]) := upd_same
        have t6 : (upd H5 x (.ins C dx (putF "turned" (.ref tt) [("relations", .int (ts.length : Nat))]))) tt = some (.tup (ts.map V.int)) := by rw [upd_ne xt]; exact htt
        generalize upd H5 x (.ins C dx (putF "turned" (.ref tt) [("relations", .int (ts.length : Nat))])) = H6 at c6 x6 t6 ⊢
        have nx4 : ∀ {o : HO}, (∀ fs, o ≠ .ins C dx fs) → ∀ b, H4 b = some o → b ≠ x := fun n b e z => by
          rw [z, x4, Option.some.injEq] at e
          exact n _ e.symm
        have hl6 := c6 _ _ hl4 (nx4 (fun fs z => by cases z) l hl4)
        have ok6 : ∀ q ∈ ks, H6 q.1 = some (.tup (q.2.map V.int)) := fun q hq => c6 _ _ (ok4 q hq) (nx4 (fun fs z => by cases z) q.1 (ok4 q hq))
        -- self.triples
        refine ⟨_, rfl, l, ks, rfl, .of hl6, fun q hq => .of (ok6 q hq), lim, fun S L nS sub all uni => ?_⟩
        have sS := same1 (o := SetGO P w S L) nS
        refine ⟨S, L, rfl, upd_same, fun q hq => .of (sS _ _ (ok6 q (sub q hq))), fun q hq e => ?_, fun L1 p1 pm asc few np1 => ?_⟩
        · obtain ⟨u, v, z, e2, _⟩ := tri_parts (ok q (sub q hq)).2
          rw [e2] at e
          cases e
        have sp1 := same1 (o := .lst (L1.map fun q : Tri => V.ref q.1)) np1
        refine ⟨p1, _, rfl, .inl ⟨.of upd_same, fun tr ntr => ⟨_, rfl, x, C, dx, _, rfl, (sTr sS (sTr sp1 (same1 ntr))) _ _ x6, KC.c, KC.n3, (show 2 < 1000 by decide), ?_⟩⟩⟩
        have s7 : Same H6 (upd (upd (upd H6 S (SetGO P w S L)) p1 (.lst (L1.map fun q : Tri => V.ref q.1))) tr (.tup (L1.map fun q : Tri => V.ref q.1))) := sTr sS (sTr sp1 (same1 (o := .tup (L1.map fun q : Tri => V.ref q.1)) ntr))
        have htr : (upd (upd (upd H6 S (SetGO P w S L)) p1 (.lst (L1.map fun q : Tri => V.ref q.1))) tr (.tup (L1.map fun q : Tri => V.ref q.1))) tr = some (.tup (L1.map fun q : Tri => V.ref q.1)) := upd_same
        have neT : ∀ {d : Addr} {xs : List V}, H6 d = some (.tup xs) → d ≠ x := fun e z => by
          rw [z, x6] at e
          cases e
        have ok7 : ∀ q ∈ L1, (upd (upd (upd H6 S (SetGO P w S L)) p1 (.lst (L1.map fun q : Tri => V.ref q.1))) tr (.tup (L1.map fun q : Tri => V.ref q.1))) q.1 = some (.tup (q.2.map V.int)) ∧ q.1 ≠ x := fun q hq =>
          have z := ok6 q (sub q (pm.mem_iff.mp hq))
          ⟨s7 _ _ z, neT z⟩
        have t7 := s7 _ _ t6
        have x7 := s7 _ _ x6
        have c7 : SameB x H6 (upd (upd (upd H6 S (SetGO P w S L)) p1 (.lst (L1.map fun q : Tri => V.ref q.1))) tr (.tup (L1.map fun q : Tri => V.ref q.1))) := SameB.of s7
        show Ends.nx _ _ (upd (upd (upd (upd H6 S (SetGO P w S L)) p1 (.lst (L1.map fun q : Tri => V.ref q.1))) tr (.tup (L1.map fun q : Tri => V.ref q.1))) x (.ins C dx (putF "triples" (.ref tr) [("relations", .int (ts.length : Nat)), ("turned", .ref tt)])))
        generalize upd (upd (upd H6 S (SetGO P w S L)) p1 (.lst (L1.map fun q : Tri => V.ref q.1))) tr (.tup (L1.map fun q : Tri => V.ref q.1)) = H7 at htr ok7 t7 x7 c7 ⊢
        have xr : tr ≠ x := fun z => by
          rw [z, x7] at htr
          cases htr
        have x8 : (upd H7 x (.ins C dx (putF "triples" (.ref tr) [("relations", .int (ts.length : Nat)), ("turned", .ref tt)]))) x = some (.ins C dx [("relations", .int (ts.length : Nat)), ("turned", .ref tt), ("triples", .ref tr)]) := upd_same
        have c8 : SameB x H7 (upd H7 x (.ins C dx (putF "triples" (.ref tr) [("relations", .int (ts.length : Nat)), ("turned", .ref tt)]))) := SameB.put
        generalize upd H7 x (.ins C dx (putF "triples" (.ref tr) [("relations", .int (ts.length : Nat)), ("turned", .ref tt)])) = H8 at x8 c8 ⊢
        refine ⟨_, rfl, x, C, dx, _, .int (ts.length : Nat), rfl, x8, KC.c, KC.n1, rfl, _, rfl, x, C, dx, _, .ref tr, rfl, x8, KC.c, KC.n3, rfl, ts.length, tr, L1, rfl, l100, c8 _ _ htr xr, fun q hq => ⟨c8 _ _ (ok7 q hq).1 (ok7 q hq).2, (ok q (sub q (pm.mem_iff.mp hq))).2⟩, fun tb H9 s9 ntb rows => ?_⟩
        refine ⟨_, rfl, x, C, dx, _, rfl, s9 _ _ x8, KC.c, KC.n4, (show 3 < 1000 by decide), ?_⟩
        refine k1 hk _ (L1.map (·.2)) (c4.tr (c6.tr (c7.tr (c8.tr ((SameB.of s9).tr SameB.put))))) ⟨List.pairwise_map (f := fun q : Tri => q.2) (R := fun q r => lx q r = true) |>.mpr asc, fun t => ⟨fun h => ?_, fun h => ?_⟩⟩ ?_
        · obtain ⟨q, hq, e⟩ := List.mem_map.mp h
          exact List.mem_map.mpr ⟨q, sub q (pm.mem_iff.mp hq), e⟩
        · obtain ⟨q, hq, e⟩ := List.mem_map.mp h
          rw [(pm.map (·.2)).mem_iff, ← e]
          exact all q hq
        · refine ⟨dx, tt, tr, tb, L1, upd_same, ?_, ?_, asc, rfl, fun q hq => ?_, rows.put (s9 _ _ x8)⟩
          · rw [upd_ne xt]
            exact s9 _ _ (c8 _ _ t7 xt)
          · rw [upd_ne xr]
            exact s9 _ _ (c8 _ _ htr xr)
          · rw [upd_ne (ok7 q hq).2]
            exact s9 _ _ (c8 _ _ (ok7 q hq).1 (ok7 q hq).2)
    · rw [firstNo_no (fun j hj => by
        rw [List.length_map] at hj
        rw [List.getElem?_map, List.getElem?_eq_getElem hj] <;> rfl)] at e
      cases e
end
end RD
set_option maxRecDepth 100000
set_option maxHeartbeats 4000000
namespace RD
open PySem PySem.Spec PyProof.Rows L2 Rd Tb Cn
/-! ### lists of new triples -/
/-- so far: the list at D holds the triples T -/
def Acc (D : Addr) (H0 : Hp) (T : List (List Int)) (H : Hp) : Prop := Same H0 H ∧ ∃ ks : List Tri, H D = some (.lst (ks.map fun q => V.ref q.1)) ∧ ks.map (·.2) = T ∧ ∀ q ∈ ks, q.1 ≠ D ∧ H q.1 = some (.tup (q.2.map V.int))
theorem Acc.nil {D : Addr} {H0 : Hp} (n : H0 D = none) : Acc D H0 [] (upd H0 D (.lst [])) := ⟨same1 n, [], upd_same, rfl, fun q hq => absurd hq (by simp)⟩
theorem Acc.push {D p : Addr} {H0 H : Hp} {T : List (List Int)} {t : List Int} (a : Acc D H0 T H) (nD : H0 D = none) (np : H p = none) (few : T.length < 1000) :
    ∃ acc, (upd H p (.tup (t.map V.int))) D = some (.lst acc) ∧ acc.length < sizeLine ∧ Acc D H0 (T ++ [t]) (upd (upd H p (.tup (t.map V.int))) D (.lst (acc ++ [.ref p]))) := by
  obtain ⟨s, ks, hD, eT, tk⟩ := a
  have sp := same1 (o := .tup (t.map V.int)) np
  have pD : p ≠ D := fun z => by rw [z, hD] at np; cases np
  have lk : ks.length = T.length := by rw [← eT, List.length_map]
  have z : 1000 ≤ sizeLine := by decide
  refine ⟨_, sp _ _ hD, by rw [List.length_map]; omega, fun b o e => ?_, ks ++ [(p, t)], by rw [upd_same]; simp, by rw [List.map_append, eT] <;> rfl, fun q hq => ?_⟩
  · rw [upd_ne fun z => by rw [z, nD] at e; cases e]
    exact sp _ _ (s _ _ e)
  · rcases List.mem_append.mp hq with z | z
    · obtain ⟨n1, h1⟩ := tk q z
      exact ⟨n1, by rw [upd_ne n1]; exact sp _ _ h1⟩
    · rw [List.mem_singleton.mp z]
      exact ⟨pD, by rw [upd_ne pD]; exact upd_same⟩
/-- a new list of new triples, these -/
def NewT (H : Hp) (T : List (List Int)) (Q : VK) : Prop := ∀ l (ks : List Tri) H1, Same H H1 → H l = none → H1 l = some (.lst (ks.map fun q => V.ref q.1)) → ks.map (·.2) = T → (∀ q ∈ ks, H1 q.1 = some (.tup (q.2.map V.int))) → Q (.ref l) H1
theorem Acc.fin {D : Addr} {H0 H : Hp} {T : List (List Int)} {Q : VK} (a : Acc D H0 T H) (nD : H0 D = none) (k : NewT H0 T Q) : Q (.ref D) H := by
  obtain ⟨s, ks, hD, eT, tk⟩ := a
  exact k D ks H s nD hD eT fun q hq => (tk q hq).2
theorem cl_range {lo : Int} {n : Nat} {c : Cl} {cs : List Cl} {te : TE} {D : Addr} {σ : L2.St} {H1 : Hp} {Nx : Hp → Prop} (Pv : Nat → Hp → Prop) (h0 : Pv 0 H1)
    (hs : ∀ i H, i < n → Pv i H → c.g (.int (lo + i)) (wipe σ c.vs) H fun σ2 H2 => wipe σ2 c.vs = wipe σ c.vs ∧ c.tt σ2 H2 fun b H3 => if b = true then tCls te D cs σ2 H3 (Pv (i + 1)) else Pv (i + 1) H3) (hd : ∀ H, Pv n H → Nx H) :
    ∃ W : Nat → Nat → Hp → Prop, (∃ m, W 0 m H1) ∧ ∀ i m H, W i m H → ((Itr lo n).stop i H ∧ Nx H) ∨ ((Itr lo n).go i H ∧ ∃ N1 : Hp → Prop, (∀ H', N1 H' → ∃ m', m' < m ∧ W (i + 1) m' H') ∧
      ∀ x H', (Itr lo n).yld i H x H' → c.g x (wipe σ c.vs) H' fun σ2 H2 => wipe σ2 c.vs = wipe σ c.vs ∧ c.tt σ2 H2 fun b H3 => if b = true then tCls te D cs σ2 H3 N1 else N1 H3) := by
  refine ⟨fun i m H => m = n - i ∧ i ≤ n ∧ Pv i H, ⟨n, by simp, Nat.zero_le _, h0⟩, ?_⟩
  rintro i m H ⟨rfl, hi, p⟩
  by_cases lt : i < n
  · refine .inr ⟨lt, Pv (i + 1), fun H' p' => ⟨n - (i + 1), by omega, rfl, lt, p'⟩, fun x H' y => ?_⟩
    obtain ⟨e, y⟩ := y
    subst e y
    exact hs i _ lt p
  · obtain rfl : i = n := by omega
    exact .inl ⟨Nat.le_refl _, hd H p⟩
theorem pc_nil {Y : Cx} {vs : List Nat} : PCls Y vs [] [] := trivial
theorem pc_cons {Y : Cx} {vs us : List Nat} {tg iter : Expr} {ifs : List Expr} {es : List Comprehension} {wi : TI} {g : TG} {tt : TT} {cs : List Cl} (hi : PI Y tg iter wi) (hg : PG Y tg g) (ht : PTs Y ifs tt) (hp : ∀ x, foldedSetIterable iter Y.env x = pure x) (sub : ∀ i ∈ us, i ∈ vs) (r : PCls Y us es cs) : PCls Y vs (⟨tg, iter, ifs, 0⟩ :: es) (⟨wi, g, tt, us⟩ :: cs) := ⟨⟨hi, hg, ht, hp⟩, sub, r⟩
/-- the first n of a row of lists, joined -/
def upto (f : Nat → List (List Int)) (n : Nat) : List (List Int) := (List.range n).flatMap f
theorem upto_succ (f : Nat → List (List Int)) (n : Nat) : upto f (n + 1) = upto f n ++ f n := by
  unfold upto
  rw [List.range_succ, List.flatMap_append]
  simp
theorem upto_len {f : Nat → List (List Int)} {m : Nat} (h : ∀ i, (f i).length ≤ m) : ∀ n, (upto f n).length ≤ n * m
  | 0 => by simp [upto]
  | n + 1 => by
    rw [upto_succ, List.length_append, Nat.succ_mul]
    have := upto_len h n
    have := h n
    omega
def allT (n : Nat) : List (List Int) := upto (fun x => upto (fun y => upto (fun z => [[(x : Int), (y : Int), (z : Int)]]) n) n) n
def sp_all_triples : Sp := fun vs H Q _ => ∃ n : Nat, vs = [.int (n : Nat)] ∧ n ≤ 6 ∧ NewT H (allT n) Q
section
variable {P : Program} {w : World} {K : PySem.W.Frag} {mg : Str → Option Value} {base : Heap}
theorem sc_all_triples : FnScope ["many", "x", "y", "z"] ["many"] (defScope s_all_triples) := ⟨rfl, rfl, rfl, by decide +kernel, rfl, by decide +kernel, by decide +kernel⟩
theorem ok_all_triples (D : Df K mg "all_triples" s_all_triples ["many"]) (B : Bn mg) : FnOk P w K mg base CX0 1 D.f D.fd ["many"] sp_all_triples := by
  refine D.F.ok sc_all_triples (fun vs H Q E h => ?_) (fun cdv A outer s H vs Q E hr h => ?_)
  · obtain ⟨n, rfl, _⟩ := h
    rfl
  · obtain ⟨n, rfl, ln, k⟩ := h
    have gn := B.gn
    have nd := sc_all_triples.nd
    refine ⟨_, pss_one (ps_ret (pe_lcN (own := [("x", 1), ("y", 2), ("z", 3)]) (g := gName 1) (tt := tYes) (cs := [⟨_, gName 2, tYes, [2, 3]⟩, ⟨_, gName 3, tYes, [3]⟩]) rfl nd (pi_range1 rfl (gn _ (by decide)) (pa_cons (pv 0) pa_nil)) (blkOk_by (N := ["many", "x", "y", "z"]) (sc := defScope s_all_triples) (by decide +kernel))
      (fun _ _ _ _ _ => pg_name (i := 1) nd rfl (Or.inl rfl)) (fun _ _ _ _ _ => pts_nil)
      (fun _ _ _ _ _ => pc_cons (pi_range1 rfl (gn _ (by decide)) (pa_cons (pv 0) pa_nil)) (pg_name (i := 2) nd rfl (Or.inl rfl)) pts_nil (fun _ => rfl) (by decide) (pc_cons (pi_range1 rfl (gn _ (by decide)) (pa_cons (pv 0) pa_nil)) (pg_name (i := 3) nd rfl (Or.inl rfl)) pts_nil (fun _ => rfl) (by decide) pc_nil))
      (fun _ _ _ _ _ => pe_tup (pa_cons (pv 1) (pa_cons (pv 2) (pa_cons (pv 3) pa_nil)))))), ?_⟩
    have b62 : -(2 ^ 62) ≤ (n : Int) ∧ (n : Int) < 2 ^ 62 := by omega
    have z3 : 3 ≤ sizeLine := by decide
    have F2l : ∀ i j k : Nat, (upto (fun z : Nat => [[(i : Int), (j : Int), (z : Int)]]) k).length ≤ k * 1 := fun i j k => upto_len (fun _ => Nat.le_refl 1) k
    have F1l : ∀ i j : Nat, (upto (fun y : Nat => upto (fun z : Nat => [[(i : Int), (y : Int), (z : Int)]]) n) j).length ≤ j * n := fun i j => upto_len (fun y => by have := F2l i y n; omega) j
    have F0l : ∀ i : Nat, (upto (fun x : Nat => upto (fun y : Nat => upto (fun z : Nat => [[(x : Int), (y : Int), (z : Int)]]) n) n) i).length ≤ i * (n * n) := fun i => upto_len (fun x => F1l x n) i
    have nn : n * n ≤ 36 := Nat.mul_le_mul ln ln
    refine ⟨_, rfl, n, rfl, b62.1, b62.2, fun D nD => cl_range (c := ⟨fun _ _ _ => True, gName 1, tYes, [1, 2, 3]⟩) (lo := 0) (n := n) (fun i => Acc D H (upto (fun x : Nat => upto (fun y : Nat => upto (fun z : Nat => [[(x : Int), (y : Int), (z : Int)]]) n) n) i)) (Acc.nil nD) (fun i H1 hi a1 => ?_) (fun H1 a1 => a1.fin nD k)⟩
    refine ⟨rfl, _, rfl, n, rfl, b62.1, b62.2, cl_range (c := ⟨fun _ _ _ => True, gName 2, tYes, [2, 3]⟩) (lo := 0) (n := n) (fun j => Acc D H (upto (fun x : Nat => upto (fun y : Nat => upto (fun z : Nat => [[(x : Int), (y : Int), (z : Int)]]) n) n) i ++ upto (fun y : Nat => upto (fun z : Nat => [[(i : Int), (y : Int), (z : Int)]]) n) j))
      (by rw [show upto (fun y : Nat => upto (fun z : Nat => [[(i : Int), (y : Int), (z : Int)]]) n) 0 = [] from rfl, List.append_nil]; exact a1) (fun j H2 hj a2 => ?_) (fun H2 a2 => by rw [upto_succ]; exact a2)⟩
    refine ⟨rfl, _, rfl, n, rfl, b62.1, b62.2, cl_range (c := ⟨fun _ _ _ => True, gName 3, tYes, [3]⟩) (lo := 0) (n := n) (fun k => Acc D H ((upto (fun x : Nat => upto (fun y : Nat => upto (fun z : Nat => [[(x : Int), (y : Int), (z : Int)]]) n) n) i ++ upto (fun y : Nat => upto (fun z : Nat => [[(i : Int), (y : Int), (z : Int)]]) n) j) ++ upto (fun z : Nat => [[(i : Int), (j : Int), (z : Int)]]) k))
      (by rw [show upto (fun z : Nat => [[(i : Int), (j : Int), (z : Int)]]) 0 = [] from rfl, List.append_nil]; exact a2) (fun m H3 hm a3 => ?_) (fun H3 a3 => by rw [upto_succ, ← List.append_assoc]; exact a3)⟩
    refine ⟨rfl, _, rfl, _, rfl, _, rfl, z3, fun p np => ?_⟩
    have few : ((upto (fun x : Nat => upto (fun y : Nat => upto (fun z : Nat => [[(x : Int), (y : Int), (z : Int)]]) n) n) i ++ upto (fun y : Nat => upto (fun z : Nat => [[(i : Int), (y : Int), (z : Int)]]) n) j) ++ upto (fun z : Nat => [[(i : Int), (j : Int), (z : Int)]]) m).length < 1000 := by
      rw [List.length_append, List.length_append]
      have h0 := F0l i
      have h1 := F1l i j
      have h2 := F2l i j m
      have m0 : i * (n * n) ≤ 6 * 36 := Nat.mul_le_mul (by omega) nn
      have m1 : j * n ≤ 6 * 6 := Nat.mul_le_mul (by omega) ln
      omega
    have z := Acc.push (t := [(i : Int), (j : Int), (m : Int)]) a3 nD np few
    rw [upto_succ, ← List.append_assoc]
    simp only [Int.zero_add]
    exact z
end
end RD
set_option maxRecDepth 100000
set_option maxHeartbeats 4000000
namespace RD
open PySem PySem.Spec PyProof.Rows L2 Rd Tb Cn
/-- 0, 1, .., n - 1 -/
def upN (n : Nat) : List Int := (List.range n).map fun (i : Nat) => (i : Int)
def sp_own_turned : Sp := fun vs H Q _ => ∃ n : Nat, vs = [.int (n : Nat)] ∧ n ≤ 100 ∧ ∀ q, H q = none → Q (.ref q) (upd H q (.tup ((upN n).map V.int)))
section
variable {P : Program} {w : World} {K : PySem.W.Frag} {mg : Str → Option Value} {base : Heap}
theorem sc_own_turned : FnScope ["many"] ["many"] (defScope s_own_turned) := ⟨rfl, rfl, rfl, by decide +kernel, rfl, by decide +kernel, by decide +kernel⟩
theorem ok_own_turned (D : Df K mg "own_turned" s_own_turned ["many"]) (B : Bn mg) : FnOk P w K mg base CX0 1 D.f D.fd ["many"] sp_own_turned := by
  refine D.F.ok sc_own_turned (fun vs H Q E h => ?_) (fun cdv A outer s H vs Q E hr h => ?_)
  · obtain ⟨n, rfl, _⟩ := h
    rfl
  · obtain ⟨n, rfl, ln, k⟩ := h
    have gn := B.gn
    refine ⟨_, pss_one (ps_ret (pe_tupRg rfl rfl (gn _ (by decide)) (prg_1 rfl (gn _ (by decide)) (pv 0)))), ?_⟩
    refine ⟨_, rfl, n, rfl, ?_, fun q nq => ?_⟩
    · exact RgOk.of_le (by omega) (by omega) (by omega) (by omega)
    · have e : rgV 0 n = (upN n).map V.int := by simp [rgV, upN]
      rw [e]
      exact k q nq
end
/-! ### triples of numbers below n -/
theorem mem_upto {f : Nat → List (List Int)} {n : Nat} {t : List Int} : t ∈ upto f n ↔ ∃ i, i < n ∧ t ∈ f i := by
  unfold upto
  rw [List.mem_flatMap]
  exact ⟨fun ⟨i, h1, h2⟩ => ⟨i, List.mem_range.mp h1, h2⟩, fun ⟨i, h1, h2⟩ => ⟨i, List.mem_range.mpr h1, h2⟩⟩
theorem mem_allT {n : Nat} {t : List Int} : t ∈ allT n ↔ triOk n t = true := by
  unfold allT
  constructor
  · intro h
    obtain ⟨x, lx, h⟩ := mem_upto.mp h
    obtain ⟨y, ly, h⟩ := mem_upto.mp h
    obtain ⟨z, lz, h⟩ := mem_upto.mp h
    rw [List.mem_singleton.mp h]
    simp [triOk, lx, ly, lz]
  · intro h
    obtain ⟨x, y, z, rfl, lx, ly, lz⟩ := tri_nat h
    exact mem_upto.mpr ⟨x, lx, mem_upto.mpr ⟨y, ly, mem_upto.mpr ⟨z, lz, List.mem_singleton.mpr rfl⟩⟩⟩
theorem triOk_iff {n : Nat} {x y z : Int} : triOk n [x, y, z] = true ↔ In n x ∧ In n y ∧ In n z := by
  simp [triOk, In]
/-- a row of ints that turns -/
structure Turns (ts : List Int) : Prop where
  ne : ts ≠ []
  bd : ∀ x, In ts.length x → In ts.length (tn ts x)
  inv : ∀ x, In ts.length x → tn ts (tn ts x) = x
theorem six_in {ts : List Int} (T : Turns ts) {t : List Int} (h : triOk ts.length t = true) : ∀ r ∈ sixL ts t, triOk ts.length r = true := by
  obtain ⟨x, y, z, rfl, ix, iy, iz⟩ := tri_parts h
  have jx := T.bd x ix
  have jy := T.bd y iy
  have jz := T.bd z iz
  intro r hr
  simp only [sixL, six, List.mem_cons, List.not_mem_nil, or_false] at hr
  rcases hr with rfl | rfl | rfl | rfl | rfl | rfl <;> exact triOk_iff.mpr ⟨by assumption, by assumption, by assumption⟩
theorem turnBad_turns {ts : List Int} (T : Turns ts) : turnBad (ts.map V.int) = none := by
  refine turnBad_no (by simpa using T.ne) fun j hj => ?_
  rw [List.length_map] at hj
  have ij : In ts.length (j : Int) := ⟨by omega, by omega⟩
  have e1 := tn_at ij
  have b := T.bd _ ij
  have e2 := tn_at b
  rw [Int.toNat_natCast] at e1
  have v := T.inv _ ij
  rw [v] at e2
  unfold turnOk
  rw [e1]
  dsimp only
  rw [e2]
  simp [isBelow, b.1, b.2, hj]
/-- nothing is lacking where all triples of a symmetric test stand -/
theorem lack_filter {ts : List Int} (T : Turns ts) {p : List Int → Bool} (sym : ∀ t, triOk ts.length t = true → p t = true → ∀ r ∈ sixL ts t, p r = true) : lack ts ((allT ts.length).filter p) = none := by
  refine lack_no fun j u hu => List.all_eq_true.mpr fun r hr => decide_eq_true ?_
  obtain ⟨h1, h2⟩ := List.mem_filter.mp (List.mem_of_getElem? hu)
  have ok := mem_allT.mp h1
  exact List.mem_filter.mpr ⟨mem_allT.mpr (six_in T ok r hr), sym u ok h2 r hr⟩
theorem upN_len (n : Nat) : (upN n).length = n := by simp [upN]
theorem tn_upN {n : Nat} {x : Int} (h : In n x) : tn (upN n) x = x := by
  have l : x.toNat < n := by
    have := h.1
    have := h.2
    omega
  have e : (upN n)[x.toNat]? = some x := by
    unfold upN
    rw [List.getElem?_map, List.getElem?_range l]
    exact congrArg some (Int.toNat_of_nonneg h.1)
  simp [tn, List.getD, e]
theorem turns_upN {n : Nat} (h : 0 < n) : Turns (upN n) := by
  refine ⟨fun e => ?_, fun x hx => ?_, fun x hx => ?_⟩
  · have z := upN_len n
    rw [e] at z
    simp at z
    omega
  · rw [upN_len] at hx ⊢
    rw [tn_upN hx]
    exact hx
  · rw [upN_len] at hx
    rw [tn_upN hx, tn_upN hx]
/-- a kind is made -/
def NewK (C : Addr) (H : Hp) (ts : List Int) (D : List (List Int)) (Q : VK) : Prop := ∀ x T H1, Same H H1 → AscOf T D → KindAt C H1 x ts T → Q (.ref x) H1
theorem make_kind {C CE : Addr} {H : Hp} {a l : Addr} {ts : List Int} {ks : List Tri} {Q : VK} {E : XK} (l100 : ts.length ≤ 100) (sq : H a = some (.lst (ts.map V.int)) ∨ H a = some (.tup (ts.map V.int))) (ht : turnBad (ts.map V.int) = none) (hl : H l = some (.lst (ks.map fun q => V.ref q.1))) (lim : ks.length ≤ 300)
    (ok : ∀ q ∈ ks, H q.1 = some (.tup (q.2.map V.int)) ∧ triOk ts.length q.2 = true) (nl : lack ts (ks.map (·.2)) = none) (k : NewK C H ts (ks.map (·.2)) Q) :
    ∀ x dx, H x = none → H dx = none → dx ≠ x → sp_Kind_init C CE [.ref x, .ref a, .ref l] (upd (upd H dx (.own x)) x (.ins C dx [])) (fun v H2 => v = .non ∧ Q (.ref x) H2) E := by
  intro x dx nx nd ne
  have s2 : Same H (upd (upd H dx (.own x)) x (.ins C dx [])) := smu (same1 nd) (by rw [upd_ne (Ne.symm ne)]; exact nx)
  refine ⟨x, a, l, dx, ts, ks, rfl, l100, upd_same, sq.imp (s2 _ _) (s2 _ _), ht, s2 _ _ hl, lim, fun q hq => ⟨s2 _ _ (ok q hq).1, (ok q hq).2⟩, fun _ H1 T sb as ka => ⟨rfl, k x T H1 (fun b o e => sb b o (s2 b o e) fun z => by rw [z, nx] at e; cases e) as ka⟩, fun i e => by rw [nl] at e; cases e⟩
end RD
set_option maxRecDepth 100000
set_option maxHeartbeats 4000000
namespace RD
open PySem PySem.Spec PyProof.Rows L2 Rd Tb Cn
/-- the class Kind with its __init__ -/
structure KindK (P : Program) (w : World) (K : PySem.W.Frag) (mg : Str → Option Value) (base : Heap) (C CE : Addr) : Prop where
  ex : ∃ fK fdK, KindC K mg C fK ∧ FnOk P w K mg base (L2N.CX P w) 8 fK fdK ["self", "turned", "triples"] (sp_Kind_init C CE) ∧ Binds K fdK ["self", "turned", "triples"] []
/-- a promise of a def that makes a kind of so many relations by a number -/
def sp_kindN (C : Addr) (ok : Nat → Prop) (ts : Nat → List Int) (D : Nat → List (List Int)) : Sp := fun vs H Q _ => ∃ n : Nat, vs = [.int (n : Nat)] ∧ 0 < n ∧ n ≤ 6 ∧ ok n ∧ NewK C H (ts n) (D n) Q
theorem allT_len {n : Nat} (h : n ≤ 6) : (allT n).length ≤ 300 := by
  have F2l : ∀ (i j : Nat) k, (upto (fun z : Nat => [[(i : Int), (j : Int), (z : Int)]]) k).length ≤ k * 1 := fun i j k => upto_len (fun _ => Nat.le_refl 1) k
  have F1l : ∀ (i : Nat) j, (upto (fun y : Nat => upto (fun z : Nat => [[(i : Int), (y : Int), (z : Int)]]) n) j).length ≤ j * n := fun i j => upto_len (fun y => by have := F2l i y n; omega) j
  have F0l : (allT n).length ≤ n * (n * n) := upto_len (fun x => F1l x n) n
  have nn : n * n ≤ 36 := Nat.mul_le_mul h h
  have n3 : n * (n * n) ≤ 6 * 36 := Nat.mul_le_mul h nn
  omega
section
variable {P : Program} {w : World} {K : PySem.W.Frag} {mg : Str → Option Value} {base : Heap}
theorem sc_free_kind : FnScope ["many"] ["many"] (defScope s_free_kind) := ⟨rfl, rfl, rfl, by decide +kernel, rfl, by decide +kernel, by decide +kernel⟩
theorem ok_free_kind {C CE : Addr} (D : Df K mg "free_kind" s_free_kind ["many"]) (D1 : Df K mg "own_turned" s_own_turned ["many"]) (D2 : Df K mg "all_triples" s_all_triples ["many"]) (B : Bn mg) (KK : KindK P w K mg base C CE) :
    FnOk P w K mg base (L2N.CX P w) 10 D.f D.fd ["many"] (sp_kindN C (fun _ => True) upN allT) := by
  have G1 : FnOk P w K mg base CX0 1 D1.f D1.fd ["many"] sp_own_turned := ok_own_turned D1 B
  have G2 : FnOk P w K mg base CX0 1 D2.f D2.fd ["many"] sp_all_triples := ok_all_triples D2 B
  obtain ⟨fK, fdK, KC, GK, bK⟩ := KK.ex
  refine okN D.F sc_free_kind (fun vs H Q E h => ?_) (fun cdv A outer s H vs Q E hr h => ?_)
  · obtain ⟨n, rfl, _⟩ := h
    rfl
  · obtain ⟨n, rfl, n0, n6, _, k⟩ := h
    have hr1 := hr.mono (show 1 ≤ 9 by decide)
    refine ⟨_, pss_one (ps_ret (pe_make KC.M GK hr rfl KC.g bK .nil passN (pa_cons (pe_call G1 hr1 rfl D1.g D1.F.kp D1.b .nil pass0 (pa_cons (pv 0) pa_nil)) (pa_cons (pe_call G2 hr1 rfl D2.g D2.F.kp D2.b .nil pass0 (pa_cons (pv 0) pa_nil)) pa_nil)))), ?_⟩
    refine ⟨_, rfl, n, rfl, by omega, fun q nq => ⟨_, rfl, n, rfl, n6, fun l ks H1 s1 nl hl eT tk => ?_⟩⟩
    have sq := same1 (o := .tup ((upN n).map V.int)) nq
    have lk : ks.length ≤ 300 := by
      have z := allT_len n6
      rw [← eT, List.length_map] at z
      exact z
    have T := turns_upN n0
    have all : (allT n).filter (fun _ => true) = allT n := List.filter_eq_self.mpr fun _ _ => rfl
    refine make_kind (by rw [upN_len]; omega) (.inr (s1 _ _ upd_same)) (turnBad_turns T) hl lk (fun q hq => ⟨tk q hq, ?_⟩) ?_ fun x T1 H2 s2 as ka => k x T1 H2 (sTr sq (sTr s1 s2)) (eT ▸ as) ka
    · rw [upN_len]
      exact mem_allT.mp (eT ▸ List.mem_map.mpr ⟨q, hq, rfl⟩)
    · have z := lack_filter T (p := fun _ => true) fun _ _ _ _ _ => rfl
      rw [upN_len, all] at z
      rw [eT]
      exact z
end
end RD
set_option maxRecDepth 100000
set_option maxHeartbeats 4000000
/-! sorted of a tuple of ints. -/
namespace Stt
open PySem PySem.Spec PyProof.Rows L2
section
variable {prog : Program} {w : World} {A : Around} {E : Value → Shared → Prop} {s : Shared}
theorem collect_tup {l : Addr} {vs : List Value} {Q : List Value → Shared → Prop} (ht : IsTup s.heap l vs.toArray) (hz : vs.length ≤ sizeLine)
    (h : Q vs { s with heap := (s.heap.push (seqObj "list" #[] 0)).update s.heap.objs.size (Obj.mapSeq (· ++ vs.toArray)) }) : wpAny (model prog w) A (collect (.ref l)) Q E s := by
  obtain ⟨o, ho, hc, n, hd⟩ := ht
  unfold collect
  refine wpAny_bind (wpAny_runValue (codeAny_builtin entry_proto_collect' ?_))
  show wpAny _ _ (do again (.builtin "list.__iadd__" ⟨[← newList [], .ref l], []⟩)) _ _ s
  refine wpAny_bind (wpAny_newList (wpAny_pure ⟨Code.quiet_builtin _ (by decide +kernel), codeAny_builtin entry_list_iadd' ?_⟩))
  show wpAny _ _ (Builtin.List.listExtendWith (.ref s.heap.objs.size) (.ref l) (.ref s.heap.objs.size)) _ _ { s with heap := s.heap.push (seqObj "list" #[] 0) }
  unfold Builtin.List.listExtendWith
  have ho1 : (s.heap.push (seqObj "list" #[] 0)).get? l = some o := Heap.get?_push_of_some _ ho
  refine wpAny_bind (wpAny_typeOf (T := "tuple") ⟨o, ho1, hc⟩ ?_)
  have tt : (Value.type "tuple" == Value.type "tuple") = true := by rfl
  rw [if_pos (by rw [tt]; simp)]
  refine wpAny_bind (listItems_at ho1 hd ?_)
  refine wpAny_bind (listItems_at (xs := #[]) (n := 0) (Heap.get?_push_size _ rfl) rfl ?_)
  rw [if_neg (by simp)]
  refine wpAny_bind (listUpdate_at (xs := #[]) (n := 0) (Heap.get?_push_size _ rfl) rfl ?_ (Nat.zero_le _) (by show (#[] ++ vs.toArray).size ≤ sizeLine + 1; simp only [Array.size_append, List.size_toArray, List.length_nil]; omega))
  refine wpAny_pure ?_
  show wpAny (model prog w) A (do
      let o ← load s.heap.objs.size
      match o.data with
      | .seq xs _ => pure xs.toList
      | _ => unsupported "internal:collect") Q E { s with heap := (s.heap.push (seqObj "list" #[] 0)).update s.heap.objs.size (Obj.mapSeq (· ++ vs.toArray)) }
  refine wpAny_bind (wpAny_load (get?_update_seq (Heap.get?_push_size _ rfl) _) ?_)
  show wpAny _ _ (pure ((#[] : Array Value) ++ vs.toArray).toList) Q E _
  rw [show ((#[] : Array Value) ++ vs.toArray).toList = vs by simp]
  exact wpAny_pure h
theorem sorted_tup {l : Addr} {vs : List Value} {ltv : Value → Value → Bool} {Q : Value → Shared → Prop} (O : SrtO.Swo ltv) (hl : IsTup s.heap l vs.toArray) (hz : vs.length ≤ sizeLine)
    (hS : 2 ≤ vs.length → ∀ (h1 : Heap) (a : Addr), SrtO.SortableO prog w A.in1.in1 { s with heap := h1 } a vs ltv)
    (h : ∀ out : List Value, SrtO.Srtd ltv out → SrtO.Stb ltv out vs → Q (.ref (s.heap.objs.size + 1)) { s with heap := sortedAll s.heap vs out.toArray }) :
    wpAny (model prog w) A (call (.builtin "sorted") [.ref l]) Q E s := by
  refine Calls.call_function_entry kind_sorted plain_sorted entry_sorted (args_sorted1 _) ?_
  unfold Builtin.«sorted»
  refine wpAny_bind (m := checkCount "sorted" 1 1 _) (wpAny_pure ?_)
  refine wpAny_bind (collect_tup hl hz ?_)
  refine wpAny_bind (wpAny_newList ?_ hz)
  have sz : ((s.heap.push (seqObj "list" #[] 0)).update s.heap.objs.size (Obj.mapSeq (· ++ vs.toArray))).objs.size = s.heap.objs.size + 1 := by rw [Heap.size_update, size_push']
  have oL : (((s.heap.push (seqObj "list" #[] 0)).update s.heap.objs.size (Obj.mapSeq (· ++ vs.toArray))).push (seqObj "list" vs.toArray 0)).get? (s.heap.objs.size + 1) = some (seqObj "list" vs.toArray 0) := by
    rw [← sz]
    exact Heap.get?_push_size _ rfl
  show wpAny _ _ _ _ _ { s with heap := ((s.heap.push (seqObj "list" #[] 0)).update s.heap.objs.size (Obj.mapSeq (· ++ vs.toArray))).push (seqObj "list" vs.toArray 0) }
  rw [sz]
  refine wpAny_bind (wpAny_holding (wpAny_call_entry slot_list_sort ⟨_, oL, rfl⟩ entry_list_sort (SrtO.list_sort_ord O oL hz (fun h2 => hS h2 _ _) fun out hs hb => ⟨_, rfl, ?_⟩) (args_list_sort _)))
  exact wpAny_pure ⟨_, rfl, h out hs hb⟩
end
/-- sorted(t), t a tuple of ints -/
def rSortedTup (K : PySem.W.Frag) : List V → Hp → VK → Prop := fun vs H Q => ∃ (a : Addr) (ns : List Int), vs = [V.ref a] ∧ SqT K H a (ns.map V.int) ∧ ∀ (ns1 : List Int) (p : Addr), ns1.Perm ns → ns1.Pairwise (· ≤ ·) → H p = none → Q (.ref p) (upd H p (.lst (ns1.map V.int)))
theorem cr_sortedTup {X : Cx} : CallR X (.builtin "sorted") (rSortedTup X.K) := by
  intro pins s σ H vs us Q I r h
  obtain ⟨a, ns, rfl, hs, q⟩ := h
  obtain ⟨its, rv, hl, hz⟩ := I.tuple hs
  rw [Vals.ref1 r]
  have hi := rv.ints
  refine sorted_tup SrtO.swo_int hl (by rw [← rv.length]; exact hz) (fun h2 h1 a1 => SrtO.ints_sortable hi h2) fun out h1 h2 => ?_
  obtain ⟨k1, k2, k3⟩ := SrtO.ints_out hi h1 h2
  obtain ⟨ep, at_⟩ := PyProof.Rows.sortedAll_at s.heap its out.toArray
  have ln : ((out.map SrtO.iv).map V.int).length ≤ sizeLine := by
    rw [List.length_map, k2.length_eq]
    rw [List.length_map] at hz
    exact hz
  exact ⟨.ref _, upd H (s.heap.objs.size + 1) (.lst ((out.map SrtO.iv).map V.int)), I.laid (t' := s.toks) (fun _ _ => PyProof.Rows.sortedAll_old) (Nat.le_succ _) ⟨ln, out, ep, vals_of_ints k1, at_⟩, rfl, q _ _ k2 k3 (I.hok.fresh (Nat.le_succ _))⟩
end Stt
set_option maxRecDepth 100000
set_option maxHeartbeats 4000000
namespace RD
open PySem PySem.Spec PyProof.Rows L2 Rd Tb Cn Stt
/-- the two greatest of three are equal -/
def levB (x y z : Int) : Bool := decide ((x = y ∧ z ≤ x) ∨ (x = z ∧ y < x) ∨ (y = z ∧ x < y))
def lev : List Int → Bool
  | [x, y, z] => levB x y z
  | _ => false
theorem sum_perm {l m : List Int} (p : l.Perm m) : l.sum = m.sum := by
  induction p with
  | nil => rfl
  | cons x _ ih => rw [List.sum_cons, List.sum_cons, ih]
  | swap x y l =>
    simp only [List.sum_cons]
    omega
  | trans _ _ a b => exact a.trans b
theorem two_greatest {x y z a b c : Int} (p : [a, b, c].Perm [x, y, z]) (h1 : a ≤ b) (h2 : b ≤ c) : decide (b = c) = levB x y z := by
  have s : a + (b + (c + 0)) = x + (y + (z + 0)) := by
    have q := sum_perm p
    simpa only [List.sum_cons, List.sum_nil] using q
  have ma : a = x ∨ a = y ∨ a = z := by simpa using p.mem_iff.mp (show a ∈ [a, b, c] by simp)
  have mb : b = x ∨ b = y ∨ b = z := by simpa using p.mem_iff.mp (show b ∈ [a, b, c] by simp)
  have mc : c = x ∨ c = y ∨ c = z := by simpa using p.mem_iff.mp (show c ∈ [a, b, c] by simp)
  have mx : x = a ∨ x = b ∨ x = c := by simpa using p.mem_iff.mpr (show x ∈ [x, y, z] by simp)
  have my : y = a ∨ y = b ∨ y = c := by simpa using p.mem_iff.mpr (show y ∈ [x, y, z] by simp)
  have mz : z = a ∨ z = b ∨ z = c := by simpa using p.mem_iff.mpr (show z ∈ [x, y, z] by simp)
  unfold levB
  refine decide_eq_decide.mpr ?_
  clear p
  rcases ma with rfl | rfl | rfl <;> rcases mb with rfl | rfl | rfl <;> rcases mc with rfl | rfl | rfl <;> omega
def sp_is_level : Sp := fun vs H Q _ => ∃ t x y z, vs = [.ref t] ∧ H t = some (.tup [.int x, .int y, .int z]) ∧ ∀ H1, Same H H1 → Q (.bl (levB x y z)) H1
/-- a list of new triples, those of T for which p is true -/
theorem filt {ks : List Tri} {T : List (List Int)} {p : List Int → Bool} (e : ks.map (·.2) = T) : (ks.filter fun q => p q.2).map (·.2) = T.filter p := by
  subst e
  rw [List.filter_map] <;> rfl
theorem take_filter {α : Type} {l : List α} {p : α → Bool} {i : Nat} {x : α} (h : l[i]? = some x) : (l.take (i + 1)).filter p = if p x = true then (l.take i).filter p ++ [x] else (l.take i).filter p := by
  rw [take_next h, List.filter_append]
  cases c : p x <;> simp [c]
section
variable {P : Program} {w : World} {K : PySem.W.Frag} {mg : Str → Option Value} {base : Heap}
theorem sc_is_level : FnScope ["triple", "_", "middle", "greatest"] ["triple"] (defScope s_is_level) := ⟨rfl, rfl, rfl, by decide +kernel, rfl, by decide +kernel, by decide +kernel⟩
theorem ok_is_level (D : Df K mg "is_level" s_is_level ["triple"]) (B : Bn mg) : FnOk P w K mg base CX0 1 D.f D.fd ["triple"] sp_is_level := by
  refine D.F.ok sc_is_level (fun vs H Q E h => ?_) (fun cdv A outer s H vs Q E hr h => ?_)
  · obtain ⟨t, x, y, z, rfl, _⟩ := h
    rfl
  · obtain ⟨t, x, y, z, rfl, ht, k⟩ := h
    have gn := B.gn
    have nd := sc_is_level.nd
    refine ⟨_, pss_cons (ps_asg (pe_callB cr_sortedTup rfl (gn _ (by decide)) PyProof.Rows.boot_sorted (pa_cons (pv 0) pa_nil)) (pg_lst rfl (pgs_cons (pg_name (i := 1) nd rfl (.inl rfl)) (pgs_cons (pg_name (i := 2) nd rfl (.inl rfl)) (pgs_cons (pg_name (i := 3) nd rfl (.inl rfl)) pgs_nil)))))
      (pss_one (ps_ret (pe_cmp (pc_eqI (pv 2) (pv 3)) rfl))), ?_⟩
    refine ⟨_, rfl, t, [x, y, z], rfl, .of ht, fun ns p pm srt np => ?_⟩
    have ln := pm.length_eq
    match ns, ln, pm, srt with
    | [a, b, c], _, pm, srt =>
      simp only [List.pairwise_cons, List.mem_cons, List.not_mem_nil, or_false] at srt
      have h1 : a ≤ b := srt.1 b (.inl rfl)
      have h2 : b ≤ c := srt.2.1 c rfl
      refine ⟨p, _, rfl, .of upd_same, rfl, _, _, rfl, _, _, rfl, _, _, rfl, rfl, ?_⟩
      refine ⟨_, rfl, _, rfl, b, c, rfl, rfl, ?_⟩
      have z := k _ (same1 (o := .lst ([a, b, c].map V.int)) np)
      rw [← two_greatest pm h1 h2] at z
      exact z
theorem sc_level_kind : FnScope ["many", "triple"] ["many"] (defScope s_level_kind) := ⟨rfl, rfl, rfl, by decide +kernel, rfl, by decide +kernel, by decide +kernel⟩
theorem ok_level_kind {C CE : Addr} (D : Df K mg "level_kind" s_level_kind ["many"]) (D1 : Df K mg "own_turned" s_own_turned ["many"]) (D2 : Df K mg "all_triples" s_all_triples ["many"]) (D3 : Df K mg "is_level" s_is_level ["triple"]) (B : Bn mg) (KK : KindK P w K mg base C CE) :
    FnOk P w K mg base (L2N.CX P w) 10 D.f D.fd ["many"] (sp_kindN C (fun _ => True) upN fun n => (allT n).filter lev) := by
  have G1 : FnOk P w K mg base CX0 1 D1.f D1.fd ["many"] sp_own_turned := ok_own_turned D1 B
  have G2 : FnOk P w K mg base CX0 1 D2.f D2.fd ["many"] sp_all_triples := ok_all_triples D2 B
  have G3 : FnOk P w K mg base CX0 1 D3.f D3.fd ["triple"] sp_is_level := ok_is_level D3 B
  obtain ⟨fK, fdK, KC, GK, bK⟩ := KK.ex
  refine okN D.F sc_level_kind (fun vs H Q E h => ?_) (fun cdv A outer s H vs Q E hr h => ?_)
  · obtain ⟨n, rfl, _⟩ := h
    rfl
  · obtain ⟨n, rfl, n0, n6, _, k⟩ := h
    have hr1 := hr.mono (show 1 ≤ 9 by decide)
    have nd := sc_level_kind.nd
    refine ⟨_, pss_one (ps_ret (pe_make KC.M GK hr rfl KC.g bK .nil passN (pa_cons (pe_call G1 hr1 rfl D1.g D1.F.kp D1.b .nil pass0 (pa_cons (pv 0) pa_nil))
      (pa_cons (pe_lc (own := [("triple", 1)]) (g := gName 1) (tt := tTest (tCall sp_is_level [] (fun _ _ _ => False) (tCons (tVar 1) tNil))) (te := tVar 1) rfl nd (pi_list (pe_call G2 hr1 rfl D2.g D2.F.kp D2.b .nil pass0 (pa_cons (pv 0) pa_nil))) (blkOk_by (N := ["many", "triple"]) (sc := defScope s_level_kind) (by decide +kernel))
        (fun _ _ _ _ _ => pg_name (i := 1) nd rfl (Or.inl rfl)) (fun _ _ _ _ _ => pts_one (pt_val (pe_call G3 hr1 rfl D3.g D3.F.kp D3.b .nil pass0 (pa_cons (pv 1) pa_nil)))) (fun _ _ _ _ _ => pv 1)) pa_nil)))), ?_⟩
    refine ⟨_, rfl, n, rfl, by omega, fun q nq => ⟨_, rfl, n, rfl, n6, fun l ks H1 s1 nl hl eT tk => ?_⟩⟩
    have sq := same1 (o := .tup ((upN n).map V.int)) nq
    have lk : ks.length ≤ 300 := by
      have z := allT_len n6
      rw [← eT, List.length_map] at z
      exact z
    have zl : 1000 ≤ sizeLine := by decide
    refine ⟨l, rfl, ⟨_, .of hl⟩, fun D nD => lc_list (K := K) (a := l) (xs := ks.map fun q => V.ref q.1) (fun i H2 => Same H1 H2 ∧ H2 D = some (.lst (((ks.take i).filter fun q => lev q.2).map fun q => V.ref q.1))) ⟨same1 nD, upd_same⟩ (fun i H2 _ ⟨s2, _⟩ => .of (s2 _ _ hl)) (fun i x H2 hx ⟨s2, hD⟩ => ?_) (fun H2 ⟨s2, hD⟩ => ?_)⟩
    · rw [List.getElem?_map, Option.map_eq_some_iff] at hx
      obtain ⟨⟨t, u⟩, hq, rfl⟩ := hx
      have mq := List.mem_of_getElem? hq
      obtain ⟨a, b, c, eu, _⟩ := tri_parts (mem_allT.mp (eT ▸ List.mem_map.mpr ⟨_, mq, rfl⟩))
      have eu : u = [a, b, c] := eu
      subst eu
      refine ⟨rfl, _, rfl, t, a, b, c, rfl, s2 _ _ (tk _ mq), fun H3 s3 => ⟨_, rfl, ?_⟩⟩
      have e1 := take_filter (p := fun q : Tri => lev q.2) hq
      have e2 : lev [a, b, c] = levB a b c := rfl
      cases cl : levB a b c with
      | true =>
        have e3 : ((ks.take (i + 1)).filter fun q => lev q.2) = ((ks.take i).filter fun q => lev q.2) ++ [(t, [a, b, c])] := by
          rw [e1]
          exact if_pos (e2.trans cl)
        refine iteT ⟨_, rfl, _, s3 _ _ hD, ?_, fun b o e => ?_, by rw [upd_same, e3]; simp⟩
        · have z := List.length_filter_le (fun q : Tri => lev q.2) (ks.take i)
          rw [List.length_take] at z
          rw [List.length_map]
          omega
        · rw [upd_ne fun z => by rw [z, nD] at e; cases e]
          exact s3 _ _ (s2 _ _ e)
      | false =>
        have e3 : ((ks.take (i + 1)).filter fun q => lev q.2) = (ks.take i).filter fun q => lev q.2 := by
          rw [e1]
          exact if_neg (by rw [show lev (t, [a, b, c]).2 = false from e2.trans cl]; decide)
        exact iteF ⟨sTr s2 s3, by rw [e3]; exact s3 _ _ hD⟩
    · rw [List.length_map, List.take_length] at hD
      have T := turns_upN n0
      have eF := filt (p := lev) eT
      refine make_kind (by rw [upN_len]; omega) (.inr (s2 _ _ (s1 _ _ upd_same))) (turnBad_turns T) hD (Nat.le_trans (List.length_filter_le _ _) lk) (fun q hq => ⟨s2 _ _ (tk q ((List.mem_filter.mp hq).1)), ?_⟩) ?_ fun x T1 H3 s3 as ka => k x T1 H3 (sTr sq (sTr s1 (sTr s2 s3))) (by rw [eF] at as; exact as) ka
      · rw [upN_len]
        exact mem_allT.mp (eT ▸ List.mem_map.mpr ⟨q, (List.mem_filter.mp hq).1, rfl⟩)
      · rw [eF]
        have z := lack_filter T (p := lev) fun t ht pt r hr => ?_
        · rw [upN_len] at z
          exact z
        · obtain ⟨x, y, z, rfl, ix, iy, iz⟩ := tri_parts ht
          rw [upN_len] at ix iy iz
          have pt : levB x y z = true := pt
          simp only [sixL, six, tn_upN ix, tn_upN iy, tn_upN iz, List.mem_cons, List.not_mem_nil, or_false] at hr
          unfold levB at pt
          rw [decide_eq_true_eq] at pt
          rcases hr with rfl | rfl | rfl | rfl | rfl | rfl <;> (show levB _ _ _ = true; unfold levB; rw [decide_eq_true_eq]; omega)
end
end RD
set_option maxRecDepth 100000
set_option maxHeartbeats 4000000
namespace RD
open PySem PySem.Spec PyProof.Rows L2 Rd Tb Cn
/-- n ints by a rule -/
def rowF (f : Int → Int) (n : Nat) : List Int := (List.range n).map fun (i : Nat) => f (i : Int)
theorem rowF_len (f : Int → Int) (n : Nat) : (rowF f n).length = n := by simp [rowF]
theorem rowF_succ (f : Int → Int) (n : Nat) : rowF f (n + 1) = rowF f n ++ [f n] := by simp [rowF, List.range_succ]
theorem tn_rowF {f : Int → Int} {n : Nat} {x : Int} (h : In n x) : tn (rowF f n) x = f x := by
  have l : x.toNat < n := by
    have := h.1
    have := h.2
    omega
  have e : (rowF f n)[x.toNat]? = some (f x) := by
    unfold rowF
    rw [List.getElem?_map, List.getElem?_range l]
    exact congrArg some (congrArg f (Int.toNat_of_nonneg h.1))
  simp [tn, List.getD, e]
theorem turns_rowF {f : Int → Int} {n : Nat} (h : 0 < n) (b : ∀ x, In n x → In n (f x)) (i : ∀ x, In n x → f (f x) = x) : Turns (rowF f n) := by
  refine ⟨fun e => ?_, fun x hx => ?_, fun x hx => ?_⟩
  · have z := rowF_len f n
    rw [e] at z
    simp at z
    omega
  · rw [rowF_len] at hx ⊢
    rw [tn_rowF hx]
    exact b x hx
  · rw [rowF_len] at hx
    rw [tn_rowF hx, tn_rowF (b x hx)]
    exact i x hx
def sumF (n : Nat) (x : Int) : Int := ((n : Int) - x) % n
def sumD (n : Nat) : List (List Int) := upto (fun x => upto (fun y => [[(x : Int), (y : Int), ((x : Int) + y) % n]]) n) n
theorem mem_sumD {n : Nat} {t : List Int} : t ∈ sumD n ↔ ∃ x y : Int, In n x ∧ In n y ∧ t = [x, y, (x + y) % n] := by
  unfold sumD
  constructor
  · intro h
    obtain ⟨x, lx, h⟩ := mem_upto.mp h
    obtain ⟨y, ly, h⟩ := mem_upto.mp h
    exact ⟨x, y, ⟨by omega, by omega⟩, ⟨by omega, by omega⟩, List.mem_singleton.mp h⟩
  · rintro ⟨x, y, ⟨x0, x1⟩, ⟨y0, y1⟩, rfl⟩
    refine mem_upto.mpr ⟨x.toNat, by omega, mem_upto.mpr ⟨y.toNat, by omega, List.mem_singleton.mpr ?_⟩⟩
    rw [Int.toNat_of_nonneg x0, Int.toNat_of_nonneg y0]
theorem six_cases {n : Nat} (h0 : 0 < n) (h6 : n ≤ 6) : n = 1 ∨ n = 2 ∨ n = 3 ∨ n = 4 ∨ n = 5 ∨ n = 6 := by omega
theorem sum_turns {n : Nat} (h0 : 0 < n) (h6 : n ≤ 6) : Turns (rowF (sumF n) n) := by
  refine turns_rowF h0 (fun x hx => ?_) fun x hx => ?_
  · exact ⟨Int.emod_nonneg _ (by omega), Int.emod_lt_of_pos _ (by omega)⟩
  · unfold sumF
    have := hx.1
    have := hx.2
    rcases six_cases h0 h6 with rfl | rfl | rfl | rfl | rfl | rfl <;> omega
/-- where the triples of D are told by a test, and the test is kept by all readings, nothing is lacking -/
theorem lack_test {ts : List Int} {D : List (List Int)} {p : List Int → Prop} (T : Turns ts) (mem : ∀ t, t ∈ D ↔ triOk ts.length t = true ∧ p t) (sym : ∀ x y z, In ts.length x → In ts.length y → In ts.length z → p [x, y, z] → ∀ r ∈ six ts x y z, p r) : lack ts D = none := by
  refine lack_no fun j u hu => List.all_eq_true.mpr fun r hr => decide_eq_true ?_
  obtain ⟨h1, h2⟩ := (mem u).mp (List.mem_of_getElem? hu)
  obtain ⟨x, y, z, rfl, ix, iy, iz⟩ := tri_parts h1
  exact (mem r).mpr ⟨six_in T h1 r hr, sym x y z ix iy iz h2 r hr⟩
def sumP (n : Nat) : List Int → Prop
  | [x, y, z] => z = (x + y) % n
  | _ => False
theorem sum_mem {n : Nat} (h0 : 0 < n) (t : List Int) : t ∈ sumD n ↔ triOk n t = true ∧ sumP n t := by
  rw [mem_sumD]
  constructor
  · rintro ⟨x, y, ix, iy, rfl⟩
    exact ⟨triOk_iff.mpr ⟨ix, iy, Int.emod_nonneg _ (by omega), Int.emod_lt_of_pos _ (by omega)⟩, rfl⟩
  · rintro ⟨h1, h2⟩
    obtain ⟨x, y, z, rfl, ix, iy, iz⟩ := tri_parts h1
    have h2 : z = (x + y) % n := h2
    exact ⟨x, y, ix, iy, by rw [h2]⟩
theorem sum_lack {n : Nat} (h0 : 0 < n) (h6 : n ≤ 6) : lack (rowF (sumF n) n) (sumD n) = none := by
  refine lack_test (p := sumP n) (sum_turns h0 h6) (fun t => by rw [rowF_len]; exact sum_mem h0 t) fun x y z ix iy iz h r hr => ?_
  rw [rowF_len] at ix iy iz
  have h : z = (x + y) % n := h
  simp only [six, tn_rowF ix, tn_rowF iy, tn_rowF iz, List.mem_cons, List.not_mem_nil, or_false] at hr
  unfold sumF at hr
  have := ix.1; have := ix.2; have := iy.1; have := iy.2; have := iz.1; have := iz.2
  rcases hr with rfl | rfl | rfl | rfl | rfl | rfl <;> (show _ = _; rcases six_cases h0 h6 with rfl | rfl | rfl | rfl | rfl | rfl <;> omega)
section
variable {P : Program} {w : World} {K : PySem.W.Frag} {mg : Str → Option Value} {base : Heap}
theorem sc_sum_kind : FnScope ["many", "turned", "x", "y"] ["many"] (defScope s_sum_kind) := ⟨rfl, rfl, rfl, by decide +kernel, rfl, by decide +kernel, by decide +kernel⟩
theorem ok_sum_kind {C CE : Addr} (D : Df K mg "sum_kind" s_sum_kind ["many"]) (B : Bn mg) (KK : KindK P w K mg base C CE) : FnOk P w K mg base (L2N.CX P w) 10 D.f D.fd ["many"] (sp_kindN C (fun _ => True) (fun n => rowF (sumF n) n) sumD) := by
  obtain ⟨fK, fdK, KC, GK, bK⟩ := KK.ex
  refine okN D.F sc_sum_kind (fun vs H Q E h => ?_) (fun cdv A outer s H vs Q E hr h => ?_)
  · obtain ⟨n, rfl, _⟩ := h
    rfl
  · obtain ⟨n, rfl, n0, n6, _, k⟩ := h
    have gn := B.gn
    have nd := sc_sum_kind.nd
    refine ⟨_, pss_cons (ps_setLc (i := 1) (own := [("x", 2)]) (g := gName 2) (tt := tYes) (te := tOp (rI (fun _ j => 0 < j) fun i j => .int (i % j)) (tOp (rI0 fun i j => .int (i - j)) (tVar 0) (tVar 2)) (tVar 0)) rfl nd rfl rfl (sw_true rfl rfl rfl (by decide +kernel)) (pi_range1 rfl (gn _ (by decide)) (pa_cons (pv 0) pa_nil)) (blkOk_by (N := ["many", "turned", "x", "y"]) (sc := defScope s_sum_kind) (by decide +kernel))
        (fun _ _ _ _ _ => pg_name (i := 2) nd rfl (Or.inl rfl)) (fun _ _ _ _ _ => pts_nil) (fun _ _ _ _ _ => pe_op op_mod (pe_op op_sub (pv 0) (pv 2)) (pv 0)))
      (pss_one (ps_ret (pe_make KC.M GK hr rfl KC.g bK .nil passN (pa_cons (pv 1) (pa_cons (pe_lcN (own := [("x", 2), ("y", 3)]) (g := gName 2) (tt := tYes) (cs := [⟨_, gName 3, tYes, [3]⟩]) (te := tTup (tCons (tVar 2) (tCons (tVar 3) (tCons (tOp (rI (fun _ j => 0 < j) fun i j => .int (i % j)) (tOp (rI0 fun i j => .int (i + j)) (tVar 2) (tVar 3)) (tVar 0)) tNil)))) rfl nd (pi_range1 rfl (gn _ (by decide)) (pa_cons (pv 0) pa_nil)) (blkOk_by (N := ["many", "turned", "x", "y"]) (sc := defScope s_sum_kind) (by decide +kernel))
        (fun _ _ _ _ _ => pg_name (i := 2) nd rfl (Or.inl rfl)) (fun _ _ _ _ _ => pts_nil) (fun _ _ _ _ _ => pc_cons (pi_range1 rfl (gn _ (by decide)) (pa_cons (pv 0) pa_nil)) (pg_name (i := 3) nd rfl (Or.inl rfl)) pts_nil (fun _ => rfl) (by decide) pc_nil)
        (fun _ _ _ _ _ => pe_tup (pa_cons (pv 2) (pa_cons (pv 3) (pa_cons (pe_op op_mod (pe_op op_add (pv 2) (pv 3)) (pv 0)) pa_nil))))) pa_nil))))), ?_⟩
    have b62 : -(2 ^ 62) ≤ (n : Int) ∧ (n : Int) < 2 ^ 62 := by omega
    have zl : 1000 ≤ sizeLine := by decide
    have z3 : 3 ≤ sizeLine := by decide
    have pn : (0 : Int) < (n : Int) := by omega
    refine ⟨_, rfl, n, rfl, b62.1, b62.2, fun D1 nD1 => lc_range (lo := 0) (n := n) (fun i H1 => Same H H1 ∧ H1 D1 = some (.lst ((rowF (sumF n) i).map V.int))) ⟨same1 nD1, upd_same⟩ (fun i H1 hi ⟨s1, hD⟩ => ?_) (fun H1 ⟨s1, hD⟩ => ?_)⟩
    · refine ⟨rfl, _, rfl, _, rfl, _, _, rfl, rfl, _, rfl, _, _, rfl, rfl, pn, _, hD, (by rw [List.length_map, rowF_len]; omega), fun b o e => ?_, ?_⟩
      · rw [upd_ne fun z => by rw [z, nD1] at e; cases e]
        exact s1 _ _ e
      · rw [upd_same, rowF_succ, Int.zero_add]
        simp [sumF]
    · have F1l : ∀ i j : Nat, (upto (fun y : Nat => [[(i : Int), (y : Int), ((i : Int) + y) % n]]) j).length ≤ j * 1 := fun i j => upto_len (fun _ => Nat.le_refl 1) j
      have F0l : ∀ i : Nat, (upto (fun x : Nat => upto (fun y : Nat => [[(x : Int), (y : Int), ((x : Int) + y) % n]]) n) i).length ≤ i * n := fun i => upto_len (fun x => by have := F1l x n; omega) i
      refine ⟨_, rfl, _, rfl, n, rfl, b62.1, b62.2, fun D nD => cl_range (c := ⟨fun _ _ _ => True, gName 2, tYes, [2, 3]⟩) (lo := 0) (n := n) (fun i => Acc D H1 (upto (fun x : Nat => upto (fun y : Nat => [[(x : Int), (y : Int), ((x : Int) + y) % n]]) n) i)) (Acc.nil nD) (fun i H2 hi a1 => ?_) (fun H2 a1 => ?_)⟩
      · refine ⟨rfl, _, rfl, n, rfl, b62.1, b62.2, cl_range (c := ⟨fun _ _ _ => True, gName 3, tYes, [3]⟩) (lo := 0) (n := n) (fun j => Acc D H1 (upto (fun x : Nat => upto (fun y : Nat => [[(x : Int), (y : Int), ((x : Int) + y) % n]]) n) i ++ upto (fun y : Nat => [[(i : Int), (y : Int), ((i : Int) + y) % n]]) j))
          (by rw [show upto (fun y : Nat => [[(i : Int), (y : Int), ((i : Int) + y) % n]]) 0 = [] from rfl, List.append_nil]; exact a1) (fun j H3 hj a2 => ?_) (fun H3 a2 => by rw [upto_succ]; exact a2)⟩
        refine ⟨rfl, _, rfl, _, rfl, _, rfl, _, rfl, _, _, rfl, rfl, _, rfl, _, _, rfl, rfl, pn, z3, fun p np => ?_⟩
        have few : (upto (fun x : Nat => upto (fun y : Nat => [[(x : Int), (y : Int), ((x : Int) + y) % n]]) n) i ++ upto (fun y : Nat => [[(i : Int), (y : Int), ((i : Int) + y) % n]]) j).length < 1000 := by
          rw [List.length_append]
          have h0 := F0l i
          have h1 := F1l i j
          have m0 : i * n ≤ 6 * 6 := Nat.mul_le_mul (by omega) n6
          omega
        simp only [Int.zero_add] at np ⊢
        have z := Acc.push (t := [(i : Int), (j : Int), ((i : Int) + j) % n]) a2 nD np few
        rw [upto_succ, ← List.append_assoc]
        exact z
      · have T := sum_turns n0 n6
        have lD : (sumD n).length ≤ 300 := by
          have z := F0l n
          have m0 : n * n ≤ 6 * 6 := Nat.mul_le_mul n6 n6
          have e : (sumD n).length = (upto (fun x : Nat => upto (fun y : Nat => [[(x : Int), (y : Int), ((x : Int) + y) % n]]) n) n).length := rfl
          omega
        obtain ⟨s2, ks, hD2, eT, tk⟩ := a1
        have eT : ks.map (·.2) = sumD n := eT
        refine make_kind (by rw [rowF_len]; omega) (.inl (s2 _ _ hD)) (turnBad_turns T) hD2 (by rw [← eT, List.length_map] at lD; exact lD) (fun q hq => ⟨(tk q hq).2, ?_⟩) (by rw [eT]; exact sum_lack n0 n6) fun x T1 H3 s3 as ka => k x T1 H3 (sTr s1 (sTr s2 s3)) (by rw [eT] at as; exact as) ka
        rw [rowF_len]
        exact ((sum_mem n0 _).mp (eT ▸ List.mem_map.mpr ⟨q, hq, rfl⟩)).1
end
end RD
set_option maxRecDepth 100000
set_option maxHeartbeats 4000000
namespace RD
open PySem PySem.Spec PyProof.Rows L2 Rd Tb Cn
def secF (n : Nat) (x : Int) : Int := (n : Int) - 1 - x
def secD (n : Nat) : List (List Int) := upto (fun x => upto (fun y => upto (fun m => [[(x : Int), (y : Int), ((x : Int) + y + m) % n]]) 2) n) n
theorem mem_secD {n : Nat} {t : List Int} : t ∈ secD n ↔ ∃ x y m : Int, In n x ∧ In n y ∧ In 2 m ∧ t = [x, y, (x + y + m) % n] := by
  unfold secD
  constructor
  · intro h
    obtain ⟨x, lx, h⟩ := mem_upto.mp h
    obtain ⟨y, ly, h⟩ := mem_upto.mp h
    obtain ⟨m, lm, h⟩ := mem_upto.mp h
    exact ⟨x, y, m, ⟨by omega, by omega⟩, ⟨by omega, by omega⟩, ⟨by omega, by omega⟩, List.mem_singleton.mp h⟩
  · rintro ⟨x, y, m, ⟨x0, x1⟩, ⟨y0, y1⟩, ⟨m0, m1⟩, rfl⟩
    refine mem_upto.mpr ⟨x.toNat, by omega, mem_upto.mpr ⟨y.toNat, by omega, mem_upto.mpr ⟨m.toNat, by omega, List.mem_singleton.mpr ?_⟩⟩⟩
    rw [Int.toNat_of_nonneg x0, Int.toNat_of_nonneg y0, Int.toNat_of_nonneg m0]
theorem sec_turns {n : Nat} (h0 : 0 < n) : Turns (rowF (secF n) n) := by
  refine turns_rowF h0 (fun x hx => ?_) fun x hx => ?_
  · have := hx.1
    have := hx.2
    exact ⟨by unfold secF; omega, by unfold secF; omega⟩
  · unfold secF
    omega
def secP (n : Nat) : List Int → Prop
  | [x, y, z] => z = (x + y) % n ∨ z = (x + y + 1) % n
  | _ => False
theorem sec_mem {n : Nat} (h0 : 0 < n) (t : List Int) : t ∈ secD n ↔ triOk n t = true ∧ secP n t := by
  rw [mem_secD]
  constructor
  · rintro ⟨x, y, m, ix, iy, im, rfl⟩
    refine ⟨triOk_iff.mpr ⟨ix, iy, Int.emod_nonneg _ (by omega), Int.emod_lt_of_pos _ (by omega)⟩, ?_⟩
    have := im.1
    have := im.2
    rcases (by omega : m = 0 ∨ m = 1) with rfl | rfl
    · exact .inl (by rw [Int.add_zero])
    · exact .inr rfl
  · rintro ⟨h1, h2⟩
    obtain ⟨x, y, z, rfl, ix, iy, iz⟩ := tri_parts h1
    rcases h2 with h2 | h2
    · exact ⟨x, y, 0, ix, iy, ⟨by decide, by decide⟩, by rw [h2, Int.add_zero]⟩
    · exact ⟨x, y, 1, ix, iy, ⟨by decide, by decide⟩, by rw [h2]⟩
theorem sec_lack {n : Nat} (h0 : 0 < n) (h6 : n ≤ 6) : lack (rowF (secF n) n) (secD n) = none := by
  refine lack_test (p := secP n) (sec_turns h0) (fun t => by rw [rowF_len]; exact sec_mem h0 t) fun x y z ix iy iz h r hr => ?_
  rw [rowF_len] at ix iy iz
  have h : z = (x + y) % n ∨ z = (x + y + 1) % n := h
  simp only [six, tn_rowF ix, tn_rowF iy, tn_rowF iz, List.mem_cons, List.not_mem_nil, or_false] at hr
  unfold secF at hr
  have := ix.1; have := ix.2; have := iy.1; have := iy.2; have := iz.1; have := iz.2
  rcases hr with rfl | rfl | rfl | rfl | rfl | rfl <;> (show _ ∨ _; rcases six_cases h0 h6 with rfl | rfl | rfl | rfl | rfl | rfl <;> omega)
section
variable {P : Program} {w : World} {K : PySem.W.Frag} {mg : Str → Option Value} {base : Heap}
theorem sc_sector_kind : FnScope ["many", "turned", "triples", "x", "y", "more"] ["many"] (defScope s_sector_kind) := ⟨rfl, rfl, rfl, by decide +kernel, rfl, by decide +kernel, by decide +kernel⟩
theorem ok_sector_kind {C CE : Addr} (D : Df K mg "sector_kind" s_sector_kind ["many"]) (B : Bn mg) (KK : KindK P w K mg base C CE) : FnOk P w K mg base (L2N.CX P w) 10 D.f D.fd ["many"] (sp_kindN C (fun _ => True) (fun n => rowF (secF n) n) secD) := by
  obtain ⟨fK, fdK, KC, GK, bK⟩ := KK.ex
  refine okN D.F sc_sector_kind (fun vs H Q E h => ?_) (fun cdv A outer s H vs Q E hr h => ?_)
  · obtain ⟨n, rfl, _⟩ := h
    rfl
  · obtain ⟨n, rfl, n0, n6, _, k⟩ := h
    have gn := B.gn
    have nd := sc_sector_kind.nd
    refine ⟨_, pss_cons (ps_setLc (i := 1) (own := [("x", 3)]) (g := gName 3) (tt := tYes) (te := tOp (rI0 fun i j => .int (i - j)) (tOp (rI0 fun i j => .int (i - j)) (tVar 0) (tC (.int 1))) (tVar 3)) rfl nd rfl rfl (sw_true rfl rfl rfl (by decide +kernel)) (pi_range1 rfl (gn _ (by decide)) (pa_cons (pv 0) pa_nil)) (blkOk_by (N := ["many", "turned", "triples", "x", "y", "more"]) (sc := defScope s_sector_kind) (by decide +kernel))
        (fun _ _ _ _ _ => pg_name (i := 3) nd rfl (Or.inl rfl)) (fun _ _ _ _ _ => pts_nil) (fun _ _ _ _ _ => pe_op op_sub (pe_op op_sub (pv 0) pe_int) (pv 3)))
      (pss_cons (ps_setLcN (i := 2) (own := [("x", 3), ("y", 4), ("more", 5)]) (g := gName 3) (tt := tYes) (cs := [⟨_, gName 4, tYes, [4, 5]⟩, ⟨_, gName 5, tYes, [5]⟩]) (te := tTup (tCons (tVar 3) (tCons (tVar 4) (tCons (tOp (rI (fun _ j => 0 < j) fun i j => .int (i % j)) (tOp (rI0 fun i j => .int (i + j)) (tOp (rI0 fun i j => .int (i + j)) (tVar 3) (tVar 4)) (tVar 5)) (tVar 0)) tNil)))) rfl nd rfl rfl (sw_true rfl rfl rfl (by decide +kernel)) (pi_range1 rfl (gn _ (by decide)) (pa_cons (pv 0) pa_nil)) (blkOk_by (N := ["many", "turned", "triples", "x", "y", "more"]) (sc := defScope s_sector_kind) (by decide +kernel))
        (fun _ _ _ _ _ => pg_name (i := 3) nd rfl (Or.inl rfl)) (fun _ _ _ _ _ => pts_nil) (fun _ _ _ _ _ => pc_cons (pi_range1 rfl (gn _ (by decide)) (pa_cons (pv 0) pa_nil)) (pg_name (i := 4) nd rfl (Or.inl rfl)) pts_nil (fun _ => rfl) (by decide) (pc_cons (pi_range1 rfl (gn _ (by decide)) (pa_cons pe_int pa_nil)) (pg_name (i := 5) nd rfl (Or.inl rfl)) pts_nil (fun _ => rfl) (by decide) pc_nil))
        (fun _ _ _ _ _ => pe_tup (pa_cons (pv 3) (pa_cons (pv 4) (pa_cons (pe_op op_mod (pe_op op_add (pe_op op_add (pv 3) (pv 4)) (pv 5)) (pv 0)) pa_nil)))))
      (pss_one (ps_ret (pe_make KC.M GK hr rfl KC.g bK .nil passN (pa_cons (pv 1) (pa_cons (pv 2) pa_nil)))))), ?_⟩
    have b62 : -(2 ^ 62) ≤ (n : Int) ∧ (n : Int) < 2 ^ 62 := by omega
    have zl : 1000 ≤ sizeLine := by decide
    have z3 : 3 ≤ sizeLine := by decide
    have pn : (0 : Int) < (n : Int) := by omega
    refine ⟨_, rfl, n, rfl, b62.1, b62.2, fun D1 nD1 => lc_range (lo := 0) (n := n) (fun i H1 => Same H H1 ∧ H1 D1 = some (.lst ((rowF (secF n) i).map V.int))) ⟨same1 nD1, upd_same⟩ (fun i H1 hi ⟨s1, hD⟩ => ?_) (fun H1 ⟨s1, hD⟩ => ?_)⟩
    · refine ⟨rfl, _, rfl, _, _, rfl, rfl, _, rfl, _, _, rfl, rfl, _, hD, (by rw [List.length_map, rowF_len]; omega), fun b o e => ?_, ?_⟩
      · rw [upd_ne fun z => by rw [z, nD1] at e; cases e]
        exact s1 _ _ e
      · rw [upd_same, rowF_succ, Int.zero_add]
        simp [secF]
    · have F2l : ∀ i j m : Nat, (upto (fun m : Nat => [[(i : Int), (j : Int), ((i : Int) + j + m) % n]]) m).length ≤ m * 1 := fun i j m => upto_len (fun _ => Nat.le_refl 1) m
      have F1l : ∀ i j : Nat, (upto (fun y : Nat => upto (fun m : Nat => [[(i : Int), (y : Int), ((i : Int) + y + m) % n]]) 2) j).length ≤ j * 2 := fun i j => upto_len (fun y => by have := F2l i y 2; omega) j
      have F0l : ∀ i : Nat, (upto (fun x : Nat => upto (fun y : Nat => upto (fun m : Nat => [[(x : Int), (y : Int), ((x : Int) + y + m) % n]]) 2) n) i).length ≤ i * (n * 2) := fun i => upto_len (fun x => F1l x n) i
      have two : ((2 : Nat) : Int) = 2 := rfl
      refine ⟨_, rfl, n, rfl, b62.1, b62.2, fun D nD => cl_range (c := ⟨fun _ _ _ => True, gName 3, tYes, [3, 4, 5]⟩) (lo := 0) (n := n) (fun i => Acc D H1 (upto (fun x : Nat => upto (fun y : Nat => upto (fun m : Nat => [[(x : Int), (y : Int), ((x : Int) + y + m) % n]]) 2) n) i)) (Acc.nil nD) (fun i H2 hi a1 => ?_) (fun H2 a1 => ?_)⟩
      · refine ⟨rfl, _, rfl, n, rfl, b62.1, b62.2, cl_range (c := ⟨fun _ _ _ => True, gName 4, tYes, [4, 5]⟩) (lo := 0) (n := n) (fun j => Acc D H1 (upto (fun x : Nat => upto (fun y : Nat => upto (fun m : Nat => [[(x : Int), (y : Int), ((x : Int) + y + m) % n]]) 2) n) i ++ upto (fun y : Nat => upto (fun m : Nat => [[(i : Int), (y : Int), ((i : Int) + y + m) % n]]) 2) j))
          (by rw [show upto (fun y : Nat => upto (fun m : Nat => [[(i : Int), (y : Int), ((i : Int) + y + m) % n]]) 2) 0 = [] from rfl, List.append_nil]; exact a1) (fun j H3 hj a2 => ?_) (fun H3 a2 => by rw [upto_succ]; exact a2)⟩
        refine ⟨rfl, 2, rfl, by decide, by decide, cl_range (c := ⟨fun _ _ _ => True, gName 5, tYes, [5]⟩) (lo := 0) (n := 2) (fun m => Acc D H1 ((upto (fun x : Nat => upto (fun y : Nat => upto (fun m : Nat => [[(x : Int), (y : Int), ((x : Int) + y + m) % n]]) 2) n) i ++ upto (fun y : Nat => upto (fun m : Nat => [[(i : Int), (y : Int), ((i : Int) + y + m) % n]]) 2) j) ++ upto (fun m : Nat => [[(i : Int), (j : Int), ((i : Int) + j + m) % n]]) m))
          (by rw [show upto (fun m : Nat => [[(i : Int), (j : Int), ((i : Int) + j + m) % n]]) 0 = [] from rfl, List.append_nil]; exact a2) (fun m H4 hm a3 => ?_) (fun H4 a3 => by rw [upto_succ, ← List.append_assoc]; exact a3)⟩
        refine ⟨rfl, _, rfl, _, rfl, _, rfl, _, rfl, _, _, rfl, rfl, _, rfl, _, _, rfl, rfl, _, rfl, _, _, rfl, rfl, pn, z3, fun p np => ?_⟩
        have few : ((upto (fun x : Nat => upto (fun y : Nat => upto (fun m : Nat => [[(x : Int), (y : Int), ((x : Int) + y + m) % n]]) 2) n) i ++ upto (fun y : Nat => upto (fun m : Nat => [[(i : Int), (y : Int), ((i : Int) + y + m) % n]]) 2) j) ++ upto (fun m : Nat => [[(i : Int), (j : Int), ((i : Int) + j + m) % n]]) m).length < 1000 := by
          rw [List.length_append, List.length_append]
          have h0 := F0l i
          have h1 := F1l i j
          have h2 := F2l i j m
          have m0 : i * (n * 2) ≤ 6 * 12 := Nat.mul_le_mul (by omega) (by omega)
          omega
        simp only [Int.zero_add] at np ⊢
        have z := Acc.push (t := [(i : Int), (j : Int), ((i : Int) + j + m) % n]) a3 nD np few
        rw [upto_succ, ← List.append_assoc]
        exact z
      · have T := sec_turns n0
        have lD : (secD n).length ≤ 300 := by
          have z := F0l n
          have m0 : n * (n * 2) ≤ 6 * 12 := Nat.mul_le_mul n6 (by omega)
          have e : (secD n).length = (upto (fun x : Nat => upto (fun y : Nat => upto (fun m : Nat => [[(x : Int), (y : Int), ((x : Int) + y + m) % n]]) 2) n) n).length := rfl
          omega
        obtain ⟨s2, ks, hD2, eT, tk⟩ := a1
        have eT : ks.map (·.2) = secD n := eT
        refine ⟨_, rfl, _, rfl, ?_⟩
        refine make_kind (by rw [rowF_len]; omega) (.inl (s2 _ _ hD)) (turnBad_turns T) hD2 (by rw [← eT, List.length_map] at lD; exact lD) (fun q hq => ⟨(tk q hq).2, ?_⟩) (by rw [eT]; exact sec_lack n0 n6) fun x T1 H3 s3 as ka => k x T1 H3 (sTr s1 (sTr s2 s3)) (by rw [eT] at as; exact as) ka
        rw [rowF_len]
        exact ((sec_mem n0 _).mp (eT ▸ List.mem_map.mpr ⟨q, hq, rfl⟩)).1
end
end RD
set_option maxRecDepth 100000
set_option maxHeartbeats 4000000
namespace RD
open PySem PySem.Spec PyProof.Rows L2 Rd Tb Cn
def mx (i j : Int) : Int := if i < j then j else i
def triB (a b c : Int) : Bool := decide (2 * mx (mx a b) c ≤ a + b + c)
theorem nu2 (i j : Int) : nuMax2 (.int i) (.int j) = some (.int (mx i j)) := by
  unfold mx
  show Option.map (fun c : Bool => if c = true then V.int j else V.int i) (some (decide (i < j))) = _
  by_cases h : i < j
  · rw [if_pos h, decide_eq_true h] <;> rfl
  · rw [if_neg h, decide_eq_false h] <;> rfl
theorem nu3 (a b c : Int) : nuMax3 (.int a) (.int b) (.int c) = some (.int (mx (mx a b) c)) := by
  unfold nuMax3
  rw [nu2]
  exact nu2 _ _
def sp_is_triangle : Sp := fun vs H Q _ => ∃ a b c : Int, vs = [.int a, .int b, .int c] ∧ Q (.bl (triB a b c)) H
/-- the number before -/
def befN (xs : List V) : Nat → Int
  | 0 => 0
  | i + 1 => match xs[i]? with
    | some (.int k) => k
    | _ => 0
def numOk (xs : List V) (i : Nat) : Bool := match xs[i]? with
  | some (.int k) => decide (0 ≤ k) && decide (befN xs i < k)
  | _ => false
def numBad (xs : List V) : Option Nat := if xs = [] then some 0 else match (List.range xs.length).find? fun i => !numOk xs i with
  | some i => some i
  | none => if 6 < xs.length then some 6 else none
def sp_check_numbers (C : Addr) : Sp := fun vs H Q E => ∃ x, vs = [x] ∧ ((Pln x ∧ ∀ H1, Same H H1 → Raise E C (.int 0) H1) ∨ (∃ a xs, x = .ref a ∧ H a = some (.lst xs) ∧ ∀ H1, Same H H1 → Raise E C (.int 0) H1) ∨ ∃ a xs, x = .ref a ∧ H a = some (.tup xs) ∧ (∀ x ∈ xs, Pln x) ∧
  (numBad xs = none → ∀ H1, Same H H1 → Q .non H1) ∧ ∀ n, numBad xs = some n → ∀ H1, Same H H1 → Raise E C (.int (n : Nat)) H1)
theorem numBad_at {xs : List V} {i : Nat} (h : i < xs.length) (ok : ∀ j, j < i → numOk xs j = true) (bad : numOk xs i = false) : numBad xs = some i := by
  unfold numBad
  have e : ((List.range xs.length).find? fun i => !numOk xs i) = some i := find_range _ h (by rw [bad] <;> rfl) fun j hj => by rw [ok j hj] <;> rfl
  rw [if_neg (by rintro rfl; simp at h), e]
theorem numBad_no {xs : List V} (ne : xs ≠ []) (ok : ∀ j, j < xs.length → numOk xs j = true) : numBad xs = if 6 < xs.length then some 6 else none := by
  unfold numBad
  have e : ((List.range xs.length).find? fun i => !numOk xs i) = none := find_range_none _ fun j hj => by rw [ok j hj] <;> rfl
  rw [if_neg ne, e]
theorem befN_succ {xs : List V} {i : Nat} {k : Int} (h : xs[i]? = some (.int k)) : befN xs (i + 1) = k := by
  show (match xs[i]? with
    | some (.int k) => k
    | _ => 0) = k
  rw [h]
def numV (b : Int) : V → Bool
  | .int k => decide (0 ≤ k) && decide (b < k)
  | _ => false
theorem numOk_at {xs : List V} {i : Nat} {x : V} (h : xs[i]? = some x) : numOk xs i = numV (befN xs i) x := by
  unfold numOk
  rw [h]
  cases x <;> rfl
theorem kit_tup1 {K : PySem.W.Frag} {x : V} (p : Pln x) : PySem.W.kitOne K (.type (tyN x)) (.type "tuple") = some false := by
  have h1 : kitB "int" "tuple" = some false := by decide +kernel
  have h2 : kitB "bool" "tuple" = some false := by decide +kernel
  have h3 : kitB "str" "tuple" = some false := by decide +kernel
  have h4 : kitB "NoneType" "tuple" = some false := by decide +kernel
  cases p
  · exact kit_ty h1
  · exact kit_ty h2
  · exact kit_ty h3
  · exact kit_ty h4
theorem kit_tupL {K : PySem.W.Frag} : PySem.W.kitOne K (.type "list") (.type "tuple") = some false := by
  have h : kitB "list" "tuple" = some false := by decide +kernel
  exact kit_ty h
theorem kit_tupT {K : PySem.W.Frag} : PySem.W.kitOne K (.type "tuple") (.type "tuple") = some true := by
  have h : kitB "tuple" "tuple" = some true := by decide +kernel
  exact kit_ty h
section
variable {P : Program} {w : World} {K : PySem.W.Frag} {mg : Str → Option Value} {base : Heap}
theorem sc_is_triangle : FnScope ["a", "b", "c"] ["a", "b", "c"] (defScope s_is_triangle) := ⟨rfl, rfl, rfl, by decide +kernel, rfl, by decide +kernel, by decide +kernel⟩
theorem ok_is_triangle (D : Df K mg "is_triangle" s_is_triangle ["a", "b", "c"]) (B : Bn mg) : FnOk P w K mg base CX0 1 D.f D.fd ["a", "b", "c"] sp_is_triangle := by
  refine D.F.ok sc_is_triangle (fun vs H Q E h => ?_) (fun cdv A outer s H vs Q E hr h => ?_)
  · obtain ⟨a, b, c, rfl, _⟩ := h
    rfl
  · obtain ⟨a, b, c, rfl, k⟩ := h
    have gn := B.gn
    refine ⟨_, pss_one (ps_ret (pe_cmp (pc_le (pe_op op_mul pe_int (pe_callB (call_max3Nu rfl) rfl (gn _ (by decide)) PyProof.Rows.boot_max (pa_cons (pv 0) (pa_cons (pv 1) (pa_cons (pv 2) pa_nil))))) (pe_op op_add (pe_op op_add (pv 0) (pv 1)) (pv 2))) rfl)), ?_⟩
    exact ⟨_, rfl, _, rfl, _, rfl, _, _, _, _, rfl, nu3 a b c, _, _, rfl, rfl, .inl (by decide), _, rfl, _, rfl, _, _, rfl, rfl, _, rfl, _, _, rfl, rfl, _, _, rfl, rfl, k⟩
theorem sc_check_numbers : FnScope ["numbers", "before", "at", "number"] ["numbers"] (defScope s_check_numbers) := ⟨rfl, rfl, rfl, by decide +kernel, rfl, by decide +kernel, by decide +kernel⟩
theorem ok_check_numbers {C : Addr} (D : Df K mg "check_numbers" s_check_numbers ["numbers"]) (D2 : Df K mg "is_number" s_is_number ["value"]) (D1 : Df K mg "is_integer" s_is_integer ["value"]) (B : Bn mg) (hM : ∃ t, mg "MOST_NUMBERS" = some (.int 6 t)) (T : Er P w K mg base "InvalidKind" C) : FnOk P w K mg base (L2N.CX P w) 3 D.f D.fd ["numbers"] (sp_check_numbers C) := by
  have GN : FnOk P w K mg base CX0 2 D2.f D2.fd ["value"] sp_is_number := ok_is_number D2 D1 B
  obtain ⟨fI, fdI, TI, GI, bI⟩ := T.ex
  obtain ⟨tk, hM⟩ := hM
  refine okN D.F sc_check_numbers (fun vs H Q E h => ?_) (fun cdv A outer s H vs Q E hr h => ?_)
  · obtain ⟨x, rfl, _⟩ := h
    rfl
  · obtain ⟨x, rfl, h⟩ := h
    have gn := B.gn
    have nd := sc_check_numbers.nd
    refine ⟨_, pss_cons (ps_if (PW.pt (pw_or (pt_not (pt_val (pe_callB call_isi rfl (gn _ (by decide)) boot_isinstance (pa_cons (pv 0) (pa_cons (pe_bltn (v := .ty "tuple") rfl (gn _ (by decide)) PyProof.Rows.boot_tuple rfl) pa_nil))))) (pw_or1 (pt_cmpR op_eq (pe_callB call_len_seq rfl (gn _ (by decide)) PySem.boot_len (pa_cons (pv 0) pa_nil)) pe_int (nomark _)))))
        (pss_one (L2N.ps_raise rfl (L2N.takes_of rfl rfl rfl rfl) (pmk_oexN TI.o TI.i TI.t GI hr bI .nil pass0 rfl TI.g (pa_cons pe_int pa_nil)))) pss_nil)
      (pss_cons (ps_set (i := 1) nd rfl (.inl rfl) pe_int)
      (pss_cons (ps_for (passes_of rfl) rfl (pi_enumA rfl (gn _ (by decide)) (pa_cons (pv 0) pa_nil)) (pg_tup rfl (pgs_cons (pg_name (i := 2) nd rfl (.inl rfl)) (pgs_cons (pg_name (i := 3) nd rfl (.inl rfl)) pgs_nil)))
        (pss_cons (ps_if (PW.pt (pw_or (pt_not (pt_val (pe_call GN hr rfl D2.g D2.F.kp D2.b .nil pass0 (pa_cons (pv 3) pa_nil)))) (pw_or1 (pt_cmpR op_le (pv 3) (pv 1) (nomark _)))))
            (pss_one (L2N.ps_raise rfl (L2N.takes_of rfl rfl rfl rfl) (pmk_oexN TI.o TI.i TI.t GI hr bI .nil pass0 rfl TI.g (pa_cons (pv 2) pa_nil)))) pss_nil)
        (pss_one (ps_set (i := 1) nd rfl (.inl rfl) (pv 3)))))
      (pss_one (ps_if (pt_cmpR op_gt (pe_callB call_len_seq rfl (gn _ (by decide)) PySem.boot_len (pa_cons (pv 0) pa_nil)) (pe_glob (v := .int 6) rfl hM ⟨_, rfl⟩) (nomark _))
        (pss_one (L2N.ps_raise rfl (L2N.takes_of rfl rfl rfl rfl) (pmk_oexN TI.o TI.i TI.t GI hr bI .nil pass0 rfl TI.g (pa_cons (pe_glob (v := .int 6) rfl hM ⟨_, rfl⟩) pa_nil)))) pss_nil)))), ?_⟩
    rcases h with ⟨px, k⟩ | ⟨a, xs, rfl, ho, k⟩ | ⟨a, xs, rfl, ho, px, k1, k2⟩
    · exact ⟨x, rfl, x, .ty "tuple", _, _, _, rfl, .ty "tuple", px.ty, kit_tup1 px, _, rfl, iteT (iteT ⟨(show 1 ≤ 1000 by decide), fun a na => raise_read (k H (same0 H)) a na⟩)⟩
    · exact ⟨_, rfl, _, .ty "tuple", _, _, _, rfl, .ty "tuple", .base (.lst ho), kit_tupL, _, rfl, iteT (iteT ⟨(show 1 ≤ 1000 by decide), fun a na => raise_read (k H (same0 H)) a na⟩)⟩
    · refine ⟨_, rfl, _, .ty "tuple", _, _, _, rfl, .ty "tuple", .base (.tup ho), kit_tupT, _, rfl, iteF ?_⟩
      refine ⟨_, rfl, a, xs, rfl, .inr (.of ho), rfl, _, rfl, ?_⟩
      by_cases ce : xs = []
      · subst ce
        refine iteT ⟨(show 1 ≤ 1000 by decide), fun a na => raise_read (k2 0 rfl H (same0 H)) a na⟩
      · have ne : (xs.length : Int) ≠ 0 := fun z => ce (List.eq_nil_of_length_eq_zero (by omega))
        refine ite2 (fun c => absurd (V.int.inj (of_decide_eq_true c)) ne) fun _ => ?_
        refine ⟨_, rfl, a, xs, _, rfl, ho, .inr rfl, fun J EJ => for_enum EJ (fun i σ H2 => (∃ o2 o3, σ = [some (.ref a), some (.int (befN xs i)), o2, o3]) ∧ Same H H2 ∧ ∀ j, j < i → numOk xs j = true) ⟨⟨_, _, rfl⟩, same0 _, fun j hj => absurd hj (Nat.not_lt_zero j)⟩
          (fun i σ H2 ⟨_, s2, _⟩ => s2 _ _ ho) (fun i x σ H2 Ta hx => ?_) (fun σ H2 => ?_)⟩
        · rintro ⟨⟨o2, o3, rfl⟩, s2, ok⟩ nT
          have s3 : Same H (upd H2 Ta (.tup [.int (i : Nat), x])) := smu s2 nT
          have li : i < xs.length := (List.getElem?_eq_some_iff.mp hx).1
          refine ⟨Ta, _, rfl, .of upd_same, rfl, _, _, rfl, _, _, rfl, rfl, ?_⟩
          generalize upd H2 Ta (.tup [.int (i : Nat), x]) = H3 at s3 ⊢
          have pl := px x (List.mem_of_getElem? hx)
          have val := numOk_at hx
          have bad : numOk xs i = false → Raise E C (.int (i : Nat)) H3 := fun e => k2 i (numBad_at li ok e) H3 s3
          refine ⟨_, rfl, x, rfl, pl, _, rfl, ?_⟩
          cases pl with
          | int k =>
            have val : numOk xs i = (decide (0 ≤ k) && decide (befN xs i < k)) := val
            have eB : isNum (.int k) = decide (0 ≤ k) := rfl
            rw [eB]
            cases c1 : decide (0 ≤ k) with
            | false =>
              rw [c1, Bool.false_and] at val
              exact iteT (iteT ⟨_, rfl, (show 1 ≤ 1000 by decide), fun a na => raise_read (bad val) a na⟩)
            | true =>
              rw [c1, Bool.true_and] at val
              refine iteF ⟨_, rfl, _, rfl, k, _, rfl, rfl, _, rfl, ?_⟩
              by_cases c2 : k ≤ befN xs i
              · rw [decide_eq_false (by omega)] at val
                rw [decide_eq_true c2]
                exact iteT ⟨_, rfl, (show 1 ≤ 1000 by decide), fun a na => raise_read (bad val) a na⟩
              · rw [decide_eq_true (by omega)] at val
                rw [decide_eq_false c2]
                have e := befN_succ hx
                exact iteF ⟨_, rfl, ⟨_, _, by rw [e] <;> rfl⟩, s3, fun j hj => (Nat.lt_succ_iff_lt_or_eq.mp hj).elim (ok j) fun e => e ▸ val⟩
          | bl b => exact iteT (iteT ⟨_, rfl, (show 1 ≤ 1000 by decide), fun a na => raise_read (bad val) a na⟩)
          | str b => exact iteT (iteT ⟨_, rfl, (show 1 ≤ 1000 by decide), fun a na => raise_read (bad val) a na⟩)
          | non => exact iteT (iteT ⟨_, rfl, (show 1 ≤ 1000 by decide), fun a na => raise_read (bad val) a na⟩)
        · rintro ⟨⟨o2, o3, rfl⟩, s2, ok⟩
          have e := numBad_no ce ok
          refine ⟨_, rfl, a, xs, rfl, .inr (.of (s2 _ _ ho)), _, _, rfl, rfl, _, rfl, ?_⟩
          by_cases c : 6 < xs.length
          · rw [if_pos c] at e
            rw [decide_eq_true (by omega : (6 : Int) < (xs.length : Int))]
            exact iteT ⟨(show 1 ≤ 1000 by decide), fun a na => raise_read (k2 6 e H2 s2) a na⟩
          · rw [if_neg c] at e
            rw [decide_eq_false (by omega : ¬ (6 : Int) < (xs.length : Int))]
            exact iteF (k1 e H2 s2)
end
end RD
set_option maxRecDepth 100000
set_option maxHeartbeats 4000000
namespace RD
open PySem PySem.Spec PyProof.Rows L2 Rd Tb Cn
def tri (ns : List Int) : List Int → Bool
  | [x, y, z] => triB (tn ns x) (tn ns y) (tn ns z)
  | _ => false
def sp_distance_kind (C CE : Addr) : Sp := fun vs H Q E => ∃ x, vs = [x] ∧ ((Pln x ∧ ∀ H1, Same H H1 → Raise E CE (.int 0) H1) ∨ (∃ a xs, x = .ref a ∧ H a = some (.lst xs) ∧ ∀ H1, Same H H1 → Raise E CE (.int 0) H1) ∨ ∃ a xs, x = .ref a ∧ H a = some (.tup xs) ∧ (∀ x ∈ xs, Pln x) ∧
  (numBad xs = none → ∃ ns : List Int, xs = ns.map V.int ∧ 0 < ns.length ∧ ns.length ≤ 6 ∧ NewK C H (upN ns.length) ((allT ns.length).filter (tri ns)) Q) ∧ ∀ n, numBad xs = some n → ∀ H1, Same H H1 → Raise E CE (.int (n : Nat)) H1)
theorem tri_sym {ns : List Int} {x y z : Int} (h : tri ns [x, y, z] = true) : tri ns [z, y, x] = true ∧ tri ns [x, z, y] = true ∧ tri ns [y, z, x] = true ∧ tri ns [z, x, y] = true ∧ tri ns [y, x, z] = true := by
  have e : ∀ p q r, tri ns [p, q, r] = decide (2 * mx (mx (tn ns p) (tn ns q)) (tn ns r) ≤ tn ns p + tn ns q + tn ns r) := fun _ _ _ => rfl
  simp only [e, decide_eq_true_eq] at h ⊢
  unfold mx at h ⊢
  generalize tn ns x = a at *
  generalize tn ns y = b at *
  generalize tn ns z = c at *
  refine ⟨?_, ?_, ?_, ?_, ?_⟩ <;> omega
section
variable {P : Program} {w : World} {K : PySem.W.Frag} {mg : Str → Option Value} {base : Heap}
theorem sc_distance_kind : FnScope ["numbers", "many", "triples", "x", "y", "z"] ["numbers"] (defScope s_distance_kind) := ⟨rfl, rfl, rfl, by decide +kernel, rfl, by decide +kernel, by decide +kernel⟩
theorem ok_distance_kind {C CE : Addr} (D : Df K mg "distance_kind" s_distance_kind ["numbers"]) (Dc : Df K mg "check_numbers" s_check_numbers ["numbers"]) (Dn : Df K mg "is_number" s_is_number ["value"]) (Di : Df K mg "is_integer" s_is_integer ["value"]) (D1 : Df K mg "own_turned" s_own_turned ["many"]) (D2 : Df K mg "all_triples" s_all_triples ["many"]) (D3 : Df K mg "is_triangle" s_is_triangle ["a", "b", "c"])
    (B : Bn mg) (hM : ∃ t, mg "MOST_NUMBERS" = some (.int 6 t)) (T : Er P w K mg base "InvalidKind" CE) (KK : KindK P w K mg base C CE) :
    FnOk P w K mg base (L2N.CX P w) 10 D.f D.fd ["numbers"] (sp_distance_kind C CE) := by
  have GC : FnOk P w K mg base (L2N.CX P w) 3 Dc.f Dc.fd ["numbers"] (sp_check_numbers CE) := ok_check_numbers Dc Dn Di B hM T
  have G1 : FnOk P w K mg base CX0 1 D1.f D1.fd ["many"] sp_own_turned := ok_own_turned D1 B
  have G2 : FnOk P w K mg base CX0 1 D2.f D2.fd ["many"] sp_all_triples := ok_all_triples D2 B
  have G3 : FnOk P w K mg base CX0 1 D3.f D3.fd ["a", "b", "c"] sp_is_triangle := ok_is_triangle D3 B
  obtain ⟨fK, fdK, KC, GK, bK⟩ := KK.ex
  refine okN D.F sc_distance_kind (fun vs H Q E h => ?_) (fun cdv A outer s H vs Q E hr h => ?_)
  · obtain ⟨x, rfl, _⟩ := h
    rfl
  · obtain ⟨x, rfl, h⟩ := h
    have gn := B.gn
    have hr1 := hr.mono (show 1 ≤ 9 by decide)
    have hr3 := hr.mono (show 3 ≤ 9 by decide)
    have nd := sc_distance_kind.nd
    refine ⟨_, pss_cons (ps_expr (pe_call GC hr3 rfl Dc.g Dc.F.kp Dc.b .nil passN (pa_cons (pv 0) pa_nil)))
      (pss_cons (ps_set (i := 1) nd rfl (.inl rfl) (pe_callB call_len_seq rfl (gn _ (by decide)) PySem.boot_len (pa_cons (pv 0) pa_nil)))
      (pss_cons (ps_setLc (i := 2) (own := [("x", 3), ("y", 4), ("z", 5)]) (g := gTup K 3 (gCons (gName 3) (gCons (gName 4) (gCons (gName 5) gNil)))) (tt := tTest (tCall sp_is_triangle [] (fun _ _ _ => False) (tCons (tOp (rIx K) (tVar 0) (tVar 3)) (tCons (tOp (rIx K) (tVar 0) (tVar 4)) (tCons (tOp (rIx K) (tVar 0) (tVar 5)) tNil))))) (te := tTup (tCons (tVar 3) (tCons (tVar 4) (tCons (tVar 5) tNil)))) rfl nd rfl rfl (sw_true rfl rfl rfl (by decide +kernel)) (pi_list (pe_call G2 hr1 rfl D2.g D2.F.kp D2.b .nil pass0 (pa_cons (pv 1) pa_nil))) (blkOk_by (N := ["numbers", "many", "triples", "x", "y", "z"]) (sc := defScope s_distance_kind) (by decide +kernel))
        (fun _ _ _ _ _ => pg_tup rfl (pgs_cons (pg_name (i := 3) nd rfl (Or.inl rfl)) (pgs_cons (pg_name (i := 4) nd rfl (Or.inl rfl)) (pgs_cons (pg_name (i := 5) nd rfl (Or.inl rfl)) pgs_nil)))) (fun _ _ _ _ _ => pts_one (pt_val (pe_call G3 hr1 rfl D3.g D3.F.kp D3.b .nil pass0 (pa_cons (pe_ix ix_seq (pv 0) (pv 3) (fun _ _ => rfl)) (pa_cons (pe_ix ix_seq (pv 0) (pv 4) (fun _ _ => rfl)) (pa_cons (pe_ix ix_seq (pv 0) (pv 5) (fun _ _ => rfl)) pa_nil))))))
        (fun _ _ _ _ _ => pe_tup (pa_cons (pv 3) (pa_cons (pv 4) (pa_cons (pv 5) pa_nil)))))
      (pss_one (ps_ret (pe_make KC.M GK hr rfl KC.g bK .nil passN (pa_cons (pe_call G1 hr1 rfl D1.g D1.F.kp D1.b .nil pass0 (pa_cons (pv 1) pa_nil)) (pa_cons (pv 2) pa_nil))))))), ?_⟩
    refine ⟨_, rfl, x, rfl, ?_⟩
    rcases h with h | h | ⟨a, xs, rfl, ho, px, k1, k2⟩
    · exact .inl h
    · exact .inr (.inl h)
    · refine .inr (.inr ⟨a, xs, rfl, ho, px, fun nb H1 s1 => ?_, k2⟩)
      obtain ⟨ns, rfl, n0, n6, k⟩ := k1 nb
      refine ⟨_, rfl, a, _, rfl, .inr (.of (s1 _ _ ho)), ?_⟩
      rw [List.length_map]
      refine ⟨_, rfl, ns.length, rfl, n6, fun l ks H2 s2 nl hl eT tk => ?_⟩
      have lk : ks.length ≤ 300 := by
        have z := allT_len n6
        rw [← eT, List.length_map] at z
        exact z
      have zl : 1000 ≤ sizeLine := by decide
      have z3 : 3 ≤ sizeLine := by decide
      have ho2 := s2 _ _ (s1 _ _ ho)
      let F (i : Nat) : List (List Int) := ((ks.take i).filter fun q => tri ns q.2).map (·.2)
      refine ⟨l, rfl, ⟨_, .of hl⟩, fun D nD => lc_list (K := K) (a := l) (xs := ks.map fun q => V.ref q.1) (fun i H3 => Acc D H2 (F i) H3) (Acc.nil nD) (fun i H3 _ a1 => .of (a1.1 _ _ hl)) (fun i x H3 hx a1 => ?_) (fun H3 a1 => ?_)⟩
      · rw [List.getElem?_map, Option.map_eq_some_iff] at hx
        obtain ⟨⟨t, u⟩, hq, rfl⟩ := hx
        have mq := List.mem_of_getElem? hq
        obtain ⟨p, q, r, eu, lp, lq, lr⟩ := tri_nat (mem_allT.mp (eT ▸ List.mem_map.mpr ⟨_, mq, rfl⟩))
        have eu : u = [(p : Int), (q : Int), (r : Int)] := eu
        subst eu
        have s3 := a1.1
        have sqa : SqA K H3 a (ns.map V.int) := .inr (s3 _ _ ho2)
        have at_ : ∀ j : Nat, j < ns.length → (ns.map V.int)[j]? = some (.int (tn ns j)) := fun j lj => by
          have z := tn_at (ts := ns) (x := (j : Int)) ⟨by omega, by omega⟩
          rw [Int.toNat_natCast] at z
          exact z
        have e1 := take_filter (p := fun q : Tri => tri ns q.2) hq
        have e2 : tri ns [(p : Int), (q : Int), (r : Int)] = triB (tn ns p) (tn ns q) (tn ns r) := rfl
        refine ⟨t, _, rfl, .of (s3 _ _ (tk _ mq)), rfl, _, _, rfl, _, _, rfl, _, _, rfl, rfl, rfl, ?_⟩
        refine ⟨_, rfl, _, rfl, ixA sqa (at_ p lp) ⟨_, rfl, _, rfl, ixA sqa (at_ q lq) ⟨_, rfl, _, rfl, ixA sqa (at_ r lr) ⟨_, _, _, rfl, ?_⟩⟩⟩⟩
        refine ⟨_, rfl, ?_⟩
        cases cl : triB (tn ns p) (tn ns q) (tn ns r) with
        | true =>
          have e3 : F (i + 1) = F i ++ [[(p : Int), (q : Int), (r : Int)]] := by
            show List.map _ (List.filter _ (ks.take (i + 1))) = _
            rw [e1, if_pos (show tri ns (t, [(p : Int), (q : Int), (r : Int)]).2 = true from e2.trans cl), List.map_append]
            rfl
          refine iteT ⟨_, rfl, _, rfl, _, rfl, z3, fun pp np => ?_⟩
          have few : (F i).length < 1000 := by
            have z := List.length_filter_le (fun q : Tri => tri ns q.2) (ks.take i)
            rw [List.length_take] at z
            show (List.map _ _).length < 1000
            rw [List.length_map]
            omega
          have z := Acc.push (t := [(p : Int), (q : Int), (r : Int)]) a1 nD np few
          rw [e3]
          exact z
        | false =>
          have e3 : F (i + 1) = F i := by
            show List.map _ (List.filter _ (ks.take (i + 1))) = _
            rw [e1, if_neg (by rw [show tri ns (t, [(p : Int), (q : Int), (r : Int)]).2 = false from e2.trans cl]; decide)]
          exact iteF (by rw [e3]; exact a1)
      · have eF : F (ks.map fun q => V.ref q.1).length = (allT ns.length).filter (tri ns) := by
          show List.map _ (List.filter _ (ks.take _)) = _
          rw [List.length_map, List.take_length]
          exact filt (p := tri ns) eT
        rw [eF] at a1
        refine ⟨_, rfl, ns.length, rfl, by omega, fun q nq => ⟨_, rfl, ?_⟩⟩
        obtain ⟨s3, ks3, hD, eT3, tk3⟩ := a1
        have sq := same1 (o := .tup ((upN ns.length).map V.int)) nq
        have T := turns_upN n0
        have mem3 : ∀ q ∈ ks3, tri ns q.2 = true ∧ triOk ns.length q.2 = true := fun q hq => by
          have z : q.2 ∈ (allT ns.length).filter (tri ns) := eT3 ▸ List.mem_map.mpr ⟨q, hq, rfl⟩
          exact ⟨(List.mem_filter.mp z).2, mem_allT.mp (List.mem_filter.mp z).1⟩
        have l3 : ks3.length ≤ 300 := by
          have z := List.length_filter_le (tri ns) (allT ns.length)
          have z2 := allT_len n6
          rw [← eT3, List.length_map] at z
          omega
        refine make_kind (by rw [upN_len]; omega) (.inr upd_same) (turnBad_turns T) (sq _ _ hD) l3 (fun q hq => ⟨sq _ _ (tk3 q hq).2, by rw [upN_len]; exact (mem3 q hq).2⟩) ?_ fun x T1 H4 s4 as ka => k x T1 H4 (sTr s1 (sTr s2 (sTr s3 (sTr sq s4)))) (by rw [eT3] at as; exact as) ka
        rw [eT3]
        have z := lack_filter T (p := tri ns) fun t ht pt r hr => ?_
        · rw [upN_len] at z
          exact z
        · obtain ⟨x, y, z, rfl, ix, iy, iz⟩ := tri_parts ht
          rw [upN_len] at ix iy iz
          simp only [sixL, six, tn_upN ix, tn_upN iy, tn_upN iz, List.mem_cons, List.not_mem_nil, or_false] at hr
          obtain ⟨q1, q2, q3, q4, q5⟩ := tri_sym pt
          rcases hr with rfl | rfl | rfl | rfl | rfl | rfl <;> assumption
end
end RD
set_option maxRecDepth 100000
set_option maxHeartbeats 4000000
namespace RD
open PySem PySem.Spec PyProof.Rows L2 Rd Tb Cn
/-! ### a loop over a list or a tuple -/
structure SeqJ (a : Addr) (xs : List V) (o : HO) (J : It) : Prop where
  stop : ∀ i H, H a = some o → i = xs.length → J.stop i H
  go : ∀ i H x, H a = some o → xs[i]? = some x → J.go i H
  yld : ∀ i H v H1, H a = some o → J.yld i H v H1 → H1 = H ∧ xs[i]? = some v
def iSeqA (tl : TE) : TI := fun σ H R => tl σ H fun x H1 => ∃ a xs o, x = .ref a ∧ H1 a = some o ∧ (o = .lst xs ∨ o = .tup xs) ∧ ∀ J, SeqJ a xs o J → R J H1
theorem pi_seqA {X : Cx} {tg l : Expr} {tl : TE} (hl : PE X l tl) : PI X tg l (iSeqA tl) := by
  refine ⟨fun pins s σ H R I h => ?_⟩
  refine thn (hl.run pins s σ H _ I h) fun v s1 ⟨x, H1, I1, r1, q1⟩ => ?_
  obtain ⟨a, xs, o, rfl, ho, ho2, q⟩ := q1
  cases r1
  rcases ho2 with rfl | rfl
  · obtain ⟨its, rv, p, hz⟩ := I1.list (.of ho : SqL X.K H1 a xs)
    refine wpAny_pyIter_list p.isList ?_
    refine ⟨s1.heap.objs.size, [s1.heap.objs.size], _, _, H1, rfl, I1.kept (t' := s1.toks) fun b o e => Heap.get?_push_of_some _ e, turn_list a _, ⟨_, Heap.get?_push_size _ rfl, rfl, rfl⟩, fun b hb => ?_, q (Itl X.K a) ⟨fun i H e1 e2 => ?_, fun i H x e1 e2 => ?_, fun i H v H2 e1 y => ?_⟩⟩
    · rw [List.mem_singleton.mp hb]
      exact I1.fpOk (Nat.le_refl _) (I1.hok.fresh (Nat.le_refl _))
    · exact ⟨xs, .of e1, Nat.le_of_eq e2.symm⟩
    · exact ⟨xs, x, .of e1, e2⟩
    · exact ⟨y.1, y.2 xs (.of e1)⟩
  · obtain ⟨its, rv, p, hz⟩ := I1.tuple (.of ho : SqT X.K H1 a xs)
    refine wpAny_pyIter_tuple (show s1.heap.IsTuple a its.toArray from p) ?_
    refine ⟨s1.heap.objs.size, [s1.heap.objs.size], _, _, H1, rfl, I1.kept (t' := s1.toks) fun b o e => Heap.get?_push_of_some _ e, turn_tuple a _, ⟨_, Heap.get?_push_size _ rfl, rfl, rfl⟩, fun b hb => ?_, q (Itt X.K a) ⟨fun i H e1 e2 => ?_, fun i H x e1 e2 => ?_, fun i H v H2 e1 y => ?_⟩⟩
    · rw [List.mem_singleton.mp hb]
      exact I1.fpOk (Nat.le_refl _) (I1.hok.fresh (Nat.le_refl _))
    · exact ⟨xs, .of e1, Nat.le_of_eq e2.symm⟩
    · exact ⟨xs, x, .of e1, e2⟩
    · exact ⟨y.1, y.2 xs (.of e1)⟩
theorem for_seq {a : Addr} {xs : List V} {o : HO} {J : It} {g : TG} {tb : TS} {D : Ends} {σ : L2.St} {H : Hp} (E : SeqJ a xs o J) (Pv : Nat → L2.St → Hp → Prop) (h0 : Pv 0 σ H) (hl : ∀ i σ H, Pv i σ H → H a = some o)
    (hs : ∀ i x σ H, xs[i]? = some x → Pv i σ H → g x σ H fun σ2 H2 => tb { D with nx := Pv (i + 1), ct := Pv (i + 1), bk := D.nx } σ2 H2) (hd : ∀ σ H, Pv xs.length σ H → D.nx σ H) :
    ∃ W : Nat → Nat → L2.St → Hp → Prop, (∃ m, W 0 m σ H) ∧ ∀ i m σ H, W i m σ H →
      (J.stop i H ∧ D.nx σ H) ∨ (J.go i H ∧ ∃ N : L2.St → Hp → Prop, (∀ σ' H', N σ' H' → ∃ m', m' < m ∧ W (i + 1) m' σ' H') ∧ ∀ x H', J.yld i H x H' → g x σ H' fun σ2 H2 => tb { D with nx := N, ct := N, bk := D.nx } σ2 H2) := by
  refine ⟨fun i m σ H => m = xs.length - i ∧ i ≤ xs.length ∧ Pv i σ H, ⟨xs.length, by simp, Nat.zero_le _, h0⟩, ?_⟩
  rintro i m σ H ⟨rfl, hi, p⟩
  have q := hl i σ H p
  by_cases lt : i < xs.length
  · refine .inr ⟨E.go i H _ q (List.getElem?_eq_getElem lt), Pv (i + 1), fun σ' H' p' => ⟨xs.length - (i + 1), by omega, rfl, lt, p'⟩, fun v H' y => ?_⟩
    obtain ⟨rfl, hx⟩ := E.yld i H v H' q y
    exact hs i v σ _ hx p
  · obtain rfl : i = xs.length := by omega
    exact .inl ⟨E.stop _ H q rfl, hd σ H p⟩
end RD
set_option maxRecDepth 100000
set_option maxHeartbeats 4000000
namespace RD
open PySem PySem.Spec PyProof.Rows L2 Rd Tb Cn
/-- the readings of all of these -/
def outs (ts : List Int) (ks : List Tri) : List (List Int) := ks.flatMap fun q => sixL ts q.2
def sp_barred_kind (C CE : Addr) : Sp := fun vs H Q E => ∃ x y, vs = [x, y] ∧ ((Pln x ∧ ∀ H1, Same H H1 → Raise E CE (.int 0) H1) ∨
  (∃ a xs o n, x = .ref a ∧ H a = some o ∧ (o = .lst xs ∨ o = .tup xs) ∧ (∀ x ∈ xs, Pln x) ∧ turnBad xs = some n ∧ ∀ H1, Same H H1 → Raise E CE (.int (n : Nat)) H1) ∨
  ∃ (a : Addr) (ts : List Int), x = .ref a ∧ (H a = some (.lst (ts.map V.int)) ∨ H a = some (.tup (ts.map V.int))) ∧ Turns ts ∧ ts.length ≤ 6 ∧ ((Pln y ∧ ∀ H1, Same H H1 → Raise E CE (.int (ts.length : Nat)) H1) ∨
    (∃ b ys o bs n, y = .ref b ∧ H b = some o ∧ (o = .lst ys ∨ o = .tup ys) ∧ bs.length = ys.length ∧ (∀ (i : Nat) z c, ys[i]? = some z → bs[i]? = some c → Itm H (ts.length : Nat) z c) ∧ firstNo bs = some n ∧ ∀ H1, Same H H1 → Raise E CE (.int ((ts.length : Nat) + (n : Nat))) H1) ∨
    ∃ (b : Addr) (ks : List Tri) (o : HO), y = .ref b ∧ H b = some o ∧ (o = .lst (ks.map fun q => V.ref q.1) ∨ o = .tup (ks.map fun q => V.ref q.1)) ∧ ks.length ≤ 40 ∧ (∀ q ∈ ks, H q.1 = some (.tup (q.2.map V.int)) ∧ triOk ts.length q.2 = true) ∧ NewK C H ts ((allT ts.length).filter fun t => !decide (t ∈ outs ts ks)) Q))
theorem sixL_len {ts : List Int} {t : List Int} : (sixL ts t).length ≤ 6 := by
  unfold sixL
  split
  · exact Nat.le_refl 6
  · exact Nat.zero_le 6
theorem outs_take {ts : List Int} {ks : List Tri} {i : Nat} {q : Tri} (h : ks[i]? = some q) : outs ts (ks.take (i + 1)) = outs ts (ks.take i) ++ sixL ts q.2 := by
  unfold outs
  rw [take_next h, List.flatMap_append]
  simp
theorem six_sy {ts : List Int} (T : Turns ts) {t r : List Int} (h : triOk ts.length t = true) (hr : r ∈ sixL ts t) : t ∈ sixL ts r := by
  obtain ⟨x, y, z, rfl, ix, iy, iz⟩ := tri_parts h
  simp only [sixL, six, List.mem_cons, List.not_mem_nil, or_false] at hr
  rcases hr with rfl | rfl | rfl | rfl | rfl | rfl <;> simp [sixL, six, T.inv x ix, T.inv y iy, T.inv z iz]
theorem six_tr {ts : List Int} (T : Turns ts) {t r u : List Int} (h : triOk ts.length u = true) (hr : r ∈ sixL ts u) (ht : t ∈ sixL ts r) : t ∈ sixL ts u := by
  obtain ⟨x, y, z, rfl, ix, iy, iz⟩ := tri_parts h
  simp only [sixL, six, List.mem_cons, List.not_mem_nil, or_false] at hr
  rcases hr with rfl | rfl | rfl | rfl | rfl | rfl <;> simp only [sixL, six, T.inv x ix, T.inv y iy, T.inv z iz, List.mem_cons, List.not_mem_nil, or_false] at ht <;> rcases ht with rfl | rfl | rfl | rfl | rfl | rfl <;> simp [sixL, six]
/-- so far: the set at S holds these -/
def AccS (P : Program) (w : World) (K : PySem.W.Frag) (S : Addr) (H0 : Hp) (T : List (List Int)) (n : Nat) (H : Hp) : Prop := Same H0 H ∧ ∃ L : List Tri, H S = some (SetGO P w S L) ∧ Tups K H L ∧ L.length ≤ n ∧ ∀ r, r ∈ L.map (·.2) ↔ r ∈ T
theorem stU {P : Program} {w : World} {K : PySem.W.Frag} {H : Hp} {a S : Addr} {L : List Tri} {o : HO} {xs : List V} (h : SqT K H a xs) (n : H S = some (SetGO P w S L)) : SqT K (upd H S o) a xs := by
  unfold SetGO at n
  rcases h with (h | ⟨o2, h⟩) | h
  · have ne : a ≠ S := fun z => by rw [z, n] at h; cases h
    exact .inl (.inl (by rw [upd_ne ne]; exact h))
  · have ne : a ≠ S := fun z => by rw [z, n] at h; cases h
    exact .inl (.inr ⟨o2, by rw [upd_ne ne]; exact h⟩)
  · exact .inr h
theorem AccS.add {P : Program} {w : World} {K : PySem.W.Frag} {S b : Addr} {H0 H : Hp} {T : List (List Int)} {n : Nat} {k : List Int} {Q : VK} (a : AccS P w K S H0 T n H) (nS : H0 S = none) (few : n < 300) (hb : SqT K H b (k.map V.int)) (q : ∀ H1, (∀ c xs, SqT K H c xs → SqT K H1 c xs) → AccS P w K S H0 (T ++ [k]) (n + 1) H1 → Q .non H1) : rAddG K P w (.ref S) [.ref b] H Q := by
  obtain ⟨s, L, hS, tL, lL, mem⟩ := a
  refine ⟨S, b, k, L, rfl, rfl, hS, tL, hb, by omega, fun L1 h1 h2 => q _ (fun c xs h => stU h hS) ⟨fun c o e => ?_, L1, upd_same, ?_, ?_, fun r => ?_⟩⟩
  · rw [upd_ne fun z => by rw [z, nS] at e; cases e]
    exact s _ _ e
  · by_cases c : k ∈ L.map (·.2)
    · rw [h1 c]
      exact fun q hq => stU (tL q hq) hS
    · intro q hq
      rcases List.mem_cons.mp ((h2 c).mem_iff.mp hq) with rfl | z
      · exact stU hb hS
      · exact stU (tL q z) hS
  · by_cases c : k ∈ L.map (·.2)
    · rw [h1 c]
      omega
    · have z := (h2 c).length_eq
      rw [List.length_cons] at z
      omega
  · rw [List.mem_append, List.mem_singleton, ← mem r]
    by_cases c : k ∈ L.map (·.2)
    · rw [h1 c]
      exact ⟨.inl, fun z => z.elim id fun e => e ▸ c⟩
    · rw [((h2 c).map (·.2)).mem_iff, List.map_cons, List.mem_cons]
      exact or_comm
theorem nodup_len : ∀ (l D : List (List Int)), l.Nodup → (∀ x ∈ l, x ∈ D) → l.length ≤ D.length
  | [], _, _, _ => Nat.zero_le _
  | x :: l, D, h, hs => by
    obtain ⟨h1, h2⟩ := List.nodup_cons.mp h
    have hx := hs x (by simp)
    have ih := nodup_len l (D.erase x) h2 fun y hy => (List.mem_erase_of_ne (show y ≠ x from fun z => h1 (z ▸ hy))).mpr (hs y (List.mem_cons_of_mem _ hy))
    rw [List.length_erase_of_mem hx] at ih
    have p := List.length_pos_of_mem hx
    rw [List.length_cons]
    omega
theorem Asc.len {M : List Tri} {D : List (List Int)} (a : Asc M) (h : ∀ q ∈ M, q.2 ∈ D) : M.length ≤ D.length := by
  rw [← List.length_map (f := fun q : Tri => q.2)]
  refine nodup_len _ _ (List.pairwise_map.mpr (a.imp fun {q r} e z => ?_)) fun x hx => ?_
  · rw [z] at e
    have y := lx_asym _ _ e
    rw [e] at y
    cases y
  · obtain ⟨q, hq, rfl⟩ := List.mem_map.mp hx
    exact h q hq
section
variable {P : Program} {w : World} {K : PySem.W.Frag} {mg : Str → Option Value} {base : Heap}
theorem sc_barred_kind : FnScope ["turned", "barred", "many", "out", "triple", "reading"] ["turned", "barred"] (defScope s_barred_kind) := ⟨rfl, rfl, rfl, by decide +kernel, rfl, by decide +kernel, by decide +kernel⟩
theorem ok_barred_kind {C CE : Addr} (D : Df K mg "barred_kind" s_barred_kind ["turned", "barred"]) (N : Kin K mg) (M : Vals_ K mg) (D2 : Df K mg "all_triples" s_all_triples ["many"])
    (B : Bn mg) (T : Er P w K mg base "InvalidKind" CE) (KK : KindK P w K mg base C CE) :
    FnOk P w K mg base (L2N.CX P w) 10 D.f D.fd ["turned", "barred"] (sp_barred_kind C CE) := by
  have GC : FnOk P w K mg base (L2N.CX P w) 4 N.ct.f N.ct.fd ["turned"] (sp_check_turned CE) := ok_check_turned N.ct M B T
  have GP : FnOk P w K mg base (L2N.CX P w) 7 N.cp.f N.cp.fd ["triples", "many"] (sp_check_triples CE) := ok_check_triples N.cp M B T
  have GR : FnOk P w K mg base CX0 1 N.rd.f N.rd.fd ["turned", "triple"] (sp_readings K) := ok_readings N.rd B
  have G2 : FnOk P w K mg base CX0 1 D2.f D2.fd ["many"] sp_all_triples := ok_all_triples D2 B
  obtain ⟨fK, fdK, KC, GK, bK⟩ := KK.ex
  refine okN D.F sc_barred_kind (fun vs H Q E h => ?_) (fun cdv A outer s H vs Q E hr h => ?_)
  · obtain ⟨x, y, rfl, _⟩ := h
    rfl
  · obtain ⟨x, y, rfl, h⟩ := h
    have gn := B.gn
    have hr1 := hr.mono (show 1 ≤ 9 by decide)
    have hr4 := hr.mono (show 4 ≤ 9 by decide)
    have hr7 := hr.mono (show 7 ≤ 9 by decide)
    have nd := sc_barred_kind.nd
    refine ⟨_, pss_cons (ps_expr (pe_call GC hr4 rfl N.ct.g N.ct.F.kp N.ct.b .nil passN (pa_cons (pv 0) pa_nil)))
      (pss_cons (ps_set (i := 2) nd rfl (.inl rfl) (pe_callB call_len_seq rfl (gn _ (by decide)) PySem.boot_len (pa_cons (pv 0) pa_nil)))
      (pss_cons (ps_expr (pe_call GP hr7 rfl N.cp.g N.cp.F.kp N.cp.b .nil passN (pa_cons (pv 1) (pa_cons (pv 2) pa_nil))))
      (pss_cons (ps_set (i := 3) nd rfl (.inr rfl) (pe_callTy0 cr_set0G rfl (gn _ (by decide)) PyProof.Rows.boot_set))
      (pss_cons (ps_for (passes_of rfl) rfl (pi_seqA (pv 1)) (pg_name (i := 4) nd rfl (.inl rfl))
        (pss_one (ps_for (passes_of rfl) rfl (pi_tup (pe_call GR hr1 rfl N.rd.g N.rd.F.kp N.rd.b .nil pass0 (pa_cons (pv 0) (pa_cons (pv 4) pa_nil)))) (pg_name (i := 5) nd rfl (.inl rfl))
          (pss_one (ps_expr (pe_addG hr.units (pv 3) (pa_cons (pv 5) pa_nil)))))))
      (pss_one (ps_ret (pe_make KC.M GK hr rfl KC.g bK .nil passN (pa_cons (pv 0)
        (pa_cons (pe_lc (own := [("triple", 4)]) (g := gName 4) (tt := tTest (tOp (rInG K P w true) (tVar 4) (tVar 3))) (te := tVar 4) rfl nd (pi_list (pe_call G2 hr1 rfl D2.g D2.F.kp D2.b .nil pass0 (pa_cons (pv 2) pa_nil))) (blkOk_by (N := ["turned", "barred", "many", "out", "triple", "reading"]) (sc := defScope s_barred_kind) (by decide +kernel))
          (fun _ _ _ _ _ => pg_name (i := 4) nd rfl (Or.inl rfl)) (fun _ _ _ _ _ => pts_one (pt_cmpR (or_notinG hr.units) (pv 4) (pv 3) rfl)) (fun _ _ _ _ _ => pv 4)) pa_nil))))))))), ?_⟩
    refine ⟨_, rfl, x, rfl, ?_⟩
    rcases h with ⟨px, k⟩ | ⟨a, xs, o, n, rfl, ho, ho2, px, tb, k⟩ | ⟨a, ts, rfl, ha, T, l6, h⟩
    · exact .inl ⟨px, k⟩
    · exact .inr ⟨a, xs, o, rfl, ho, ho2, px, fun e => (by rw [tb] at e; cases e), fun m e => (by rw [tb] at e; cases e; exact k)⟩
    · have sq : SqA K H a (ts.map V.int) := ha
      obtain ⟨o, ho, ho2⟩ : ∃ o, H a = some o ∧ (o = .lst (ts.map V.int) ∨ o = .tup (ts.map V.int)) := by
        rcases ha with h | h
        · exact ⟨_, h, .inl rfl⟩
        · exact ⟨_, h, .inr rfl⟩
      refine .inr ⟨a, _, o, rfl, ho, ho2, pln_ints, fun _ H1 s1 => ?_, fun n e => by rw [turnBad_turns T] at e; cases e⟩
      have lm : ((ts.map V.int).length : Int) = (ts.length : Nat) := by rw [List.length_map]
      refine ⟨_, rfl, a, _, rfl, (sq.same s1).sq, ?_⟩
      rw [lm]
      refine ⟨_, rfl, _, rfl, y, _, rfl, ?_⟩
      rcases h with ⟨py, k⟩ | ⟨b, ys, o', bs, n, rfl, hb, hb2, lb, it, fn, k⟩ | ⟨b, ks, o', rfl, hb, hb2, lim, ok, k⟩
      · exact .inl ⟨py, fun H2 s2 => k H2 (sTr s1 s2)⟩
      · exact .inr ⟨b, ys, o', bs, rfl, s1 _ _ hb, hb2, lb, fun i z c e1 e2 => (it i z c e1 e2).same s1, fun e => (by rw [fn] at e; cases e), fun m e => (by rw [fn] at e; cases e; exact fun H2 s2 => k H2 (sTr s1 s2))⟩
      · refine .inr ⟨b, _, o', ks.map fun _ => true, rfl, s1 _ _ hb, hb2, by simp, fun i v c hv hc => ?_, fun _ H2 s2 => ?_, fun n e => ?_⟩
        · rw [List.getElem?_map, Option.map_eq_some_iff] at hv
          obtain ⟨q, hq, rfl⟩ := hv
          rw [List.getElem?_map, hq] at hc
          cases hc
          obtain ⟨h1, h2⟩ := ok q (List.mem_of_getElem? hq)
          have z := Itm.tri (m := (ts.length : Nat)) (s1 _ _ h1)
          rw [h2] at z
          exact z
        · have s12 := sTr s1 s2
          refine ⟨rfl, fun S nS => ?_⟩
          refine ⟨_, rfl, b, _, o', rfl, same1 nS _ _ (s12 _ _ hb), hb2, fun J EJ => for_seq EJ (fun i σ H3 => (∃ o4 o5, σ = [some (.ref a), some (.ref b), some (.int ts.length), some (.ref S), o4, o5]) ∧ AccS P w K S H2 (outs ts (ks.take i)) (6 * i) H3)
            ⟨⟨_, _, rfl⟩, same1 nS, [], upd_same, fun q hq => absurd hq (by simp), Nat.zero_le _, fun r => by simp [outs]⟩ (fun i σ H3 ⟨_, a3⟩ => a3.1 _ _ (s12 _ _ hb)) (fun i v σ H3 hv => ?_) (fun σ H3 => ?_)⟩
          · rintro ⟨⟨o4, o5, rfl⟩, a3⟩
            rw [List.getElem?_map, Option.map_eq_some_iff] at hv
            obtain ⟨⟨t, u⟩, hq, rfl⟩ := hv
            obtain ⟨ht, ok1⟩ := ok _ (List.mem_of_getElem? hq)
            obtain ⟨p, q, r, eu, ip, iq, ir⟩ := tri_parts ok1
            have eu : u = [p, q, r] := eu
            subst eu
            have li : i < ks.length := (List.getElem?_eq_some_iff.mp hq).1
            have eO := outs_take (ts := ts) hq
            have s13 := sTr s12 a3.1
            refine ⟨_, rfl, _, rfl, a, t, ts, p, q, r, rfl, sq.same s13, s13 _ _ ht, ip, iq, ir, fun M p' H4 s4 asc mem al tm hp => ?_⟩
            have m6 : M.length ≤ 6 := Asc.len asc mem
            refine ⟨p', rfl, ⟨_, .of hp⟩, for_tup (K := K) (a := p') (xs := M.map fun q => V.ref q.1) (fun j σ H5 => (∃ o5, σ = [some (.ref a), some (.ref b), some (.int ts.length), some (.ref S), some (.ref t), o5]) ∧ SqT K H5 p' (M.map fun q => V.ref q.1) ∧ Tups K H5 M ∧ AccS P w K S H2 (outs ts (ks.take i) ++ (M.take j).map (·.2)) (6 * i + j) H5)
              ⟨⟨_, rfl⟩, .of hp, tm, ?_⟩ (fun j σ H5 _ ⟨_, h, _⟩ => h) (fun j v σ H5 hv => ?_) (fun σ H5 ⟨⟨o5, e⟩, _, _, a5⟩ => ?_)⟩
            · obtain ⟨s3, L, hS, tL, lL, mm⟩ := a3
              exact ⟨sTr s3 s4, L, s4 _ _ hS, tL.same s4, lL, fun r => by rw [mm r]; simp⟩
            · rintro ⟨⟨o5, rfl⟩, hp5, tm5, a5⟩
              rw [List.getElem?_map, Option.map_eq_some_iff] at hv
              obtain ⟨q2, hq2, rfl⟩ := hv
              have lj : j < M.length := (List.getElem?_eq_some_iff.mp hq2).1
              have ⟨_, L, hS, _⟩ := a5
              refine ⟨_, rfl, ⟨S, L, rfl, hS⟩, _, rfl, ?_⟩
              unfold tNil
              dsimp only
              refine a5.add nS (by omega) (tm5 q2 (List.mem_of_getElem? hq2)) fun H6 keep a6 => ⟨⟨_, rfl⟩, keep _ _ hp5, fun q hq => keep _ _ (tm5 q hq), ?_⟩
              rw [take_next hq2, List.map_append, ← List.append_assoc]
              exact a6
            · subst e
              rw [List.length_map, List.take_length] at a5
              obtain ⟨s5, L, hS, tL, lL, mm⟩ := a5
              refine ⟨⟨_, _, rfl⟩, s5, L, hS, tL, by omega, fun r => ?_⟩
              rw [mm r, eO, List.mem_append, List.mem_append]
              refine or_congr Iff.rfl ⟨fun h => ?_, fun h => al r h⟩
              obtain ⟨q, hq, rfl⟩ := List.mem_map.mp h
              exact mem q hq
          · rintro ⟨⟨o4, o5, rfl⟩, a3⟩
            rw [List.length_map, List.take_length] at a3
            obtain ⟨s3, L, hS, tL, lL, mm⟩ := a3
            have s13 := sTr s12 s3
            refine ⟨_, rfl, _, rfl, ts.length, rfl, l6, fun l ks2 H4 s4 nl hl eT tk => ?_⟩
            let F : List Int → Bool := fun t => !decide (t ∈ outs ts ks)
            have zl : 1000 ≤ sizeLine := by decide
            have lk : ks2.length ≤ 300 := by
              have z := allT_len l6
              rw [← eT, List.length_map] at z
              exact z
            refine ⟨l, rfl, ⟨_, .of hl⟩, fun D nD => lc_list (K := K) (a := l) (xs := ks2.map fun q => V.ref q.1) (fun i H5 => Same H4 H5 ∧ H5 D = some (.lst (((ks2.take i).filter fun q => F q.2).map fun q => V.ref q.1))) ⟨same1 nD, upd_same⟩ (fun i H5 _ ⟨s5, _⟩ => .of (s5 _ _ hl)) (fun i x H5 hx ⟨s5, hD⟩ => ?_) (fun H5 ⟨s5, hD⟩ => ?_)⟩
            · rw [List.getElem?_map, Option.map_eq_some_iff] at hx
              obtain ⟨⟨t, u⟩, hq, rfl⟩ := hx
              have mq := List.mem_of_getElem? hq
              have s45 := sTr s4 s5
              refine ⟨rfl, _, rfl, _, rfl, S, t, u, L, rfl, rfl, s45 _ _ hS, tL.same s45, .of (s5 _ _ (tk _ mq)), _, rfl, ?_⟩
              have eD : decide (u ∈ L.map (·.2)) = decide (u ∈ outs ts ks) := decide_eq_decide.mpr (mm u)
              have e1 := take_filter (p := fun q : Tri => F q.2) hq
              show if (!decide (u ∈ L.map (·.2))) = true then _ else _
              rw [eD]
              cases cl : !decide (u ∈ outs ts ks) with
              | true =>
                have e3 : ((ks2.take (i + 1)).filter fun q => F q.2) = ((ks2.take i).filter fun q => F q.2) ++ [(t, u)] := by
                  rw [e1]
                  exact if_pos cl
                refine iteT ⟨_, rfl, _, hD, ?_, fun b o e => ?_, by rw [upd_same, e3]; simp⟩
                · have z := List.length_filter_le (fun q : Tri => F q.2) (ks2.take i)
                  rw [List.length_take] at z
                  rw [List.length_map]
                  omega
                · rw [upd_ne fun z => by rw [z, nD] at e; cases e]
                  exact s5 _ _ e
              | false =>
                have e3 : ((ks2.take (i + 1)).filter fun q => F q.2) = (ks2.take i).filter fun q => F q.2 := by
                  rw [e1]
                  exact if_neg (by rw [show F (t, u).2 = false from cl]; decide)
                exact iteF ⟨s5, by rw [e3]; exact hD⟩
            · rw [List.length_map, List.take_length] at hD
              have eF := filt (p := F) eT
              refine make_kind (by omega) (sq.same (sTr s13 (sTr s4 s5))) (turnBad_turns T) hD (Nat.le_trans (List.length_filter_le _ _) lk) (fun q hq => ⟨s5 _ _ (tk q ((List.mem_filter.mp hq).1)), ?_⟩) ?_ fun x T1 H6 s6 as ka => k x T1 H6 (sTr s13 (sTr s4 (sTr s5 s6))) (by rw [eF] at as; exact as) ka
              · exact mem_allT.mp (eT ▸ List.mem_map.mpr ⟨q, (List.mem_filter.mp hq).1, rfl⟩)
              · rw [eF]
                refine lack_filter T (p := F) fun t ht pt r hr => ?_
                have pt : (!decide (t ∈ outs ts ks)) = true := pt
                show (!decide (r ∈ outs ts ks)) = true
                rw [Bool.not_eq_true', decide_eq_false_iff_not] at pt ⊢
                intro hO
                obtain ⟨q, hq, hr2⟩ := List.mem_flatMap.mp hO
                exact pt (List.mem_flatMap.mpr ⟨q, hq, six_tr T (ok q hq).2 hr2 (six_sy T ht hr)⟩)
        · rw [firstNo_no fun j hj => by rw [List.length_map] at hj; rw [List.getElem?_map, List.getElem?_eq_getElem hj] <;> rfl] at e
          cases e
end
end RD
set_option maxRecDepth 100000
set_option maxHeartbeats 4000000
namespace RD
open PySem PySem.Spec PyProof.Rows L2 Rd Tb Cn
def ordD : List (List Int) := (allT 2).filter fun t => !decide (t ∈ six [1, 0] 0 0 1)
def sp_order_kind (C : Addr) : Sp := fun vs H Q _ => vs = [] ∧ NewK C H [1, 0] ordD Q
section
variable {P : Program} {w : World} {K : PySem.W.Frag} {mg : Str → Option Value} {base : Heap}
theorem sc_order_kind : FnScope [] [] (defScope s_order_kind) := ⟨rfl, rfl, rfl, by decide +kernel, rfl, by decide +kernel, by decide +kernel⟩
theorem ok_order_kind {C CE : Addr} (D : Df K mg "order_kind" s_order_kind []) (Db : Df K mg "barred_kind" s_barred_kind ["turned", "barred"]) (N : Kin K mg) (M : Vals_ K mg) (D2 : Df K mg "all_triples" s_all_triples ["many"])
    (B : Bn mg) (T : Er P w K mg base "InvalidKind" CE) (KK : KindK P w K mg base C CE) :
    FnOk P w K mg base (L2N.CX P w) 11 D.f D.fd [] (sp_order_kind C) := by
  have GB : FnOk P w K mg base (L2N.CX P w) 10 Db.f Db.fd ["turned", "barred"] (sp_barred_kind C CE) := ok_barred_kind Db N M D2 B T KK
  refine okN D.F sc_order_kind (fun vs H Q E h => ?_) (fun cdv A outer s H vs Q E hr h => ?_)
  · obtain ⟨rfl, _⟩ := h
    rfl
  · obtain ⟨rfl, k⟩ := h
    refine ⟨_, pss_one (ps_ret (pe_call GB hr rfl Db.g Db.F.kp Db.b .nil passN (pa_cons (pe_tup (pa_cons pe_int (pa_cons pe_int pa_nil))) (pa_cons (pe_lst (pa_cons (pe_tup (pa_cons pe_int (pa_cons pe_int (pa_cons pe_int pa_nil)))) pa_nil)) pa_nil)))), ?_⟩
    have z2 : 2 ≤ sizeLine := by decide
    have z3 : 3 ≤ sizeLine := by decide
    have z1 : 1 ≤ sizeLine := by decide
    refine ⟨z2, fun p np => ⟨z3, fun t nt => ⟨z1, fun l nl => ?_⟩⟩⟩
    have s1 : Same H (upd H p (.tup [.int 1, .int 0])) := same1 np
    have s2 := same1 (o := .tup [.int 0, .int 0, .int 1]) nt
    have s3 := same1 (o := .lst [.ref t]) nl
    have TT : Turns [1, 0] := ⟨by simp, fun x hx => ?_, fun x hx => ?_⟩
    · refine ⟨_, _, rfl, .inr (.inr ⟨p, [1, 0], rfl, .inr (s3 _ _ (s2 _ _ upd_same)), TT, by decide, .inr (.inr ⟨l, [(t, [0, 0, 1])], _, rfl, upd_same, .inl rfl, (show 1 ≤ 40 by decide), fun q hq => ?_, fun x T H1 s as ka => ?_⟩)⟩)⟩
      · rw [List.mem_singleton.mp hq]
        exact ⟨s3 _ _ upd_same, (show triOk 2 [0, 0, 1] = true by decide)⟩
      · refine k x T H1 (sTr s1 (sTr s2 (sTr s3 s))) ?_ ka
        exact as
    · have h0 := hx.1
      have h1 := hx.2
      have h1 : x < 2 := h1
      rcases (by omega : x = 0 ∨ x = 1) with rfl | rfl <;> exact ⟨by decide, by decide⟩
    · have h0 := hx.1
      have h1 := hx.2
      have h1 : x < 2 := h1
      rcases (by omega : x = 0 ∨ x = 1) with rfl | rfl <;> decide
end
end RD
set_option maxRecDepth 100000
set_option maxHeartbeats 4000000
namespace RD
open PySem PySem.Spec PyProof.Rows L2 Rd Tb Cn
def sp_law_six (K : PySem.W.Frag) : Sp := fun vs H Q _ => ∃ a t ts x y z, vs = [.ref a, .ref t] ∧ SqA K H a (ts.map V.int) ∧ H t = some (.tup [.int x, .int y, .int z]) ∧ In ts.length x ∧ In ts.length y ∧ In ts.length z ∧ ∀ l (ks : List Tri) H1, Same H H1 → H1 l = some (.lst (ks.map fun q => V.ref q.1)) → ks.map (·.2) = six ts x y z → (∀ q ∈ ks, H1 q.1 = some (.tup (q.2.map V.int))) → Q (.ref l) H1
section
variable {P : Program} {w : World} {K : PySem.W.Frag} {mg : Str → Option Value} {base : Heap}
theorem sc_law_six : FnScope ["turned", "triple", "x", "y", "z", "a", "b", "c"] ["turned", "triple"] (defScope s__law_six) := ⟨rfl, rfl, rfl, by decide +kernel, rfl, by decide +kernel, by decide +kernel⟩
theorem ok_law_six (D : Df K mg "_law_six" s__law_six ["turned", "triple"]) (B : Bn mg) : FnOk P w K mg base CX0 1 D.f D.fd ["turned", "triple"] (sp_law_six K) := by
  refine D.F.ok sc_law_six (fun vs H Q E h => ?_) (fun cdv A outer s H vs Q E hr h => ?_)
  · obtain ⟨a, t, ts, x, y, z, rfl, _⟩ := h
    rfl
  · obtain ⟨a, t, ts, x, y, z, rfl, ha, ht, ix, iy, iz, k⟩ := h
    have gn := B.gn
    have nd := sc_law_six.nd
    refine ⟨_, pss_cons (ps_asg (pv 1) (pg_tup rfl (pgs_cons (pg_name (i := 2) nd rfl (.inl rfl)) (pgs_cons (pg_name (i := 3) nd rfl (.inl rfl)) (pgs_cons (pg_name (i := 4) nd rfl (.inl rfl)) pgs_nil)))))
      (pss_cons (ps_par3 (i := 5) (j := 6) (l := 7) rfl nd rfl rfl rfl (by decide) (by decide) (by decide) rfl rfl rfl (pa_cons (pe_ix ix_seq (pv 0) (pv 2) (fun _ _ => rfl)) (pa_cons (pe_ix ix_seq (pv 0) (pv 3) (fun _ _ => rfl)) (pa_cons (pe_ix ix_seq (pv 0) (pv 4) (fun _ _ => rfl)) pa_nil))) (by rfl))
      (pss_one (ps_ret (pe_lst (pa_cons (pe_tup (pa_cons (pv 2) (pa_cons (pv 3) (pa_cons (pv 4) pa_nil)))) (pa_cons (pe_tup (pa_cons (pv 4) (pa_cons (pv 6) (pa_cons (pv 2) pa_nil))))
        (pa_cons (pe_tup (pa_cons (pv 5) (pa_cons (pv 4) (pa_cons (pv 3) pa_nil)))) (pa_cons (pe_tup (pa_cons (pv 3) (pa_cons (pv 7) (pa_cons (pv 5) pa_nil))))
        (pa_cons (pe_tup (pa_cons (pv 7) (pa_cons (pv 2) (pa_cons (pv 6) pa_nil)))) (pa_cons (pe_tup (pa_cons (pv 6) (pa_cons (pv 5) (pa_cons (pv 7) pa_nil)))) pa_nil)))))))))), ?_⟩
    refine ⟨_, rfl, t, _, rfl, .of ht, rfl, _, _, rfl, _, _, rfl, _, _, rfl, rfl, ?_⟩
    refine ⟨_, rfl, _, rfl, ixI ha ix ⟨_, rfl, _, rfl, ixI ha iy ⟨_, rfl, _, rfl, ixI ha iz ?_⟩⟩⟩
    refine ⟨_, _, _, rfl, ?_⟩
    have z3 : 3 ≤ sizeLine := by decide
    refine ⟨_, rfl, _, rfl, _, rfl, z3, fun t1 n1 => ⟨_, rfl, _, rfl, _, rfl, z3, fun t2 n2 => ⟨_, rfl, _, rfl, _, rfl, z3, fun t3 n3 => ⟨_, rfl, _, rfl, _, rfl, z3, fun t4 n4 => ⟨_, rfl, _, rfl, _, rfl, z3, fun t5 n5 => ⟨_, rfl, _, rfl, _, rfl, z3, fun t6 n6 => ⟨(by show 6 ≤ sizeLine; decide), fun l nl => ?_⟩⟩⟩⟩⟩⟩⟩
    obtain ⟨H7, e7, s7, h1, h2, h3, h4, h5, h6, hl⟩ := new7 (o1 := .tup [.int x, .int y, .int z]) (o2 := .tup [.int z, .int (tn ts y), .int x]) (o3 := .tup [.int (tn ts x), .int z, .int y]) (o4 := .tup [.int y, .int (tn ts z), .int (tn ts x)])
      (o5 := .tup [.int (tn ts z), .int x, .int (tn ts y)]) (o6 := .tup [.int (tn ts y), .int (tn ts x), .int (tn ts z)]) (ol := .lst [.ref t1, .ref t2, .ref t3, .ref t4, .ref t5, .ref t6]) n1 n2 n3 n4 n5 n6 nl
    show Q (V.ref l) (upd (upd (upd (upd (upd (upd (upd H t1 (.tup [.int x, .int y, .int z])) t2 (.tup [.int z, .int (tn ts y), .int x])) t3 (.tup [.int (tn ts x), .int z, .int y])) t4 (.tup [.int y, .int (tn ts z), .int (tn ts x)])) t5 (.tup [.int (tn ts z), .int x, .int (tn ts y)])) t6 (.tup [.int (tn ts y), .int (tn ts x), .int (tn ts z)])) l (.lst [.ref t1, .ref t2, .ref t3, .ref t4, .ref t5, .ref t6]))
    rw [← e7]
    refine k l [(t1, [x, y, z]), (t2, [z, tn ts y, x]), (t3, [tn ts x, z, y]), (t4, [y, tn ts z, tn ts x]), (t5, [tn ts z, x, tn ts y]), (t6, [tn ts y, tn ts x, tn ts z])] H7 s7 hl rfl fun q hq => ?_
    simp only [List.mem_cons, List.not_mem_nil, or_false] at hq
    rcases hq with rfl | rfl | rfl | rfl | rfl | rfl
    · exact h1
    · exact h2
    · exact h3
    · exact h4
    · exact h5
    · exact h6
end
end RD
set_option maxRecDepth 100000
set_option maxHeartbeats 4000000
namespace RD
open PySem PySem.Spec PyProof.Rows L2 Rd Tb Cn
/-- at tb stand n rows of n lists of ints -/
def Tbl (H : Hp) (tb : Addr) (f : Nat → Nat → List Int) (n : Nat) : Prop := ∃ rs : List Addr, H tb = some (.lst (rs.map V.ref)) ∧ rs.length = n ∧ ∀ (x : Nat) r, rs[x]? = some r → ∃ ls : List Addr, H r = some (.lst (ls.map V.ref)) ∧ ls.length = n ∧ ∀ (y : Nat) l, ls[y]? = some l → H l = some (.lst ((f x y).map V.int))
theorem Tbl.same {H H1 : Hp} {tb : Addr} {f : Nat → Nat → List Int} {n : Nat} (h : Tbl H tb f n) (s : Same H H1) : Tbl H1 tb f n := by
  obtain ⟨rs, a, b, c⟩ := h
  exact ⟨rs, s _ _ a, b, fun x r e => by
    obtain ⟨ls, p, q, t⟩ := c x r e
    exact ⟨ls, s _ _ p, q, fun y l e2 => s _ _ (t y l e2)⟩⟩
def rowT (f : Nat → Nat → List Int) (x : Nat) (n : Nat) : List (List Int) := upto (fun y => (f x y).map fun z => [(x : Int), (y : Int), z]) n
def tblT (f : Nat → Nat → List Int) (n : Nat) : List (List Int) := upto (fun x => rowT f x n) n
def sp_law_triples : Sp := fun vs H Q _ => ∃ k tt tb f n, vs = [.ref k] ∧ H k = some (.tup [tt, .ref tb]) ∧ Tbl H tb f n ∧ n ≤ 6 ∧ (∀ x y, (f x y).length ≤ 6) ∧ NewT H (tblT f n) Q
/-- a list of new triples at l -/
def LstT (H0 : Hp) (l : Addr) (T : List (List Int)) (H : Hp) : Prop := ∃ ks : List Tri, Same H0 H ∧ H l = some (.lst (ks.map fun q => V.ref q.1)) ∧ ks.map (·.2) = T ∧ (∀ q ∈ ks, H q.1 = some (.tup (q.2.map V.int))) ∧ H0 l = none
section
variable {P : Program} {w : World} {K : PySem.W.Frag} {mg : Str → Option Value} {base : Heap}
theorem sc_law_triples : FnScope ["kind", "found", "x", "rows", "y", "lot", "z"] ["kind"] (defScope s__law_triples) := ⟨rfl, rfl, rfl, by decide +kernel, rfl, by decide +kernel, by decide +kernel⟩
theorem ok_law_triples (D : Df K mg "_law_triples" s__law_triples ["kind"]) (B : Bn mg) : FnOk P w K mg base CX0 1 D.f D.fd ["kind"] sp_law_triples := by
  refine D.F.ok sc_law_triples (fun vs H Q E h => ?_) (fun cdv A outer s H vs Q E hr h => ?_)
  · obtain ⟨k, tt, tb, f, n, rfl, _⟩ := h
    rfl
  · obtain ⟨k, tt, tb, f, n, rfl, hk, ht, n6, f6, q⟩ := h
    have gn := B.gn
    have nd := sc_law_triples.nd
    refine ⟨_, pss_cons (ps_set (i := 1) nd rfl (.inl rfl) (pe_lst pa_nil))
      (pss_cons (ps_for PassesOwn.never rfl (pi_enumA rfl (gn _ (by decide)) (pa_cons (pe_ix ix_seq (pv 0) pe_int (fun _ _ => rfl)) pa_nil)) (pg_tup rfl (pgs_cons (pg_name (i := 2) nd rfl (.inr rfl)) (pgs_cons (pg_name (i := 3) nd rfl (.inl rfl)) pgs_nil)))
        (pss_one (ps_for PassesOwn.never rfl (pi_enumA rfl (gn _ (by decide)) (pa_cons (pv 3) pa_nil)) (pg_tup rfl (pgs_cons (pg_name (i := 4) nd rfl (.inr rfl)) (pgs_cons (pg_name (i := 5) nd rfl (.inl rfl)) pgs_nil)))
          (pss_one (ps_set (i := 1) nd rfl (.inl rfl) (pe_op op_cat (pv 1) (pe_lc (own := [("z", 6)]) (g := gName 6) (tt := tYes) (te := tTup (tCons (tVar 2) (tCons (tVar 4) (tCons (tVar 6) tNil)))) rfl nd (pi_list (pv 5)) (blkOk_by (N := ["kind", "found", "x", "rows", "y", "lot", "z"]) (sc := defScope s__law_triples) (by decide +kernel))
            (fun _ _ _ _ _ => pg_name (i := 6) nd rfl (Or.inl rfl)) (fun _ _ _ _ _ => pts_nil) (fun _ _ _ _ _ => pe_tup (pa_cons (pv 2) (pa_cons (pv 4) (pa_cons (pv 6) pa_nil)))))))))))
      (pss_one (ps_ret (pv 1)))), ?_⟩
    obtain ⟨rs, htb, lr, hrs⟩ := ht
    have zl : 1000 ≤ sizeLine := by decide
    have z3 : 3 ≤ sizeLine := by decide
    have F1l : ∀ i j : Nat, (rowT f i j).length ≤ j * 6 := fun i j => upto_len (fun y => by rw [List.length_map]; exact f6 i y) j
    have F0l : ∀ i : Nat, (upto (fun x => rowT f x n) i).length ≤ i * 36 := fun i => upto_len (fun x => by have := F1l x n; omega) i
    refine ⟨(Nat.zero_le _), fun l0 n0 => ?_⟩
    have s0 : Same H (upd H l0 (.lst [])) := same1 n0
    refine ⟨_, rfl, ixA (j := 1) (.inr (s0 _ _ hk)) rfl ⟨tb, rs.map V.ref, _, rfl, s0 _ _ htb, .inl rfl, fun J EJ => for_enum EJ (fun i σ H1 => (∃ l o2 o3 o4 o5 o6, σ = [some (.ref k), some (.ref l), o2, o3, o4, o5, o6] ∧ LstT H l (upto (fun x => rowT f x n) i) H1))
      ⟨l0, _, _, _, _, _, rfl, [], s0, upd_same, rfl, fun q hq => absurd hq (by simp), n0⟩ (fun i σ H1 ⟨_, _, _, _, _, _, _, _, s, _⟩ => s _ _ htb) (fun i v σ H1 Ta hv => ?_) (fun σ H1 => ?_)⟩⟩
    · rintro ⟨l, o2, o3, o4, o5, o6, rfl, a1⟩ nT
      rw [List.getElem?_map, Option.map_eq_some_iff] at hv
      obtain ⟨r, hr, rfl⟩ := hv
      have li : i < n := by rw [← lr]; exact (List.getElem?_eq_some_iff.mp hr).1
      obtain ⟨ls, hls, lls, hl⟩ := hrs i r hr
      refine ⟨Ta, _, rfl, .of upd_same, rfl, _, _, rfl, _, _, rfl, rfl, ?_⟩
      have a2 : LstT H l (upto (fun x => rowT f x n) i) (upd H1 Ta (.tup [.int (i : Nat), .ref r])) := by
        obtain ⟨ks, s, b, c, d, e⟩ := a1
        have s2 := same1 (o := .tup [.int (i : Nat), .ref r]) nT
        exact ⟨ks, sTr s s2, s2 _ _ b, c, fun q hq => s2 _ _ (d q hq), e⟩
      generalize upd H1 Ta (.tup [.int (i : Nat), .ref r]) = H2 at a2 ⊢
      have ⟨_, s2, _⟩ := a2
      refine ⟨_, rfl, r, ls.map V.ref, _, rfl, s2 _ _ hls, .inl rfl, fun J2 EJ2 => for_enum EJ2 (fun j σ H3 => (∃ l o4 o5 o6, σ = [some (.ref k), some (.ref l), some (.int (i : Nat)), some (.ref r), o4, o5, o6] ∧ LstT H l (upto (fun x => rowT f x n) i ++ rowT f i j) H3))
        ⟨l, _, _, _, rfl, by rw [show rowT f i 0 = [] from rfl, List.append_nil]; exact a2⟩ (fun j σ H3 ⟨_, _, _, _, _, _, s, _⟩ => s _ _ hls) (fun j v σ H3 Tb hv => ?_) (fun σ H3 ⟨l, o4, o5, o6, e, a⟩ => ?_)⟩
      · rintro ⟨l, o4, o5, o6, rfl, a3⟩ nT3
        rw [List.getElem?_map, Option.map_eq_some_iff] at hv
        obtain ⟨lo, hlo, rfl⟩ := hv
        have lj : j < n := by rw [← lls]; exact (List.getElem?_eq_some_iff.mp hlo).1
        refine ⟨Tb, _, rfl, .of upd_same, rfl, _, _, rfl, _, _, rfl, rfl, ?_⟩
        obtain ⟨ks, s3, hL, eT, tk, _⟩ := a3
        have sT := same1 (o := .tup [.int (j : Nat), .ref lo]) nT3
        have s4 := sTr s3 sT
        have hL4 := sT _ _ hL
        have tk4 : ∀ q ∈ ks, (upd H3 Tb (.tup [.int (j : Nat), .ref lo])) q.1 = some (.tup (q.2.map V.int)) := fun q hq => sT _ _ (tk q hq)
        generalize upd H3 Tb (.tup [.int (j : Nat), .ref lo]) = H4 at s4 hL4 tk4 ⊢
        have ho := s4 _ _ (hl j lo hlo)
        have fl := f6 i j
        refine ⟨_, rfl, _, rfl, lo, rfl, ⟨_, .of ho⟩, fun D nD => lc_list (K := K) (a := lo) (xs := (f i j).map V.int) (fun m H5 => Acc D H4 (((f i j).take m).map fun z => [(i : Int), (j : Int), z]) H5) (Acc.nil nD) (fun m H5 _ a5 => .of (a5.1 _ _ ho)) (fun m x H5 hx a5 => ?_) (fun H5 a5 => ?_)⟩
        · rw [List.getElem?_map, Option.map_eq_some_iff] at hx
          obtain ⟨z, hz, rfl⟩ := hx
          refine ⟨rfl, _, rfl, _, rfl, _, rfl, z3, fun p np => ?_⟩
          have few : (((f i j).take m).map fun z => [(i : Int), (j : Int), z]).length < 1000 := by
            rw [List.length_map, List.length_take]
            omega
          have z2 := Acc.push (t := [(i : Int), (j : Int), z]) a5 nD np few
          rw [take_next hz, List.map_append]
          exact z2
        · rw [List.length_map, List.take_length] at a5
          obtain ⟨s5, ks5, hD, eT5, tk5⟩ := a5
          have l1 : ks.length ≤ 6 * 36 + 36 := by
            have e := congrArg List.length eT
            rw [List.length_map, List.length_append] at e
            have := F0l i
            have := F1l i j
            omega
          have l2 : ks5.length ≤ 6 := by
            have e := congrArg List.length eT5
            rw [List.length_map, List.length_map] at e
            omega
          refine ⟨l, D, _, _, rfl, rfl, s5 _ _ hL4, hD, by rw [List.length_map, List.length_map]; omega, fun p np => ?_⟩
          have s6 := same1 (o := .lst ((ks.map fun q => V.ref q.1) ++ ks5.map fun q => V.ref q.1)) np
          refine ⟨p, _, _, _, rfl, ks ++ ks5, sTr s4 (sTr s5 s6), by rw [upd_same, List.map_append], ?_, fun q hq => ?_, ?_⟩
          · rw [List.map_append, eT, eT5, List.append_assoc]
            congr 1
            exact (upto_succ _ j).symm
          · rcases List.mem_append.mp hq with z | z
            · exact s6 _ _ (s5 _ _ (tk4 q z))
            · exact s6 _ _ (tk5 q z).2
          · cases e : H p with
            | none => rfl
            | some o =>
              have z := s5 _ _ (s4 _ _ e)
              rw [np] at z
              cases z
      · subst e
        rw [List.length_map, lls] at a
        refine ⟨l, _, _, _, _, _, rfl, ?_⟩
        rw [upto_succ]
        exact a
    · rintro ⟨l, o2, o3, o4, o5, o6, rfl, ks, s, b, c, d, nl⟩
      rw [List.length_map, lr] at c
      exact ⟨_, rfl, q l ks H1 s nl b c d⟩
end
end RD
set_option maxRecDepth 100000
set_option maxHeartbeats 4000000
namespace RD
open PySem PySem.Spec PyProof.Rows L2 Rd Tb Cn
theorem lx_irr {x : List Int} (h : lx x x = true) : False := by
  have z := lx_asym _ _ h
  rw [h] at z
  cases z
/-- ascending lists with the same members are the same -/
theorem asc_eq : ∀ {T U : List (List Int)}, T.Pairwise (fun q r => lx q r = true) → U.Pairwise (fun q r => lx q r = true) → (∀ t, t ∈ T ↔ t ∈ U) → T = U
  | [], [], _, _, _ => rfl
  | [], y :: U, _, _, h => absurd ((h y).mpr (by simp)) (by simp)
  | x :: T, [], _, _, h => absurd ((h x).mp (by simp)) (by simp)
  | x :: T, y :: U, a, b, h => by
    obtain ⟨a1, a2⟩ := List.pairwise_cons.mp a
    obtain ⟨b1, b2⟩ := List.pairwise_cons.mp b
    have e : x = y := by
      rcases List.mem_cons.mp ((h x).mp (by simp)) with e | p
      · exact e
      · rcases List.mem_cons.mp ((h y).mpr (by simp)) with e | q
        · exact e.symm
        · have z := lx_asym _ _ (a1 y q)
          rw [b1 x p] at z
          cases z
    subst e
    have tl : ∀ t, t ∈ T ↔ t ∈ U := fun t => by
      constructor
      · intro p
        rcases List.mem_cons.mp ((h t).mp (List.mem_cons_of_mem _ p)) with e | q
        · exact (lx_irr (by have z := a1 t p; rw [e] at z; exact z)).elim
        · exact q
      · intro p
        rcases List.mem_cons.mp ((h t).mpr (List.mem_cons_of_mem _ p)) with e | q
        · exact (lx_irr (by have z := b1 t p; rw [e] at z; exact z)).elim
        · exact q
    rw [asc_eq a2 b2 tl]
theorem AscOf.eq {T U D D2 : List (List Int)} (a : AscOf T D) (b : AscOf U D2) (h : ∀ t, t ∈ D ↔ t ∈ D2) : T = U := asc_eq a.1 b.1 fun t => (a.2 t).trans ((h t).trans (b.2 t).symm)
/-- the triples of a table whose rows ascend, ascend -/
theorem upto_asc {f : Nat → List (List Int)} (h : ∀ i, (f i).Pairwise fun q r => lx q r = true) (hd : ∀ i j s t, i < j → s ∈ f i → t ∈ f j → lx s t = true) : ∀ n, (upto f n).Pairwise fun q r => lx q r = true
  | 0 => by simp [upto]
  | n + 1 => by
    rw [upto_succ]
    refine List.pairwise_append.mpr ⟨upto_asc h hd n, h n, fun s hs t ht => ?_⟩
    obtain ⟨i, li, hs⟩ := mem_upto.mp hs
    exact hd i n s t li hs ht
theorem tblT_mem {f : Nat → Nat → List Int} {n : Nat} {t : List Int} : t ∈ tblT f n ↔ ∃ (x y : Nat) (z : Int), x < n ∧ y < n ∧ z ∈ f x y ∧ t = [(x : Int), (y : Int), z] := by
  unfold tblT
  constructor
  · intro h
    obtain ⟨x, lx, h⟩ := mem_upto.mp h
    obtain ⟨y, ly, h⟩ := mem_upto.mp h
    obtain ⟨z, hz, rfl⟩ := List.mem_map.mp h
    exact ⟨x, y, z, lx, ly, hz, rfl⟩
  · rintro ⟨x, y, z, lx, ly, hz, rfl⟩
    exact mem_upto.mpr ⟨x, lx, mem_upto.mpr ⟨y, ly, List.mem_map.mpr ⟨z, hz, rfl⟩⟩⟩
theorem lx_fst {a b : Int} {r q : List Int} (h : a < b) : lx (a :: r) (b :: q) = true := by
  unfold lx
  rw [if_neg (by omega)]
  exact decide_eq_true h
theorem lx_cons {a : Int} {r q : List Int} (h : lx r q = true) : lx (a :: r) (a :: q) = true := by
  unfold lx
  rw [if_pos rfl]
  exact h
theorem tblT_asc {f : Nat → Nat → List Int} (h : ∀ x y, (f x y).Pairwise (· < ·)) (n : Nat) : (tblT f n).Pairwise fun q r => lx q r = true := by
  unfold tblT
  refine upto_asc (fun x => ?_) (fun i j s t ij hs ht => ?_) n
  · unfold rowT
    refine upto_asc (f := fun y => (f x y).map fun z => [(x : Int), (y : Int), z]) (fun y => List.pairwise_map.mpr ((h x y).imp fun e => lx_cons (lx_cons (lx_fst e)))) (fun i j s t ij hs ht => ?_) n
    obtain ⟨z, _, rfl⟩ := List.mem_map.mp hs
    obtain ⟨z2, _, rfl⟩ := List.mem_map.mp ht
    exact lx_cons (lx_fst (by omega))
  · unfold rowT at hs ht
    obtain ⟨y, _, hs⟩ := mem_upto.mp hs
    obtain ⟨y2, _, ht⟩ := mem_upto.mp ht
    obtain ⟨z, _, rfl⟩ := List.mem_map.mp hs
    obtain ⟨z2, _, rfl⟩ := List.mem_map.mp ht
    exact lx_fst (by omega)
/-- the kind's triples are the table's -/
theorem AscOf.tbl {f : Nat → Nat → List Int} {n : Nat} {T D : List (List Int)} (a : AscOf T D) (h : ∀ x y, (f x y).Pairwise (· < ·)) (m : ∀ t, t ∈ D ↔ ∃ (x y : Nat) (z : Int), x < n ∧ y < n ∧ z ∈ f x y ∧ t = [(x : Int), (y : Int), z]) : T = tblT f n :=
  asc_eq a.1 (tblT_asc h n) fun t => (a.2 t).trans ((m t).trans tblT_mem.symm)
end RD
set_option maxRecDepth 100000
set_option maxHeartbeats 4000000
namespace RD
open PySem PySem.Spec PyProof.Rows L2 Rd Tb Cn Lm
theorem sPut {H0 H : Hp} {l : Addr} {o : HO} (s : Same H0 H) (n : H0 l = none) : Same H0 (upd H l o) := fun b u q => by
  rw [upd_ne fun z => by rw [z, n] at q; cases q]
  exact s _ _ q
theorem upV_at {n i : Nat} {v : V} (h : ((upN n).map V.int)[i]? = some v) : i < n ∧ v = .int (i : Nat) := by
  have l : i < n := by
    have z := (List.getElem?_eq_some_iff.mp h).1
    simpa [upN] using z
  refine ⟨l, ?_⟩
  have e : ((upN n).map V.int)[i]? = some (.int (i : Nat)) := by simp [upN, l]
  rw [e] at h
  exact (Option.some.inj h).symm
theorem rgV0 (n : Nat) : rgV 0 n = (upN n).map V.int := by simp [rgV, upN]
/-- what a def of three relations answers -/
def spR (n : Nat) (p : Nat → Nat → Nat → Bool) : Sp := fun us H Q _ => ∃ x y z : Nat, us = [.int (x : Nat), .int (y : Nat), .int (z : Nat)] ∧ x < n ∧ y < n ∧ z < n ∧ ∀ H1, Same H H1 → Q (.bl (p x y z)) H1
def lotF (n : Nat) (p : Nat → Nat → Nat → Bool) (x y : Nat) : List Int := ((List.range n).filter (p x y)).map fun (z : Nat) => (z : Int)
def sp_law_by (P : Program) (w : World) (K : PySem.W.Frag) (mg : Str → Option Value) (base : Heap) : Sp := fun vs H Q _ => ∃ a g ts p, vs = [.ref a, .ref g] ∧ H a = some (.lst ((ts : List Int).map V.int)) ∧ ts.length ≤ 6 ∧ FunV P w K mg base 1 g (spR ts.length p) H ∧
  ∀ t l tb H1, Same H H1 → H1 t = some (.tup [.ref l, .ref tb]) → H1 l = some (.lst (ts.map V.int)) → Tbl H1 tb (lotF ts.length p) ts.length → Q (.ref t) H1
theorem filt_one {α : Type} (p : α → Bool) (z : α) : List.filter p [z] = if p z = true then [z] else [] := by
  cases h : p z <;> simp [List.filter, h]
/-- a row in the making -/
def RowA (D : Addr) (H0 : Hp) (f : Nat → List Int) (j : Nat) (H : Hp) : Prop := Same H0 H ∧ ∃ ls : List Addr, H D = some (.lst (ls.map V.ref)) ∧ ls.length = j ∧ ∀ (y : Nat) l, ls[y]? = some l → l ≠ D ∧ H0 l = none ∧ H l = some (.lst ((f y).map V.int))
theorem snoc_at {α : Type} {ls : List α} {p l : α} {y : Nat} (e : (ls ++ [p])[y]? = some l) : (y < ls.length ∧ ls[y]? = some l) ∨ (y = ls.length ∧ l = p) := by
  by_cases q : y < ls.length
  · rw [List.getElem?_append_left q] at e
    exact .inl ⟨q, e⟩
  · have ey : y = ls.length := by
      have z := (List.getElem?_eq_some_iff.mp e).1
      rw [List.length_append] at z
      simp at z
      omega
    subst ey
    simp at e
    exact .inr ⟨rfl, e.symm⟩
theorem Same.none {H H1 : Hp} {p : Addr} (s : Same H H1) (n : H1 p = none) : H p = none := by
  cases e : H p with
  | none => rfl
  | some o =>
    rw [s _ _ e] at n
    cases n
theorem RowA.nil {D : Addr} {H0 : Hp} {f : Nat → List Int} (nD : H0 D = none) : RowA D H0 f 0 (upd H0 D (.lst [])) := ⟨same1 nD, [], upd_same, rfl, fun y l e => by simp at e⟩
theorem RowA.push {D p : Addr} {H0 H H1 : Hp} {f : Nat → List Int} {j : Nat} (a : RowA D H0 f j H) (nD : H0 D = none) (s : Same H H1) (np : H p = none) (hp : H1 p = some (.lst ((f j).map V.int))) (few : j < 1000) :
    ∃ acc, H1 D = some (.lst acc) ∧ acc.length < sizeLine ∧ RowA D H0 f (j + 1) (upd H1 D (.lst (acc ++ [.ref p]))) := by
  obtain ⟨s0, ls, hD, lj, hl⟩ := a
  have pD : p ≠ D := fun z => by rw [z, hD] at np; cases np
  have z : 1000 ≤ sizeLine := by decide
  refine ⟨_, s _ _ hD, by rw [List.length_map]; omega, sPut (sTr s0 s) nD, ls ++ [p], by rw [upd_same]; simp, by simp [lj], fun y l e => ?_⟩
  rcases snoc_at e with ⟨_, e⟩ | ⟨rfl, rfl⟩
  · obtain ⟨n1, n2, h1⟩ := hl y l e
    exact ⟨n1, n2, by rw [upd_ne n1]; exact s _ _ h1⟩
  · exact ⟨pD, Same.none s0 np, by rw [upd_ne pD, lj]; exact hp⟩
/-- a table in the making -/
def TblA (tb : Addr) (H0 : Hp) (f : Nat → Nat → List Int) (n i : Nat) (H : Hp) : Prop := Same H0 H ∧ ∃ rs : List Addr, H tb = some (.lst (rs.map V.ref)) ∧ rs.length = i ∧ ∀ (x : Nat) r, rs[x]? = some r → r ≠ tb ∧ ∃ ls : List Addr, H r = some (.lst (ls.map V.ref)) ∧ ls.length = n ∧ ∀ (y : Nat) l, ls[y]? = some l → l ≠ tb ∧ H l = some (.lst ((f x y).map V.int))
theorem TblA.nil {tb : Addr} {H0 : Hp} {f : Nat → Nat → List Int} {n : Nat} (nD : H0 tb = none) : TblA tb H0 f n 0 (upd H0 tb (.lst [])) := ⟨same1 nD, [], upd_same, rfl, fun y l e => by simp at e⟩
theorem TblA.push {tb D : Addr} {H0 H H1 : Hp} {f : Nat → Nat → List Int} {n i : Nat} (a : TblA tb H0 f n i H) (nT : H0 tb = none) (r : RowA D H (f i) n H1) (nD : H D = none) (few : i < 1000) :
    ∃ acc, H1 tb = some (.lst acc) ∧ acc.length < sizeLine ∧ TblA tb H0 f n (i + 1) (upd H1 tb (.lst (acc ++ [.ref D]))) := by
  obtain ⟨s0, rs, ht, li, hr⟩ := a
  obtain ⟨s1, ls, hD, lj, hl⟩ := r
  have ne : ∀ {l}, H l = none → l ≠ tb := fun n z => by rw [z, ht] at n; cases n
  have z : 1000 ≤ sizeLine := by decide
  refine ⟨_, s1 _ _ ht, by rw [List.length_map]; omega, sPut (sTr s0 s1) nT, rs ++ [D], by rw [upd_same]; simp, by simp [li], fun x r e => ?_⟩
  rcases snoc_at e with ⟨_, e⟩ | ⟨rfl, rfl⟩
  · obtain ⟨n1, ls2, h1, h2, h3⟩ := hr x r e
    exact ⟨n1, ls2, by rw [upd_ne n1]; exact s1 _ _ h1, h2, fun y l e2 => by
      obtain ⟨n2, h4⟩ := h3 y l e2
      exact ⟨n2, by rw [upd_ne n2]; exact s1 _ _ h4⟩⟩
  · refine ⟨ne nD, ls, by rw [upd_ne (ne nD)]; exact hD, lj, fun y l e2 => ?_⟩
    obtain ⟨_, n2, h4⟩ := hl y l e2
    exact ⟨ne n2, by rw [upd_ne (ne n2), li]; exact h4⟩
theorem TblA.fin {tb : Addr} {H0 H : Hp} {f : Nat → Nat → List Int} {n : Nat} (a : TblA tb H0 f n n H) : Tbl H tb f n := by
  obtain ⟨_, rs, ht, li, hr⟩ := a
  exact ⟨rs, ht, li, fun x r e => let ⟨_, ls, h1, h2, h3⟩ := hr x r e; ⟨ls, h1, h2, fun y l e2 => (h3 y l e2).2⟩⟩
section
variable {P : Program} {w : World} {K : PySem.W.Frag} {mg : Str → Option Value} {base : Heap}
theorem sc_law_by : FnScope ["turned", "is_right", "many", "table", "x", "y", "z"] ["turned", "is_right"] (defScope s__law_by) := ⟨rfl, rfl, rfl, by decide +kernel, rfl, by decide +kernel, by decide +kernel⟩
theorem ok_law_by (D : Df K mg "_law_by" s__law_by ["turned", "is_right"]) (B : Bn mg) : FnOk P w K mg base CX0 2 D.f D.fd ["turned", "is_right"] (sp_law_by P w K mg base) := by
  refine D.F.ok sc_law_by (fun vs H Q E h => ?_) (fun cdv A outer s H vs Q E hr h => ?_)
  · obtain ⟨a, g, ts, p, rfl, _⟩ := h
    rfl
  · obtain ⟨a, g, ts, p, rfl, ha, n6, fv, k⟩ := h
    have gn := B.gn
    have nd := sc_law_by.nd
    refine ⟨_, pss_cons (ps_set (i := 2) nd rfl (.inr rfl) (pe_listRg rfl rfl (gn _ (by decide)) (prg_1 rfl (gn _ (by decide)) (pe_callB call_len_seq rfl (gn _ (by decide)) PySem.boot_len (pa_cons (pv 0) pa_nil)))))
      (pss_cons (ps_set (i := 3) nd rfl (.inl rfl) (pe_lst pa_nil))
      (pss_cons (ps_for PassesOwn.never rfl (pi_list (pv 2)) (pg_name (i := 4) nd rfl (.inr rfl))
        (pss_one (ps_expr (pe_bm PySem.F.plainAttrs_list PySem.F.slot_list_append PySem.F.type_list_append mt_append (pv 3) (pa_cons
          (pe_lc (own := [("y", 5)]) (g := gName 5) (tt := tYes) (te := tLc (iList K (tVar 2)) (gName 6) (tB (tCallV P w K mg base 1 1 (tCons (tVar 4) (tCons (tVar 5) (tCons (tVar 6) tNil))))) (tVar 6) [6]) rfl nd (pi_list (pv 2)) (blkOk_by (N := ["turned", "is_right", "many", "table", "x", "y", "z"]) (sc := defScope s__law_by) (by decide +kernel))
            (fun _ _ _ _ _ => pg_name (i := 5) nd rfl (Or.inr rfl)) (fun _ _ _ _ _ => pts_nil)
            (fun _ _ _ _ _ => pe_lc (own := [("z", 6)]) (g := gName 6) (tt := tB (tCallV P w K mg base 1 1 (tCons (tVar 4) (tCons (tVar 5) (tCons (tVar 6) tNil))))) (te := tVar 6) rfl nd (pi_list (pv 2)) (blkOk_by (N := ["turned", "is_right", "many", "table", "x", "y", "z"]) (sc := relS _ (defScope s__law_by)) (by decide +kernel))
              (fun _ _ _ _ _ => pg_name (i := 6) nd rfl (Or.inl rfl)) (fun _ _ _ _ _ => pts_one (pt_val (pe_callV hr (Nat.le_refl _) rfl (.inr (.inl rfl)) (pa_cons (pv 4) (pa_cons (pv 5) (pa_cons (pv 6) pa_nil)))))) (fun _ _ _ _ _ => pv 6))) pa_nil)))))
      (pss_one (ps_ret (pe_tup (pa_cons (pe_callTy call_list_of rfl (gn _ (by decide)) PyProof.Rows.boot_list (pa_cons (pv 0) pa_nil)) (pa_cons (pv 3) pa_nil))))))), ?_⟩
    have rgok : RgOk 0 ((ts.length : Nat) : Int) := RgOk.of_le (by omega) (by omega) (by omega) (by omega)
    have z2 : 2 ≤ sizeLine := by decide
    have z3 : 1000 ≤ sizeLine := by decide
    have lU : ∀ n : Nat, ((upN n).map V.int).length = n := fun n => by rw [List.length_map, upN_len]
    refine ⟨_, rfl, a, _, rfl, .inl (.of ha), ?_⟩
    rw [List.length_map]
    generalize en : ts.length = n at *
    refine ⟨_, rfl, rgok, fun m nm => ?_⟩
    rw [rgV0]
    have s1 := same1 (o := .lst ((upN n).map V.int)) nm
    have hm : (upd H m (.lst ((upN n).map V.int))) m = some (.lst ((upN n).map V.int)) := upd_same
    generalize upd H m (.lst ((upN n).map V.int)) = H1 at s1 hm ⊢
    refine ⟨Nat.zero_le _, fun tb ntb => ?_⟩
    refine ⟨_, rfl, m, rfl, ⟨_, .of (same1 ntb _ _ hm)⟩, for_list (K := K) (a := m) (xs := (upN n).map V.int) (fun i σ H2 => (∃ o4 o5 o6, σ = [some (.ref a), some (.ref g), some (.ref m), some (.ref tb), o4, o5, o6]) ∧ TblA tb H1 (lotF n p) n i H2)
      ⟨⟨_, _, _, rfl⟩, TblA.nil ntb⟩ (fun i σ H2 _ a2 => .of (a2.2.1 _ _ hm)) (fun i x σ H2 hx a2 => ?_) (fun σ H2 a2 => ?_)⟩
    · obtain ⟨⟨o4, o5, o6, rfl⟩, a2⟩ := a2
      obtain ⟨li, rfl⟩ := upV_at hx
      have htb : ∃ xs, H2 tb = some (.lst xs) := let ⟨_, rs, q, _⟩ := a2; ⟨_, q⟩
      obtain ⟨xs, htb⟩ := htb
      refine ⟨_, rfl, .inl ⟨rfl, _, SqL.of htb⟩, _, rfl, m, rfl, ⟨_, .of (a2.1 _ _ hm)⟩, fun D nD => lc_list (K := K) (a := m) (xs := (upN n).map V.int) (fun j H3 => RowA D H2 (lotF n p i) j H3) (RowA.nil nD) (fun j H3 _ a3 => .of (a3.1 _ _ (a2.1 _ _ hm))) (fun j x H3 hx a3 => ?_) (fun H3 a3 => ?_)⟩
      · obtain ⟨lj, rfl⟩ := upV_at hx
        refine ⟨rfl, _, rfl, m, rfl, ⟨_, .of (a3.1 _ _ (a2.1 _ _ hm))⟩, fun D2 nD2 => lc_list (K := K) (a := m) (xs := (upN n).map V.int) (fun z H4 => Same H3 H4 ∧ H4 D2 = some (.lst ((((List.range z).filter (p i j)).map fun (z : Nat) => (z : Int)).map V.int)))
          ⟨same1 nD2, upd_same⟩ (fun z H4 _ a4 => .of (a4.1 _ _ (a3.1 _ _ (a2.1 _ _ hm)))) (fun z x H4 hx a4 => ?_) (fun H4 a4 => ?_)⟩
        · obtain ⟨lz, rfl⟩ := upV_at hx
          obtain ⟨s4, h4⟩ := a4
          have sH : Same H H4 := sTr s1 (sTr a2.1 (sTr a3.1 s4))
          have fv4 := fv.same sH
          obtain ⟨F, hF⟩ : ∃ F, H4 g = some (LamO g F) := by
            obtain ⟨F, _, _, _, _, hF, _⟩ := fv4
            exact ⟨F, hF⟩
          refine ⟨rfl, g, F, rfl, hF, _, rfl, _, rfl, _, rfl, spR n p, fv4, i, j, z, rfl, li, lj, lz, fun H5 s5 => ⟨_, rfl, ?_⟩⟩
          have e1 : (List.range (z + 1)).filter (p i j) = (List.range z).filter (p i j) ++ if p i j z = true then [z] else [] := by
            rw [List.range_succ, List.filter_append]
            rw [filt_one]
          have few : (((List.range z).filter (p i j)).map fun (z : Nat) => (z : Int)).length ≤ z := by
            rw [List.length_map]
            have q := List.length_filter_le (p i j) (List.range z)
            rw [List.length_range] at q
            exact q
          cases hp : p i j z with
          | true =>
            rw [hp, if_pos rfl] at e1
            refine iteT ⟨_, rfl, _, s5 _ _ h4, by rw [List.length_map]; omega, ?_, ?_⟩
            · exact sPut (sTr s4 s5) nD2
            · rw [upd_same, e1]
              simp
          | false =>
            rw [hp, if_neg (by decide), List.append_nil] at e1
            refine iteF ⟨sTr s4 s5, ?_⟩
            rw [e1]
            exact s5 _ _ h4
        · rw [lU] at a4
          exact RowA.push a3 nD a4.1 nD2 a4.2 (by omega)
      · rw [lU] at a3
        obtain ⟨acc, e1, e2, e3⟩ := TblA.push a2 ntb a3 nD (by omega)
        exact ⟨tb, _, _, rfl, rfl, e1, e2, ⟨_, _, _, rfl⟩, e3⟩
    · obtain ⟨⟨o4, o5, o6, rfl⟩, a2⟩ := a2
      rw [lU] at a2
      have s2 := sTr s1 a2.1
      refine ⟨_, rfl, a, _, rfl, .inl (.of (s2 _ _ ha)), fun l nl => ⟨_, rfl, z2, fun t nt => ?_⟩⟩
      have s3 := same1 (o := .lst (ts.map V.int)) nl
      have s4 := same1 (o := .tup [.ref l, .ref tb]) nt
      exact k t l tb _ (sTr s2 (sTr s3 s4)) upd_same (s4 _ _ upd_same) ((a2.fin.same s3).same s4)
end
end RD
set_option maxRecDepth 100000
set_option maxHeartbeats 4000000
/-! How long a text repr gives at most, of data of tuples, lists and numbers. -/
namespace Rd
open PySem PySem.Spec PyProof.Rows L2
theorem showAll {ds : List PyData} (h : ∀ d ∈ ds, d.showable = true) : PyData.showableAll ds = true := by
  induction ds with
  | nil => rfl
  | cons d ds ih => simp [PyData.showableAll, h d List.mem_cons_self, ih fun e he => h e (List.mem_cons_of_mem _ he)]
theorem noDictAll {ds : List PyData} (h : ∀ d ∈ ds, d.hasDict = false) : PyData.hasDictAll ds = false := by
  induction ds with
  | nil => rfl
  | cons d ds ih => simp [PyData.hasDictAll, h d List.mem_cons_self, ih fun e he => h e (List.mem_cons_of_mem _ he)]
theorem depAll {ds : List PyData} {m : Nat} (h : ∀ d ∈ ds, d.depth ≤ m) : PyData.depthAll ds ≤ m := by
  induction ds with
  | nil => exact Nat.zero_le _
  | cons d ds ih =>
    have h1 := h d List.mem_cons_self
    have h2 := ih fun e he => h e (List.mem_cons_of_mem _ he)
    simp only [PyData.depthAll]
    omega
theorem pile_le {ts : List Str} {m : Nat} (h : ∀ t ∈ ts, t.length ≤ m) : piled ts ≤ ts.length * (m + 2) := by
  induction ts with
  | nil => simp [piled]
  | cons t ts ih =>
    have h1 := h t List.mem_cons_self
    have h2 := ih fun e he => h e (List.mem_cons_of_mem _ he)
    rw [piled_cons, List.length_cons, Nat.succ_mul]
    omega
theorem join_le {ts : List Str} {m : Nat} (h : ∀ t ∈ ts, t.length ≤ m) : (Str.join ", " ts).length ≤ ts.length * (m + 2) := by
  by_cases e : ts = []
  · subst e
    exact Nat.zero_le _
  · have z := join_length_add ts e
    have y := pile_le h
    omega
theorem shownAll_le {ds : List PyData} {m : Nat} (h : ∀ d ∈ ds, d.shown.length ≤ m) : (∀ t ∈ PyData.shownAll ds, t.length ≤ m) ∧ (PyData.shownAll ds).length = ds.length := by
  induction ds with
  | nil => exact ⟨fun t ht => absurd ht (by simp [PyData.shownAll]), rfl⟩
  | cons d ds ih =>
    obtain ⟨h1, h2⟩ := ih fun e he => h e (List.mem_cons_of_mem _ he)
    refine ⟨fun t ht => ?_, by simp [PyData.shownAll, h2]⟩
    simp only [PyData.shownAll, List.mem_cons] at ht
    rcases ht with rfl | ht
    · exact h d List.mem_cons_self
    · exact h1 t ht
theorem shown_tup {ds : List PyData} {m : Nat} (h : ∀ d ∈ ds, d.shown.length ≤ m) : (PyData.tuple ds).shown.length ≤ ds.length * (m + 2) + 3 := by
  obtain ⟨h1, h2⟩ := shownAll_le h
  have z := join_le h1
  rw [h2] at z
  show (tupleText (PyData.shownAll ds)).length ≤ _
  unfold tupleText
  rw [strLen_append, strLen_append]
  have e1 : ((("(" : String) : Str)).length = 1 := rfl
  have e3 : (((if (PyData.shownAll ds).length == 1 then ",)" else ")" : String) : Str)).length ≤ 2 := by split <;> decide
  omega
theorem shown_int {i : Int} {k : Nat} (h : i.natAbs < 10 ^ k) (h0 : 0 < k) : (PyData.int i).shown.length ≤ k + 1 := by
  have e := int_text_length_le10 h0 h
  show (Str.ofString (toString i)).length ≤ _
  rw [PySem.ofString_length]
  omega
/-- data that can be shown -/
structure Shw (d : PyData) (m n : Nat) : Prop where
  s : d.showable = true
  nd : d.hasDict = false
  dp : d.depth ≤ m
  l : d.shown.length ≤ n
theorem Shw.int {i : Int} {k : Nat} (h : i.natAbs < 10 ^ k) (h0 : 0 < k) (hk : k ≤ 19) : Shw (.int i) 0 (k + 1) := by
  refine ⟨?_, rfl, Nat.le_refl _, shown_int h h0⟩
  have h1 : i.natAbs < 2 ^ 64 := Nat.lt_of_lt_of_le h (Nat.le_trans (Nat.pow_le_pow_right (by decide) hk) (by decide))
  have h2 : i.natAbs.log2 < 64 ∨ i.natAbs = 0 := by
    by_cases z : i.natAbs = 0
    · exact .inr z
    · exact .inl ((Nat.log2_lt z).mpr h1)
  simp only [PyData.showable, decide_eq_true_eq]
  rcases h2 with h2 | h2
  · omega
  · rw [h2]
    decide
theorem Shw.tup {ds : List PyData} {m n : Nat} (h : ∀ d ∈ ds, Shw d m n) : Shw (.tuple ds) (m + 1) (ds.length * (n + 2) + 3) :=
  ⟨showAll fun d hd => (h d hd).s, noDictAll fun d hd => (h d hd).nd, by
    have z := depAll fun d hd => (h d hd).dp
    simp only [PyData.depth]
    omega, shown_tup fun d hd => (h d hd).l⟩
theorem Shw.mono {d : PyData} {m n m1 n1 : Nat} (h : Shw d m n) (a : m ≤ m1) (b : n ≤ n1) : Shw d m1 n1 := ⟨h.s, h.nd, Nat.le_trans h.dp a, Nat.le_trans h.l b⟩
end Rd
set_option maxRecDepth 100000
set_option maxHeartbeats 4000000
namespace RD
open PySem PySem.Spec PyProof.Rows L2 Rd Tb Cn Lm
def dTri (t : List Int) : PyData := .tuple (t.map PyData.int)
def dKind (ts : List Int) (T : List (List Int)) : PyData := .tuple [.tuple (ts.map PyData.int), .tuple (T.map dTri)]
theorem dpAll_ints {K : PySem.W.Frag} {H : Hp} (ms : List Int) : DpAll K H (ms.map V.int) (ms.map PyData.int) := by
  induction ms with
  | nil => exact .nil
  | cons m ms ih => exact .cons (.int m) ih
theorem dpAll_tri {K : PySem.W.Frag} {H : Hp} : ∀ {L : List Tri}, (∀ q ∈ L, H q.1 = some (.tup (q.2.map V.int))) → DpAll K H (L.map fun q => V.ref q.1) (L.map fun q => dTri q.2)
  | [], _ => .nil
  | q :: L, h => .cons (.tup (.of (h q List.mem_cons_self)) (dpAll_ints q.2)) (dpAll_tri fun r hr => h r (List.mem_cons_of_mem _ hr))
theorem dp_kind {K : PySem.W.Frag} {H : Hp} {p a b : Addr} {ts : List Int} {T : List (List Int)} {L : List Tri} (hp : H p = some (.tup [.ref a, .ref b])) (ha : H a = some (.tup (ts.map V.int))) (hb : H b = some (.tup (L.map fun q => V.ref q.1))) (e : L.map (·.2) = T) (hl : ∀ q ∈ L, H q.1 = some (.tup (q.2.map V.int))) : Dp K H (.ref p) (dKind ts T) := by
  have z := dpAll_tri (K := K) hl
  have e2 : (L.map fun q => dTri q.2) = T.map dTri := by
    rw [← e, List.map_map]
    rfl
  rw [e2] at z
  exact .tup (.of hp) (.cons (.tup (.of ha) (dpAll_ints ts)) (.cons (.tup (.of hb) z) .nil))
theorem shw_kind {ts : List Int} {T : List (List Int)} (h6 : ts.length ≤ 6) (ht : ∀ x ∈ ts, x.natAbs < 10 ^ 1) (hT : T.length ≤ 300) (hq : ∀ t ∈ T, t.length = 3 ∧ ∀ x ∈ t, x.natAbs < 10 ^ 1) : Shw (dKind ts T) 3 100000 := by
  have a1 : Shw (.tuple (ts.map PyData.int)) 1 27 := by
    refine (Shw.tup (m := 0) (n := 2) fun d hd => ?_).mono (Nat.le_refl _) (by rw [List.length_map]; omega)
    obtain ⟨x, hx, rfl⟩ := List.mem_map.mp hd
    exact Shw.int (ht x hx) (by decide) (by decide)
  have a2 : Shw (.tuple (T.map dTri)) 2 6000 := by
    refine (Shw.tup (m := 1) (n := 15) fun d hd => ?_).mono (Nat.le_refl _) (by rw [List.length_map]; omega)
    obtain ⟨t, ht, rfl⟩ := List.mem_map.mp hd
    obtain ⟨l3, hx⟩ := hq t ht
    refine (Shw.tup (m := 0) (n := 2) fun d hd => ?_).mono (Nat.le_refl _) (by rw [List.length_map, l3] <;> decide)
    obtain ⟨x, hx2, rfl⟩ := List.mem_map.mp hd
    exact Shw.int (hx x hx2) (by decide) (by decide)
  refine (Shw.tup (m := 2) (n := 6000) fun d hd => ?_).mono (Nat.le_refl _) (by show 2 * (6000 + 2) + 3 ≤ 100000; decide)
  simp only [List.mem_cons, List.not_mem_nil, or_false] at hd
  rcases hd with rfl | rfl
  · exact a1.mono (by decide) (by decide)
  · exact a2
/-- a table of few small numbers -/
structure Smal (f : Nat → Nat → List Int) : Prop where
  l : ∀ x y, (f x y).length ≤ 6
  s : ∀ x y, ∀ z ∈ f x y, z.natAbs < 10 ^ 1
theorem tblT_shw {f : Nat → Nat → List Int} {n : Nat} (h6 : n ≤ 6) (S : Smal f) : (tblT f n).length ≤ 300 ∧ ∀ t ∈ tblT f n, t.length = 3 ∧ ∀ x ∈ t, x.natAbs < 10 ^ 1 := by
  constructor
  · have h1 : ∀ x, (rowT f x n).length ≤ n * 6 := fun x => upto_len (fun y => by rw [List.length_map]; exact S.l x y) n
    have h2 : (tblT f n).length ≤ n * (n * 6) := upto_len h1 n
    have h3 : n * (n * 6) ≤ 6 * 36 := Nat.mul_le_mul h6 (by omega)
    omega
  · intro t ht
    obtain ⟨x, y, z, lx, ly, hz, rfl⟩ := tblT_mem.mp ht
    refine ⟨rfl, fun u hu => ?_⟩
    simp only [List.mem_cons, List.not_mem_nil, or_false] at hu
    rcases hu with rfl | rfl | rfl
    · show (x : Nat) < 10
      omega
    · show (y : Nat) < 10
      omega
    · exact S.s x y _ hz
/-- at k stands a law's kind -/
def LawK (K : PySem.W.Frag) (H : Hp) (k : Addr) (ts : List Int) (f : Nat → Nat → List Int) : Prop := ∃ l tb, H k = some (.tup [.ref l, .ref tb]) ∧ H l = some (.lst (ts.map V.int)) ∧ Tbl H tb f ts.length
theorem LawK.same {K : PySem.W.Frag} {H H1 : Hp} {k : Addr} {ts : List Int} {f : Nat → Nat → List Int} (h : LawK K H k ts f) (s : Same H H1) : LawK K H1 k ts f := by
  obtain ⟨l, tb, h1, h2, h3⟩ := h
  exact ⟨l, tb, s _ _ h1, s _ _ h2, h3.same s⟩
def sp_law_is (K : PySem.W.Frag) (C : Addr) : Sp := fun vs H Q _ => ∃ x k ts f, vs = [.ref x, .ref k] ∧ KindAt C H x ts (tblT f ts.length) ∧ LawK K H k ts f ∧ ts.length ≤ 6 ∧ (∀ x ∈ ts, x.natAbs < 10 ^ 1) ∧ Smal f ∧ ∀ H1, Same H H1 → Q (.bl true) H1
section
variable {P : Program} {w : World} {K : PySem.W.Frag} {mg : Str → Option Value} {base : Heap}
theorem sc_law_is : FnScope ["made", "kind"] ["made", "kind"] (defScope s__law_is) := ⟨rfl, rfl, rfl, by decide +kernel, rfl, by decide +kernel, by decide +kernel⟩
theorem ok_law_is {C fK : Addr} (D : Df K mg "_law_is" s__law_is ["made", "kind"]) (DT : Df K mg "_law_triples" s__law_triples ["kind"]) (KC : KindC K mg C fK) (B : Bn mg) : FnG P w K mg base CX0 2 D.f D.fd ["made", "kind"] (sp_law_is K C) := by
  have GT : FnOk P w K mg base CX0 1 DT.f DT.fd ["kind"] sp_law_triples := ok_law_triples DT B
  refine fn_ofG D.F sc_law_is (fun vs H Q E h => ?_) (fun cdv A outer s H vs Q E hgd hr h => ?_)
  · obtain ⟨x, k, ts, f, rfl, _⟩ := h
    rfl
  · obtain ⟨x, k, ts, f, rfl, hx, hk, h6, st, sf, q⟩ := h
    have gn := B.gn
    have nd := sc_law_is.nd
    have h100 : (A.deeper (envOfC "_law_is" (defScope s__law_is) s.heap.objs.size D.f cdv)).units + 100 < cLine := by
      have z := hr.un
      omega
    refine ⟨_, pss_one (ps_ret (pe_cmpR op_eq (pe_callB (r := rRepr K) (call_repr hgd h100) rfl (gn _ (by decide)) PyProof.Rows.boot_repr (pa_cons (pe_tup (pa_cons (pe_fld (pv 0) rfl) (pa_cons (pe_fld (pv 0) rfl) pa_nil))) pa_nil))
      (pe_callB (r := rRepr K) (call_repr hgd h100) rfl (gn _ (by decide)) PyProof.Rows.boot_repr (pa_cons (pe_tup (pa_cons (pe_callTy (r := rTupOf K) cr_tuple rfl (gn _ (by decide)) PyProof.Rows.boot_tuple (pa_cons (pe_ix ix_seq (pv 1) pe_int (fun _ _ => rfl)) pa_nil))
        (pa_cons (pe_callTy (r := rTupOf K) cr_tuple rfl (gn _ (by decide)) PyProof.Rows.boot_tuple (pa_cons (pe_call GT hr rfl DT.g DT.F.kp DT.b .nil pass0 (pa_cons (pv 1) pa_nil)) pa_nil)) pa_nil))) pa_nil)) (nomark _))), ?_⟩
    have z2 : 2 ≤ sizeLine := by decide
    obtain ⟨dx, tt, tr, tbx, L, a1, a2, a3, a4, a5, a6, a7⟩ := hx
    obtain ⟨l, tb, k1, k2, k3⟩ := hk
    obtain ⟨tl, tq⟩ := tblT_shw h6 sf
    have sh := shw_kind h6 st tl tq
    have shl : (dKind ts (tblT f ts.length)).shown.length ≤ sizeLine := Nat.le_trans sh.l (by decide)
    refine ⟨_, rfl, x, C, dx, _, _, rfl, a1, KC.c, KC.n2, rfl, _, rfl, x, C, dx, _, _, rfl, a1, KC.c, KC.n3, rfl, z2, fun p np => ?_⟩
    have s1 := same1 (o := .tup [.ref tt, .ref tr]) np
    refine ⟨_, _, rfl, dp_kind (H := upd H p (.tup [.ref tt, .ref tr])) (ts := ts) upd_same (s1 _ _ a2) (s1 _ _ a3) a5 (fun q hq => s1 _ _ (a6 q hq)), sh.s, sh.nd, Nat.le_trans sh.dp (by decide), shl, ?_⟩
    have k11 := s1 _ _ k1
    have k21 := s1 _ _ k2
    have k31 := k3.same s1
    generalize upd H p (.tup [.ref tt, .ref tr]) = H1 at s1 k11 k21 k31 ⊢
    refine ⟨_, rfl, ixA (j := 0) (.inr k11) rfl ?_⟩
    unfold tNil
    dsimp only
    refine tuple_any (.inl k21) fun t2 H2 s2 ht2 => ?_
    refine ⟨_, rfl, k, _, tb, f, ts.length, rfl, s2 _ _ k11, k31.same s2, h6, sf.l, fun l3 ks H3 s3 nl3 hl3 ek hk3 => ?_⟩
    dsimp only
    refine tuple_any (.inl hl3) fun t4 H4 s4 ht4 => ⟨z2, fun p5 np5 => ?_⟩
    have s5 := same1 (o := .tup [.ref t2, .ref t4]) np5
    refine ⟨_, _, rfl, dp_kind (H := upd H4 p5 (.tup [.ref t2, .ref t4])) (ts := ts) upd_same (s5 _ _ (s4 _ _ (s3 _ _ ht2))) (s5 _ _ ht4) ek (fun q hq => s5 _ _ (s4 _ _ (hk3 q hq))), sh.s, sh.nd, Nat.le_trans sh.dp (by decide), shl, ?_⟩
    refine ⟨rfl, ?_⟩
    rw [decide_eq_true rfl]
    exact q _ (sTr s1 (sTr s2 (sTr s3 (sTr s4 s5))))
end
end RD
set_option maxRecDepth 100000
set_option maxHeartbeats 4000000
/-! Calls with keywords alone; what a kind is refused with. -/
namespace Rd
open PySem PySem.Spec PyProof.Rows L2
/-- how a call with keywords alone binds -/
structure Kw (K : PySem.W.Frag) (fd : FuncData) (ps ks : List Str) (g : List Value → List Value) (gV : List V → List V) : Prop where
  to : ∀ (s : Shared) (ws : List Value), K.In s.heap → (g ws).length = ps.length → BindsTo s fd ⟨[], ks.zip ws⟩ (ps.zip (g ws))
  rel : ∀ {zs : List V} {ws : List Value}, Vals zs ws → Vals (gV zs) (g ws)
section
variable {X : Cx} {CX : CXT} {k : Nat} {f : Addr} {fd : FuncData} {ps ks : List Str} {sp : Sp} {E : L2.St → XK} {x : Str} {p pos : Pos} {kws : List Keyword} {tk : TA} {g : List Value → List Value} {gV : List V → List V}
def tCallKS (sp : Sp) (gV : List V → List V) (E : L2.St → XK) (tk : TA) : TE := fun σ H Q => tk σ H fun zs H2 => sp (gV zs) H2 Q (E σ)
/-- f(k = v, ..) -/
theorem pe_callKS (F : FnOk X.prog X.w X.K X.mg X.base CX k f fd ps sp) (hr : Room k X.A) (hg : Gl X x) (hm : X.mg x = some (.ref f)) (hk : PySem.W.keepIn X.K (.ref f) = true) (hb : Kw X.K fd ps ks g gV) (hx : ∀ σ, PassesAt CX X σ (E σ)) (hkw : PK X kws tk)
    (hall : (backToKw pos (keywordEach kws X.env)).all (·.1.isSome) = true := by rfl) (hks : (backToKw pos (keywordEach kws X.env)).filterMap (·.1) = ks := by rfl) (hdb : (x == ("__debug__" : Str)) = false := by decide)
    (hpl : ((backTo pos (starEach [] X.env)).any (·.1) || (backToKw pos (keywordEach kws X.env)).any (·.1.isNone)) = false := by rfl) :
    PE X (.Call (.Name x p) [] kws pos) (tCallKS sp gV E tk) := by
  refine ⟨fun pins s σ H Q I h => ?_⟩
  refine wpAny_Call_Name_kw (ld_glob I hg hm ?_ hdb)
  refine PySem.W.callWith_KW0 (h₀ := X.base) I.ok.mod.kin hk hall ?_ hpl
  refine thn (hkw.run pos pins s σ H _ I h) fun ws s1 ⟨zs, H1, I1, r1, q1⟩ => ⟨I1.kIn, ?_⟩
  rw [hks]
  show wpAny _ _ (call (.ref f) [] (ks.zip ws)) _ _ _
  have r2 := hb.rel r1
  have hl : (g ws).length = ps.length := by
    rw [← r2.length]
    exact F.len _ _ _ _ q1
  refine wpAny_call (codeAny_mono (F.run X.A X.stack s1 H1 ⟨[], ks.zip ws⟩ (g ws) (gV zs) Q (E σ) hr I1.env0 (hb.to s1 ws I1.kIn hl) r2 q1) fun r s' hq => ?_)
  cases r with
  | error e => exact hx σ pins H1 s1 e s' I1 hq
  | ok fl =>
    cases fl with
    | ret u => exact I1.after hq
    | next => exact False.elim hq
    | brk => exact False.elim hq
    | cont => exact False.elim hq
end
theorem takesN0 {X : Cx} : L2N.Takes X (fun _ _ _ _ => False) := fun _ _ ⟨_, _, _, _, _, _, _, _, _, _, _, _, _, _, _, _, z⟩ => z.elim
end Rd
namespace RD
open PySem PySem.Spec PyProof.Rows L2 Rd Tb Cn Lm
def sp_law_distance : Sp := fun vs H Q _ => ∃ x, vs = [x] ∧ ((Pln x ∧ ∀ H1, Same H H1 → Q (.int 0) H1) ∨ (∃ a xs, x = .ref a ∧ H a = some (.lst xs) ∧ ∀ H1, Same H H1 → Q (.int 0) H1) ∨ ∃ a xs n, x = .ref a ∧ H a = some (.tup xs) ∧ (∀ x ∈ xs, Pln x) ∧ numBad xs = some n ∧ ∀ H1, Same H H1 → Q (.int (n : Nat)) H1)
section
variable {P : Program} {w : World} {K : PySem.W.Frag} {mg : Str → Option Value} {base : Heap}
/-- what a handler needs of an own error -/
structure Hnd (K : PySem.W.Frag) (mg : Str → Option Value) (x : Str) (C : Addr) : Prop where
  g : mg x = some (.ref C)
  m : PySem.W.exmOne K (.ref C) (.ref C) = some true
  xf : XfC K C
  n : PySem.W.findIn K (.ref C) "at" = some none
theorem kw_distance (D : Df K mg "distance_kind" s_distance_kind ["numbers"]) : Kw K D.fd ["numbers"] ["numbers"] id id := by
  obtain ⟨f, fd, F, g, b⟩ := D
  obtain ⟨oc, od, kV, doc, pm, an, cdv, ct, osl, rfl, lk, hcd⟩ := F.ex
  exact ⟨fun s ws _ hl => match ws, hl with | [_], _ => .of_eq rfl, fun r => r⟩
theorem sc_law_distance : FnScope ["numbers", "wrong"] ["numbers"] (defScope s__law_distance) := ⟨rfl, rfl, rfl, by decide +kernel, rfl, by decide +kernel, by decide +kernel⟩
theorem ok_law_distance {C CE fK : Addr} (D : Df K mg "_law_distance" s__law_distance ["numbers"]) (DD : Df K mg "distance_kind" s_distance_kind ["numbers"]) (G : FnOk P w K mg base (L2N.CX P w) 10 DD.f DD.fd ["numbers"] (sp_distance_kind C CE)) (KC : KindC K mg C fK) (T : Hnd K mg "InvalidKind" CE) (B : Bn mg) :
    FnOk P w K mg base CX0 11 D.f D.fd ["numbers"] sp_law_distance := by
  refine D.F.ok sc_law_distance (fun vs H Q E h => ?_) (fun cdv A outer s H vs Q E hr h => ?_)
  · obtain ⟨x, rfl, _⟩ := h
    rfl
  · obtain ⟨x, rfl, h⟩ := h
    have gn := B.gn
    have nd := sc_law_distance.nd
    refine ⟨_, pss_one (L2N.ps_try_as (i := 1) (tb := fun W => tRet (tIf (tTest (tOp (rI0 fun i j => .bl (decide (j < i))) (tFld K (tCallKS (sp_distance_kind C CE) id (WE W) (tCons (tVar 0) tNil)) "relations") (tC (.int 0)))) (tC .non) (tUn (rU fun i => .int (-i)) (tC (.int 1))))) (ts := fun a cls d => tRet (tXfD K a cls d "at" (tVar 1))) (Wout := fun _ _ _ _ => False) rfl rfl nd rfl rfl ⟨rfl, by decide, .inl T.g⟩ takesN0
      (fun W pn xe tk _ => pss_one (ps_ret (pe_ifExp (pt_cmpR op_gt (pe_fld (pe_callKS (E := WE W) G hr rfl DD.g DD.F.kp (kw_distance DD) (fun σ => L2N.passAt tk σ) (pk_cons (pv 0) pk_nil)) rfl) pe_int (nomark _)) pe_non (pe_un un_neg pe_int))))
      (fun a oe cls d pn hz hf => pss_one (ps_ret (pe_imp (t' := tXfD K a cls d "at" (tVar 1)) (pe_xfD (oe := oe) List.mem_cons_self hz.zc hf (pv 1)) fun _ _ _ q => q)))), ?_⟩
    refine ⟨_, rfl, x, rfl, ?_⟩
    rcases h with ⟨px, k⟩ | ⟨a, xs, rfl, ha, k⟩ | ⟨a, xs, n, rfl, ha, px, nb, k⟩
    · exact .inl ⟨px, fun H1 s1 d hd => ⟨true, T.m, fun _ a na => ⟨_, rfl, CE, d, _, .int 0, rfl, rfl, T.xf, T.n, rfl, upd_same, rfl, k _ (sTr s1 (same1 hd))⟩, fun q => Bool.noConfusion q⟩⟩
    · exact .inr (.inl ⟨a, xs, rfl, ha, fun H1 s1 d hd => ⟨true, T.m, fun _ a na => ⟨_, rfl, CE, d, _, .int 0, rfl, rfl, T.xf, T.n, rfl, upd_same, rfl, k _ (sTr s1 (same1 hd))⟩, fun q => Bool.noConfusion q⟩⟩)
    · refine .inr (.inr ⟨a, xs, rfl, ha, px, fun z => ?_, fun m e H1 s1 d hd => ?_⟩)
      · rw [nb] at z
        cases z
      · rw [nb] at e
        cases e
        exact ⟨true, T.m, fun _ a na => ⟨_, rfl, CE, d, _, .int (n : Nat), rfl, rfl, T.xf, T.n, rfl, upd_same, rfl, k _ (sTr s1 (same1 hd))⟩, fun q => Bool.noConfusion q⟩
end
end RD
set_option maxRecDepth 100000
set_option maxHeartbeats 4000000
namespace RD
open PySem PySem.Spec PyProof.Rows L2 Rd Tb Cn Lm
def swp {α : Type} : List α → List α
  | [b, t] => [t, b]
  | l => l
theorem swp_rel {zs : List V} {ws : List Value} (r : Vals zs ws) : Vals (swp zs) (swp ws) := by
  cases r with
  | nil => exact .nil
  | cons h1 r =>
    cases r with
    | nil => exact .cons h1 .nil
    | cons h2 r =>
      cases r with
      | nil => exact .cons h2 (.cons h1 .nil)
      | cons h3 r => exact .cons h1 (.cons h2 (.cons h3 r))
def sp_law_barred : Sp := fun vs H Q _ => ∃ x y, vs = [x, y] ∧ ((∃ a xs n, x = .ref a ∧ H a = some (.lst xs) ∧ (∀ x ∈ xs, Pln x) ∧ turnBad xs = some n ∧ ∀ H1, Same H H1 → Q (.int (n : Nat)) H1) ∨
  ∃ a, ∃ ts : List Int, x = .ref a ∧ H a = some (.lst (ts.map V.int)) ∧ Turns ts ∧ ts.length ≤ 6 ∧ ((Pln y ∧ ∀ H1, Same H H1 → Q (.int (ts.length : Nat)) H1) ∨
    ∃ b ys bs n, y = .ref b ∧ H b = some (.lst ys) ∧ bs.length = ys.length ∧ (∀ (i : Nat) z c, ys[i]? = some z → bs[i]? = some c → Itm H (ts.length : Nat) z c) ∧ firstNo bs = some n ∧ ∀ H1, Same H H1 → Q (.int ((ts.length : Nat) + (n : Nat))) H1))
section
variable {P : Program} {w : World} {K : PySem.W.Frag} {mg : Str → Option Value} {base : Heap}
theorem kw_barred (D : Df K mg "barred_kind" s_barred_kind ["turned", "barred"]) : Kw K D.fd ["turned", "barred"] ["barred", "turned"] swp swp := by
  obtain ⟨f, fd, F, g, b⟩ := D
  obtain ⟨oc, od, kV, doc, pm, an, cdv, ct, osl, rfl, lk, hcd⟩ := F.ex
  exact ⟨fun s ws _ hl => match ws, hl with | [_, _], _ => .of_eq rfl, swp_rel⟩
theorem sc_law_barred : FnScope ["turned", "barred", "wrong"] ["turned", "barred"] (defScope s__law_barred) := ⟨rfl, rfl, rfl, by decide +kernel, rfl, by decide +kernel, by decide +kernel⟩
theorem ok_law_barred {C CE fK : Addr} {n : Nat} (D : Df K mg "_law_barred" s__law_barred ["turned", "barred"]) (DD : Df K mg "barred_kind" s_barred_kind ["turned", "barred"]) (G : FnOk P w K mg base (L2N.CX P w) n DD.f DD.fd ["turned", "barred"] (sp_barred_kind C CE)) (KC : KindC K mg C fK) (T : Hnd K mg "InvalidKind" CE) (B : Bn mg) :
    FnOk P w K mg base CX0 (n + 1) D.f D.fd ["turned", "barred"] sp_law_barred := by
  refine D.F.ok sc_law_barred (fun vs H Q E h => ?_) (fun cdv A outer s H vs Q E hr h => ?_)
  · obtain ⟨x, y, rfl, _⟩ := h
    rfl
  · obtain ⟨x, y, rfl, h⟩ := h
    have gn := B.gn
    have nd := sc_law_barred.nd
    refine ⟨_, pss_one (L2N.ps_try_as (i := 2) (tb := fun W => tRet (tIf (tTest (tOp (rI0 fun i j => .bl (decide (j < i))) (tFld K (tCallKS (sp_barred_kind C CE) swp (WE W) (tCons (tVar 1) (tCons (tVar 0) tNil))) "relations") (tC (.int 0)))) (tC .non) (tUn (rU fun i => .int (-i)) (tC (.int 1))))) (ts := fun a cls d => tRet (tXfD K a cls d "at" (tVar 2))) (Wout := fun _ _ _ _ => False) rfl rfl nd rfl rfl ⟨rfl, by decide, .inl T.g⟩ takesN0
      (fun W pn xe tk _ => pss_one (ps_ret (pe_ifExp (pt_cmpR op_gt (pe_fld (pe_callKS (E := WE W) G hr rfl DD.g DD.F.kp (kw_barred DD) (fun σ => L2N.passAt tk σ) (pk_cons (pv 1) (pk_cons (pv 0) pk_nil))) rfl) pe_int (nomark _)) pe_non (pe_un un_neg pe_int))))
      (fun a oe cls d pn hz hf => pss_one (ps_ret (pe_imp (t' := tXfD K a cls d "at" (tVar 2)) (pe_xfD (oe := oe) List.mem_cons_self hz.zc hf (pv 2)) fun _ _ _ q => q)))), ?_⟩
    refine ⟨_, rfl, _, rfl, x, y, rfl, ?_⟩
    rcases h with ⟨a, xs, n, rfl, ha, px, nb, k⟩ | ⟨a, ts, rfl, ha, T1, h6, h⟩
    · exact .inr (.inl ⟨a, xs, _, n, rfl, ha, .inl rfl, px, nb, fun H1 s1 d hd => ⟨true, T.m, fun _ a na => ⟨_, rfl, CE, d, _, .int (n : Nat), rfl, rfl, T.xf, T.n, rfl, upd_same, rfl, k _ (sTr s1 (same1 hd))⟩, fun q => Bool.noConfusion q⟩⟩)
    · refine .inr (.inr ⟨a, ts, rfl, .inl ha, T1, h6, ?_⟩)
      rcases h with ⟨py, k⟩ | ⟨b, ys, bs, n, rfl, hb, lb, hi, fn, k⟩
      · exact .inl ⟨py, fun H1 s1 d hd => ⟨true, T.m, fun _ a na => ⟨_, rfl, CE, d, _, .int (ts.length : Nat), rfl, rfl, T.xf, T.n, rfl, upd_same, rfl, k _ (sTr s1 (same1 hd))⟩, fun q => Bool.noConfusion q⟩⟩
      · exact .inr (.inl ⟨b, ys, _, bs, n, rfl, hb, .inl rfl, lb, hi, fn, fun H1 s1 d hd => ⟨true, T.m, fun _ a na => ⟨_, rfl, CE, d, _, .int ((ts.length : Nat) + (n : Nat)), rfl, rfl, T.xf, T.n, rfl, upd_same, rfl, k _ (sTr s1 (same1 hd))⟩, fun q => Bool.noConfusion q⟩⟩)
end
end RD
set_option maxRecDepth 100000
set_option maxHeartbeats 4000000
/-! Lambdas of three relations, made in a def and handed on. -/
namespace Lm
open PySem PySem.Spec PyProof.Rows L2 LamX NdefX Rd
/-- a def of the text, its code object told -/
structure FunC (K : PySem.W.Frag) (x qual : Str) (st : Stmt) (f : Addr) (fd : FuncData) (c : Addr) : Prop where
  ex : ∃ (oc : Value) (od : Option Addr) (kV doc pm : Value) (an : Option Addr) (ct : Value) (osl : Array (Option Value)),
    fd = PySem.W.fnOf x qual (defArgs st) (defBody st) (defScope st) .none kV doc pm an (.ref c) ct ∧ K.lookup f = some ⟨oc, od, .func fd, osl⟩ ∧ PySem.W.codeIn K (.ref c) qual = true
  kp : PySem.W.keepIn K (.ref f) = true
theorem fn_ofGC {CX : CXT} {P : Program} {w : World} {K : PySem.W.Frag} {mg : Str → Option Value} {base : Heap} {k : Nat} {x qual : Str} {st : Stmt} {f c : Addr} {fd : FuncData} {N ps : List Str} {sp : Sp} (F : FunC K x qual st f fd c) (S : FnScope N ps (defScope st))
    (len : ∀ vs H Q E, sp vs H Q E → vs.length = ps.length)
    (hbody : ∀ (A : Around) (outer : List Env) (s : Shared) (H : Hp) (vs : List V) (Q : VK) (E : XK), A.guards = some [] → Room k (A.deeper (envOfC qual (defScope st) s.heap.objs.size f (.ref c))) → sp vs H Q E →
      ∃ t, PSs (cxOf CX P w K mg base N qual (defScope st) f (.ref c) A outer s H E) (defBody st) t ∧ t { nx := fun _ H' => Q .non H', rt := Q } (L2.start N vs) H) :
    FnG P w K mg base CX (k + 1) f fd ps sp := by
  refine ⟨len, fun A outer s H args us vs Q E hgd hr e0 hb r hsp => ?_⟩
  obtain ⟨oc, od, kV, doc, pm, an, ct, osl, rfl, lk, hcd⟩ := F.ex
  have hl := len _ _ _ _ hsp
  refine codeAny_call_function hr.depth (env0_kin e0 _ _ lk) rfl S.co S.gen rfl (PySem.W.codeRec_of (env0_kin e0) hcd) (hb _ _ _ _ ?_)
  refine wpAny_newFunctionEnv_cells S.kind (binds_vis S us) fun env he s1 x => ?_
  subst he
  refine ⟨(env0_nolimit e0).keeps x.toInCall.keep, codeAny_func ?_⟩
  obtain ⟨t, ht, hq⟩ := hbody A outer s H vs Q E hgd (hr.deeper _) hsp
  exact wpAny_mono (ht.run [] s1 (L2.start N vs) H _ (inv_start S hr.hd e0 hl r x) hq) (fun fl s' hs => (by cases fl <;> exact body_end hs rfl)) fun e s' hs => hs
/-! ### where a lambda stands in the text -/
def noE : Expr := .Constant .none 0 ⟨0, 0, 0, 0⟩
def argE : Expr → Nat → Expr
  | .Call _ es _ _, i => es.getD i noE
  | _, _ => noE
def valE : Stmt → Expr
  | .Assign _ v _ => v
  | _ => noE
def lamP : Expr → Arguments
  | .Lambda p _ _ _ => p
  | _ => { posonlyargs := [], args := [], vararg := none, kwonlyargs := [], kw_defaults := [], kwarg := none, defaults := [] }
def lamB : Expr → Expr
  | .Lambda _ b _ _ => b
  | _ => noE
def lamS : Expr → Scope
  | .Lambda _ _ s _ => s
  | _ => { kind := .function, names := [], isGenerator := false, isCoroutine := false }
/-- F is the lambda e, made -/
structure IsL (F : LF) (e : Expr) : Prop where
  p : F.params = lamP e
  b : F.body = lamB e
  s : F.scope = lamS e
end Lm
namespace RD
open PySem PySem.Spec PyProof.Rows L2 Rd Tb Cn Lm LamX NdefX
/-- what a lambda answers that has captured vs -/
def splR (vs : List V) (Hy : Hp → Prop) (n : Nat) (p : Nat → Nat → Nat → Bool) : List (Option V) → Sp := fun ws us H Q E => ws = vs.map some ∧ Hy H ∧ spR n p us H Q E
theorem splR_len {vs : List V} {Hy : Hp → Prop} {n : Nat} {p : Nat → Nat → Nat → Bool} : ∀ ws us H Q E, splR vs Hy n p ws us H Q E → us.length = (["x", "y", "z"] : List Str).length := fun ws us H Q E h => by
  obtain ⟨_, _, x, y, z, rfl, _⟩ := h
  rfl
theorem funV_of {P : Program} {w : World} {K : PySem.W.Frag} {mg : Str → Option Value} {base : Heap} {f : Addr} {F : LF} {H : Hp} {fr : List Str} {vs : List V} {Hy : Hp → Prop} {n : Nat} {p : Nat → Nat → Nat → Bool} (h1 : H f = some (LamO f F)) (h2 : H F.c = some (CodeO F.c F.qual)) (pc : PinC F.cl fr vs H)
    (lo : LOk P w K mg base CX0 1 f F ["x", "y", "z"] fr (splR vs Hy n p)) (hy : ∀ H1, Same H H1 → Hy (off F.cl H1)) : FunV P w K mg base 1 f (spR n p) H := by
  refine ⟨F, _, fr, vs, _, h1, h2, pc, lo, fun us H1 Q E s q => ⟨rfl, hy H1 s, ?_⟩⟩
  obtain ⟨x, y, z, rfl, lx, ly, lz, k⟩ := q
  refine ⟨x, y, z, rfl, lx, ly, lz, fun H2 s2 => k _ fun b o e => ?_⟩
  by_cases hb : At F.cl b
  · rw [as_at hb]
    exact e
  · rw [as_ne hb]
    exact s2 b o (by rw [off_ne hb]; exact e)
theorem lotF_asc {n : Nat} {p : Nat → Nat → Nat → Bool} (x y : Nat) : (lotF n p x y).Pairwise (· < ·) := by
  unfold lotF
  refine List.pairwise_map.mpr (((List.pairwise_lt_range (n := n)).filter _).imp fun h => ?_)
  omega
theorem mem_lotF {n : Nat} {p : Nat → Nat → Nat → Bool} {x y : Nat} {z : Int} : z ∈ lotF n p x y ↔ ∃ k : Nat, k < n ∧ p x y k = true ∧ z = k := by
  unfold lotF
  constructor
  · intro h
    obtain ⟨k, hk, rfl⟩ := List.mem_map.mp h
    obtain ⟨h1, h2⟩ := List.mem_filter.mp hk
    exact ⟨k, List.mem_range.mp h1, h2, rfl⟩
  · rintro ⟨k, h1, h2, rfl⟩
    exact List.mem_map.mpr ⟨k, List.mem_filter.mpr ⟨List.mem_range.mpr h1, h2⟩, rfl⟩
theorem lotF_smal {n : Nat} {p : Nat → Nat → Nat → Bool} (h : n ≤ 6) : Smal (lotF n p) := by
  refine ⟨fun x y => ?_, fun x y z hz => ?_⟩
  · unfold lotF
    rw [List.length_map]
    have q := List.length_filter_le (p x y) (List.range n)
    rw [List.length_range] at q
    omega
  · obtain ⟨k, h1, _, rfl⟩ := mem_lotF.mp hz
    show k < 10
    omega
/-- the kind's triples are those of the rule p -/
theorem asc_rule {n : Nat} {p : Nat → Nat → Nat → Bool} {T D : List (List Int)} (a : AscOf T D) (h : ∀ t, t ∈ D ↔ triOk n t = true ∧ ∃ x y z : Nat, t = [(x : Int), (y : Int), (z : Int)] ∧ p x y z = true) : T = tblT (lotF n p) n := by
  refine a.tbl lotF_asc fun t => (h t).trans ?_
  constructor
  · rintro ⟨ok, x, y, z, rfl, hp⟩
    obtain ⟨ix, iy, iz⟩ := triOk_iff.mp ok
    exact ⟨x, y, z, by have := ix.2; omega, by have := iy.2; omega, mem_lotF.mpr ⟨z, by have := iz.2; omega, hp, rfl⟩, rfl⟩
  · rintro ⟨x, y, z, lx, ly, hz, rfl⟩
    obtain ⟨k, lk, hp, rfl⟩ := mem_lotF.mp hz
    exact ⟨triOk_iff.mpr ⟨⟨by omega, by omega⟩, ⟨by omega, by omega⟩, ⟨by omega, by omega⟩⟩, x, y, k, rfl, hp⟩
end RD
set_option maxRecDepth 100000
set_option maxHeartbeats 4000000
namespace RD
open PySem PySem.Spec PyProof.Rows L2 Rd Tb Cn Lm LamX NdefX
/-! ### lists, tuples and instances stay -/
def pl : HO → Bool
  | .lst _ => true
  | .tup _ => true
  | .ins _ _ _ => true
  | _ => false
def SameL (H H1 : Hp) : Prop := ∀ b o, H b = some o → pl o = true → H1 b = some o
theorem SameL.of {H H1 : Hp} (s : Same H H1) : SameL H H1 := fun b o e _ => s b o e
theorem SameL.tr {H H1 H2 : Hp} (s : SameL H H1) (t : SameL H1 H2) : SameL H H2 := fun b o e p => t b o (s b o e p) p
theorem SameL.ext {H H1 : Hp} (s : ExtN H H1) : SameL H H1 := fun b o e p => s b o e fun ps z => by
  subst z
  cases p
theorem Tbl.sameL {H H1 : Hp} {tb : Addr} {f : Nat → Nat → List Int} {n : Nat} (h : Tbl H tb f n) (s : SameL H H1) : Tbl H1 tb f n := by
  obtain ⟨rs, a, b, c⟩ := h
  exact ⟨rs, s _ _ a rfl, b, fun x r e => by
    obtain ⟨ls, p, q, t⟩ := c x r e
    exact ⟨ls, s _ _ p rfl, q, fun y l e2 => s _ _ (t y l e2) rfl⟩⟩
theorem LawK.sameL {K : PySem.W.Frag} {H H1 : Hp} {k : Addr} {ts : List Int} {f : Nat → Nat → List Int} (h : LawK K H k ts f) (s : SameL H H1) : LawK K H1 k ts f := by
  obtain ⟨l, tb, h1, h2, h3⟩ := h
  exact ⟨l, tb, s _ _ h1 rfl, s _ _ h2 rfl, h3.sameL s⟩
theorem off_same {cl : List (Str × Addr)} {H1 H2 H3 : Hp} (s : Same H2 H3) (sm : ∀ b, ¬ At cl b → H2 b = H1 b) (no : ∀ b, At cl b → H1 b = none) : Same H1 (off cl H3) := fun b o e => by
  have n : ¬ At cl b := fun z => by
    rw [no b z] at e
    cases e
  rw [off_ne n]
  exact s b o (by rw [sm b n]; exact e)
theorem off_L {cl : List (Str × Addr)} {fr : List Str} {ws : List V} {H2 H3 : Hp} (pc : PinC cl fr ws H2) (s : Same H2 H3) : SameL H3 (off cl H3) := fun b o e p => by
  have n : ¬ At cl b := still_ne (pc.same s).still e fun x y z => by
    subst z
    cases p
  rw [off_ne n]
  exact e
/-! ### the clocks -/
def clkL1 : Expr := argE (valE ((defBody s__law_clocks_right).getD 1 (.Pass ⟨0, 0, 0, 0⟩))) 1
def clkL2 : Expr := argE (valE ((defBody s__law_clocks_right).getD 2 (.Pass ⟨0, 0, 0, 0⟩))) 1
def clkP (n : Nat) (x y z : Nat) : Bool := decide (V.int (((x : Int) + y - z) % n) = .int 0)
def clkQ (n : Nat) (x y z : Nat) : Bool := inV (.int (((z : Int) + 2 * n - x - y) % n)) [.int 0, .int (1 % (n : Int))]
section
variable {P : Program} {w : World} {K : PySem.W.Frag} {mg : Str → Option Value} {base : Heap}
theorem ns_clk1 : NScope ["x", "y", "z", "many"] ["x", "y", "z"] ["many"] (lamS clkL1) := nscope_by (by decide +kernel)
theorem ns_clk2 : NScope ["x", "y", "z", "many"] ["x", "y", "z"] ["many"] (lamS clkL2) := nscope_by (by decide +kernel)
theorem lok_clk1 {F : LF} {f : Addr} {n : Nat} (B : Bn mg) (h0 : 0 < n) (e : IsL F clkL1) : LOk P w K mg base CX0 1 f F ["x", "y", "z"] ["many"] (splR [.int (n : Nat)] (fun _ => True) n (clkP n)) := by
  obtain ⟨qual, params, body, scope, cl, c⟩ := F
  obtain ⟨e1, e2, e3⟩ := e
  dsimp only at e1 e2 e3
  subst e1 e2 e3
  refine lok_of ns_clk1 (fun pm ctv us hl => match us, hl with | [_, _, _], _ => rfl) splR_len (fun A outer s H vs ws Q E hr lw h => ?_)
  obtain ⟨rfl, _, x, y, z, rfl, lx, ly, lz, k⟩ := h
  have gn := B.gn
  refine ⟨_, pe_cmpR op_eq (pe_op op_mod (pe_callTy call_int1 rfl (gn _ (by decide)) PyProof.Rows.boot_int (pa_cons (pe_op op_sub (pe_op op_add (pv 0) (pv 1)) (pv 2)) pa_nil)) (pv 3)) pe_int (nomark _), ?_⟩
  refine ⟨_, rfl, _, rfl, _, _, rfl, rfl, _, rfl, _, _, rfl, rfl, .inl ⟨_, rfl, _, rfl, _, n, rfl, rfl, by omega, rfl, k H (same0 H)⟩⟩
theorem lok_clk2 {F : LF} {f : Addr} {n : Nat} (B : Bn mg) (h0 : 0 < n) (e : IsL F clkL2) : LOk P w K mg base CX0 1 f F ["x", "y", "z"] ["many"] (splR [.int (n : Nat)] (fun _ => True) n (clkQ n)) := by
  obtain ⟨qual, params, body, scope, cl, c⟩ := F
  obtain ⟨e1, e2, e3⟩ := e
  dsimp only at e1 e2 e3
  subst e1 e2 e3
  refine lok_of ns_clk2 (fun pm ctv us hl => match us, hl with | [_, _, _], _ => rfl) splR_len (fun A outer s H vs ws Q E hr lw h => ?_)
  obtain ⟨rfl, _, x, y, z, rfl, lx, ly, lz, k⟩ := h
  have gn := B.gn
  refine ⟨_, pe_cmpR op_in_seq (pe_op op_mod (pe_callTy call_int1 rfl (gn _ (by decide)) PyProof.Rows.boot_int (pa_cons (pe_op op_sub (pe_op op_sub (pe_op op_add (pv 2) (pe_op op_mul pe_int (pv 3))) (pv 0)) (pv 1)) pa_nil)) (pv 3)) (pe_tup (pa_cons pe_int (pa_cons (pe_op op_mod pe_int (pv 3)) pa_nil))) rfl, ?_⟩
  refine ⟨_, rfl, _, rfl, 2, n, rfl, rfl, .inl ⟨by decide, by decide⟩, _, _, rfl, rfl, _, rfl, _, _, rfl, rfl, _, rfl, _, _, rfl, rfl, .inl ⟨_, rfl, _, rfl, _, n, rfl, rfl, by omega, ?_⟩⟩
  refine ⟨_, rfl, 1, n, rfl, rfl, by omega, by show 2 ≤ sizeLine; decide, fun t nt => ⟨t, _, rfl, .inr (.of upd_same), rfl, rfl, ?_⟩⟩
  exact k _ (same1 nt)
end
end RD
set_option maxRecDepth 100000
set_option maxHeartbeats 4000000
namespace RD
open PySem PySem.Spec PyProof.Rows L2 Rd Tb Cn Lm LamX NdefX
/-- the tables of the defs that make lambdas: that of the code object at c is told in T -/
structure Tab (base : Heap) (mg : Str → Option Value) (T : List (Addr × Str)) (c P : Addr) (q : Str) : Prop where
  b : TabB base mg c P
  m : (P, q) ∈ T
  u : ∀ p ∈ T, p.1 = P → p.2 = q
/-- a def with its code object -/
structure Dc (K : PySem.W.Frag) (mg : Str → Option Value) (x : Str) (st : Stmt) (ps : List Str) where
  f : Addr
  fd : FuncData
  c : Addr
  F : FunC K x x st f fd c
  g : mg x = some (.ref f)
  b : Binds K fd ps []
theorem passFN {P : Program} {w : World} {X : Cx} : ∀ σ : L2.St, PassesAt (L2N.CX P w) X σ (fun _ _ _ => False) := fun σ pins H s e s' I ⟨_, _, _, _, _, _, _, _, _, _, _, _, z⟩ => z.elim
theorem kw_sum {K : PySem.W.Frag} {mg : Str → Option Value} (D : Df K mg "sum_kind" s_sum_kind ["many"]) : Kw K D.fd ["many"] ["many"] id id := by
  obtain ⟨f, fd, F, g, b⟩ := D
  obtain ⟨oc, od, kV, doc, pm, an, cdv, ct, osl, rfl, lk, hcd⟩ := F.ex
  exact ⟨fun s ws _ hl => match ws, hl with | [_], _ => .of_eq rfl, fun r => r⟩
theorem kw_sector {K : PySem.W.Frag} {mg : Str → Option Value} (D : Df K mg "sector_kind" s_sector_kind ["many"]) : Kw K D.fd ["many"] ["many"] id id := by
  obtain ⟨f, fd, F, g, b⟩ := D
  obtain ⟨oc, od, kV, doc, pm, an, cdv, ct, osl, rfl, lk, hcd⟩ := F.ex
  exact ⟨fun s ws _ hl => match ws, hl with | [_], _ => .of_eq rfl, fun r => r⟩
def sp_clocks (T : List (Addr × Str)) : Sp := fun vs H Q _ => ∃ n : Nat, vs = [.int (n : Nat)] ∧ 0 < n ∧ n ≤ 6 ∧ Tabs T H ∧ ∀ H1, SameL H H1 → Tabs T H1 → Q (.bl true) H1
theorem fr_clk1 : ∀ y ∈ (lamS clkL1).names, y.2 = .free → (defScope s__law_clocks_right).names.lookup y.1 = some .cell ∨ (defScope s__law_clocks_right).names.lookup y.1 = some .free := by decide +kernel
theorem fr_clk2 : ∀ y ∈ (lamS clkL2).names, y.2 = .free → (defScope s__law_clocks_right).names.lookup y.1 = some .cell ∨ (defScope s__law_clocks_right).names.lookup y.1 = some .free := by decide +kernel
theorem in_clk1 : ∀ y ∈ (["many"] : List Str), (y, NameKind.free) ∈ (lamS clkL1).names := by decide +kernel
theorem in_clk2 : ∀ y ∈ (["many"] : List Str), (y, NameKind.free) ∈ (lamS clkL2).names := by decide +kernel
theorem all_clk1 : ∀ y ∈ (lamS clkL1).names, y.2 = .free → y.1 ∈ (["many"] : List Str) := by decide +kernel
theorem all_clk2 : ∀ y ∈ (lamS clkL2).names, y.2 = .free → y.1 ∈ (["many"] : List Str) := by decide +kernel
theorem tri_nats {n : Nat} {t : List Int} (h : triOk n t = true) : ∃ x y z : Nat, t = [(x : Int), (y : Int), (z : Int)] ∧ x < n ∧ y < n ∧ z < n := by
  obtain ⟨x, y, z, rfl, ix, iy, iz⟩ := tri_parts h
  have := ix.1; have := ix.2; have := iy.1; have := iy.2; have := iz.1; have := iz.2
  exact ⟨x.toNat, y.toNat, z.toNat, by simp only [Int.toNat_of_nonneg ix.1, Int.toNat_of_nonneg iy.1, Int.toNat_of_nonneg iz.1], by omega, by omega, by omega⟩
theorem rule_iff {n : Nat} {p : Nat → Nat → Nat → Bool} {q : List Int → Prop} (h : ∀ x y z : Nat, x < n → y < n → z < n → (q [(x : Int), (y : Int), (z : Int)] ↔ p x y z = true)) (t : List Int) : (triOk n t = true ∧ q t) ↔ triOk n t = true ∧ ∃ x y z : Nat, t = [(x : Int), (y : Int), (z : Int)] ∧ p x y z = true := by
  refine and_congr_right fun ok => ?_
  constructor
  · intro hq
    obtain ⟨x, y, z, rfl, lx, ly, lz⟩ := tri_nats ok
    exact ⟨x, y, z, rfl, (h x y z lx ly lz).mp hq⟩
  · rintro ⟨x, y, z, rfl, hp⟩
    obtain ⟨ix, iy, iz⟩ := triOk_iff.mp ok
    have := ix.2; have := iy.2; have := iz.2
    exact (h x y z (by omega) (by omega) (by omega)).mpr hp
theorem clk1_iff {n : Nat} (h0 : 0 < n) (h6 : n ≤ 6) (t : List Int) : t ∈ sumD n ↔ triOk n t = true ∧ ∃ x y z : Nat, t = [(x : Int), (y : Int), (z : Int)] ∧ clkP n x y z = true := by
  refine (sum_mem h0 t).trans (rule_iff (fun x y z lx ly lz => ?_) t)
  show (z : Int) = ((x : Int) + y) % n ↔ decide (V.int (((x : Int) + y - z) % n) = .int 0) = true
  rw [decide_eq_true_eq, V.int.injEq]
  rcases six_cases h0 h6 with rfl | rfl | rfl | rfl | rfl | rfl <;> omega
theorem clk2_iff {n : Nat} (h0 : 0 < n) (h6 : n ≤ 6) (t : List Int) : t ∈ secD n ↔ triOk n t = true ∧ ∃ x y z : Nat, t = [(x : Int), (y : Int), (z : Int)] ∧ clkQ n x y z = true := by
  refine (sec_mem h0 t).trans (rule_iff (fun x y z lx ly lz => ?_) t)
  show ((z : Int) = ((x : Int) + y) % n ∨ (z : Int) = ((x : Int) + y + 1) % n) ↔ inV (.int (((z : Int) + 2 * n - x - y) % n)) [.int 0, .int (1 % (n : Int))] = true
  simp only [inV, List.any_cons, List.any_nil, Bool.or_false, eqV, Bool.or_eq_true, beq_iff_eq]
  rcases six_cases h0 h6 with rfl | rfl | rfl | rfl | rfl | rfl <;> omega
theorem small_row {f : Int → Int} {n : Nat} (h6 : n ≤ 6) (b : ∀ x, In n x → In n (f x)) : ∀ x ∈ rowF f n, x.natAbs < 10 ^ 1 := fun x hx => by
  unfold rowF at hx
  obtain ⟨i, hi, rfl⟩ := List.mem_map.mp hx
  have li := List.mem_range.mp hi
  obtain ⟨h1, h2⟩ := b (i : Int) ⟨by omega, by omega⟩
  show (f i).natAbs < 10
  omega
section
variable {P : Program} {w : World} {K : PySem.W.Frag} {mg : Str → Option Value} {base : Heap}
theorem sc_clocks : FnScope ["many", "same", "sums", "sectors", "x"] ["many"] (defScope s__law_clocks_right) := ⟨rfl, rfl, rfl, by decide +kernel, rfl, by decide +kernel, by decide +kernel⟩
theorem ok_clocks {C CE fK Pt : Addr} {T : List (Addr × Str)} (D : Dc K mg "_law_clocks_right" s__law_clocks_right ["many"]) (TT : Tab base mg T D.c Pt "_law_clocks_right.<locals>.<lambda>")
    (DB : Df K mg "_law_by" s__law_by ["turned", "is_right"]) (DI : Df K mg "_law_is" s__law_is ["made", "kind"]) (DT : Df K mg "_law_triples" s__law_triples ["kind"])
    (DS : Df K mg "sum_kind" s_sum_kind ["many"]) (DE : Df K mg "sector_kind" s_sector_kind ["many"]) (B : Bn mg) (KK : KindK P w K mg base C CE) :
    FnG P w K mg base CX0 11 D.f D.fd ["many"] (sp_clocks T) := by
  obtain ⟨fK, fdK, KC, GK, bK⟩ := KK.ex
  have GB : FnOk P w K mg base CX0 2 DB.f DB.fd ["turned", "is_right"] (sp_law_by P w K mg base) := ok_law_by DB B
  have GI : FnG P w K mg base CX0 2 DI.f DI.fd ["made", "kind"] (sp_law_is K C) := ok_law_is DI DT KC B
  have GS : FnOk P w K mg base (L2N.CX P w) 10 DS.f DS.fd ["many"] (sp_kindN C (fun _ => True) (fun n => rowF (sumF n) n) sumD) := ok_sum_kind DS B KK
  have GE : FnOk P w K mg base (L2N.CX P w) 10 DE.f DE.fd ["many"] (sp_kindN C (fun _ => True) (fun n => rowF (secF n) n) secD) := ok_sector_kind DE B KK
  refine fn_ofGC D.F sc_clocks (fun vs H Q E h => ?_) (fun A outer s H vs Q E hgd hr h => ?_)
  · obtain ⟨n, rfl, _⟩ := h
    rfl
  · obtain ⟨n, rfl, n0, n6, hT, k⟩ := h
    have gn := B.gn
    have nd := sc_clocks.nd
    have hr2 := hr.mono (show 2 ≤ 10 by decide)
    refine ⟨_, pss_cons (ps_set (i := 1) nd rfl (.inl rfl) (pe_listRg rfl rfl (gn _ (by decide)) (prg_1 rfl (gn _ (by decide)) (pv 0))))
      (pss_cons (ps_set (i := 2) nd rfl (.inl rfl) (pe_callPin (fr := ["many"]) (js := [0]) GB hr2 rfl DB.g DB.F.kp DB.b (fun ok => Caps.made ok fr_clk1 in_clk1 rfl) (clo_all all_clk1) (fun _ _ => rfl) (pa_cons
          (pe_lc (own := [("x", 4)]) (g := gName 4) (tt := tYes) (te := tOp (rI (fun _ j => 0 < j) fun i j => .int (i % j)) (tCB (fun xs H Q => (∃ i, xs = [.int i] ∧ Q (.int i) H) ∨ ∃ k, xs = [.bl k] ∧ Q (.int (if k then 1 else 0)) H) (tCons (tOp (rI0 fun i j => .int (i - j)) (tVar 0) (tVar 4)) tNil)) (tVar 0)) rfl nd (pi_list (pv 1)) (blkOk_by (N := ["many", "same", "sums", "sectors", "x"]) (sc := defScope s__law_clocks_right) (by decide +kernel))
            (fun _ _ _ _ _ => pg_name (i := 4) nd rfl (Or.inl rfl)) (fun _ _ _ _ _ => pts_nil) (fun _ _ _ _ _ => pe_op op_mod (pe_callTy call_int1 rfl (gn _ (by decide)) PyProof.Rows.boot_int (pa_cons (pe_op op_sub (pv 0) (pv 4)) pa_nil)) (pv 0)))
          (pa_cons (pe_lam TT.b rfl TT.m TT.u rfl fr_clk1) pa_nil))))
      (pss_cons (ps_set (i := 3) nd rfl (.inl rfl) (pe_callPin (fr := ["many"]) (js := [0]) GB hr2 rfl DB.g DB.F.kp DB.b (fun ok => Caps.made ok fr_clk2 in_clk2 rfl) (clo_all all_clk2) (fun _ _ => rfl) (pa_cons
          (pe_lc (own := [("x", 4)]) (g := gName 4) (tt := tYes) (te := tOp (rI (fun _ j => 0 < j) fun i j => .int (i % j)) (tCB (fun xs H Q => (∃ i, xs = [.int i] ∧ Q (.int i) H) ∨ ∃ k, xs = [.bl k] ∧ Q (.int (if k then 1 else 0)) H) (tCons (tOp (rI0 fun i j => .int (i - j)) (tOp (rI0 fun i j => .int (i - j)) (tOp (rI CMul fun i j => .int (i * j)) (tC (.int 2)) (tVar 0)) (tVar 4)) (tC (.int 1))) tNil)) (tVar 0)) rfl nd (pi_list (pv 1)) (blkOk_by (N := ["many", "same", "sums", "sectors", "x"]) (sc := defScope s__law_clocks_right) (by decide +kernel))
            (fun _ _ _ _ _ => pg_name (i := 4) nd rfl (Or.inl rfl)) (fun _ _ _ _ _ => pts_nil) (fun _ _ _ _ _ => pe_op op_mod (pe_callTy call_int1 rfl (gn _ (by decide)) PyProof.Rows.boot_int (pa_cons (pe_op op_sub (pe_op op_sub (pe_op op_mul pe_int (pv 0)) (pv 4)) pe_int) pa_nil)) (pv 0)))
          (pa_cons (pe_lam TT.b rfl TT.m TT.u rfl fr_clk2) pa_nil))))
      (pss_one (ps_ret (pe_and (pe_callG GI hgd hr2 rfl DI.g DI.F.kp DI.b pass0 (pa_cons (pe_callKS (E := fun _ _ _ _ => False) GS hr rfl DS.g DS.F.kp (kw_sum DS) passFN (pk_cons (pv 0) pk_nil)) (pa_cons (pv 2) pa_nil)))
        (pe_one (pe_callG GI hgd hr2 rfl DI.g DI.F.kp DI.b pass0 (pa_cons (pe_callKS (E := fun _ _ _ _ => False) GE hr rfl DE.g DE.F.kp (kw_sector DE) passFN (pk_cons (pv 0) pk_nil)) (pa_cons (pv 3) pa_nil))))))))), ?_⟩
    have z3 : 1000 ≤ sizeLine := by decide
    have lU : ((upN n).map V.int).length = n := by rw [List.length_map, upN_len]
    have lR : ∀ (f : Int → Int) (i : Nat), ((rowF f i).map V.int).length = i := fun f i => by rw [List.length_map, rowF_len]
    refine ⟨_, rfl, n, rfl, RgOk.of_le (by omega) (by omega) (by omega) (by omega), fun m nm => ?_⟩
    rw [rgV0]
    have s1 := same1 (o := .lst ((upN n).map V.int)) nm
    have hm : (upd H m (.lst ((upN n).map V.int))) m = some (.lst ((upN n).map V.int)) := upd_same
    have T1 := hT.ext s1
    have L1 := SameL.of s1
    generalize upd H m (.lst ((upN n).map V.int)) = H1 at T1 hm L1 ⊢
    clear s1 nm
    refine ⟨[.int (n : Nat)], rfl, _, rfl, m, rfl, ⟨_, .of hm⟩, fun D nD => lc_list (K := K) (a := m) (xs := (upN n).map V.int) (fun i H2 => Same H1 H2 ∧ H2 D = some (.lst ((rowF (sumF n) i).map V.int))) ⟨same1 nD, upd_same⟩ (fun i H2 _ a => .of (a.1 _ _ hm)) (fun i x H2 hx a => ?_) (fun H2 a => ?_)⟩
    · obtain ⟨li, rfl⟩ := upV_at hx
      refine ⟨rfl, _, rfl, _, rfl, _, _, rfl, rfl, .inl ⟨_, rfl, _, rfl, _, n, rfl, rfl, by omega, _, a.2, by rw [lR]; omega, sPut a.1 nD, ?_⟩⟩
      rw [upd_same, rowF_succ, List.map_append]
      rfl
    · rw [lU] at a
      obtain ⟨s2, hD⟩ := a
      refine ⟨T1.ext s2, fun f c1 H3 eN nn T3 nf hf hc H4 pc sm no => ?_⟩
      have p34 : Same H3 H4 := fun b o e => by rw [sm b fun z => by rw [no b z] at e; cases e]; exact e
      have fv : FunV P w K mg base 1 f (spR n (clkP n)) H4 := funV_of (p34 _ _ hf) (p34 _ _ hc) pc (lok_clk1 B n0 ⟨rfl, rfl, rfl⟩) (fun _ _ => trivial)
      refine ⟨D, f, rowF (sumF n) n, clkP n, rfl, p34 _ _ (eN _ _ hD fun ps z => by cases z), by rw [rowF_len]; exact n6, by rw [rowF_len]; exact fv, fun t l tb H5 s5 ht hl htb => ?_⟩
      have k1 : LawK K (off _ H5) t (rowF (sumF n) n) (lotF n (clkP n)) := LawK.sameL ⟨l, tb, ht, hl, by rw [rowF_len] at htb ⊢; exact htb⟩ (off_L pc s5)
      have s6 := off_same s5 sm no
      have L6 := (L1.tr (.of s2)).tr ((SameL.ext eN).tr (.of s6))
      have T6 := T3.ext s6
      have hm6 := s6 _ _ (eN _ _ (s2 _ _ hm) fun ps z => by cases z)
      dsimp only
      generalize hE : off (cloFrom _ (lamS clkL1).names []) H5 = H6
      have k1 : LawK K H6 t (rowF (sumF n) n) (lotF n (clkP n)) := by rw [← hE]; exact k1
      have L6 : SameL H H6 := by rw [← hE]; exact L6
      have T6 : Tabs T H6 := by rw [← hE]; exact T6
      have hm6 : H6 m = some (.lst ((upN n).map V.int)) := by rw [← hE]; exact hm6
      clear hE s6 s5 ht hl htb fv p34 sm no pc hf hc nf T3 nn eN hD s2 T1 L1 hm nD
      refine ⟨[.int (n : Nat)], rfl, _, rfl, m, rfl, ⟨_, .of hm6⟩, fun D nD => lc_list (K := K) (a := m) (xs := (upN n).map V.int) (fun i H2 => Same H6 H2 ∧ H2 D = some (.lst ((rowF (secF n) i).map V.int))) ⟨same1 nD, upd_same⟩ (fun i H2 _ a => .of (a.1 _ _ hm6)) (fun i x H2 hx a => ?_) (fun H2 a => ?_)⟩
      · obtain ⟨li, rfl⟩ := upV_at hx
        refine ⟨rfl, _, rfl, _, _, rfl, rfl, .inl ⟨by decide, by decide⟩, _, rfl, _, _, rfl, rfl, _, _, rfl, rfl, .inl ⟨_, rfl, _, rfl, _, n, rfl, rfl, by omega, _, a.2, by rw [lR]; omega, sPut a.1 nD, ?_⟩⟩
        have e : ((2 * (n : Int) - i - 1) % n) = secF n i := by
          unfold secF
          rw [show (2 * (n : Int) - i - 1) = ((n : Int) - 1 - i) + n from by omega, Int.add_emod_right]
          exact Int.emod_eq_of_lt (by omega) (by omega)
        rw [upd_same, rowF_succ, List.map_append, ← e]
        rfl
      · rw [lU] at a
        obtain ⟨s2, hD⟩ := a
        refine ⟨T6.ext s2, fun f c1 H3 eN nn T3 nf hf hc H4 pc sm no => ?_⟩
        have p34 : Same H3 H4 := fun b o e => by rw [sm b fun z => by rw [no b z] at e; cases e]; exact e
        have fv : FunV P w K mg base 1 f (spR n (clkQ n)) H4 := funV_of (p34 _ _ hf) (p34 _ _ hc) pc (lok_clk2 B n0 ⟨rfl, rfl, rfl⟩) (fun _ _ => trivial)
        refine ⟨D, f, rowF (secF n) n, clkQ n, rfl, p34 _ _ (eN _ _ hD fun ps z => by cases z), by rw [rowF_len]; exact n6, by rw [rowF_len]; exact fv, fun t2 l tb H5 s5 ht hl htb => ?_⟩
        have k2 : LawK K (off _ H5) t2 (rowF (secF n) n) (lotF n (clkQ n)) := LawK.sameL ⟨l, tb, ht, hl, by rw [rowF_len] at htb ⊢; exact htb⟩ (off_L pc s5)
        have s7 := off_same s5 sm no
        have L7 := (SameL.of s2).tr ((SameL.ext eN).tr (.of s7))
        have T7 := T3.ext s7
        dsimp only
        generalize hE : off (cloFrom _ (lamS clkL2).names []) H5 = H7
        have k2 : LawK K H7 t2 (rowF (secF n) n) (lotF n (clkQ n)) := by rw [← hE]; exact k2
        have L7 : SameL H6 H7 := by rw [← hE]; exact L7
        have T7 : Tabs T H7 := by rw [← hE]; exact T7
        clear hE s7 s5 ht hl htb fv p34 sm no pc hf hc nf T3 nn eN hD s2 nD
        have k1 := k1.sameL L7
        have L8 := L6.tr L7
        refine ⟨_, rfl, n, rfl, n0, n6, trivial, fun x U H8 s8 as8 ka8 => ⟨_, rfl, ?_⟩⟩
        rw [asc_rule as8 (clk1_iff n0 n6)] at ka8
        refine ⟨x, t, rowF (sumF n) n, lotF n (clkP n), rfl, by rw [rowF_len]; exact ka8, k1.same s8, by rw [rowF_len]; exact n6, small_row n6 fun x ix => ⟨Int.emod_nonneg _ (by omega), Int.emod_lt_of_pos _ (by omega)⟩, lotF_smal n6, fun H9 s9 => ⟨true, rfl, iteT ?_⟩⟩
        refine ⟨_, rfl, n, rfl, n0, n6, trivial, fun x U H10 s10 as10 ka10 => ⟨_, rfl, ?_⟩⟩
        rw [asc_rule as10 (clk2_iff n0 n6)] at ka10
        have s11 := sTr s8 (sTr s9 s10)
        refine ⟨x, t2, rowF (secF n) n, lotF n (clkQ n), rfl, by rw [rowF_len]; exact ka10, k2.same s11, by rw [rowF_len]; exact n6, small_row n6 fun x ix => ?_, lotF_smal n6, fun H12 s12 => k _ (L8.tr (.of (sTr s11 s12))) (T7.ext (sTr s11 s12))⟩
        unfold secF
        have := ix.1
        have := ix.2
        exact ⟨by omega, by omega⟩
end
end RD
set_option maxRecDepth 100000
set_option maxHeartbeats 4000000
/-! The draws of a script: the same in every law. -/
namespace RD
open PySem PySem.Spec PyProof.Rows L2 Rd
theorem sm1 {H : Hp} {l : Addr} {o : HO} (n : H l = none) : Same H (upd H l o) := smu (same0 H) n
/-- at d stands a source of draws, its great cells at b -/
def Deal (H : Hp) (d b : Addr) : Prop := ∃ (blend : Int) (ms : List Int), H d = some (.lst [.ref b, .int blend]) ∧ H b = some (.lst (ms.map V.int)) ∧ (∀ m ∈ ms, 0 ≤ m) ∧ ms.length ≤ 1000 ∧ 0 ≤ blend ∧ blend < 2147483647 ∧ b ≠ d
/-- all that stood, but at two places -/
def SameX (d b : Addr) (H H1 : Hp) : Prop := ∀ c o, H c = some o → c ≠ d → c ≠ b → H1 c = some o
theorem SameX.of {d b : Addr} {H H1 : Hp} (s : Same H H1) : SameX d b H H1 := fun c o e _ _ => s c o e
theorem SameX.tr {d b : Addr} {H H1 H2 : Hp} (s : SameX d b H H1) (t : SameX d b H1 H2) : SameX d b H H2 := fun c o e n m => t c o (s c o e n m) n m
theorem SameX.put {d b : Addr} {H H1 : Hp} {o : HO} (s : SameX d b H H1) : SameX d b H (upd H1 d o) := fun c u e n m => by rw [upd_ne n]; exact s c u e n m
theorem SameX.put2 {d b : Addr} {H H1 : Hp} {o : HO} (s : SameX d b H H1) : SameX d b H (upd H1 b o) := fun c u e n m => by rw [upd_ne m]; exact s c u e n m
theorem Deal.same {H H1 : Hp} {d b : Addr} (D : Deal H d b) (s : Same H H1) : Deal H1 d b := by
  obtain ⟨bl, ms, h1, h2, h3⟩ := D
  exact ⟨bl, ms, s _ _ h1, s _ _ h2, h3⟩
/-- a while: where it stops, and where it goes on -/
theorem while_st {c : TT} {tb : TS} {D : Ends} {σ : L2.St} {H : Hp} (I : Nat → L2.St → Hp → Prop) (Go : Nat → L2.St → Hp → Prop) (Stop : L2.St → Hp → Prop) (h0 : ∃ m, I m σ H)
    (step : ∀ m σ H, I m σ H → ∀ G : Bool → Hp → Prop, (∀ H1, Stop σ H1 → G false H1) → (∀ H1, Go m σ H1 → G true H1) → c σ H G)
    (body : ∀ m σ H, Go m σ H → tb { D with nx := fun σ' H' => ∃ m', m' < m ∧ I m' σ' H', ct := fun σ' H' => ∃ m', m' < m ∧ I m' σ' H', bk := D.nx } σ H)
    (done : ∀ σ H, Stop σ H → D.nx σ H) : tWhile c tb D σ H :=
  ⟨I, h0, fun m σ H i => step m σ H i _ (fun H1 s => by rw [if_neg (by decide)]; exact done σ H1 s) fun H1 g => by
    rw [if_pos rfl]
    exact ⟨_, fun _ _ z => z, body m σ H1 g⟩⟩
theorem dp_ints {K : PySem.W.Frag} {H : Hp} {a : Addr} {ms : List Int} (h : SqL K H a (ms.map V.int)) : Dp K H (.ref a) (.list (ms.map PyData.int)) := by
  refine .lst h ?_
  clear h
  induction ms with
  | nil => exact .nil
  | cons m ms ih => exact .cons (.int m) ih
theorem shaped_ints (ms : List Int) : SeqAt.shaped (.list (ms.map PyData.int)) = true := by
  have h1 : PyData.canLayAll0 (ms.map PyData.int) = true := by
    induction ms with
    | nil => rfl
    | cons m ms ih => simp [PyData.canLayAll0, PyData.canLay0, ih]
  have h2 : ∀ ms : List Int, PyData.depthAll (ms.map PyData.int) ≤ 1 := by
    intro ms
    induction ms with
    | nil => exact Nat.zero_le _
    | cons m ms ih => simp [PyData.depthAll, PyData.depth]; omega
  unfold SeqAt.shaped
  simp [PyData.canLay0, h1, PyData.depth]
  have := h2 ms
  omega
end RD
set_option maxRecDepth 100000
set_option maxHeartbeats 4000000
namespace RD
open PySem PySem.Spec PyProof.Rows L2 Rd
theorem eqv_nil (ms : List Int) : PyData.eqv (.list (ms.map PyData.int)) (.list []) = decide (ms = []) := by
  cases ms with
  | nil => rfl
  | cons m ms => simp [PyData.eqv, PyData.eqvAll]
theorem last_or {α : Type} (ms : List α) : ms = [] ∨ ∃ xs x, ms = xs ++ [x] := by
  induction ms with
  | nil => exact .inl rfl
  | cons m ms ih =>
    rcases ih with rfl | ⟨xs, x, rfl⟩
    · exact .inr ⟨[], m, rfl⟩
    · exact .inr ⟨m :: xs, x, rfl⟩
/-- a draw -/
def sp_law_any : Sp := fun vs H Q _ => ∃ d b n, vs = [.ref d, .int n] ∧ Deal H d b ∧ 0 < n ∧ n ≤ 1000000 ∧ ∀ r H1, 0 ≤ r → r < n → Deal H1 d b → SameX d b H H1 → Q (.int r) H1
section
variable {P : Program} {w : World} {K : PySem.W.Frag} {mg : Str → Option Value} {base : Heap}
theorem sc_law_any : FnScope ["deal", "bound", "rest"] ["deal", "bound"] (defScope s__law_any) := ⟨rfl, rfl, rfl, by decide +kernel, rfl, by decide +kernel, by decide +kernel⟩
theorem ok_law_any (D : Df K mg "_law_any" s__law_any ["deal", "bound"]) (B : Bn mg) : FnOk P w K mg base CX0 1 D.f D.fd ["deal", "bound"] sp_law_any := by
  refine D.F.ok sc_law_any (fun vs H Q E h => ?_) (fun cdv A outer s H vs Q E hr h => ?_)
  · obtain ⟨d, b, n, rfl, _⟩ := h
    rfl
  · obtain ⟨d, b, n, rfl, dl, n0, nM, k⟩ := h
    have gn := B.gn
    have nd := sc_law_any.nd
    refine ⟨_, pss_cons (ps_while PassesOwn.never (PW.pt (pw_and (pt_cmpR (op_neD hr.units) (pe_ix ix_list (pv 0) pe_int (fun _ _ => rfl)) (pe_lst pa_nil) rfl) (pw_and1 (pt_cmpR op_eq (pe_ix ix_list (pe_ix ix_list (pv 0) pe_int (fun _ _ => rfl)) (pe_un un_neg pe_int) (fun _ _ => rfl)) pe_int (nomark _)))))
        (pss_one (ps_expr (pe_bm0 PySem.F.plainAttrs_list PySem.F.slot_list_pop PySem.F.type_list_pop mt_pop (pe_ix ix_list (pv 0) pe_int (fun _ _ => rfl))))))
      (pss_cons (ps_if (pt_cmpR (op_neD hr.units) (pe_ix ix_list (pv 0) pe_int (fun _ _ => rfl)) (pe_lst pa_nil) rfl)
        (pss_cons (ps_set (i := 2) nd rfl (.inl rfl) (pe_callTy call_int1 rfl (gn _ (by decide)) PyProof.Rows.boot_int (pa_cons (pe_bm0 PySem.F.plainAttrs_list PySem.F.slot_list_pop PySem.F.type_list_pop mt_pop (pe_ix ix_list (pv 0) pe_int (fun _ _ => rfl))) pa_nil)))
        (pss_cons (ps_expr (pe_bm PySem.F.plainAttrs_list PySem.F.slot_list_append PySem.F.type_list_append mt_append (pe_ix ix_list (pv 0) pe_int (fun _ _ => rfl)) (pa_cons (pe_op op_fdiv (pv 2) (pv 1)) pa_nil)))
        (pss_one (ps_ret (pe_op op_mod (pv 2) (pv 1)))))) pss_nil)
      (pss_cons (ps_asg (pe_op op_mod (pe_callTy call_int1 rfl (gn _ (by decide)) PyProof.Rows.boot_int (pa_cons (pe_op op_add (pe_op op_mul (pe_ix ix_list (pv 0) pe_int (fun _ _ => rfl)) pe_int) pe_int) pa_nil)) pe_int) (pg_sub (pv 0) pe_int set_list))
      (pss_one (ps_ret (pe_op op_mod (pe_callTy call_int1 rfl (gn _ (by decide)) PyProof.Rows.boot_int (pa_cons (pe_op op_fdiv (pe_ix ix_list (pv 0) pe_int (fun _ _ => rfl)) pe_int) pa_nil)) (pv 1)))))), ?_⟩
    obtain ⟨bl0, ms0, hd0, hb0, p0, l0, b01, b02, ne⟩ := dl
    have zl : 1000 < sizeLine := by decide
    let Dl (H1 : Hp) (bl : Int) (ms : List Int) : Prop := H1 d = some (.lst [.ref b, .int bl]) ∧ H1 b = some (.lst (ms.map V.int)) ∧ (∀ m ∈ ms, 0 ≤ m) ∧ ms.length ≤ 1000 ∧ 0 ≤ bl ∧ bl < 2147483647
    refine while_st (fun m σ H1 => (∃ o, σ = [some (.ref d), some (.int n), o]) ∧ SameX d b H H1 ∧ ∃ bl ms, ms.length = m ∧ Dl H1 bl ms)
      (fun m σ H1 => (∃ o, σ = [some (.ref d), some (.int n), o]) ∧ SameX d b H H1 ∧ ∃ bl xs x, xs.length < m ∧ Dl H1 bl (xs ++ [x]))
      (fun σ H1 => (∃ o, σ = [some (.ref d), some (.int n), o]) ∧ SameX d b H H1 ∧ ∃ bl ms, Dl H1 bl ms) ⟨_, ⟨_, rfl⟩, .of (same0 H), bl0, ms0, rfl, hd0, hb0, p0, l0, b01, b02⟩ (fun m σ H1 h G g0 g1 => ?_) (fun m σ H1 h => ?_) (fun σ H1 h => ?_)
    · obtain ⟨⟨o, rfl⟩, sx, bl, ms, lm, hd, hb, pos, le, b1, b2⟩ := h
      refine ⟨_, rfl, d, _, _, _, rfl, rfl, .of hd, rfl, Nat.zero_le _, fun l nl => ⟨_, _, dp_ints (ms := ms) (.of (sm1 nl _ _ hb)), .lst (.of upd_same) .nil, shaped_ints ms, shaped_ints [], ?_⟩⟩
      have s1 := sm1 (o := .lst []) nl
      have hd1 := s1 _ _ hd
      have hb1 := s1 _ _ hb
      have sx1 := sx.tr (.of s1)
      generalize upd H1 l (.lst []) = H2 at hd1 hb1 sx1 ⊢
      refine ⟨_, rfl, ?_⟩
      rw [eqv_nil]
      rcases last_or ms with rfl | ⟨xs, x, rfl⟩
      · exact iteF (g0 _ ⟨⟨_, rfl⟩, sx1, bl, [], hd1, hb1, pos, le, b1, b2⟩)
      · rw [show decide (xs ++ [x] = []) = false from by simp]
        have at1 : atI (List.map V.int (xs ++ [x])) (-1) = some (V.int x) := by
          rw [List.map_append]
          exact atI_last _ _
        refine iteT ⟨_, rfl, d, _, _, _, rfl, rfl, .of hd1, rfl, 1, rfl, b, _, _, _, rfl, rfl, .of hb1, at1, rfl, _, rfl, ?_⟩
        cases decide (V.int x = V.int 0) with
        | false => exact g0 _ ⟨⟨_, rfl⟩, sx1, bl, _, hd1, hb1, pos, le, b1, b2⟩
        | true => exact g1 _ ⟨⟨_, rfl⟩, sx1, bl, xs, x, by rw [← lm]; simp, hd1, hb1, pos, le, b1, b2⟩
    · obtain ⟨⟨o, rfl⟩, sx, bl, xs, x, lm, hd, hb, pos, le, b1, b2⟩ := h
      have e1 : (List.map V.int (xs ++ [x]))[(List.map V.int (xs ++ [x])).length - 1]? = some (V.int x) := by simp
      have e2 : (List.map V.int (xs ++ [x])).dropLast = xs.map V.int := by simp
      refine ⟨_, rfl, d, _, _, _, rfl, rfl, .of hd, rfl, .inl ⟨rfl, _, .of hb⟩, b, _, _, rfl, rfl, hb, e1, ?_⟩
      rw [e2]
      rw [List.length_append] at le
      exact ⟨xs.length, lm, ⟨_, rfl⟩, sx.put2, bl, xs, rfl, by rw [upd_ne (Ne.symm ne)]; exact hd, upd_same, fun m hm => pos m (List.mem_append_left _ hm), by omega, b1, b2⟩
    · obtain ⟨⟨o, rfl⟩, sx, bl, ms, hd, hb, pos, le, b1, b2⟩ := h
      refine ⟨_, rfl, d, _, _, _, rfl, rfl, .of hd, rfl, Nat.zero_le _, fun l nl => ⟨_, _, dp_ints (ms := ms) (.of (sm1 nl _ _ hb)), .lst (.of upd_same) .nil, shaped_ints ms, shaped_ints [], ?_⟩⟩
      have s1 := sm1 (o := .lst []) nl
      have hd1 := s1 _ _ hd
      have hb1 := s1 _ _ hb
      have sx1 := sx.tr (.of s1)
      generalize upd H1 l (.lst []) = H2 at hd1 hb1 sx1 ⊢
      refine ⟨_, rfl, ?_⟩
      rw [eqv_nil]
      rcases last_or ms with rfl | ⟨xs, x, rfl⟩
      · refine iteF ?_
        have md : (0 : Int) < 2147483647 := by decide
        refine ⟨_, rfl, d, _, _, _, rfl, rfl, .of hd1, rfl, bl, 40693, rfl, rfl, .inr ⟨by decide, by decide⟩, _, _, rfl, rfl, .inl ⟨_, rfl, _, _, rfl, rfl, md, _, rfl, d, _, 1, 1, rfl, rfl, hd1, rfl, ?_⟩⟩
        have v0 := Int.emod_nonneg (bl * 40693 + 71) (b := 2147483647) (by decide)
        have v1 := Int.emod_lt_of_pos (bl * 40693 + 71) md
        refine ⟨_, rfl, d, _, 1, _, rfl, rfl, .of upd_same, rfl, (bl * 40693 + 71) % 2147483647, 64, rfl, rfl, ⟨by decide, by decide⟩, .inl ⟨_, rfl, _, rfl, _, n, rfl, rfl, n0, ?_⟩⟩
        exact k _ _ (Int.emod_nonneg _ (by omega)) (Int.emod_lt_of_pos _ n0) ⟨(bl * 40693 + 71) % 2147483647, [], upd_same, by rw [upd_ne ne]; exact hb1, pos, le, v0, v1, ne⟩ sx1.put
      · rw [show decide (xs ++ [x] = []) = false from by simp]
        have e1 : (List.map V.int (xs ++ [x]))[(List.map V.int (xs ++ [x])).length - 1]? = some (V.int x) := by simp
        have e2 : (List.map V.int (xs ++ [x])).dropLast = xs.map V.int := by simp
        rw [List.length_append, List.length_singleton] at le
        refine iteT ⟨_, rfl, d, _, _, _, rfl, rfl, .of hd1, rfl, .inl ⟨rfl, _, .of hb1⟩, b, _, _, rfl, rfl, hb1, e1, .inl ⟨x, rfl, ?_⟩⟩
        rw [e2]
        have hd2 : (upd H2 b (.lst (xs.map V.int))) d = some (.lst [.ref b, .int bl]) := by rw [upd_ne (Ne.symm ne)]; exact hd1
        refine ⟨_, rfl, d, _, _, _, rfl, rfl, .of hd2, rfl, .inl ⟨rfl, _, .of upd_same⟩, _, rfl, _, rfl, x, n, rfl, rfl, ⟨n0, by omega⟩, b, _, _, rfl, rfl, upd_same, by rw [List.length_map]; omega, ?_⟩
        have x0 := pos x (by simp)
        have q0 : 0 ≤ x / n := Int.ediv_nonneg x0 (by omega)
        refine ⟨_, rfl, _, rfl, x, n, rfl, rfl, n0, k _ _ (Int.emod_nonneg _ (by omega)) (Int.emod_lt_of_pos _ n0) ⟨bl, xs ++ [x / n], by rw [upd_ne (Ne.symm ne)]; exact hd2, by rw [upd_same]; simp, fun m hm => ?_, by simp; omega, b1, b2, ne⟩ sx1.put2.put2⟩
        rcases List.mem_append.mp hm with z | z
        · exact pos m (List.mem_append_left _ z)
        · rw [List.mem_singleton.mp z]
          exact q0
end
end RD
set_option maxRecDepth 100000
set_option maxHeartbeats 4000000
namespace RD
open PySem PySem.Spec PyProof.Rows L2 Rd
/-- one of some things -/
def sp_law_of (K : PySem.W.Frag) : Sp := fun vs H Q _ => ∃ d b a xs, vs = [.ref d, .ref a] ∧ Deal H d b ∧ SqA K H a xs ∧ a ≠ d ∧ a ≠ b ∧ xs ≠ [] ∧ xs.length ≤ 1000000 ∧ ∀ (j : Nat) v H1, xs[j]? = some v → Deal H1 d b → SameX d b H H1 → Q v H1
/-- numbers in another order -/
def sp_law_mixed (K : PySem.W.Frag) : Sp := fun vs H Q _ => ∃ d b a, ∃ ns : List Int, vs = [.ref d, .ref a] ∧ Deal H d b ∧ SqA K H a (List.map V.int ns) ∧ a ≠ d ∧ a ≠ b ∧ ns.length ≤ 1000 ∧ ∀ f (ms : List Int) H1, ms.Perm ns → H f = none → H1 f = some (.lst (ms.map V.int)) → Deal H1 d b → SameX d b H H1 → Q (.ref f) H1
theorem SqA.sameX {K : PySem.W.Frag} {H H1 : Hp} {d b a : Addr} {xs : List V} (h : SqA K H a xs) (s : SameX d b H H1) (n : a ≠ d) (m : a ≠ b) : SqA K H1 a xs := h.imp (fun e => s _ _ e n m) fun e => s _ _ e n m
theorem seqIx {n : Nat} {r : Int} (h0 : 0 ≤ r) (h1 : r < n) : seqIndex? r n = some r.toNat := by
  have e : ixN n r = some r.toNat := by
    unfold ixN
    rw [if_pos h0, if_pos h1]
  exact (ixN_seq e).1
theorem erase_map {α β : Type} (f : α → β) : ∀ (l : List α) (i : Nat), (l.map f).eraseIdx i = (l.eraseIdx i).map f
  | [], _ => rfl
  | x :: l, 0 => rfl
  | x :: l, i + 1 => by simp [erase_map f l i]
theorem erase_perm {α : Type} : ∀ (l : List α) (i : Nat) (h : i < l.length), (l[i] :: l.eraseIdx i).Perm l
  | [], i, h => absurd h (by simp)
  | x :: l, 0, _ => by simp
  | x :: l, i + 1, h => by
    simp only [List.getElem_cons_succ, List.eraseIdx_cons_succ]
    exact (List.Perm.swap _ _ _).trans (List.Perm.cons x (erase_perm l i (by simpa using h)))
theorem Deal.put {H : Hp} {d b p : Addr} {o : HO} (D : Deal H d b) (n : p ≠ d) (m : p ≠ b) : Deal (upd H p o) d b := by
  obtain ⟨bl, ms, h1, h2, h3⟩ := D
  exact ⟨bl, ms, by rw [upd_ne (Ne.symm n)]; exact h1, by rw [upd_ne (Ne.symm m)]; exact h2, h3⟩
section
variable {P : Program} {w : World} {K : PySem.W.Frag} {mg : Str → Option Value} {base : Heap}
theorem sc_law_of : FnScope ["deal", "some"] ["deal", "some"] (defScope s__law_of) := ⟨rfl, rfl, rfl, by decide +kernel, rfl, by decide +kernel, by decide +kernel⟩
theorem ok_law_of (D : Df K mg "_law_of" s__law_of ["deal", "some"]) (DA : Df K mg "_law_any" s__law_any ["deal", "bound"]) (B : Bn mg) : FnOk P w K mg base CX0 2 D.f D.fd ["deal", "some"] (sp_law_of K) := by
  have GA : FnOk P w K mg base CX0 1 DA.f DA.fd ["deal", "bound"] sp_law_any := ok_law_any DA B
  refine D.F.ok sc_law_of (fun vs H Q E h => ?_) (fun cdv A outer s H vs Q E hr h => ?_)
  · obtain ⟨d, b, a, xs, rfl, _⟩ := h
    rfl
  · obtain ⟨d, b, a, xs, rfl, dl, ha, nd1, nb, ne, le, k⟩ := h
    have gn := B.gn
    have nd := sc_law_of.nd
    refine ⟨_, pss_one (ps_ret (pe_ix ix_seq (pv 1) (pe_call GA hr rfl DA.g DA.F.kp DA.b .nil pass0 (pa_cons (pv 0) (pa_cons (pe_callB call_len_seq rfl (gn _ (by decide)) PySem.boot_len (pa_cons (pv 1) pa_nil)) pa_nil))) (fun _ _ => rfl))), ?_⟩
    have l0 : 0 < xs.length := List.length_pos_iff.mpr ne
    refine ⟨_, rfl, _, rfl, _, rfl, a, _, rfl, ha.sq, d, b, _, rfl, dl, by omega, by omega, fun r H1 r0 r1 dl1 s1 => ?_⟩
    have e : xs[r.toNat]? = some xs[r.toNat] := List.getElem?_eq_getElem (by omega)
    have z := ixA (K := K) (v := xs[r.toNat]) (Q := Q) (ha.sameX s1 nd1 nb) e (k _ _ _ e dl1 s1)
    rw [show ((r.toNat : Nat) : Int) = r from by omega] at z
    exact z
theorem sc_law_mixed : FnScope ["deal", "some", "left", "found"] ["deal", "some"] (defScope s__law_mixed) := ⟨rfl, rfl, rfl, by decide +kernel, rfl, by decide +kernel, by decide +kernel⟩
theorem ok_law_mixed (D : Df K mg "_law_mixed" s__law_mixed ["deal", "some"]) (DA : Df K mg "_law_any" s__law_any ["deal", "bound"]) (B : Bn mg) : FnOk P w K mg base CX0 2 D.f D.fd ["deal", "some"] (sp_law_mixed K) := by
  have GA : FnOk P w K mg base CX0 1 DA.f DA.fd ["deal", "bound"] sp_law_any := ok_law_any DA B
  refine D.F.ok sc_law_mixed (fun vs H Q E h => ?_) (fun cdv A outer s H vs Q E hr h => ?_)
  · obtain ⟨d, b, a, xs, rfl, _⟩ := h
    rfl
  · obtain ⟨d, b, a, ns, rfl, dl, ha, nd1, nb, le, k⟩ := h
    have gn := B.gn
    have nd := sc_law_mixed.nd
    refine ⟨_, pss_cons (ps_par (i := 2) (j := 3) rfl nd rfl rfl (by decide) rfl rfl (pa_cons (pe_callTy call_list_of rfl (gn _ (by decide)) PyProof.Rows.boot_list (pa_cons (pv 1) pa_nil)) (pa_cons (pe_lst pa_nil) pa_nil)) (by rfl))
      (pss_cons (ps_while PassesOwn.never (pt_cmpR (op_neD hr.units) (pv 2) (pe_lst pa_nil) rfl)
        (pss_one (ps_expr (pe_bm PySem.F.plainAttrs_list PySem.F.slot_list_append PySem.F.type_list_append mt_append (pv 3) (pa_cons
          (pe_bm PySem.F.plainAttrs_list PySem.F.slot_list_pop PySem.F.type_list_pop mt_popAt (pv 2) (pa_cons (pe_call GA hr rfl DA.g DA.F.kp DA.b .nil pass0 (pa_cons (pv 0) (pa_cons (pe_callB call_len_seq rfl (gn _ (by decide)) PySem.boot_len (pa_cons (pv 2) pa_nil)) pa_nil))) pa_nil)) pa_nil)))))
      (pss_one (ps_ret (pv 3)))), ?_⟩
    have zl : 1000 < sizeLine := by decide
    refine ⟨_, rfl, a, _, rfl, ha.sq, fun l nl => ⟨Nat.zero_le _, fun f nf => ⟨_, _, rfl, ?_⟩⟩⟩
    have dl0 := dl
    obtain ⟨bl0, ms0, hd0, hb0, _, _, _, _, neb⟩ := dl
    have nlf : l ≠ f := fun z => by
      rw [← z, upd_same] at nf
      cases nf
    have nH : H f = none := by
      rw [upd_ne (Ne.symm nlf)] at nf
      exact nf
    have s0 := smu (o := .lst []) (sm1 (o := .lst (ns.map V.int)) nl) nf
    have ld : l ≠ d := fun z => by rw [z, hd0] at nl; cases nl
    have lb : l ≠ b := fun z => by rw [z, hb0] at nl; cases nl
    have fd : f ≠ d := fun z => by rw [z, hd0] at nH; cases nH
    have fb : f ≠ b := fun z => by rw [z, hb0] at nH; cases nH
    refine while_st (fun m σ H1 => σ = [some (.ref d), some (.ref a), some (.ref l), some (.ref f)] ∧ SameX d b H H1 ∧ Deal H1 d b ∧ ∃ ms us : List Int, ms.length = m ∧ (us ++ ms).Perm ns ∧ H1 l = some (.lst (ms.map V.int)) ∧ H1 f = some (.lst (us.map V.int)))
      (fun m σ H1 => σ = [some (.ref d), some (.ref a), some (.ref l), some (.ref f)] ∧ SameX d b H H1 ∧ Deal H1 d b ∧ ∃ ms us : List Int, ms ≠ [] ∧ ms.length = m ∧ (us ++ ms).Perm ns ∧ H1 l = some (.lst (ms.map V.int)) ∧ H1 f = some (.lst (us.map V.int)))
      (fun σ H1 => σ = [some (.ref d), some (.ref a), some (.ref l), some (.ref f)] ∧ SameX d b H H1 ∧ Deal H1 d b ∧ ∃ us : List Int, us.Perm ns ∧ H1 f = some (.lst (us.map V.int)))
      ⟨_, rfl, .of s0, dl0.same s0, ns, [], rfl, .refl _, by rw [upd_ne nlf]; exact upd_same, upd_same⟩ (fun m σ H1 h G g0 g1 => ?_) (fun m σ H1 h => ?_) (fun σ H1 h => ?_)
    · obtain ⟨rfl, sx, dl1, ms, us, lm, pm, hl, hf⟩ := h
      refine ⟨_, rfl, Nat.zero_le _, fun p np => ⟨_, _, dp_ints (ms := ms) (.of (sm1 np _ _ hl)), .lst (.of upd_same) .nil, shaped_ints ms, shaped_ints [], ?_⟩⟩
      have s1 := sm1 (o := .lst []) np
      refine ⟨_, rfl, ?_⟩
      rw [eqv_nil]
      by_cases e : ms = []
      · subst e
        exact g0 _ ⟨rfl, sx.tr (.of s1), dl1.same s1, us, by rw [List.append_nil] at pm; exact pm, s1 _ _ hf⟩
      · rw [decide_eq_false e]
        exact g1 _ ⟨rfl, sx.tr (.of s1), dl1.same s1, ms, us, e, lm, pm, s1 _ _ hl, s1 _ _ hf⟩
    · obtain ⟨rfl, sx, dl1, ms, us, ne, lm, pm, hl, hf⟩ := h
      have l0 : 0 < ms.length := List.length_pos_iff.mpr ne
      have pl := pm.length_eq
      rw [List.length_append] at pl
      refine ⟨_, rfl, .inl ⟨rfl, _, .of hf⟩, _, rfl, .inl ⟨rfl, _, .of hl⟩, _, rfl, _, rfl, l, _, rfl, .inl (.of hl), d, b, _, rfl, dl1, by rw [List.length_map]; omega, by rw [List.length_map]; omega, fun r H2 r0 r1 dl2 s2 => ?_⟩
      rw [List.length_map] at r1
      have hl2 := s2 _ _ hl ld lb
      have hf2 := s2 _ _ hf fd fb
      have e1 : ms[r.toNat]? = some ms[r.toNat] := List.getElem?_eq_getElem (by omega)
      refine ⟨l, _, r, r.toNat, .int ms[r.toNat], rfl, rfl, hl2, by omega, by omega, seqIx r0 (by rw [List.length_map]; exact r1), by rw [List.getElem?_map, e1] <;> rfl, ?_⟩
      have hf3 : (upd H2 l (.lst ((ms.map V.int).eraseIdx r.toNat))) f = some (.lst (us.map V.int)) := by rw [upd_ne (Ne.symm nlf)]; exact hf2
      refine ⟨f, _, _, rfl, rfl, hf3, by rw [List.length_map]; omega, ms.length - 1, by omega, rfl, ?_, ?_, ms.eraseIdx r.toNat, us ++ [ms[r.toNat]], ?_, ?_, ?_, ?_⟩
      · intro c o e n m
        have cf : c ≠ f := fun z => by
          rw [z, nH] at e
          cases e
        have cl : c ≠ l := fun z => by
          rw [z, nl] at e
          cases e
        rw [upd_ne cf, upd_ne cl]
        exact (sx.tr s2) c o e n m
      · exact (dl2.put ld lb).put fd fb
      · rw [List.length_eraseIdx, if_pos (by omega), lm]
      · have z := erase_perm ms r.toNat (by omega)
        rw [List.append_assoc]
        exact (List.Perm.append_left us z).trans pm
      · rw [upd_ne nlf, upd_same, erase_map]
      · rw [upd_same]
        simp
    · obtain ⟨rfl, sx, dl1, us, pm, hf⟩ := h
      exact ⟨_, rfl, k f us H1 pm nH hf dl1 sx⟩
end
end RD
set_option maxRecDepth 100000
set_option maxHeartbeats 4000000
namespace RD
open PySem PySem.Spec PyProof.Rows L2 Rd
theorem cut_map {α : Type} (f : α → V) (xs : List α) (lo hi : Option Int) : ∃ ms : List α, cutV (xs.map f) lo hi = ms.map f ∧ ms.length ≤ xs.length ∧ ∀ m ∈ ms, m ∈ xs := by
  refine ⟨(xs.drop (HT.sIx xs.length 0 lo)).take (HT.sIx xs.length xs.length hi - HT.sIx xs.length 0 lo), ?_, ?_, fun m hm => List.mem_of_mem_drop (List.mem_of_mem_take hm)⟩
  · unfold cutV
    rw [List.length_map, List.map_take, List.map_drop]
  · rw [List.length_take, List.length_drop]
    omega
theorem sPut0 {H0 H : Hp} {l : Addr} {o : HO} (s : Same H0 H) (n : H0 l = none) : Same H0 (upd H l o) := fun b u q => by
  rw [upd_ne fun z => by rw [z, n] at q; cases q]
  exact s _ _ q
theorem same_none {H H1 : Hp} {p : Addr} (s : Same H H1) (n : H1 p = none) : H p = none := by
  cases e : H p with
  | none => rfl
  | some o =>
    rw [s _ _ e] at n
    cases n
theorem take_next0 {α : Type} {xs : List α} {i : Nat} {x : α} (h : xs[i]? = some x) : xs.take (i + 1) = xs.take i ++ [x] := by
  rw [List.take_succ, h]
  rfl
def absI (i : Int) : Int := if i < 0 then -i else i
/-- the source of draws of a script -/
def sp_law_draw (K : PySem.W.Frag) : Sp := fun vs H Q _ => ∃ a, ∃ ns : List Int, ∃ salt : Int, vs = [.ref a, .int salt] ∧ SqL K H a (ns.map V.int) ∧ ns.length ≤ 63 ∧ 0 ≤ salt ∧ salt ≤ 100 ∧ ∀ d b H1, H d = none → H b = none → Same H H1 → Deal H1 d b → Q (.ref d) H1
section
variable {P : Program} {w : World} {K : PySem.W.Frag} {mg : Str → Option Value} {base : Heap}
theorem sc_law_draw : FnScope ["script", "salt", "cells", "blend", "cell"] ["script", "salt"] (defScope s__law_draw) := ⟨rfl, rfl, rfl, by decide +kernel, rfl, by decide +kernel, by decide +kernel⟩
theorem ok_law_draw (D : Df K mg "_law_draw" s__law_draw ["script", "salt"]) (B : Bn mg) : FnOk P w K mg base CX0 1 D.f D.fd ["script", "salt"] (sp_law_draw K) := by
  refine D.F.ok sc_law_draw (fun vs H Q E h => ?_) (fun cdv A outer s H vs Q E hr h => ?_)
  · obtain ⟨a, ns, salt, rfl, _⟩ := h
    rfl
  · obtain ⟨a, ns, salt, rfl, ha, l63, t0, t1, k⟩ := h
    have gn := B.gn
    have nd := sc_law_draw.nd
    refine ⟨_, pss_cons (ps_setLc (i := 2) (own := [("cell", 4)]) (g := gName 4) (tt := tYes) rfl nd rfl rfl (sw_true rfl rfl rfl (by decide +kernel)) (pi_list (pe_slice sl_list (pv 0) po_none (po_some pe_int))) (blkOk_by (N := ["script", "salt", "cells", "blend", "cell"]) (sc := defScope s__law_draw) (by decide +kernel))
        (fun _ _ _ _ _ => pg_name (i := 4) nd rfl (Or.inl rfl)) (fun _ _ _ _ _ => pts_nil) (fun _ _ _ _ _ => pe_callB call_abs rfl (gn _ (by decide)) PyProof.Rows.boot_abs (pa_cons (pe_callTy call_int1 rfl (gn _ (by decide)) PyProof.Rows.boot_int (pa_cons (pv 4) pa_nil)) pa_nil)))
      (pss_cons (ps_set (i := 3) nd rfl (.inl rfl) (pe_op op_add pe_int (pe_op op_mul pe_int (pv 1))))
      (pss_cons (ps_for PassesOwn.never rfl (pi_list (pv 2)) (pg_name (i := 4) nd rfl (.inl rfl))
        (pss_one (ps_set (i := 3) nd rfl (.inl rfl) (pe_op op_mod (pe_callTy call_int1 rfl (gn _ (by decide)) PyProof.Rows.boot_int (pa_cons (pe_op op_add (pe_op op_add (pe_op op_mul (pv 3) pe_int) (pe_op op_mod (pv 4) pe_int)) pe_int) pa_nil)) pe_int))))
      (pss_one (ps_ret (pe_lst (pa_cons (pe_revL (pe_lc (own := [("cell", 4)]) (g := gName 4) (tt := tTest (tOp (rI0 fun i j => .bl (decide (j ≤ i))) (tVar 4) (tOp (rI CPow fun i j => .int (i ^ j.toNat)) (tC (.int 10)) (tC (.int 18))))) (te := tVar 4) rfl nd (pi_list (pv 2)) (blkOk_by (N := ["script", "salt", "cells", "blend", "cell"]) (sc := defScope s__law_draw) (by decide +kernel))
        (fun _ _ _ _ _ => pg_name (i := 4) nd rfl (Or.inl rfl)) (fun _ _ _ _ _ => pts_one (pt_cmpR op_ge (pv 4) (pe_op op_pow pe_int pe_int) (nomark _))) (fun _ _ _ _ _ => pv 4))) (pa_cons (pv 3) pa_nil))))))), ?_⟩
    have zl : 1000 < sizeLine := by decide
    have md : (0 : Int) < 2147483647 := by decide
    have md2 : (0 : Int) < 2147483549 := by decide
    obtain ⟨ms, em, lm, _⟩ := cut_map V.int ns none (some 48)
    refine ⟨_, rfl, 48, rfl, a, _, rfl, ha, fun p np => ?_⟩
    rw [em]
    have s1 := sm1 (o := .lst (ms.map V.int)) np
    have hp : (upd H p (.lst (ms.map V.int))) p = some (.lst (ms.map V.int)) := upd_same
    generalize upd H p (.lst (ms.map V.int)) = H1 at s1 hp ⊢
    refine ⟨p, rfl, ⟨_, .of hp⟩, fun D nD => lc_list (K := K) (a := p) (xs := ms.map V.int) (fun i H2 => Same H1 H2 ∧ H2 D = some (.lst (((ms.take i).map absI).map V.int))) ⟨sm1 nD, upd_same⟩ (fun i H2 _ a2 => .of (a2.1 _ _ hp)) (fun i x H2 hx a2 => ?_) (fun H2 a2 => ?_)⟩
    · rw [List.getElem?_map, Option.map_eq_some_iff] at hx
      obtain ⟨x, hx, rfl⟩ := hx
      obtain ⟨s2, h2⟩ := a2
      refine ⟨rfl, _, rfl, .inl ⟨x, rfl, x, rfl, _, h2, ?_, ?_, ?_⟩⟩
      · rw [List.length_map, List.length_map, List.length_take]
        omega
      · exact sPut0 s2 nD
      · rw [upd_same, take_next0 hx, List.map_append, List.map_append]
        rfl
    · rw [List.length_map, List.take_length] at a2
      obtain ⟨s2, hD⟩ := a2
      have sH := sTr s1 s2
      clear s1 s2 hp nD np em
      refine ⟨_, rfl, 104729, salt, rfl, rfl, .inl ⟨by decide, by decide⟩, 7919, _, rfl, rfl, ?_⟩
      refine ⟨_, rfl, D, rfl, ⟨_, .of hD⟩, for_list (K := K) (a := D) (xs := (ms.map absI).map V.int) (fun i σ H3 => H3 = H2 ∧ ∃ o, ∃ bl : Int, 0 ≤ bl ∧ bl < 2147483647 ∧ σ = [some (.ref a), some (.int salt), some (.ref D), some (.int bl), o]) ⟨rfl, none, 7919 + 104729 * salt, by omega, by omega, rfl⟩ (fun i σ H3 _ h3 => by rw [h3.1]; exact .of hD) (fun i x σ H3 hx h3 => ?_) (fun σ H3x h3 => ?_)⟩
      · obtain ⟨rfl, o, bl, b1, b2, rfl⟩ := h3
        rw [List.getElem?_map, Option.map_eq_some_iff] at hx
        obtain ⟨x, hx, rfl⟩ := hx
        refine ⟨_, rfl, bl, 48271, rfl, rfl, .inr ⟨by decide, by decide⟩, _, rfl, x, 2147483549, rfl, rfl, md2, _, _, rfl, rfl, _, _, rfl, rfl, .inl ⟨_, rfl, _, _, rfl, rfl, md, rfl, _, _, Int.emod_nonneg _ (by decide), Int.emod_lt_of_pos _ md, rfl⟩⟩
      · obtain ⟨e3, o, bl, b1, b2, rfl⟩ := h3
        have e3 := e3.symm
        subst e3
        refine ⟨_, rfl, D, rfl, ⟨_, .of hD⟩, fun E2 nE => lc_list (K := K) (a := D) (xs := (ms.map absI).map V.int) (fun i H3 => Same H2 H3 ∧ ∃ us : List Int, H3 E2 = some (.lst (us.map V.int)) ∧ (∀ u ∈ us, 0 ≤ u) ∧ us.length ≤ i) ⟨sm1 nE, [], upd_same, fun u hu => absurd hu (by simp), Nat.le_refl _⟩ (fun i H3 _ a3 => .of (a3.1 _ _ hD)) (fun i x H3 hx a3 => ?_) (fun H3 a3 => ?_)⟩
        · have li := (List.getElem?_eq_some_iff.mp hx).1
          rw [List.length_map, List.length_map] at li
          rw [List.getElem?_map, Option.map_eq_some_iff] at hx
          obtain ⟨x, hx, rfl⟩ := hx
          rw [List.getElem?_map, Option.map_eq_some_iff] at hx
          obtain ⟨y, hy, rfl⟩ := hx
          obtain ⟨s3, us, hE, pos, lu⟩ := a3
          refine ⟨rfl, _, rfl, 10, 18, rfl, rfl, ⟨by decide, by decide, by decide⟩, _, _, rfl, rfl, _, rfl, ?_⟩
          have y0 : 0 ≤ absI y := by
            unfold absI
            split <;> omega
          generalize decide ((10 : Int) ^ (18 : Int).toNat ≤ absI y) = c
          cases c with
          | false => exact iteF ⟨s3, us, hE, pos, by omega⟩
          | true =>
            refine iteT ⟨_, rfl, _, hE, ?_, ?_, us ++ [absI y], ?_, ?_, ?_⟩
            · rw [List.length_map]
              omega
            · exact sPut0 s3 nE
            · rw [upd_same, List.map_append]
              rfl
            · intro u hu
              rcases List.mem_append.mp hu with z | z
              · exact pos u z
              · rw [List.mem_singleton.mp z]
                exact y0
            · rw [List.length_append]
              exact Nat.succ_le_succ lu
        · obtain ⟨s3, us, hE, pos, lu⟩ := a3
          rw [List.length_map, List.length_map] at lu
          refine ⟨E2, _, rfl, .of hE, fun q nq => ⟨_, rfl, by show 2 ≤ sizeLine; decide, fun d0 nd0 => ?_⟩⟩
          rw [← List.map_reverse] at nd0 ⊢
          have s4 := sm1 (o := .lst (us.reverse.map V.int)) nq
          have s5 := sm1 (o := .lst [.ref q, .int bl]) nd0
          have s6 := sTr sH (sTr s3 s4)
          have qd : q ≠ d0 := fun z => by
            rw [← z, upd_same] at nd0
            cases nd0
          refine k d0 q _ (same_none s6 nd0) (same_none (sTr sH s3) nq) (sTr s6 s5) ⟨bl, us.reverse, upd_same, s5 _ _ upd_same, fun m hm => pos m (List.mem_reverse.mp hm), by rw [List.length_reverse]; omega, b1, b2, qd⟩
end
end RD
set_option maxRecDepth 100000
set_option maxHeartbeats 4000000
/-! The law k02 itself: what it makes lambdas of, and its steps. -/
namespace RD
open PySem PySem.Spec PyProof.Rows L2 Rd Tb Cn Lm LamX NdefX
/-! ### one statement after another -/
def Step (X : Cx) (st : Stmt) (A B : L2.St → Hp → Prop) : Prop := ∃ t, PS X st t ∧ ∀ (D : Ends) σ H, A σ H → (∀ σ' H', B σ' H' → D.nx σ' H') → t D σ H
def Run (X : Cx) (ss : List Stmt) (A : L2.St → Hp → Prop) : Prop := ∃ t, PSs X ss t ∧ ∀ (D : Ends) σ H, A σ H → (∀ H', D.rt (.bl true) H') → t D σ H
theorem Step.cons {X : Cx} {st : Stmt} {ss : List Stmt} {A B : L2.St → Hp → Prop} (a : Step X st A B) (b : Run X ss B) : Run X (st :: ss) A := by
  obtain ⟨t, h1, k1⟩ := a
  obtain ⟨u, h2, k2⟩ := b
  exact ⟨_, pss_cons h1 h2, fun D σ H q r => k1 _ σ H q fun σ' H' q' => k2 D σ' H' q' r⟩
/-! ### lambdas -/
def stL (i : Nat) : Stmt := (defBody s_law).getD i (.Pass ⟨0, 0, 0, 0⟩)
def tstE : Stmt → Expr
  | .If t _ _ _ => t
  | _ => noE
def unE : Expr → Expr
  | .UnaryOp _ e _ => e
  | _ => noE
def boE : Expr → Nat → Expr
  | .BoolOp _ es _, i => es.getD i noE
  | _, _ => noE
def lam4 : Expr := argE (argE (unE (tstE (stL 4))) 1) 1
def lam5 : Expr := argE (argE (unE (tstE (stL 5))) 1) 1
def lam6 : Expr := argE (valE (stL 6)) 1
def lam9 : Expr := argE (valE (stL 9)) 1
def lam12 : Expr := argE (argE (unE (boE (tstE (stL 12)) 1)) 1) 1
def lam13 : Expr := argE (valE (stL 13)) 1
def lam14 : Expr := argE (valE (stL 14)) 1
def lam21 : Expr := argE (argE (unE (tstE (stL 21))) 1) 1
def pOrd (x y z : Nat) : Bool := if (!decide (V.int (x : Nat) = V.int (y : Nat))) = true then true else decide (V.int (z : Nat) = V.int (x : Nat))
def pLev (x y z : Nat) : Bool := levB (x : Nat) (y : Nat) (z : Nat)
def pDis (ns : List Int) (x y z : Nat) : Bool := decide (mx (mx (tn ns (x : Nat)) (tn ns (y : Nat))) (tn ns (z : Nat)) * 2 ≤ tn ns (x : Nat) + tn ns (y : Nat) + tn ns (z : Nat))
def pApt (x y z : Nat) : Bool := decide (2 * mx (mx (x : Nat) (y : Nat)) (z : Nat) ≤ (x : Int) + (y : Int) + (z : Int) + 1)
def pOut (O : List (List Int)) (x y z : Nat) : Bool := !(O.map dTri).any fun d => PyData.eqv d (dTri [(x : Int), (y : Int), (z : Int)])
theorem sw3 {x y z : Int} : (if decide (V.int x = V.int y) = true then decide (z ≤ x) else false) = decide (x = y ∧ z ≤ x) := by
  by_cases h : x = y
  · subst h
    simp
  · simp [h]
section
variable {P : Program} {w : World} {K : PySem.W.Frag} {mg : Str → Option Value} {base : Heap} {F : LF} {f : Addr} {n : Nat}
theorem ns4 : NScope ["x", "y", "z"] ["x", "y", "z"] [] (lamS lam4) := nscope_by (by decide +kernel)
theorem ns5 : NScope ["x", "y", "z"] ["x", "y", "z"] [] (lamS lam5) := nscope_by (by decide +kernel)
theorem ns6 : NScope ["x", "y", "z"] ["x", "y", "z"] [] (lamS lam6) := nscope_by (by decide +kernel)
theorem ns9 : NScope ["x", "y", "z", "numbers"] ["x", "y", "z"] ["numbers"] (lamS lam9) := nscope_by (by decide +kernel)
theorem ns12 : NScope ["x", "y", "z"] ["x", "y", "z"] [] (lamS lam12) := nscope_by (by decide +kernel)
theorem ns13 : NScope ["x", "y", "z"] ["x", "y", "z"] [] (lamS lam13) := nscope_by (by decide +kernel)
theorem ns14 : NScope ["x", "y", "z"] ["x", "y", "z"] [] (lamS lam14) := nscope_by (by decide +kernel)
theorem ns21 : NScope ["x", "y", "z", "out"] ["x", "y", "z"] ["out"] (lamS lam21) := nscope_by (by decide +kernel)
theorem lok4 (e : IsL F lam4) : LOk P w K mg base CX0 1 f F ["x", "y", "z"] [] (splR [] (fun _ => True) n fun _ _ _ => true) := by
  obtain ⟨qual, params, body, scope, cl, c⟩ := F
  obtain ⟨e1, e2, e3⟩ := e
  dsimp only at e1 e2 e3
  subst e1 e2 e3
  refine lok_of ns4 (fun pm ctv us hl => match us, hl with | [_, _, _], _ => rfl) splR_len (fun A outer s H vs ws Q E hr lw h => ?_)
  obtain ⟨rfl, _, x, y, z, rfl, lx, ly, lz, k⟩ := h
  exact ⟨_, pe_bl, k H (same0 H)⟩
theorem lok12 (e : IsL F lam12) : LOk P w K mg base CX0 1 f F ["x", "y", "z"] [] (splR [] (fun _ => True) n fun _ _ _ => true) := by
  obtain ⟨qual, params, body, scope, cl, c⟩ := F
  obtain ⟨e1, e2, e3⟩ := e
  dsimp only at e1 e2 e3
  subst e1 e2 e3
  refine lok_of ns12 (fun pm ctv us hl => match us, hl with | [_, _, _], _ => rfl) splR_len (fun A outer s H vs ws Q E hr lw h => ?_)
  obtain ⟨rfl, _, x, y, z, rfl, lx, ly, lz, k⟩ := h
  exact ⟨_, pe_bl, k H (same0 H)⟩
theorem lok5 (e : IsL F lam5) : LOk P w K mg base CX0 1 f F ["x", "y", "z"] [] (splR [] (fun _ => True) n pOrd) := by
  obtain ⟨qual, params, body, scope, cl, c⟩ := F
  obtain ⟨e1, e2, e3⟩ := e
  dsimp only at e1 e2 e3
  subst e1 e2 e3
  refine lok_of ns5 (fun pm ctv us hl => match us, hl with | [_, _, _], _ => rfl) splR_len (fun A outer s H vs ws Q E hr lw h => ?_)
  obtain ⟨rfl, _, x, y, z, rfl, lx, ly, lz, k⟩ := h
  refine ⟨_, pe_or (pe_cmpR op_ne (pv 0) (pv 1) (nomark _)) (pe_one (pe_cmpR op_eq (pv 2) (pv 0) (nomark _))), ?_⟩
  refine ⟨_, rfl, _, rfl, rfl, _, rfl, ?_⟩
  have k := k H (same0 H)
  unfold pOrd at k
  split
  · rename_i q
    rw [if_pos q] at k
    exact k
  · rename_i q
    rw [if_neg q] at k
    exact ⟨_, rfl, _, rfl, rfl, k⟩
/-! ### tests of numbers that answer a bool -/
def gI (σ : L2.St) (i : Nat) : Option Int := match σ[i]? with
  | some (some (.int a)) => some a
  | _ => none
def tG (g : L2.St → Option Bool) : TE := fun σ H Q => ∃ b, g σ = some b ∧ Q (.bl b) H
def gC (r : Int → Int → Bool) (i j : Nat) (σ : L2.St) : Option Bool := match gI σ i, gI σ j with
  | some a, some b => some (r a b)
  | _, _ => none
def gAnd (g h : L2.St → Option Bool) (σ : L2.St) : Option Bool := match g σ with
  | some true => h σ
  | some false => some false
  | none => none
def gOr (g h : L2.St → Option Bool) (σ : L2.St) : Option Bool := match g σ with
  | some true => some true
  | some false => h σ
  | none => none
theorem gI_at {σ : L2.St} {i : Nat} {a : Int} (h : gI σ i = some a) : σ[i]? = some (some (.int a)) := by
  unfold gI at h
  split at h
  · rename_i b e
    rw [e]
    cases h
    rfl
  · cases h
theorem gC_at {r : Int → Int → Bool} {i j : Nat} {σ : L2.St} {c : Bool} (h : gC r i j σ = some c) : ∃ a b, σ[i]? = some (some (.int a)) ∧ σ[j]? = some (some (.int b)) ∧ c = r a b := by
  unfold gC at h
  split at h
  · rename_i a b e1 e2
    cases h
    exact ⟨a, b, gI_at e1, gI_at e2, rfl⟩
  · cases h
section
variable {X : Cx} {a b : Expr} {pos : Pos} {g h : L2.St → Option Bool} {i j : Nat}
theorem pb_eq (ha : PE X a (tVar i)) (hb : PE X b (tVar j)) (hm : behindInMarks .Eq b = false) : PE X (.Compare a [.Eq] [b] pos) (tG (gC (fun x y => decide (x = y)) i j)) :=
  pe_imp (pe_cmpR op_eq ha hb hm) fun σ H Q ⟨c, e, q⟩ => by
    obtain ⟨x, y, e1, e2, rfl⟩ := gC_at e
    refine ⟨_, e1, _, e2, rfl, ?_⟩
    rw [show decide (V.int x = V.int y) = decide (x = y) from by simp]
    exact q
theorem pb_le (ha : PE X a (tVar i)) (hb : PE X b (tVar j)) (hm : behindInMarks .LtE b = false) : PE X (.Compare a [.LtE] [b] pos) (tG (gC (fun x y => decide (x ≤ y)) i j)) :=
  pe_imp (pe_cmpR op_le ha hb hm) fun σ H Q ⟨c, e, q⟩ => by
    obtain ⟨x, y, e1, e2, rfl⟩ := gC_at e
    exact ⟨_, e1, _, e2, x, y, rfl, rfl, q⟩
theorem pb_lt (ha : PE X a (tVar i)) (hb : PE X b (tVar j)) (hm : behindInMarks .Lt b = false) : PE X (.Compare a [.Lt] [b] pos) (tG (gC (fun x y => decide (x < y)) i j)) :=
  pe_imp (pe_cmpR op_lt ha hb hm) fun σ H Q ⟨c, e, q⟩ => by
    obtain ⟨x, y, e1, e2, rfl⟩ := gC_at e
    exact ⟨_, e1, _, e2, x, y, rfl, rfl, q⟩
theorem pb_and {rest : List Expr} (ha : PE X a (tG g)) (hb : PE X (.BoolOp .And (b :: rest) pos) (tG h)) : PE X (.BoolOp .And (a :: b :: rest) pos) (tG (gAnd g h)) :=
  pe_imp (pe_and ha hb) fun σ H Q ⟨c, e, q⟩ => by
    unfold gAnd at e
    split at e
    · rename_i e1
      exact ⟨true, e1, true, rfl, iteT ⟨c, e, q⟩⟩
    · rename_i e1
      cases e
      exact ⟨false, e1, false, rfl, iteF q⟩
    · cases e
theorem pb_or {rest : List Expr} (ha : PE X a (tG g)) (hb : PE X (.BoolOp .Or (b :: rest) pos) (tG h)) : PE X (.BoolOp .Or (a :: b :: rest) pos) (tG (gOr g h)) :=
  pe_imp (pe_or ha hb) fun σ H Q ⟨c, e, q⟩ => by
    unfold gOr at e
    split at e
    · rename_i e1
      cases e
      exact ⟨true, e1, true, rfl, iteT q⟩
    · rename_i e1
      exact ⟨false, e1, false, rfl, iteF ⟨c, e, q⟩⟩
    · cases e
end
theorem lev_g {x y z : Int} : gOr (gAnd (gC (fun x y => decide (x = y)) 0 1) (gC (fun x y => decide (x ≤ y)) 2 0)) (gOr (gAnd (gC (fun x y => decide (x = y)) 0 2) (gC (fun x y => decide (x < y)) 1 0)) (gAnd (gC (fun x y => decide (x = y)) 1 2) (gC (fun x y => decide (x < y)) 0 1))) [some (.int x), some (.int y), some (.int z)] = some (levB x y z) := by
  have e : levB x y z = (decide (x = y) && decide (z ≤ x) || (decide (x = z) && decide (y < x) || decide (y = z) && decide (x < y))) := by
    unfold levB
    simp only [Bool.decide_or, Bool.decide_and]
  rw [e]
  simp only [gOr, gAnd, gC, gI, List.getElem?_cons_zero, List.getElem?_cons_succ]
  generalize decide (x = y) = a
  generalize decide (z ≤ x) = b
  generalize decide (x = z) = c
  generalize decide (y < x) = d
  generalize decide (y = z) = e
  generalize decide (x < y) = f
  cases a <;> cases b <;> cases c <;> cases d <;> cases e <;> cases f <;> rfl
theorem shaped_tris (T : List (List Int)) : SeqAt.shaped (.list (T.map dTri)) = true := by
  have h0 : ∀ t : List Int, PyData.canLayAll0 (t.map PyData.int) = true := fun t => by
    induction t with
    | nil => rfl
    | cons m ms ih => simp [PyData.canLayAll0, PyData.canLay0, ih]
  have h1 : PyData.canLayAll0 (T.map dTri) = true := by
    induction T with
    | nil => rfl
    | cons m ms ih => simp [PyData.canLayAll0, PyData.canLay0, dTri, h0, ih]
  have h2 : PyData.depthAll (T.map dTri) ≤ 2 := depAll fun d hd => by
    obtain ⟨t, _, rfl⟩ := List.mem_map.mp hd
    show PyData.depthAll (t.map PyData.int) + 1 ≤ 2
    have z := depAll (ds := t.map PyData.int) (m := 0) fun d hd => by
      obtain ⟨x, _, rfl⟩ := List.mem_map.mp hd
      exact Nat.le_refl _
    omega
  unfold SeqAt.shaped
  simp [PyData.canLay0, h1, PyData.depth]
  omega
theorem shaped_tri (t : List Int) : SeqAt.shaped (dTri t) = true := by
  have h0 : PyData.canLayAll0 (t.map PyData.int) = true := by
    induction t with
    | nil => rfl
    | cons m ms ih => simp [PyData.canLayAll0, PyData.canLay0, ih]
  have z := depAll (ds := t.map PyData.int) (m := 0) fun d hd => by
    obtain ⟨x, _, rfl⟩ := List.mem_map.mp hd
    exact Nat.le_refl _
  unfold SeqAt.shaped dTri
  simp [PyData.canLay0, h0, PyData.depth]
  omega
theorem lok6 (e : IsL F lam6) : LOk P w K mg base CX0 1 f F ["x", "y", "z"] [] (splR [] (fun _ => True) n pLev) := by
  obtain ⟨qual, params, body, scope, cl, c⟩ := F
  obtain ⟨e1, e2, e3⟩ := e
  dsimp only at e1 e2 e3
  subst e1 e2 e3
  refine lok_of ns6 (fun pm ctv us hl => match us, hl with | [_, _, _], _ => rfl) splR_len (fun A outer s H vs ws Q E hr lw h => ?_)
  obtain ⟨rfl, _, x, y, z, rfl, lx, ly, lz, k⟩ := h
  exact ⟨_, pb_or (pb_and (pb_eq (pv 0) (pv 1) (nomark _)) (pe_one (pb_le (pv 2) (pv 0) (nomark _)))) (pb_or (pb_and (pb_eq (pv 0) (pv 2) (nomark _)) (pe_one (pb_lt (pv 1) (pv 0) (nomark _)))) (pe_one (pb_and (pb_eq (pv 1) (pv 2) (nomark _)) (pe_one (pb_lt (pv 0) (pv 1) (nomark _)))))), _, lev_g, k H (same0 H)⟩
theorem lok13 (e : IsL F lam13) : LOk P w K mg base CX0 1 f F ["x", "y", "z"] [] (splR [] (fun _ => True) n pLev) := by
  obtain ⟨qual, params, body, scope, cl, c⟩ := F
  obtain ⟨e1, e2, e3⟩ := e
  dsimp only at e1 e2 e3
  subst e1 e2 e3
  refine lok_of ns13 (fun pm ctv us hl => match us, hl with | [_, _, _], _ => rfl) splR_len (fun A outer s H vs ws Q E hr lw h => ?_)
  obtain ⟨rfl, _, x, y, z, rfl, lx, ly, lz, k⟩ := h
  exact ⟨_, pb_or (pb_and (pb_eq (pv 0) (pv 1) (nomark _)) (pe_one (pb_le (pv 2) (pv 0) (nomark _)))) (pb_or (pb_and (pb_eq (pv 0) (pv 2) (nomark _)) (pe_one (pb_lt (pv 1) (pv 0) (nomark _)))) (pe_one (pb_and (pb_eq (pv 1) (pv 2) (nomark _)) (pe_one (pb_lt (pv 0) (pv 1) (nomark _)))))), _, lev_g, k H (same0 H)⟩
theorem lok9 {a : Addr} {ns : List Int} (B : Bn mg) (h6 : ns.length ≤ 6) (hp : ∀ x ∈ ns, 0 ≤ x ∧ x < 1000) (e : IsL F lam9) : LOk P w K mg base CX0 1 f F ["x", "y", "z"] ["numbers"] (splR [.ref a] (fun H => H a = some (.lst (ns.map V.int))) ns.length (pDis ns)) := by
  obtain ⟨qual, params, body, scope, cl, c⟩ := F
  obtain ⟨e1, e2, e3⟩ := e
  dsimp only at e1 e2 e3
  subst e1 e2 e3
  refine lok_of ns9 (fun pm ctv us hl => match us, hl with | [_, _, _], _ => rfl) splR_len (fun A outer s H vs ws Q E hr lw h => ?_)
  obtain ⟨rfl, ha, x, y, z, rfl, lx, ly, lz, k⟩ := h
  have gn := B.gn
  have ix : ∀ {H1 : Hp} {i : Nat} {Q1 : VK}, H1 a = some (.lst (ns.map V.int)) → i < ns.length → Q1 (.int (tn ns (i : Nat))) H1 → rIx K (.ref a) (.int (i : Nat)) H1 Q1 := fun h l q => ixI (.inl h) ⟨by omega, by omega⟩ q
  refine ⟨_, pe_cmpR op_le (pe_op op_mul (pe_callB (call_maxL3 rfl) rfl (gn _ (by decide)) PyProof.Rows.boot_max (pa_cons (pe_lst (pa_cons (pe_ix ix_seq (pv 3) (pv 0) (fun _ _ => rfl)) (pa_cons (pe_ix ix_seq (pv 3) (pv 1) (fun _ _ => rfl)) (pa_cons (pe_ix ix_seq (pv 3) (pv 2) (fun _ _ => rfl)) pa_nil)))) pa_nil)) pe_int)
    (pe_op op_add (pe_op op_add (pe_ix ix_seq (pv 3) (pv 0) (fun _ _ => rfl)) (pe_ix ix_seq (pv 3) (pv 1) (fun _ _ => rfl))) (pe_ix ix_seq (pv 3) (pv 2) (fun _ _ => rfl))) (nomark _), ?_⟩
  refine ⟨_, rfl, _, rfl, ix ha lx ⟨_, rfl, _, rfl, ix ha ly ⟨_, rfl, _, rfl, ix ha lz ⟨by show 3 ≤ sizeLine; decide, fun l nl => ⟨l, _, _, _, _, rfl, .of upd_same, nu3 _ _ _, _, 2, rfl, rfl, .inr ⟨by decide, by decide⟩, ?_⟩⟩⟩⟩⟩
  have s1 := same1 (o := .lst [.int (tn ns (x : Nat)), .int (tn ns (y : Nat)), .int (tn ns (z : Nat))]) nl
  have ha1 := s1 _ _ ha
  exact ⟨_, rfl, _, rfl, ix ha1 lx ⟨_, rfl, _, rfl, ix ha1 ly ⟨_, _, rfl, rfl, _, rfl, _, rfl, ix ha1 lz ⟨_, _, rfl, rfl, _, _, rfl, rfl, k _ s1⟩⟩⟩⟩
theorem lok14 (B : Bn mg) (e : IsL F lam14) : LOk P w K mg base CX0 1 f F ["x", "y", "z"] [] (splR [] (fun _ => True) n pApt) := by
  obtain ⟨qual, params, body, scope, cl, c⟩ := F
  obtain ⟨e1, e2, e3⟩ := e
  dsimp only at e1 e2 e3
  subst e1 e2 e3
  refine lok_of ns14 (fun pm ctv us hl => match us, hl with | [_, _, _], _ => rfl) splR_len (fun A outer s H vs ws Q E hr lw h => ?_)
  obtain ⟨rfl, ha, x, y, z, rfl, lx, ly, lz, k⟩ := h
  have gn := B.gn
  refine ⟨_, pe_cmpR op_le (pe_op op_mul pe_int (pe_callB (call_maxL3 rfl) rfl (gn _ (by decide)) PyProof.Rows.boot_max (pa_cons (pe_lst (pa_cons (pv 0) (pa_cons (pv 1) (pa_cons (pv 2) pa_nil)))) pa_nil)))
    (pe_op op_add (pe_op op_add (pe_op op_add (pv 0) (pv 1)) (pv 2)) pe_int) (nomark _), ?_⟩
  refine ⟨_, rfl, _, rfl, _, rfl, by show 3 ≤ sizeLine; decide, fun l nl => ⟨l, _, _, _, _, rfl, .of upd_same, nu3 _ _ _, 2, _, rfl, rfl, .inl ⟨by decide, by decide⟩, ?_⟩⟩
  exact ⟨_, rfl, _, rfl, _, _, rfl, rfl, _, rfl, _, _, rfl, rfl, _, _, rfl, rfl, _, _, rfl, rfl, k _ (same1 nl)⟩
theorem lok21 {a : Addr} {L : List Tri} (e : IsL F lam21) : LOk P w K mg base CX0 1 f F ["x", "y", "z"] ["out"] (splR [.ref a] (fun H => H a = some (.lst (L.map fun q => V.ref q.1)) ∧ ∀ q ∈ L, H q.1 = some (.tup (q.2.map V.int))) n (pOut (L.map (·.2)))) := by
  obtain ⟨qual, params, body, scope, cl, c⟩ := F
  obtain ⟨e1, e2, e3⟩ := e
  dsimp only at e1 e2 e3
  subst e1 e2 e3
  refine lok_of ns21 (fun pm ctv us hl => match us, hl with | [_, _, _], _ => rfl) splR_len (fun A outer s H vs ws Q E hr lw h => ?_)
  obtain ⟨rfl, ⟨ha, hq⟩, x, y, z, rfl, lx, ly, lz, k⟩ := h
  refine ⟨_, pe_cmpR (op_notInD (show (A.deeper (envF _ f s.heap.objs.size)).units + 65 < cLine from by have := hr.un; omega)) (pe_tup (pa_cons (pv 0) (pa_cons (pv 1) (pa_cons (pv 2) pa_nil)))) (pv 3) rfl, ?_⟩
  refine ⟨_, rfl, _, rfl, _, rfl, by show 3 ≤ sizeLine; decide, fun t nt => ⟨_, rfl, ?_⟩⟩
  have s1 := same1 (o := .tup [.int (x : Nat), .int (y : Nat), .int (z : Nat)]) nt
  have dl := dpAll_tri (K := K) (H := upd H t (.tup [.int (x : Nat), .int (y : Nat), .int (z : Nat)])) (L := L) fun q h => s1 _ _ (hq q h)
  have e : (L.map fun q => dTri q.2) = (L.map (·.2)).map dTri := by
    rw [List.map_map]
    rfl
  rw [e] at dl
  exact ⟨dTri [(x : Int), (y : Int), (z : Int)], _, .tup (.of upd_same) (dpAll_ints [(x : Int), (y : Int), (z : Int)]), .lst (.of (s1 _ _ ha)) dl, shaped_tri _, shaped_tris _, k _ s1⟩
end
end RD
set_option maxRecDepth 100000
set_option maxHeartbeats 4000000
namespace RD
open PySem PySem.Spec PyProof.Rows L2 Rd Tb Cn Lm LamX NdefX
theorem Rows2.sameL {H H1 : Hp} {p : Addr} {B : List (List Int)} (h : Rows2 H p B) (s : SameL H H1) : Rows2 H1 p B := let ⟨rs, a, b, c⟩ := h; ⟨rs, s _ _ a rfl, b, fun i r y e1 e2 => s _ _ (c i r y e1 e2) rfl⟩
theorem KindAt.sameL {C : Addr} {H H1 : Hp} {x : Addr} {ts : List Int} {T : List (List Int)} (h : KindAt C H x ts T) (s : SameL H H1) : KindAt C H1 x ts T := by
  obtain ⟨dx, tt, tr, tb, L, a1, a2, a3, a4, a5, a6, a7⟩ := h
  exact ⟨dx, tt, tr, tb, L, s _ _ a1 rfl, s _ _ a2 rfl, s _ _ a3 rfl, a4, a5, fun q hq => s _ _ (a6 q hq) rfl, a7.sameL s⟩
theorem Deal.sameL {H H1 : Hp} {d b : Addr} (D : Deal H d b) (s : SameL H H1) : Deal H1 d b := by
  obtain ⟨bl, ms, h1, h2, h3⟩ := D
  exact ⟨bl, ms, s _ _ h1 rfl, s _ _ h2 rfl, h3⟩
theorem ne_obj {H : Hp} {x y : Addr} {o1 o2 : HO} (h1 : H x = some o1) (h2 : H y = some o2) (n : o1 ≠ o2) : x ≠ y := fun z => by
  rw [z, h2] at h1
  exact n (Option.some.inj h1).symm
theorem tabs_sameX {T : List (Addr × Str)} {H H1 : Hp} {d b : Addr} (t : Tabs T H) (D : Deal H d b) (s : SameX d b H H1) : Tabs T H1 := fun p hp => by
  obtain ⟨bl, ms, h1, h2, h3⟩ := D
  obtain ⟨ps, a1, a2, a3⟩ := t p hp
  refine ⟨ps, s _ _ a1 (ne_obj a1 h1 fun z => by cases z) (ne_obj a1 h2 fun z => by cases z), a2, fun pos cv hc => ?_⟩
  obtain ⟨c, e1, e2⟩ := a3 pos cv hc
  exact ⟨c, e1, s _ _ e2 (ne_obj e2 h1 fun z => by unfold CodeO at z; cases z) (ne_obj e2 h2 fun z => by unfold CodeO at z; cases z)⟩
/-- the tables and the source of draws stand -/
def B0 (T : List (Addr × Str)) (d b : Addr) (H : Hp) : Prop := Tabs T H ∧ Deal H d b
theorem B0.same {T : List (Addr × Str)} {d b : Addr} {H H1 : Hp} (h : B0 T d b H) (s : Same H H1) : B0 T d b H1 := ⟨h.1.ext s, h.2.same s⟩
theorem B0.sameL {T : List (Addr × Str)} {d b : Addr} {H H1 : Hp} (h : B0 T d b H) (s : SameL H H1) (t : Tabs T H1) : B0 T d b H1 := ⟨t, h.2.sameL s⟩
theorem B0.draw {T : List (Addr × Str)} {d b : Addr} {H H1 : Hp} (h : B0 T d b H) (D : Deal H1 d b) (s : SameX d b H H1) : B0 T d b H1 := ⟨tabs_sameX h.1 h.2 s, D⟩
theorem Deal.ne {H : Hp} {d b p : Addr} (D : Deal H d b) (n : H p = none) : p ≠ d ∧ p ≠ b := by
  obtain ⟨bl, ms, h1, h2, h3⟩ := D
  exact ⟨fun z => (by rw [z, h1] at n; cases n), fun z => (by rw [z, h2] at n; cases n)⟩
/-- a list of numbers apart from the draws -/
def Lst (d b a : Addr) (ns : List Int) (H : Hp) : Prop := H a = some (.lst (ns.map V.int)) ∧ a ≠ d ∧ a ≠ b
theorem Lst.sameL {d b a : Addr} {ns : List Int} {H H1 : Hp} (h : Lst d b a ns H) (s : SameL H H1) : Lst d b a ns H1 := ⟨s _ _ h.1 rfl, h.2⟩
theorem Lst.draw {d b a : Addr} {ns : List Int} {H H1 : Hp} (h : Lst d b a ns H) (s : SameX d b H H1) : Lst d b a ns H1 := ⟨s _ _ h.1 h.2.1 h.2.2, h.2⟩
/-- the defs that the law reaches -/
structure Defs (K : PySem.W.Frag) (mg : Str → Option Value) where
  dr : Df K mg "_law_draw" s__law_draw ["script", "salt"]
  an : Df K mg "_law_any" s__law_any ["deal", "bound"]
  of_ : Df K mg "_law_of" s__law_of ["deal", "some"]
  mi : Df K mg "_law_mixed" s__law_mixed ["deal", "some"]
  by_ : Df K mg "_law_by" s__law_by ["turned", "is_right"]
  si : Df K mg "_law_six" s__law_six ["turned", "triple"]
  is_ : Df K mg "_law_is" s__law_is ["made", "kind"]
  di : Df K mg "_law_distance" s__law_distance ["numbers"]
  ba : Df K mg "_law_barred" s__law_barred ["turned", "barred"]
  ck : Dc K mg "_law_clocks_right" s__law_clocks_right ["many"]
  fr : Df K mg "free_kind" s_free_kind ["many"]
  bk : Df K mg "barred_kind" s_barred_kind ["turned", "barred"]
  ok : Df K mg "order_kind" s_order_kind []
  lk : Df K mg "level_kind" s_level_kind ["many"]
  dk : Df K mg "distance_kind" s_distance_kind ["numbers"]
structure Fns (P : Program) (w : World) (K : PySem.W.Frag) (mg : Str → Option Value) (base : Heap) (C CE : Addr) (T : List (Addr × Str)) (D : Defs K mg) : Prop where
  dr : FnOk P w K mg base CX0 1 D.dr.f D.dr.fd ["script", "salt"] (sp_law_draw K)
  an : FnOk P w K mg base CX0 1 D.an.f D.an.fd ["deal", "bound"] sp_law_any
  of_ : FnOk P w K mg base CX0 2 D.of_.f D.of_.fd ["deal", "some"] (sp_law_of K)
  mi : FnOk P w K mg base CX0 2 D.mi.f D.mi.fd ["deal", "some"] (sp_law_mixed K)
  by_ : FnOk P w K mg base CX0 2 D.by_.f D.by_.fd ["turned", "is_right"] (sp_law_by P w K mg base)
  si : FnOk P w K mg base CX0 1 D.si.f D.si.fd ["turned", "triple"] (sp_law_six K)
  is_ : FnG P w K mg base CX0 2 D.is_.f D.is_.fd ["made", "kind"] (sp_law_is K C)
  di : FnOk P w K mg base CX0 11 D.di.f D.di.fd ["numbers"] sp_law_distance
  ba : FnOk P w K mg base CX0 11 D.ba.f D.ba.fd ["turned", "barred"] sp_law_barred
  ck : FnG P w K mg base CX0 11 D.ck.f D.ck.fd ["many"] (sp_clocks T)
  fr : FnOk P w K mg base (L2N.CX P w) 10 D.fr.f D.fr.fd ["many"] (sp_kindN C (fun _ => True) upN allT)
  bk : FnOk P w K mg base (L2N.CX P w) 10 D.bk.f D.bk.fd ["turned", "barred"] (sp_barred_kind C CE)
  ok : FnOk P w K mg base (L2N.CX P w) 11 D.ok.f D.ok.fd [] (sp_order_kind C)
  lk : FnOk P w K mg base (L2N.CX P w) 10 D.lk.f D.lk.fd ["many"] (sp_kindN C (fun _ => True) upN fun n => (allT n).filter lev)
  dk : FnOk P w K mg base (L2N.CX P w) 10 D.dk.f D.dk.fd ["numbers"] (sp_distance_kind C CE)
abbrev NL : List Str := ["script", "deal", "many", "same", "levels", "steps", "few", "less", "apart", "turned", "bars", "triple", "at", "worse", "numbers", "out", "turn"]
abbrev XL (P : Program) (w : World) (K : PySem.W.Frag) (mg : Str → Option Value) (base : Heap) (f c : Addr) (A : Around) (outer : List Env) (s : Shared) (H0 : Hp) (E : XK) : Cx := cxOf CX0 P w K mg base NL "law" (defScope s_law) f (.ref c) A outer s H0 E
theorem passN0 {P : Program} {w : World} {X : Cx} : Passes (L2N.CX P w) X (fun _ _ _ => False) := fun pins σ H s e s' I ⟨_, _, _, _, _, _, _, _, _, _, _, _, z⟩ => z.elim
theorem kw_free {K : PySem.W.Frag} {mg : Str → Option Value} (D : Df K mg "free_kind" s_free_kind ["many"]) : Kw K D.fd ["many"] ["many"] id id := by
  obtain ⟨f, fd, F, g, b⟩ := D
  obtain ⟨oc, od, kV, doc, pm, an, cdv, ct, osl, rfl, lk, hcd⟩ := F.ex
  exact ⟨fun s ws _ hl => match ws, hl with | [_], _ => .of_eq rfl, fun r => r⟩
theorem kw_level {K : PySem.W.Frag} {mg : Str → Option Value} (D : Df K mg "level_kind" s_level_kind ["many"]) : Kw K D.fd ["many"] ["many"] id id := by
  obtain ⟨f, fd, F, g, b⟩ := D
  obtain ⟨oc, od, kV, doc, pm, an, cdv, ct, osl, rfl, lk, hcd⟩ := F.ex
  exact ⟨fun s ws _ hl => match ws, hl with | [_], _ => .of_eq rfl, fun r => r⟩
/-- a lambda that captures nothing -/
theorem funV0 {P : Program} {w : World} {K : PySem.W.Frag} {mg : Str → Option Value} {base : Heap} {f : Addr} {F : LF} {H : Hp} {n : Nat} {p : Nat → Nat → Nat → Bool} (h1 : H f = some (LamO f F)) (h2 : H F.c = some (CodeO F.c F.qual)) (e : F.cl = [])
    (lo : LOk P w K mg base CX0 1 f F ["x", "y", "z"] [] (splR [] (fun _ => True) n p)) : FunV P w K mg base 1 f (spR n p) H := by
  refine funV_of h1 h2 ?_ lo fun _ _ => trivial
  rw [e]
  exact ⟨rfl, fun y c z => (by cases z), fun x y c z => (by cases z), fun i y z => (by simp at z)⟩
theorem small_upN {n : Nat} (h6 : n ≤ 6) : ∀ x ∈ upN n, x.natAbs < 10 ^ 1 := fun x hx => by
  unfold upN at hx
  obtain ⟨i, hi, rfl⟩ := List.mem_map.mp hx
  have li := List.mem_range.mp hi
  show (i : Nat) < 10
  omega
theorem all_iff {n : Nat} (t : List Int) : t ∈ allT n ↔ triOk n t = true ∧ ∃ x y z : Nat, t = [(x : Int), (y : Int), (z : Int)] ∧ (fun _ _ _ : Nat => true) x y z = true := by
  rw [mem_allT]
  refine ⟨fun h => ⟨h, ?_⟩, fun h => h.1⟩
  obtain ⟨x, y, z, e, _⟩ := tri_nats h
  exact ⟨x, y, z, e, rfl⟩
theorem filt_iff {n : Nat} {q : List Int → Bool} {p : Nat → Nat → Nat → Bool} (h : ∀ x y z : Nat, x < n → y < n → z < n → q [(x : Int), (y : Int), (z : Int)] = p x y z) (t : List Int) : t ∈ (allT n).filter q ↔ triOk n t = true ∧ ∃ x y z : Nat, t = [(x : Int), (y : Int), (z : Int)] ∧ p x y z = true := by
  rw [List.mem_filter, mem_allT]
  exact rule_iff (q := fun t => q t = true) (fun x y z lx ly lz => by rw [h x y z lx ly lz]) t
section
variable {P : Program} {w : World} {K : PySem.W.Frag} {mg : Str → Option Value} {base : Heap} {C CE f c Pt : Addr} {T : List (Addr × Str)} {A : Around} {outer : List Env} {s : Shared} {H0 : Hp} {E : XK} {D : Defs K mg}
theorem sc_law : FnScope NL ["script"] (defScope s_law) := ⟨rfl, rfl, rfl, by decide +kernel, rfl, by decide +kernel, by decide +kernel⟩
abbrev RmL (A : Around) (s : Shared) (f c : Addr) : Prop := Room 11 (A.deeper (envOfC "law" (defScope s_law) s.heap.objs.size f (.ref c)))
def A0 (T : List (Addr × Str)) (K : PySem.W.Frag) (σ : L2.St) (H : Hp) : Prop := ∃ a, ∃ ns : List Int, σ = [some (.ref a), none, none, none, none, none, none, none, none, none, none, none, none, none, none, none, none] ∧ Tabs T H ∧ SqL K H a (ns.map V.int) ∧ ns.length ≤ 63
def A1 (T : List (Addr × Str)) (σ : L2.St) (H : Hp) : Prop := ∃ a d b, σ = [some (.ref a), some (.ref d), none, none, none, none, none, none, none, none, none, none, none, none, none, none, none] ∧ B0 T d b H
def A2 (T : List (Addr × Str)) (σ : L2.St) (H : Hp) : Prop := ∃ a d b, ∃ n : Nat, σ = [some (.ref a), some (.ref d), some (.int (n : Nat)), none, none, none, none, none, none, none, none, none, none, none, none, none, none] ∧ B0 T d b H ∧ 0 < n ∧ n ≤ 6
def A3 (T : List (Addr × Str)) (σ : L2.St) (H : Hp) : Prop := ∃ a d b m, ∃ n : Nat, σ = [some (.ref a), some (.ref d), some (.int (n : Nat)), some (.ref m), none, none, none, none, none, none, none, none, none, none, none, none, none] ∧ B0 T d b H ∧ 0 < n ∧ n ≤ 6 ∧ Lst d b m (upN n) H
theorem step0 (G : Fns P w K mg base C CE T D) (hr : RmL A s f c) : Step (XL P w K mg base f c A outer s H0 E) (stL 0) (A0 T K) (A1 T) := by
  have nd := sc_law.nd
  refine ⟨_, ps_set (i := 1) nd rfl (.inr rfl) (pe_call G.dr (hr.mono (by decide)) rfl D.dr.g D.dr.F.kp D.dr.b .nil pass0 (pa_cons (pv 0) (pa_cons pe_int pa_nil))), fun D σ H h k => ?_⟩
  obtain ⟨a, ns, rfl, ht, ha, l63⟩ := h
  exact ⟨_, rfl, a, ns, 2, rfl, ha, l63, by decide, by decide, fun d b H1 n1 n2 s1 dl => k _ _ ⟨a, d, b, rfl, ht.ext s1, dl⟩⟩
theorem step1 (G : Fns P w K mg base C CE T D) (hr : RmL A s f c) : Step (XL P w K mg base f c A outer s H0 E) (stL 1) (A1 T) (A2 T) := by
  have nd := sc_law.nd
  refine ⟨_, ps_set (i := 2) nd rfl (.inr rfl) (pe_op op_add pe_int (pe_call G.an (hr.mono (by decide)) rfl D.an.g D.an.F.kp D.an.b .nil pass0 (pa_cons (pv 1) (pa_cons pe_int pa_nil)))), fun D σ H h k => ?_⟩
  obtain ⟨a, d, b, rfl, h0⟩ := h
  refine ⟨_, rfl, d, b, 6, rfl, h0.2, by decide, by decide, fun r H1 r0 r1 dl sx => ⟨1, r, rfl, rfl, k _ _ ⟨a, d, b, (1 + r).toNat, ?_, h0.draw dl sx, by omega, by omega⟩⟩⟩
  rw [show (((1 + r).toNat : Nat) : Int) = 1 + r from by omega]
  rfl
theorem step2 (hB : Bn mg) (hr : RmL A s f c) : Step (XL P w K mg base f c A outer s H0 E) (stL 2) (A2 T) (A3 T) := by
  have nd := sc_law.nd
  have gn := hB.gn
  refine ⟨_, ps_set (i := 3) nd rfl (.inl rfl) (pe_listRg rfl rfl (gn _ (by decide)) (prg_1 rfl (gn _ (by decide)) (pv 2))), fun D σ H h k => ?_⟩
  obtain ⟨a, d, b, n, rfl, h0, n0, n6⟩ := h
  refine ⟨_, rfl, n, rfl, RgOk.of_le (by omega) (by omega) (by omega) (by omega), fun m nm => ?_⟩
  rw [rgV0]
  exact k _ _ ⟨a, d, b, m, n, rfl, h0.same (same1 nm), n0, n6, upd_same, h0.2.ne nm⟩
theorem step3 (G : Fns P w K mg base C CE T D) (hg : A.guards = some []) (hr : RmL A s f c) : Step (XL P w K mg base f c A outer s H0 E) (stL 3) (A3 T) (A3 T) := by
  refine ⟨_, ps_if (pt_not (pt_val (pe_callG G.ck hg hr rfl D.ck.g D.ck.F.kp D.ck.b pass0 (pa_cons (pv 2) pa_nil)))) (pss_one (ps_ret pe_bl)) pss_nil, fun D σ H h k => ?_⟩
  obtain ⟨a, d, b, m, n, rfl, h0, n0, n6, hm⟩ := h
  exact ⟨_, rfl, n, rfl, n0, n6, h0.1, fun H1 sl t1 => ⟨true, rfl, iteF (k _ _ ⟨a, d, b, m, n, rfl, h0.sameL sl t1, n0, n6, hm.sameL sl⟩)⟩⟩
theorem fr4 : ∀ y ∈ (lamS lam4).names, y.2 = .free → (defScope s_law).names.lookup y.1 = some .cell ∨ (defScope s_law).names.lookup y.1 = some .free := by decide +kernel
theorem step4 (G : Fns P w K mg base C CE T D) (TT : Tab base mg T c Pt "law.<locals>.<lambda>") (hg : A.guards = some []) (hr : RmL A s f c) : Step (XL P w K mg base f c A outer s H0 E) (stL 4) (A3 T) (A3 T) := by
  refine ⟨_, ps_if (pt_not (pt_val (pe_callG G.is_ hg (hr.mono (by decide)) rfl D.is_.g D.is_.F.kp D.is_.b pass0 (pa_cons (pe_callKS (E := fun _ _ _ _ => False) G.fr (hr.mono (by decide)) rfl D.fr.g D.fr.F.kp (kw_free D.fr) passFN (pk_cons (pv 2) pk_nil))
    (pa_cons (pe_call G.by_ (hr.mono (by decide)) rfl D.by_.g D.by_.F.kp D.by_.b .nil pass0 (pa_cons (pv 3) (pa_cons (pe_lam TT.b rfl TT.m TT.u rfl fr4) pa_nil))) pa_nil))))) (pss_one (ps_ret pe_bl)) pss_nil, fun D σ H h k => ?_⟩
  obtain ⟨a, d, b, m, n, rfl, h0, n0, n6, hm⟩ := h
  refine ⟨_, rfl, n, rfl, n0, n6, trivial, fun x U H1 s1 as1 ka1 => ⟨_, rfl, h0.1.ext s1, fun f1 c1 H2 eN nn T2 nf hf hc => ?_⟩⟩
  have L2 : SameL H H2 := (SameL.of s1).tr (.ext eN)
  rw [asc_rule as1 all_iff] at ka1
  refine ⟨m, f1, upN n, fun _ _ _ => true, rfl, (hm.sameL L2).1, by rw [upN_len]; exact n6, by rw [upN_len]; exact funV0 hf hc rfl (lok4 ⟨rfl, rfl, rfl⟩), fun t l tb H3 s3 ht hl htb => ?_⟩
  refine ⟨x, t, upN n, lotF n fun _ _ _ => true, rfl, by rw [upN_len]; exact (ka1.sameL (.ext eN)).same s3, ⟨l, tb, ht, hl, by rw [upN_len] at htb ⊢; exact htb⟩, by rw [upN_len]; exact n6, small_upN n6, lotF_smal n6, fun H4 s4 => ⟨true, rfl, iteF (k _ _ ?_)⟩⟩
  have L4 : SameL H H4 := L2.tr (.of (sTr s3 s4))
  exact ⟨a, d, b, m, n, rfl, h0.sameL L4 (T2.ext (sTr s3 s4)), n0, n6, hm.sameL L4⟩
end
end RD
set_option maxRecDepth 100000
set_option maxHeartbeats 4000000
namespace RD
open PySem PySem.Spec PyProof.Rows L2 Rd Tb Cn Lm LamX NdefX
theorem ord_iff (t : List Int) : t ∈ ordD ↔ triOk 2 t = true ∧ ∃ x y z : Nat, t = [(x : Int), (y : Int), (z : Int)] ∧ pOrd x y z = true := by
  refine filt_iff (n := 2) (fun x y z lx ly lz => ?_) t
  have hx : x = 0 ∨ x = 1 := by omega
  have hy : y = 0 ∨ y = 1 := by omega
  have hz : z = 0 ∨ z = 1 := by omega
  rcases hx with rfl | rfl <;> rcases hy with rfl | rfl <;> rcases hz with rfl | rfl <;> decide
theorem lev_iff {n : Nat} (t : List Int) : t ∈ (allT n).filter lev ↔ triOk n t = true ∧ ∃ x y z : Nat, t = [(x : Int), (y : Int), (z : Int)] ∧ pLev x y z = true := filt_iff (fun x y z _ _ _ => rfl) t
section
variable {P : Program} {w : World} {K : PySem.W.Frag} {mg : Str → Option Value} {base : Heap} {C CE f c Pt : Addr} {T : List (Addr × Str)} {A : Around} {outer : List Env} {s : Shared} {H0 : Hp} {E : XK} {D : Defs K mg}
theorem fr5 : ∀ y ∈ (lamS lam5).names, y.2 = .free → (defScope s_law).names.lookup y.1 = some .cell ∨ (defScope s_law).names.lookup y.1 = some .free := by decide +kernel
theorem fr6 : ∀ y ∈ (lamS lam6).names, y.2 = .free → (defScope s_law).names.lookup y.1 = some .cell ∨ (defScope s_law).names.lookup y.1 = some .free := by decide +kernel
theorem step5 (G : Fns P w K mg base C CE T D) (TT : Tab base mg T c Pt "law.<locals>.<lambda>") (hg : A.guards = some []) (hr : RmL A s f c) : Step (XL P w K mg base f c A outer s H0 E) (stL 5) (A3 T) (A3 T) := by
  refine ⟨_, ps_if (pt_not (pt_val (pe_callG G.is_ hg (hr.mono (by decide)) rfl D.is_.g D.is_.F.kp D.is_.b pass0 (pa_cons (pe_call0 G.ok hr rfl D.ok.g D.ok.F.kp D.ok.b .nil passN0)
    (pa_cons (pe_call G.by_ (hr.mono (by decide)) rfl D.by_.g D.by_.F.kp D.by_.b .nil pass0 (pa_cons (pe_lst (pa_cons pe_int (pa_cons pe_int pa_nil))) (pa_cons (pe_lam TT.b rfl TT.m TT.u rfl fr5) pa_nil))) pa_nil))))) (pss_one (ps_ret pe_bl)) pss_nil, fun D σ H h k => ?_⟩
  obtain ⟨a, d, b, m, n, rfl, h0, n0, n6, hm⟩ := h
  refine ⟨rfl, fun x U H1 s1 as1 ka1 => ⟨by show 2 ≤ sizeLine; decide, fun l0 nl0 => ⟨(h0.1.ext s1).ext (same1 nl0), fun f1 c1 H2 eN nn T2 nf hf hc => ?_⟩⟩⟩
  have s1b := sTr s1 (same1 (o := .lst [.int 1, .int 0]) nl0)
  have hl0 : (upd H1 l0 (.lst [.int 1, .int 0])) l0 = some (.lst (([1, 0] : List Int).map V.int)) := upd_same
  have ka1 := ka1.same (same1 (o := .lst [.int 1, .int 0]) nl0)
  have hl2 : H2 l0 = some (.lst (([1, 0] : List Int).map V.int)) := eN _ _ hl0 fun ps z => by cases z
  have L2 : SameL H H2 := (SameL.of s1b).tr (.ext eN)
  rw [asc_rule as1 ord_iff] at ka1
  refine ⟨l0, f1, [1, 0], pOrd, rfl, hl2, by decide, funV0 hf hc rfl (lok5 ⟨rfl, rfl, rfl⟩), fun t l tb H3 s3 ht hl htb => ?_⟩
  refine ⟨x, t, [1, 0], lotF 2 pOrd, rfl, (ka1.sameL (.ext eN)).same s3, ⟨l, tb, ht, hl, htb⟩, by decide, by decide, lotF_smal (by decide), fun H4 s4 => ⟨true, rfl, iteF (k _ _ ?_)⟩⟩
  have L4 : SameL H H4 := L2.tr (.of (sTr s3 s4))
  exact ⟨a, d, b, m, n, rfl, h0.sameL L4 (T2.ext (sTr s3 s4)), n0, n6, hm.sameL L4⟩
def A6 (T : List (Addr × Str)) (K : PySem.W.Frag) (σ : L2.St) (H : Hp) : Prop := ∃ a d b m t, ∃ n : Nat, σ = [some (.ref a), some (.ref d), some (.int (n : Nat)), some (.ref m), some (.ref t), none, none, none, none, none, none, none, none, none, none, none, none] ∧ B0 T d b H ∧ 0 < n ∧ n ≤ 6 ∧ Lst d b m (upN n) H ∧ LawK K H t (upN n) (lotF n pLev)
def A7 (T : List (Addr × Str)) (σ : L2.St) (H : Hp) : Prop := ∃ a d b m o4, ∃ n : Nat, σ = [some (.ref a), some (.ref d), some (.int (n : Nat)), some (.ref m), o4, none, none, none, none, none, none, none, none, none, none, none, none] ∧ B0 T d b H ∧ 0 < n ∧ n ≤ 6 ∧ Lst d b m (upN n) H
theorem step6 (G : Fns P w K mg base C CE T D) (TT : Tab base mg T c Pt "law.<locals>.<lambda>") (hr : RmL A s f c) : Step (XL P w K mg base f c A outer s H0 E) (stL 6) (A3 T) (A6 T K) := by
  have nd := sc_law.nd
  refine ⟨_, ps_set (i := 4) nd rfl (.inl rfl) (pe_call G.by_ (hr.mono (by decide)) rfl D.by_.g D.by_.F.kp D.by_.b .nil pass0 (pa_cons (pv 3) (pa_cons (pe_lam TT.b rfl TT.m TT.u rfl fr6) pa_nil))), fun D σ H h k => ?_⟩
  obtain ⟨a, d, b, m, n, rfl, h0, n0, n6, hm⟩ := h
  refine ⟨_, rfl, h0.1, fun f1 c1 H2 eN nn T2 nf hf hc => ?_⟩
  have L2 : SameL H H2 := .ext eN
  refine ⟨m, f1, upN n, pLev, rfl, (hm.sameL L2).1, by rw [upN_len]; exact n6, by rw [upN_len]; exact funV0 hf hc rfl (lok6 ⟨rfl, rfl, rfl⟩), fun t l tb H3 s3 ht hl htb => k _ _ ?_⟩
  have L3 : SameL H H3 := L2.tr (.of s3)
  exact ⟨a, d, b, m, t, n, rfl, h0.sameL L3 (T2.ext s3), n0, n6, hm.sameL L3, l, tb, ht, hl, by rw [upN_len] at htb ⊢; exact htb⟩
theorem step7 (G : Fns P w K mg base C CE T D) (hg : A.guards = some []) (hr : RmL A s f c) : Step (XL P w K mg base f c A outer s H0 E) (stL 7) (A6 T K) (A7 T) := by
  refine ⟨_, ps_if (pt_not (pt_val (pe_callG G.is_ hg (hr.mono (by decide)) rfl D.is_.g D.is_.F.kp D.is_.b pass0 (pa_cons (pe_callKS (E := fun _ _ _ _ => False) G.lk (hr.mono (by decide)) rfl D.lk.g D.lk.F.kp (kw_level D.lk) passFN (pk_cons (pv 2) pk_nil))
    (pa_cons (pv 4) pa_nil))))) (pss_one (ps_ret pe_bl)) pss_nil, fun D σ H h k => ?_⟩
  obtain ⟨a, d, b, m, t, n, rfl, h0, n0, n6, hm, hk⟩ := h
  refine ⟨_, rfl, n, rfl, n0, n6, trivial, fun x U H1 s1 as1 ka1 => ⟨_, rfl, ?_⟩⟩
  rw [asc_rule as1 lev_iff] at ka1
  refine ⟨x, t, upN n, lotF n pLev, rfl, by rw [upN_len]; exact ka1, hk.same s1, by rw [upN_len]; exact n6, small_upN n6, lotF_smal n6, fun H4 s4 => ⟨true, rfl, iteF (k _ _ ?_)⟩⟩
  have L4 : SameL H H4 := .of (sTr s1 s4)
  exact ⟨a, d, b, m, _, n, rfl, h0.same (sTr s1 s4), n0, n6, hm.sameL L4⟩
end
end RD
set_option maxRecDepth 100000
set_option maxHeartbeats 4000000
namespace RD
open PySem PySem.Spec PyProof.Rows L2 Rd Tb Cn Lm LamX NdefX
/-! ### distances -/
structure Num (n : Nat) (ns : List Int) : Prop where
  l : ns.length = n
  a : ns.Pairwise (· < ·)
  b : ∀ x ∈ ns, 1 ≤ x ∧ x < 1000
theorem Num.at_ {n : Nat} {ns : List Int} (N : Num n ns) {i : Nat} (h : i < n) : ∃ k, (ns.map V.int)[i]? = some (.int k) ∧ ns[i]? = some k ∧ 1 ≤ k ∧ k < 1000 ∧ befN (ns.map V.int) i < k := by
  have l := N.l
  have hi : i < ns.length := by omega
  have e : ns[i]? = some ns[i] := List.getElem?_eq_getElem hi
  obtain ⟨b1, b2⟩ := N.b _ (List.getElem_mem hi)
  refine ⟨ns[i], by rw [List.getElem?_map, e] <;> rfl, e, b1, b2, ?_⟩
  cases i with
  | zero =>
    show (0 : Int) < _
    omega
  | succ j =>
    have hj : j < ns.length := by omega
    have ej : (ns.map V.int)[j]? = some (.int ns[j]) := by rw [List.getElem?_map, List.getElem?_eq_getElem hj] <;> rfl
    rw [befN_succ ej]
    exact List.pairwise_iff_getElem.mp N.a j (j + 1) hj hi (Nat.lt_succ_self j)
theorem Num.ok {n : Nat} {ns : List Int} (N : Num n ns) {i : Nat} (h : i < n) : numOk (ns.map V.int) i = true := by
  obtain ⟨k, e, _, k1, _, kb⟩ := N.at_ h
  rw [numOk_at e]
  show (decide (0 ≤ k) && decide (befN (ns.map V.int) i < k)) = true
  rw [decide_eq_true kb, decide_eq_true (by omega)]
  rfl
theorem Num.good {n : Nat} {ns : List Int} (N : Num n ns) (n0 : 0 < n) (n6 : n ≤ 6) : numBad (ns.map V.int) = none := by
  have l := N.l
  rw [numBad_no (fun z => by
    have z := congrArg List.length z
    rw [List.length_map, List.length_nil] at z
    omega) fun j hj => N.ok (by rw [List.length_map] at hj; omega), if_neg (by rw [List.length_map]; omega)]
theorem dis_iff {n : Nat} {ns : List Int} (t : List Int) : t ∈ (allT n).filter (tri ns) ↔ triOk n t = true ∧ ∃ x y z : Nat, t = [(x : Int), (y : Int), (z : Int)] ∧ pDis ns x y z = true := by
  refine filt_iff (fun x y z _ _ _ => ?_) t
  show triB (tn ns x) (tn ns y) (tn ns z) = pDis ns x y z
  unfold triB pDis
  rw [decide_eq_decide]
  omega
theorem cut_take {ms : List Int} {n : Nat} (h : n ≤ ms.length) : cutV (ms.map V.int) none (some (n : Nat)) = (ms.take n).map V.int := by
  unfold cutV
  rw [HT.sIx_nat, HT.sIx_none, List.length_map, Nat.min_eq_left h, List.drop_zero, Nat.sub_zero, List.map_take]
def upR (n : Nat) : List Int := (List.range n).map fun (i : Nat) => 1 + (i : Int)
theorem rgV1 {h : Int} : rgV 1 h = (upR (h - 1).toNat).map V.int := by simp [rgV, upR]
theorem upR_len (n : Nat) : (upR n).length = n := by simp [upR]
theorem upR_mem {n : Nat} {x : Int} (h : x ∈ upR n) : 1 ≤ x ∧ x ≤ n := by
  unfold upR at h
  obtain ⟨i, hi, rfl⟩ := List.mem_map.mp h
  have := List.mem_range.mp hi
  omega
theorem upR_lt (n : Nat) : (upR n).Pairwise (· < ·) := by
  unfold upR
  exact List.pairwise_map.mpr (List.pairwise_lt_range.imp fun h => by omega)
theorem lt_of_le_nodup {l : List Int} (h : l.Pairwise (· ≤ ·)) (n : l.Nodup) : l.Pairwise (· < ·) := (h.and n).imp fun ⟨a, b⟩ => by
  have : _ ≠ _ := b
  omega
theorem num_pick {n m : Nat} {ms us : List Int} (pm : ms.Perm (upR m)) (le : n ≤ m) (lm : m < 999) (pu : us.Perm (ms.take n)) (so : us.Pairwise (· ≤ ·)) : Num n us := by
  have ndm : ms.Nodup := pm.nodup_iff.mpr ((upR_lt m).imp fun h => by omega)
  have ndt : (ms.take n).Nodup := ndm.sublist (List.take_sublist n ms)
  have ndu : us.Nodup := pu.nodup_iff.mpr ndt
  refine ⟨?_, lt_of_le_nodup so ndu, fun x hx => ?_⟩
  · rw [pu.length_eq, List.length_take, pm.length_eq, upR_len]
    omega
  · have := upR_mem (pm.mem_iff.mp (List.mem_of_mem_take (pu.mem_iff.mp hx)))
    omega
section
variable {P : Program} {w : World} {K : PySem.W.Frag} {mg : Str → Option Value} {base : Heap} {C CE f c Pt : Addr} {T : List (Addr × Str)} {A : Around} {outer : List Env} {s : Shared} {H0 : Hp} {E : XK} {D : Defs K mg}
def A8 (T : List (Addr × Str)) (σ : L2.St) (H : Hp) : Prop := ∃ a d b m o4 u, ∃ n : Nat, ∃ ns, σ = [some (.ref a), some (.ref d), some (.int (n : Nat)), some (.ref m), o4, none, none, none, none, none, none, none, none, none, some (.ref u), none, none] ∧ B0 T d b H ∧ 0 < n ∧ n ≤ 6 ∧ Lst d b m (upN n) H ∧ Lst d b u ns H ∧ Num n ns
def A9 (T : List (Addr × Str)) (K : PySem.W.Frag) (σ : L2.St) (H : Hp) : Prop := ∃ a d b m o4 u t, ∃ n : Nat, ∃ ns, σ = [some (.ref a), some (.ref d), some (.int (n : Nat)), some (.ref m), o4, some (.ref t), none, none, none, none, none, none, none, none, some (.ref u), none, none] ∧ B0 T d b H ∧ 0 < n ∧ n ≤ 6 ∧ Lst d b m (upN n) H ∧ Lst d b u ns H ∧ Num n ns ∧ LawK K H t (upN n) (lotF n (pDis ns))
def A10 (T : List (Addr × Str)) (σ : L2.St) (H : Hp) : Prop := ∃ a d b m o4 o5 u, ∃ n : Nat, ∃ ns, σ = [some (.ref a), some (.ref d), some (.int (n : Nat)), some (.ref m), o4, o5, none, none, none, none, none, none, none, none, some (.ref u), none, none] ∧ B0 T d b H ∧ 0 < n ∧ n ≤ 6 ∧ Lst d b m (upN n) H ∧ Lst d b u ns H ∧ Num n ns
theorem step8 (G : Fns P w K mg base C CE T D) (hB : Bn mg) (hr : RmL A s f c) : Step (XL P w K mg base f c A outer s H0 E) (stL 8) (A7 T) (A8 T) := by
  have nd := sc_law.nd
  have gn := hB.gn
  refine ⟨_, ps_set (i := 14) nd rfl (.inr rfl) (pe_callB cr_sorted rfl (gn _ (by decide)) PyProof.Rows.boot_sorted (pa_cons (pe_slice sl_list (pe_call G.mi (hr.mono (by decide)) rfl D.mi.g D.mi.F.kp D.mi.b .nil pass0 (pa_cons (pv 1) (pa_cons
    (pe_listRg rfl rfl (gn _ (by decide)) (prg_2 rfl (gn _ (by decide)) pe_int (pe_op op_add pe_int (pe_op op_mul (pv 2) (pe_op op_add pe_int (pe_call G.an (hr.mono (by decide)) rfl D.an.g D.an.F.kp D.an.b .nil pass0 (pa_cons (pv 1) (pa_cons pe_int pa_nil)))))))) pa_nil))) po_none (po_some (pv 2))) pa_nil)), fun D σ H h k => ?_⟩
  obtain ⟨a, d, b, m, o4, n, rfl, h0, n0, n6, hm⟩ := h
  refine ⟨_, rfl, _, rfl, _, rfl, d, b, 3, rfl, h0.2, by decide, by decide, fun r H1 r0 r1 dl sx => ⟨1, r, rfl, rfl, n, 1 + r, rfl, rfl, .inl ⟨by omega, by omega⟩, 4, (n : Int) * (1 + r), rfl, rfl, 1, 4 + (n : Int) * (1 + r), rfl, rfl, ?_⟩⟩
  have hb : (n : Int) ≤ n * (1 + r) ∧ (n : Int) * (1 + r) ≤ 18 := by
    have : r = 0 ∨ r = 1 ∨ r = 2 := by omega
    rcases this with rfl | rfl | rfl <;> omega
  generalize (n : Int) * (1 + r) = v at hb ⊢
  refine ⟨RgOk.of_le (by omega) (by omega) (by omega) (by omega), fun q nq => ?_⟩
  rw [rgV1]
  generalize hl : (4 + v - 1).toNat = l
  have l1 : n ≤ l := by omega
  have l2 : l ≤ 21 := by omega
  obtain ⟨q1, q2⟩ := dl.ne nq
  have s1 := same1 (o := .lst ((upR l).map V.int)) nq
  refine ⟨d, b, q, upR l, rfl, dl.same s1, .inl upd_same, q1, q2, by rw [upR_len]; omega, fun g ms H2 pm ng hg2 dl2 sx2 => ⟨_, rfl, n, rfl, g, _, rfl, .of hg2, fun p np => ?_⟩⟩
  have lm : ms.length = l := by rw [pm.length_eq, upR_len]
  rw [cut_take (by omega)]
  have s2 := same1 (o := .lst ((ms.take n).map V.int)) np
  refine ⟨p, ms.take n, rfl, .of upd_same, by rw [List.length_take]; omega, fun us p2 pu so np2 => k _ _ ?_⟩
  have s3 := same1 (o := .lst (us.map V.int)) np2
  have h3 : B0 T d b _ := (((h0.draw dl sx).same s1).draw dl2 sx2).same (sTr s2 s3)
  have hm3 : Lst d b m (upN n) _ := (((hm.draw sx).sameL (.of s1)).draw sx2).sameL (.of (sTr s2 s3))
  exact ⟨a, d, b, m, o4, p2, n, us, rfl, h3, n0, n6, hm3, ⟨upd_same, (dl2.same s2).ne np2⟩, num_pick pm l1 (by omega) pu so⟩
theorem fr9 : ∀ y ∈ (lamS lam9).names, y.2 = .free → (defScope s_law).names.lookup y.1 = some .cell ∨ (defScope s_law).names.lookup y.1 = some .free := by decide +kernel
theorem in9 : ∀ y ∈ (["numbers"] : List Str), (y, NameKind.free) ∈ (lamS lam9).names := by decide +kernel
theorem all9 : ∀ y ∈ (lamS lam9).names, y.2 = .free → y.1 ∈ (["numbers"] : List Str) := by decide +kernel
theorem step9 (G : Fns P w K mg base C CE T D) (TT : Tab base mg T c Pt "law.<locals>.<lambda>") (hB : Bn mg) (hr : RmL A s f c) : Step (XL P w K mg base f c A outer s H0 E) (stL 9) (A8 T) (A9 T K) := by
  have nd := sc_law.nd
  refine ⟨_, ps_set (i := 5) nd rfl (.inl rfl) (pe_callPin (fr := ["numbers"]) (js := [14]) G.by_ (hr.mono (by decide)) rfl D.by_.g D.by_.F.kp D.by_.b (fun ok => Caps.made ok fr9 in9 rfl) (clo_all all9) (fun _ _ => rfl) (pa_cons (pv 3) (pa_cons (pe_lam TT.b rfl TT.m TT.u rfl fr9) pa_nil))), fun D σ H h k => ?_⟩
  obtain ⟨a, d, b, m, o4, u, n, ns, rfl, h0, n0, n6, hm, hu, hn⟩ := h
  refine ⟨[.ref u], rfl, _, rfl, h0.1, fun f1 c1 H3 eN nn T3 nf hf hc H4 pc sm no => ?_⟩
  have p34 : Same H3 H4 := fun b o e => by rw [sm b fun z => by rw [no b z] at e; cases e]; exact e
  have hm4 := p34 _ _ (eN _ _ hm.1 fun ps z => by cases z)
  have hu4 := p34 _ _ (eN _ _ hu.1 fun ps z => by cases z)
  have fv : FunV P w K mg base 1 f1 (spR n (pDis ns)) H4 := by
    refine funV_of (p34 _ _ hf) (p34 _ _ hc) pc (Hy := fun H => H u = some (.lst (ns.map V.int))) ?_ fun H1 s1 => ?_
    · rw [← hn.l]
      exact lok9 hB (by rw [hn.l]; exact n6) (fun x hx => by have := hn.b x hx; omega) ⟨rfl, rfl, rfl⟩
    · exact (off_ne (still_ne (pc.same s1).still (s1 _ _ hu4) fun x y z => by cases z)).trans (s1 _ _ hu4)
  refine ⟨m, f1, upN n, pDis ns, rfl, hm4, by rw [upN_len]; exact n6, by rw [upN_len]; exact fv, fun t l tb H5 s5 ht hl htb => ?_⟩
  have k1 : LawK K (off _ H5) t (upN n) (lotF n (pDis ns)) := LawK.sameL ⟨l, tb, ht, hl, by rw [upN_len] at htb ⊢; exact htb⟩ (off_L pc s5)
  have s6 := off_same s5 sm no
  have L6 := (SameL.ext eN).tr (.of s6)
  exact k _ _ ⟨a, d, b, m, o4, u, t, n, ns, rfl, h0.sameL L6 (T3.ext s6), n0, n6, hm.sameL L6, hu.sameL L6, hn, k1⟩
theorem step10 (G : Fns P w K mg base C CE T D) (hB : Bn mg) (hg : A.guards = some []) (hr : RmL A s f c) : Step (XL P w K mg base f c A outer s H0 E) (stL 10) (A9 T K) (A10 T) := by
  have gn := hB.gn
  refine ⟨_, ps_if (pt_not (pt_val (pe_callG G.is_ hg (hr.mono (by decide)) rfl D.is_.g D.is_.F.kp D.is_.b pass0 (pa_cons (pe_call G.dk (hr.mono (by decide)) rfl D.dk.g D.dk.F.kp D.dk.b .nil passN0 (pa_cons (pe_callTy (r := rTupOf K) cr_tuple rfl (gn _ (by decide)) PyProof.Rows.boot_tuple (pa_cons (pv 14) pa_nil)) pa_nil))
    (pa_cons (pv 5) pa_nil))))) (pss_one (ps_ret pe_bl)) pss_nil, fun D σ H h k => ?_⟩
  obtain ⟨a, d, b, m, o4, u, t, n, ns, rfl, h0, n0, n6, hm, hu, hn, hk⟩ := h
  refine ⟨_, rfl, ?_⟩
  unfold tNil
  dsimp only
  refine tuple_any (.inl hu.1) fun t1 H1 s1 ht1 => ?_
  have ln := hn.l
  refine ⟨_, rfl, .inr (.inr ⟨t1, _, rfl, ht1, pln_ints, fun _ => ⟨ns, rfl, by omega, by omega, fun x U H2 s2 as2 ka2 => ⟨_, rfl, ?_⟩⟩, fun j e => ?_⟩)⟩
  · rw [ln] at as2 ka2
    rw [asc_rule as2 dis_iff] at ka2
    refine ⟨x, t, upN n, lotF n (pDis ns), rfl, by rw [upN_len]; exact ka2, hk.same (sTr s1 s2), by rw [upN_len]; exact n6, small_upN n6, lotF_smal n6, fun H4 s4 => ⟨true, rfl, iteF (k _ _ ?_)⟩⟩
    have s5 := sTr s1 (sTr s2 s4)
    exact ⟨a, d, b, m, o4, _, u, n, ns, rfl, h0.same s5, n0, n6, hm.sameL (.of s5), hu.sameL (.of s5), hn⟩
  · rw [hn.good n0 n6] at e
    cases e
end
end RD
set_option maxRecDepth 100000
set_option maxHeartbeats 4000000
namespace RD
open PySem PySem.Spec PyProof.Rows L2 Rd Tb Cn Lm LamX NdefX
theorem num_upR {q : Nat} (h : q < 999) : Num q (upR q) := ⟨upR_len q, upR_lt q, fun x hx => by have := upR_mem hx; omega⟩
theorem tn_upR {q x : Nat} (h : x < q) : tn (upR q) (x : Nat) = 1 + (x : Int) := by
  unfold tn upR
  rw [Int.toNat_natCast]
  simp [List.getD, h]
theorem apt_iff {q : Nat} (t : List Int) : t ∈ (allT q).filter (tri (upR q)) ↔ triOk q t = true ∧ ∃ x y z : Nat, t = [(x : Int), (y : Int), (z : Int)] ∧ pApt x y z = true := by
  refine filt_iff (fun x y z lx ly lz => ?_) t
  show triB (tn (upR q) x) (tn (upR q) y) (tn (upR q) z) = pApt x y z
  rw [tn_upR lx, tn_upR ly, tn_upR lz]
  unfold triB pApt mx
  rw [decide_eq_decide]
  repeat' split
  all_goals omega
section
variable {P : Program} {w : World} {K : PySem.W.Frag} {mg : Str → Option Value} {base : Heap} {C CE f c Pt : Addr} {T : List (Addr × Str)} {A : Around} {outer : List Env} {s : Shared} {H0 : Hp} {E : XK} {D : Defs K mg}
def A11 (T : List (Addr × Str)) (σ : L2.St) (H : Hp) : Prop := ∃ a d b m o4 o5 u, ∃ n q : Nat, ∃ ns, σ = [some (.ref a), some (.ref d), some (.int (n : Nat)), some (.ref m), o4, o5, some (.int (q : Nat)), none, none, none, none, none, none, none, some (.ref u), none, none] ∧ B0 T d b H ∧ 0 < n ∧ n ≤ 6 ∧ Lst d b m (upN n) H ∧ Lst d b u ns H ∧ Num n ns ∧ 0 < q ∧ q ≤ 4
def A13 (T : List (Addr × Str)) (K : PySem.W.Frag) (σ : L2.St) (H : Hp) : Prop := ∃ a d b m o4 o5 u t, ∃ n q : Nat, ∃ ns, σ = [some (.ref a), some (.ref d), some (.int (n : Nat)), some (.ref m), o4, o5, some (.int (q : Nat)), some (.ref t), none, none, none, none, none, none, some (.ref u), none, none] ∧ B0 T d b H ∧ 0 < n ∧ n ≤ 6 ∧ Lst d b m (upN n) H ∧ Lst d b u ns H ∧ Num n ns ∧ 0 < q ∧ q ≤ 4 ∧ LawK K H t (upN q) (lotF q pLev)
def A14 (T : List (Addr × Str)) (K : PySem.W.Frag) (σ : L2.St) (H : Hp) : Prop := ∃ a d b m o4 o5 u t t2, ∃ n q : Nat, ∃ ns, σ = [some (.ref a), some (.ref d), some (.int (n : Nat)), some (.ref m), o4, o5, some (.int (q : Nat)), some (.ref t), some (.ref t2), none, none, none, none, none, some (.ref u), none, none] ∧ B0 T d b H ∧ 0 < n ∧ n ≤ 6 ∧ Lst d b m (upN n) H ∧ Lst d b u ns H ∧ Num n ns ∧ 0 < q ∧ q ≤ 4 ∧ LawK K H t (upN q) (lotF q pLev) ∧ LawK K H t2 (upN q) (lotF q pApt)
def A15 (T : List (Addr × Str)) (σ : L2.St) (H : Hp) : Prop := ∃ a d b m o4 o5 o6 o7 o8 u, ∃ n : Nat, ∃ ns, σ = [some (.ref a), some (.ref d), some (.int (n : Nat)), some (.ref m), o4, o5, o6, o7, o8, none, none, none, none, none, some (.ref u), none, none] ∧ B0 T d b H ∧ 0 < n ∧ n ≤ 6 ∧ Lst d b m (upN n) H ∧ Lst d b u ns H ∧ Num n ns
theorem step11 (G : Fns P w K mg base C CE T D) (hr : RmL A s f c) : Step (XL P w K mg base f c A outer s H0 E) (stL 11) (A10 T) (A11 T) := by
  have nd := sc_law.nd
  refine ⟨_, ps_set (i := 6) nd rfl (.inl rfl) (pe_op op_add pe_int (pe_call G.an (hr.mono (by decide)) rfl D.an.g D.an.F.kp D.an.b .nil pass0 (pa_cons (pv 1) (pa_cons pe_int pa_nil)))), fun D σ H h k => ?_⟩
  obtain ⟨a, d, b, m, o4, o5, u, n, ns, rfl, h0, n0, n6, hm, hu, hn⟩ := h
  refine ⟨_, rfl, d, b, 4, rfl, h0.2, by decide, by decide, fun r H1 r0 r1 dl sx => ⟨1, r, rfl, rfl, k _ _ ⟨a, d, b, m, o4, o5, u, n, (1 + r).toNat, ns, ?_, h0.draw dl sx, n0, n6, hm.draw sx, hu.draw sx, hn, by omega, by omega⟩⟩⟩
  rw [show (((1 + r).toNat : Nat) : Int) = 1 + r from by omega]
  rfl
theorem fr12 : ∀ y ∈ (lamS lam12).names, y.2 = .free → (defScope s_law).names.lookup y.1 = some .cell ∨ (defScope s_law).names.lookup y.1 = some .free := by decide +kernel
theorem fr13 : ∀ y ∈ (lamS lam13).names, y.2 = .free → (defScope s_law).names.lookup y.1 = some .cell ∨ (defScope s_law).names.lookup y.1 = some .free := by decide +kernel
theorem fr14 : ∀ y ∈ (lamS lam14).names, y.2 = .free → (defScope s_law).names.lookup y.1 = some .cell ∨ (defScope s_law).names.lookup y.1 = some .free := by decide +kernel
theorem step12 (G : Fns P w K mg base C CE T D) (TT : Tab base mg T c Pt "law.<locals>.<lambda>") (hB : Bn mg) (hg : A.guards = some []) (hr : RmL A s f c) : Step (XL P w K mg base f c A outer s H0 E) (stL 12) (A11 T) (A11 T) := by
  have gn := hB.gn
  refine ⟨_, ps_if (PW.pt (pw_or (pt_not (pt_val (pe_callG G.ck hg hr rfl D.ck.g D.ck.F.kp D.ck.b pass0 (pa_cons (pv 6) pa_nil)))) (pw_or1 (pt_not (pt_val (pe_callG G.is_ hg (hr.mono (by decide)) rfl D.is_.g D.is_.F.kp D.is_.b pass0 (pa_cons (pe_call G.fr (hr.mono (by decide)) rfl D.fr.g D.fr.F.kp D.fr.b .nil passN0 (pa_cons (pv 6) pa_nil))
    (pa_cons (pe_call G.by_ (hr.mono (by decide)) rfl D.by_.g D.by_.F.kp D.by_.b .nil pass0 (pa_cons (pe_listRg rfl rfl (gn _ (by decide)) (prg_1 rfl (gn _ (by decide)) (pv 6))) (pa_cons (pe_lam TT.b rfl TT.m TT.u rfl fr12) pa_nil))) pa_nil)))))))) (pss_one (ps_ret pe_bl)) pss_nil, fun D σ H h k => ?_⟩
  obtain ⟨a, d, b, m, o4, o5, u, n, q, ns, rfl, h0, n0, n6, hm, hu, hn, q0, q4⟩ := h
  refine ⟨_, rfl, q, rfl, q0, by omega, h0.1, fun H1 sl t1 => ⟨true, rfl, iteF ?_⟩⟩
  refine ⟨_, rfl, q, rfl, q0, by omega, trivial, fun x U H2 s2 as2 ka2 => ⟨_, rfl, q, rfl, RgOk.of_le (by omega) (by omega) (by omega) (by omega), fun l0 nl0 => ?_⟩⟩
  rw [rgV0]
  have s3 := same1 (o := .lst ((upN q).map V.int)) nl0
  have hl0 : (upd H2 l0 (.lst ((upN q).map V.int))) l0 = some (.lst ((upN q).map V.int)) := upd_same
  have t3 := t1.ext (sTr s2 s3)
  have L3 := sl.tr (.of (sTr s2 s3))
  have ka3 := ka2.same s3
  generalize upd H2 l0 (.lst ((upN q).map V.int)) = H3 at s3 hl0 t3 L3 ka3 ⊢
  refine ⟨t3, fun f1 c1 H4 eN nn T4 nf hf hc => ?_⟩
  rw [asc_rule as2 all_iff] at ka3
  refine ⟨l0, f1, upN q, fun _ _ _ => true, rfl, eN _ _ hl0 fun ps z => (by cases z), by rw [upN_len]; omega, by rw [upN_len]; exact funV0 hf hc rfl (lok12 ⟨rfl, rfl, rfl⟩), fun t l tb H5 s5 ht hl htb => ?_⟩
  refine ⟨x, t, upN q, lotF q fun _ _ _ => true, rfl, by rw [upN_len]; exact (ka3.sameL (.ext eN)).same s5, ⟨l, tb, ht, hl, by rw [upN_len] at htb ⊢; exact htb⟩, by rw [upN_len]; omega, small_upN (by omega), lotF_smal (by omega), fun H6 s6 => ⟨true, rfl, iteF (k _ _ ?_)⟩⟩
  have L6 : SameL H H6 := (L3.tr (.ext eN)).tr (.of (sTr s5 s6))
  exact ⟨a, d, b, m, o4, o5, u, n, q, ns, rfl, h0.sameL L6 (T4.ext (sTr s5 s6)), n0, n6, hm.sameL L6, hu.sameL L6, hn, q0, q4⟩
theorem step13 (G : Fns P w K mg base C CE T D) (TT : Tab base mg T c Pt "law.<locals>.<lambda>") (hB : Bn mg) (hr : RmL A s f c) : Step (XL P w K mg base f c A outer s H0 E) (stL 13) (A11 T) (A13 T K) := by
  have gn := hB.gn
  have nd := sc_law.nd
  refine ⟨_, ps_set (i := 7) nd rfl (.inl rfl) (pe_call G.by_ (hr.mono (by decide)) rfl D.by_.g D.by_.F.kp D.by_.b .nil pass0 (pa_cons (pe_listRg rfl rfl (gn _ (by decide)) (prg_1 rfl (gn _ (by decide)) (pv 6))) (pa_cons (pe_lam TT.b rfl TT.m TT.u rfl fr13) pa_nil))), fun D σ H h k => ?_⟩
  obtain ⟨a, d, b, m, o4, o5, u, n, q, ns, rfl, h0, n0, n6, hm, hu, hn, q0, q4⟩ := h
  refine ⟨_, rfl, q, rfl, RgOk.of_le (by omega) (by omega) (by omega) (by omega), fun l0 nl0 => ?_⟩
  rw [rgV0]
  have s3 := same1 (o := .lst ((upN q).map V.int)) nl0
  have hl0 : (upd H l0 (.lst ((upN q).map V.int))) l0 = some (.lst ((upN q).map V.int)) := upd_same
  generalize upd H l0 (.lst ((upN q).map V.int)) = H3 at s3 hl0 ⊢
  refine ⟨h0.1.ext s3, fun f1 c1 H4 eN nn T4 nf hf hc => ?_⟩
  refine ⟨l0, f1, upN q, pLev, rfl, eN _ _ hl0 fun ps z => (by cases z), by rw [upN_len]; omega, by rw [upN_len]; exact funV0 hf hc rfl (lok13 ⟨rfl, rfl, rfl⟩), fun t l tb H5 s5 ht hl htb => k _ _ ?_⟩
  have L6 : SameL H H5 := ((SameL.of s3).tr (.ext eN)).tr (.of s5)
  exact ⟨a, d, b, m, o4, o5, u, t, n, q, ns, rfl, h0.sameL L6 (T4.ext s5), n0, n6, hm.sameL L6, hu.sameL L6, hn, q0, q4, l, tb, ht, hl, by rw [upN_len] at htb ⊢; exact htb⟩
theorem step14 (G : Fns P w K mg base C CE T D) (TT : Tab base mg T c Pt "law.<locals>.<lambda>") (hB : Bn mg) (hr : RmL A s f c) : Step (XL P w K mg base f c A outer s H0 E) (stL 14) (A13 T K) (A14 T K) := by
  have gn := hB.gn
  have nd := sc_law.nd
  refine ⟨_, ps_set (i := 8) nd rfl (.inl rfl) (pe_call G.by_ (hr.mono (by decide)) rfl D.by_.g D.by_.F.kp D.by_.b .nil pass0 (pa_cons (pe_listRg rfl rfl (gn _ (by decide)) (prg_1 rfl (gn _ (by decide)) (pv 6))) (pa_cons (pe_lam TT.b rfl TT.m TT.u rfl fr14) pa_nil))), fun D σ H h k => ?_⟩
  obtain ⟨a, d, b, m, o4, o5, u, t0, n, q, ns, rfl, h0, n0, n6, hm, hu, hn, q0, q4, hk⟩ := h
  refine ⟨_, rfl, q, rfl, RgOk.of_le (by omega) (by omega) (by omega) (by omega), fun l0 nl0 => ?_⟩
  rw [rgV0]
  have s3 := same1 (o := .lst ((upN q).map V.int)) nl0
  have hl0 : (upd H l0 (.lst ((upN q).map V.int))) l0 = some (.lst ((upN q).map V.int)) := upd_same
  generalize upd H l0 (.lst ((upN q).map V.int)) = H3 at s3 hl0 ⊢
  refine ⟨h0.1.ext s3, fun f1 c1 H4 eN nn T4 nf hf hc => ?_⟩
  refine ⟨l0, f1, upN q, pApt, rfl, eN _ _ hl0 fun ps z => (by cases z), by rw [upN_len]; omega, by rw [upN_len]; exact funV0 hf hc rfl (lok14 hB ⟨rfl, rfl, rfl⟩), fun t l tb H5 s5 ht hl htb => k _ _ ?_⟩
  have L6 : SameL H H5 := ((SameL.of s3).tr (.ext eN)).tr (.of s5)
  exact ⟨a, d, b, m, o4, o5, u, t0, t, n, q, ns, rfl, h0.sameL L6 (T4.ext s5), n0, n6, hm.sameL L6, hu.sameL L6, hn, q0, q4, hk.sameL L6, l, tb, ht, hl, by rw [upN_len] at htb ⊢; exact htb⟩
theorem step15 (G : Fns P w K mg base C CE T D) (hB : Bn mg) (hg : A.guards = some []) (hr : RmL A s f c) : Step (XL P w K mg base f c A outer s H0 E) (stL 15) (A14 T K) (A15 T) := by
  have gn := hB.gn
  refine ⟨_, ps_if (PW.pt (pw_or (pt_not (pt_val (pe_callG G.is_ hg (hr.mono (by decide)) rfl D.is_.g D.is_.F.kp D.is_.b pass0 (pa_cons (pe_call G.lk (hr.mono (by decide)) rfl D.lk.g D.lk.F.kp D.lk.b .nil passN0 (pa_cons (pv 6) pa_nil)) (pa_cons (pv 7) pa_nil)))))
    (pw_or1 (pt_not (pt_val (pe_callG G.is_ hg (hr.mono (by decide)) rfl D.is_.g D.is_.F.kp D.is_.b pass0 (pa_cons (pe_callKS (E := fun _ _ _ _ => False) G.dk (hr.mono (by decide)) rfl D.dk.g D.dk.F.kp (kw_distance D.dk) passFN (pk_cons (pe_tupRg rfl rfl (gn _ (by decide)) (prg_2 rfl (gn _ (by decide)) pe_int (pe_op op_add (pv 6) pe_int))) pk_nil))
    (pa_cons (pv 8) pa_nil)))))))) (pss_one (ps_ret pe_bl)) pss_nil, fun D σ H h k => ?_⟩
  obtain ⟨a, d, b, m, o4, o5, u, t, t2, n, q, ns, rfl, h0, n0, n6, hm, hu, hn, q0, q4, hk, hk2⟩ := h
  refine ⟨_, rfl, q, rfl, q0, by omega, trivial, fun x U H1 s1 as1 ka1 => ⟨_, rfl, ?_⟩⟩
  rw [asc_rule as1 lev_iff] at ka1
  refine ⟨x, t, upN q, lotF q pLev, rfl, by rw [upN_len]; exact ka1, hk.same s1, by rw [upN_len]; omega, small_upN (by omega), lotF_smal (by omega), fun H2 s2 => ⟨true, rfl, iteF ?_⟩⟩
  refine ⟨_, rfl, q, 1, rfl, rfl, 1, (q : Int) + 1, rfl, rfl, RgOk.of_le (by omega) (by omega) (by omega) (by omega), fun p np => ?_⟩
  rw [rgV1, show ((q : Int) + 1 - 1).toNat = q from by omega]
  have s3 := same1 (o := .tup ((upR q).map V.int)) np
  have N := num_upR (q := q) (by omega)
  refine ⟨_, rfl, .inr (.inr ⟨p, _, rfl, upd_same, pln_ints, fun _ => ⟨upR q, rfl, by rw [upR_len]; omega, by rw [upR_len]; omega, fun x2 U2 H4 s4 as4 ka4 => ⟨_, rfl, ?_⟩⟩, fun j e => ?_⟩)⟩
  · rw [upR_len] at as4 ka4
    rw [asc_rule as4 apt_iff] at ka4
    have s5 := sTr s1 (sTr s2 (sTr s3 s4))
    refine ⟨x2, t2, upN q, lotF q pApt, rfl, by rw [upN_len]; exact ka4, hk2.same s5, by rw [upN_len]; omega, small_upN (by omega), lotF_smal (by omega), fun H6 s6 => ⟨true, rfl, iteF (k _ _ ?_)⟩⟩
    have s7 := sTr s5 s6
    exact ⟨a, d, b, m, o4, o5, _, _, _, u, n, ns, rfl, h0.same s7, n0, n6, hm.sameL (.of s7), hu.sameL (.of s7), hn⟩
  · rw [N.good q0 (by omega)] at e
    cases e
end
end RD
set_option maxRecDepth 100000
set_option maxHeartbeats 4000000
namespace RD
open PySem PySem.Spec PyProof.Rows L2 Rd Tb Cn Lm LamX NdefX
theorem turns_chk {ts : List Int} (h : ts ≠ []) (c : ∀ i : Nat, i < ts.length → (0 ≤ ts.getD i 0 ∧ ts.getD i 0 < ts.length) ∧ ts.getD (ts.getD i 0).toNat 0 = i) : Turns ts := by
  refine ⟨h, fun x ix => ?_, fun x ix => ?_⟩
  · exact (c x.toNat (by have := ix.1; have := ix.2; omega)).1
  · have z := (c x.toNat (by have := ix.1; have := ix.2; omega)).2
    unfold tn
    rw [z]
    exact Int.toNat_of_nonneg ix.1
def swT (n : Nat) : List Int := ((upN n).set 0 ((n : Int) - 1)).set (n - 1) 0
theorem swT_turns {n : Nat} (h1 : 1 < n) (h6 : n ≤ 6) : Turns (swT n) ∧ (swT n).length = n ∧ ∀ x ∈ swT n, x.natAbs < 10 ^ 1 := by
  rcases six_cases (by omega) h6 with rfl | rfl | rfl | rfl | rfl | rfl
  · omega
  all_goals exact ⟨turns_chk (by decide) (by decide), by decide, by decide⟩
theorem ixN_nat {n j : Nat} (h : j < n) : ixN n (j : Nat) = some j := by
  unfold ixN
  rw [if_pos (by omega), if_pos (by omega), Int.toNat_natCast]
/-- what is turned -/
structure Tur (n : Nat) (ts : List Int) : Prop where
  t : Turns ts
  l : ts.length = n
  s : ∀ x ∈ ts, x.natAbs < 10 ^ 1
theorem tabs_put {T : List (Addr × Str)} {H : Hp} {p : Addr} {xs : List V} {o : HO} (t : Tabs T H) (hp : H p = some (.lst xs)) : Tabs T (upd H p o) := fun q hq => by
  obtain ⟨ps, a1, a2, a3⟩ := t q hq
  refine ⟨ps, by rw [upd_ne (ne_obj a1 hp fun z => by cases z)]; exact a1, a2, fun pos cv hc => ?_⟩
  obtain ⟨c, e1, e2⟩ := a3 pos cv hc
  exact ⟨c, e1, by rw [upd_ne (ne_obj e2 hp fun z => by unfold CodeO at z; cases z)]; exact e2⟩
theorem B0.put {T : List (Addr × Str)} {d b p : Addr} {H : Hp} {xs : List V} {o : HO} (h : B0 T d b H) (hp : H p = some (.lst xs)) (n : p ≠ d) (m : p ≠ b) : B0 T d b (upd H p o) := ⟨tabs_put h.1 hp, h.2.put n m⟩
section
variable {P : Program} {w : World} {K : PySem.W.Frag} {mg : Str → Option Value} {base : Heap} {C CE f c Pt : Addr} {T : List (Addr × Str)} {A : Around} {outer : List Env} {s : Shared} {H0 : Hp} {E : XK} {D : Defs K mg}
def A16 (T : List (Addr × Str)) (σ : L2.St) (H : Hp) : Prop := ∃ a d b o3 o4 o5 o6 o7 o8 tu u, ∃ n : Nat, ∃ ns, σ = [some (.ref a), some (.ref d), some (.int (n : Nat)), o3, o4, o5, o6, o7, o8, some (.ref tu), none, none, none, none, some (.ref u), none, none] ∧ B0 T d b H ∧ 0 < n ∧ n ≤ 6 ∧ Lst d b u ns H ∧ Num n ns ∧ Lst d b tu (upN n) H ∧ u ≠ tu
def A17 (T : List (Addr × Str)) (σ : L2.St) (H : Hp) : Prop := ∃ a d b o3 o4 o5 o6 o7 o8 tu u, ∃ n : Nat, ∃ ns ts, σ = [some (.ref a), some (.ref d), some (.int (n : Nat)), o3, o4, o5, o6, o7, o8, some (.ref tu), none, none, none, none, some (.ref u), none, none] ∧ B0 T d b H ∧ 0 < n ∧ n ≤ 6 ∧ Lst d b u ns H ∧ Num n ns ∧ Lst d b tu ts H ∧ Tur n ts
theorem step16 (hB : Bn mg) (hr : RmL A s f c) : Step (XL P w K mg base f c A outer s H0 E) (stL 16) (A15 T) (A16 T) := by
  have gn := hB.gn
  have nd := sc_law.nd
  refine ⟨_, ps_set (i := 9) nd rfl (.inl rfl) (pe_callTy call_list_of rfl (gn _ (by decide)) PyProof.Rows.boot_list (pa_cons (pv 3) pa_nil)), fun D σ H h k => ?_⟩
  obtain ⟨a, d, b, m, o4, o5, o6, o7, o8, u, n, ns, rfl, h0, n0, n6, hm, hu, hn⟩ := h
  refine ⟨_, rfl, m, _, rfl, .inl (.of hm.1), fun tu ntu => k _ _ ?_⟩
  have s1 := same1 (o := .lst ((upN n).map V.int)) ntu
  exact ⟨a, d, b, _, o4, o5, o6, o7, o8, tu, u, n, ns, rfl, h0.same s1, n0, n6, hu.sameL (.of s1), hn, ⟨upd_same, h0.2.ne ntu⟩, fun z => by rw [← z, hu.1] at ntu; cases ntu⟩
theorem step17 (G : Fns P w K mg base C CE T D) (hr : RmL A s f c) : Step (XL P w K mg base f c A outer s H0 E) (stL 17) (A16 T) (A17 T) := by
  refine ⟨_, ps_if (PW.pt (pw_and (pt_cmpR op_gt (pv 2) pe_int (nomark _)) (pw_and1 (pt_cmpR op_eq (pe_call G.an (hr.mono (by decide)) rfl D.an.g D.an.F.kp D.an.b .nil pass0 (pa_cons (pv 1) (pa_cons pe_int pa_nil))) pe_int (nomark _)))))
    (pss_one (ps_asg (pe_tup (pa_cons (pe_op op_sub (pv 2) pe_int) (pa_cons pe_int pa_nil))) (pg_tup rfl (pgs_cons (pg_sub (pv 9) pe_int set_list) (pgs_cons (pg_sub (pv 9) (pe_op op_sub (pv 2) pe_int) set_list) pgs_nil))))) pss_nil, fun D σ H h k => ?_⟩
  obtain ⟨a, d, b, o3, o4, o5, o6, o7, o8, tu, u, n, ns, rfl, h0, n0, n6, hu, hn, ht, ut⟩ := h
  have T0 : Tur n (upN n) := ⟨turns_upN n0, upN_len n, small_upN n6⟩
  refine ⟨_, rfl, n, 1, rfl, rfl, _, rfl, ?_⟩
  by_cases n1 : (1 : Int) < n
  · rw [decide_eq_true n1]
    refine iteT ⟨_, rfl, d, b, 2, rfl, h0.2, by decide, by decide, fun r H1 r0 r1 dl sx => ⟨rfl, _, rfl, ?_⟩⟩
    have h1 := h0.draw dl sx
    have hu1 := hu.draw sx
    have ht1 := ht.draw sx
    cases decide (V.int r = V.int 0) with
    | false => exact iteF (k _ _ ⟨a, d, b, o3, o4, o5, o6, o7, o8, tu, u, n, ns, upN n, rfl, h1, n0, n6, hu1, hn, ht1, T0⟩)
    | true =>
      refine iteT ⟨_, rfl, n, 1, rfl, rfl, by show 2 ≤ sizeLine; decide, fun t nt => ⟨t, _, rfl, .of upd_same, rfl, ?_⟩⟩
      have s2 := same1 (o := .tup [.int ((n : Int) - 1), .int 0]) nt
      have h2 := h1.same s2
      have hu2 := hu1.sameL (.of s2)
      have ht2 := ht1.sameL (.of s2)
      obtain ⟨t1, t2, t3⟩ := swT_turns (by omega) n6
      have l1 : ((upN n).map V.int).length = n := by rw [List.length_map, upN_len]
      refine ⟨_, _, rfl, _, rfl, tu, _, 0, 0, rfl, rfl, ht2.1, by rw [l1]; exact ixN_nat n0, ?_⟩
      have h3 := h2.put (o := .lst (((upN n).map V.int).set 0 (.int ((n : Int) - 1)))) ht2.1 ht2.2.1 ht2.2.2
      refine ⟨_, _, rfl, _, rfl, _, rfl, n, 1, rfl, rfl, tu, _, (n : Int) - 1, n - 1, rfl, rfl, upd_same, ?_, rfl, k _ _ ?_⟩
      · rw [List.length_set, l1, show (n : Int) - 1 = ((n - 1 : Nat) : Int) from by omega]
        exact ixN_nat (by omega)
      · refine ⟨a, d, b, o3, o4, o5, o6, o7, o8, tu, u, n, ns, swT n, rfl, h3.put upd_same ht2.2.1 ht2.2.2, n0, n6, ⟨?_, hu2.2⟩, hn, ⟨?_, ht2.2⟩, ⟨t1, t2, t3⟩⟩
        · rw [upd_ne ut, upd_ne ut]
          exact hu2.1
        · rw [upd_same]
          unfold swT
          rw [List.map_set, List.map_set]
  · rw [decide_eq_false n1]
    exact iteF (iteF (k _ _ ⟨a, d, b, o3, o4, o5, o6, o7, o8, tu, u, n, ns, upN n, rfl, h0, n0, n6, hu, hn, ht, T0⟩))
end
end RD
set_option maxRecDepth 100000
set_option maxHeartbeats 4000000
namespace RD
open PySem PySem.Spec PyProof.Rows L2 Rd Tb Cn Lm LamX NdefX
/-- at br stand the triples to be barred -/
def Bar (d b br : Addr) (n : Nat) (ks : List Tri) (H : Hp) : Prop := H br = some (.lst (ks.map fun q => V.ref q.1)) ∧ br ≠ d ∧ br ≠ b ∧ ks.length ≤ 4 ∧ ∀ q ∈ ks, q.1 ≠ d ∧ q.1 ≠ b ∧ H q.1 = some (.tup (q.2.map V.int)) ∧ triOk n q.2 = true
theorem Bar.sameL {d b br : Addr} {n : Nat} {ks : List Tri} {H H1 : Hp} (h : Bar d b br n ks H) (s : SameL H H1) : Bar d b br n ks H1 := ⟨s _ _ h.1 rfl, h.2.1, h.2.2.1, h.2.2.2.1, fun q hq => let ⟨a1, a2, a3, a4⟩ := h.2.2.2.2 q hq; ⟨a1, a2, s _ _ a3 rfl, a4⟩⟩
theorem Bar.draw {d b br : Addr} {n : Nat} {ks : List Tri} {H H1 : Hp} (h : Bar d b br n ks H) (s : SameX d b H H1) : Bar d b br n ks H1 := ⟨s _ _ h.1 h.2.1 h.2.2.1, h.2.1, h.2.2.1, h.2.2.2.1, fun q hq => let ⟨a1, a2, a3, a4⟩ := h.2.2.2.2 q hq; ⟨a1, a2, s _ _ a3 a1 a2, a4⟩⟩
theorem SameX.fresh {d b p : Addr} {H H1 : Hp} {o : HO} (s : SameX d b H H1) (n : H p = none) : SameX d b H (upd H1 p o) := fun c u e m1 m2 => by
  rw [upd_ne fun z => by rw [z, n] at e; cases e]
  exact s c u e m1 m2
/-- a list of new triples -/
def Out (ou : Addr) (L : List Tri) (H : Hp) : Prop := H ou = some (.lst (L.map fun q => V.ref q.1)) ∧ ∀ q ∈ L, H q.1 = some (.tup (q.2.map V.int))
theorem Out.same {ou : Addr} {L : List Tri} {H H1 : Hp} (h : Out ou L H) (s : Same H H1) : Out ou L H1 := ⟨s _ _ h.1, fun q hq => s _ _ (h.2 q hq)⟩
theorem eqv_int (a b : List Int) : PyData.eqvAll (a.map PyData.int) (b.map PyData.int) = decide (a = b) := by
  induction a generalizing b with
  | nil =>
    cases b with
    | nil => rfl
    | cons y b => simp [PyData.eqvAll]
  | cons x a ih =>
    cases b with
    | nil => simp [PyData.eqvAll]
    | cons y b =>
      simp only [List.map_cons, PyData.eqvAll, PyData.eqv, ih, List.cons.injEq]
      rw [Bool.decide_and]
      rfl
theorem pOut_eq {O : List (List Int)} {x y z : Nat} : pOut O x y z = !decide ([(x : Int), (y : Int), (z : Int)] ∈ O) := by
  unfold pOut
  congr 1
  rw [Bool.eq_iff_iff, List.any_eq_true, decide_eq_true_eq]
  constructor
  · rintro ⟨d, hd, e⟩
    obtain ⟨t, ht, rfl⟩ := List.mem_map.mp hd
    have e2 : PyData.eqvAll (t.map PyData.int) ([(x : Int), (y : Int), (z : Int)].map PyData.int) = true := e
    rw [eqv_int, decide_eq_true_eq] at e2
    rw [← e2]
    exact ht
  · intro h
    refine ⟨dTri [(x : Int), (y : Int), (z : Int)], List.mem_map.mpr ⟨_, h, rfl⟩, ?_⟩
    show PyData.eqvAll ([(x : Int), (y : Int), (z : Int)].map PyData.int) ([(x : Int), (y : Int), (z : Int)].map PyData.int) = true
    rw [eqv_int, decide_eq_true rfl]
theorem out_iff {n : Nat} {O : List (List Int)} (t : List Int) : t ∈ (allT n).filter (fun t => !decide (t ∈ O)) ↔ triOk n t = true ∧ ∃ x y z : Nat, t = [(x : Int), (y : Int), (z : Int)] ∧ pOut O x y z = true := filt_iff (fun x y z _ _ _ => pOut_eq.symm) t
section
variable {P : Program} {w : World} {K : PySem.W.Frag} {mg : Str → Option Value} {base : Heap} {C CE f c Pt : Addr} {T : List (Addr × Str)} {A : Around} {outer : List Env} {s : Shared} {H0 : Hp} {E : XK} {D : Defs K mg}
def A18 (T : List (Addr × Str)) (σ : L2.St) (H : Hp) : Prop := ∃ a d b o3 o4 o5 o6 o7 o8 tu u br, ∃ n : Nat, ∃ ns ts ks, σ = [some (.ref a), some (.ref d), some (.int (n : Nat)), o3, o4, o5, o6, o7, o8, some (.ref tu), some (.ref br), none, none, none, some (.ref u), none, none] ∧ B0 T d b H ∧ 0 < n ∧ n ≤ 6 ∧ Lst d b u ns H ∧ Num n ns ∧ Lst d b tu ts H ∧ Tur n ts ∧ Bar d b br n ks H
def A20 (T : List (Addr × Str)) (σ : L2.St) (H : Hp) : Prop := ∃ a d b o3 o4 o5 o6 o7 o8 tu u br o11 ou, ∃ n : Nat, ∃ ns ts ks L, σ = [some (.ref a), some (.ref d), some (.int (n : Nat)), o3, o4, o5, o6, o7, o8, some (.ref tu), some (.ref br), o11, none, none, some (.ref u), some (.ref ou), none] ∧ B0 T d b H ∧ 0 < n ∧ n ≤ 6 ∧ Lst d b u ns H ∧ Num n ns ∧ Lst d b tu ts H ∧ Tur n ts ∧ Bar d b br n ks H ∧ Out ou L H ∧ L.map (·.2) = outs ts ks
def A19 (T : List (Addr × Str)) (σ : L2.St) (H : Hp) : Prop := ∃ a d b o3 o4 o5 o6 o7 o8 tu u br ou, ∃ n : Nat, ∃ ns ts ks, σ = [some (.ref a), some (.ref d), some (.int (n : Nat)), o3, o4, o5, o6, o7, o8, some (.ref tu), some (.ref br), none, none, none, some (.ref u), some (.ref ou), none] ∧ B0 T d b H ∧ 0 < n ∧ n ≤ 6 ∧ Lst d b u ns H ∧ Num n ns ∧ Lst d b tu ts H ∧ Tur n ts ∧ Bar d b br n ks H ∧ Out ou [] H
def A21 (T : List (Addr × Str)) (σ : L2.St) (H : Hp) : Prop := ∃ a d b o3 o4 o5 o6 o7 o8 tu u br o11 o15, ∃ n : Nat, ∃ ns ts ks, σ = [some (.ref a), some (.ref d), some (.int (n : Nat)), o3, o4, o5, o6, o7, o8, some (.ref tu), some (.ref br), o11, none, none, some (.ref u), o15, none] ∧ B0 T d b H ∧ 0 < n ∧ n ≤ 6 ∧ Lst d b u ns H ∧ Num n ns ∧ Lst d b tu ts H ∧ Tur n ts ∧ Bar d b br n ks H
theorem step18 (G : Fns P w K mg base C CE T D) (hB : Bn mg) (hr : RmL A s f c) : Step (XL P w K mg base f c A outer s H0 E) (stL 18) (A17 T) (A18 T) := by
  have gn := hB.gn
  have nd := sc_law.nd
  have hr1 := hr.mono (show 1 ≤ 11 by decide)
  refine ⟨_, ps_setLc (i := 10) (own := [("turn", 16)]) (g := gName 16) (tt := tYes) (te := tTup (tCons (tCall sp_law_any [] E0 (tCons (tVar 1) (tCons (tVar 2) tNil))) (tCons (tCall sp_law_any [] E0 (tCons (tVar 1) (tCons (tVar 2) tNil))) (tCons (tCall sp_law_any [] E0 (tCons (tVar 1) (tCons (tVar 2) tNil))) tNil)))) rfl nd rfl rfl (sw_true rfl rfl rfl (by decide +kernel))
    (pi_range1 rfl (gn _ (by decide)) (pa_cons (pe_call G.an hr1 rfl D.an.g D.an.F.kp D.an.b .nil pass0 (pa_cons (pv 1) (pa_cons pe_int pa_nil))) pa_nil)) (blkOk_by (N := NL) (sc := defScope s_law) (by decide +kernel))
    (fun _ _ _ _ _ => pg_name (i := 16) nd rfl (Or.inl rfl)) (fun _ _ _ _ _ => pts_nil) (fun _ _ _ _ _ => pe_tup (pa_cons (pe_call G.an hr1 rfl D.an.g D.an.F.kp D.an.b .nil pass0 (pa_cons (pv 1) (pa_cons (pv 2) pa_nil))) (pa_cons (pe_call G.an hr1 rfl D.an.g D.an.F.kp D.an.b .nil pass0 (pa_cons (pv 1) (pa_cons (pv 2) pa_nil))) (pa_cons (pe_call G.an hr1 rfl D.an.g D.an.F.kp D.an.b .nil pass0 (pa_cons (pv 1) (pa_cons (pv 2) pa_nil))) pa_nil)))), fun D σ H h k => ?_⟩
  obtain ⟨a, d, b, o3, o4, o5, o6, o7, o8, tu, u, n, ns, ts, rfl, h0, n0, n6, hu, hn, ht, hT⟩ := h
  have z3 : 1000 ≤ sizeLine := by decide
  refine ⟨_, rfl, d, b, 5, rfl, h0.2, by decide, by decide, fun r H1 r0 r1 dl sx => ⟨r, rfl, by omega, by omega, fun Dr nDr => lc_range (lo := 0) (n := r.toNat) (fun i H2 => SameX d b H1 H2 ∧ Deal H2 d b ∧ ∃ ks : List Tri, H2 Dr = some (.lst (ks.map fun q => V.ref q.1)) ∧ ks.length = i ∧ ∀ q ∈ ks, q.1 ≠ Dr ∧ q.1 ≠ d ∧ q.1 ≠ b ∧ H2 q.1 = some (.tup (q.2.map V.int)) ∧ triOk n q.2 = true)
    ⟨(SameX.of (same0 H1)).fresh nDr, dl.same (same1 nDr), [], upd_same, rfl, fun q hq => absurd hq (by simp)⟩ (fun i H2 hi a2 => ?_) (fun H2 a2 => ?_)⟩⟩
  · obtain ⟨s2, dl2, ks, hD, lk, hk⟩ := a2
    obtain ⟨nd1, nd2⟩ := dl.ne nDr
    refine ⟨rfl, _, rfl, _, rfl, d, b, n, rfl, dl2, by omega, by omega, fun x H3 x0 x1 dl3 s3 => ⟨_, rfl, _, rfl, d, b, n, rfl, dl3, by omega, by omega, fun y H4 y0 y1 dl4 s4 => ⟨_, rfl, _, rfl, d, b, n, rfl, dl4, by omega, by omega, fun z H5 z0 z1 dl5 s5 => ⟨by show 3 ≤ sizeLine; decide, fun p np => ?_⟩⟩⟩⟩
    have s35 := s3.tr (s4.tr s5)
    have hD5 := s35 _ _ hD nd1 nd2
    obtain ⟨p1, p2⟩ := dl5.ne np
    have pD : p ≠ Dr := fun z => by rw [z, hD5] at np; cases np
    have sp := same1 (o := .tup [.int x, .int y, .int z]) np
    refine ⟨_, sp _ _ hD5, by rw [List.length_map]; omega, ?_, ?_, ks ++ [(p, [x, y, z])], ?_, by rw [List.length_append, lk] <;> rfl, fun q hq => ?_⟩
    · exact ((s2.tr s35).tr (.of sp)).fresh nDr
    · exact (dl5.same sp).put nd1 nd2
    · rw [upd_same, List.map_append]
      rfl
    · rcases List.mem_append.mp hq with hq | hq
      · obtain ⟨q1, q2, q3, q4, q5⟩ := hk q hq
        refine ⟨q1, q2, q3, ?_, q5⟩
        rw [upd_ne q1]
        exact sp _ _ (s35 _ _ q4 q2 q3)
      · rw [List.mem_singleton.mp hq]
        refine ⟨pD, p1, p2, ?_, triOk_iff.mpr ⟨⟨x0, x1⟩, ⟨y0, y1⟩, ⟨z0, z1⟩⟩⟩
        rw [upd_ne pD]
        exact upd_same
  · obtain ⟨s2, dl2, ks, hD, lk, hk⟩ := a2
    have sx2 := sx.tr s2
    exact k _ _ ⟨a, d, b, o3, o4, o5, o6, o7, o8, tu, u, Dr, n, ns, ts, ks, rfl, h0.draw dl2 sx2, n0, n6, hu.draw sx2, hn, ht.draw sx2, hT, hD, (dl.ne nDr).1, (dl.ne nDr).2, by omega, fun q hq => (hk q hq).2⟩
theorem step19 (hr : RmL A s f c) : Step (XL P w K mg base f c A outer s H0 E) (stL 19) (A18 T) (A19 T) := by
  have nd := sc_law.nd
  refine ⟨_, ps_set (i := 15) nd rfl (.inr rfl) (pe_lst pa_nil), fun D σ H h k => ?_⟩
  obtain ⟨a, d, b, o3, o4, o5, o6, o7, o8, tu, u, br, n, ns, ts, ks, rfl, h0, n0, n6, hu, hn, ht, hT, hb⟩ := h
  refine ⟨Nat.zero_le _, fun ou nou => k _ _ ?_⟩
  have s1 := same1 (o := .lst []) nou
  exact ⟨a, d, b, o3, o4, o5, o6, o7, o8, tu, u, br, ou, n, ns, ts, ks, rfl, h0.same s1, n0, n6, hu.sameL (.of s1), hn, ht.sameL (.of s1), hT, hb.sameL (.of s1), upd_same, fun q hq => absurd hq (by simp)⟩
theorem step20 (G : Fns P w K mg base C CE T D) (hr : RmL A s f c) : Step (XL P w K mg base f c A outer s H0 E) (stL 20) (A19 T) (A20 T) := by
  have nd := sc_law.nd
  refine ⟨_, ps_for (passes_of rfl) rfl (pi_list (pv 10)) (pg_name (i := 11) nd rfl (.inl rfl)) (pss_one (ps_set (i := 15) nd rfl (.inr rfl) (pe_op op_cat (pv 15) (pe_call G.si (hr.mono (by decide)) rfl D.si.g D.si.F.kp D.si.b .nil pass0 (pa_cons (pv 9) (pa_cons (pv 11) pa_nil)))))), fun D σ H h k => ?_⟩
  obtain ⟨a, d, b, o3, o4, o5, o6, o7, o8, tu, u, br, ou, n, ns, ts, ks, rfl, h0, n0, n6, hu, hn, ht, hT, hb, ho⟩ := h
  have z3 : 1000 ≤ sizeLine := by decide
  refine ⟨_, rfl, br, rfl, ⟨_, .of hb.1⟩, for_list (K := K) (a := br) (xs := ks.map fun q => V.ref q.1) (fun i σ H1 => ∃ o11 ou L, σ = [some (.ref a), some (.ref d), some (.int (n : Nat)), o3, o4, o5, o6, o7, o8, some (.ref tu), some (.ref br), o11, none, none, some (.ref u), some (.ref ou), none] ∧ Same H H1 ∧ Out ou L H1 ∧ L.map (·.2) = outs ts (ks.take i) ∧ L.length ≤ 6 * i)
    ⟨_, ou, [], rfl, same0 H, ho, rfl, Nat.zero_le _⟩ (fun i σ H1 _ ⟨_, _, _, _, s1, _⟩ => .of (s1 _ _ hb.1)) (fun i x σ H1 hx a1 => ?_) (fun σ H1 a1 => ?_)⟩
  · obtain ⟨o11, ou, L, rfl, s1, hL, eL, lL⟩ := a1
    have li := (List.getElem?_eq_some_iff.mp hx).1
    rw [List.length_map] at li
    rw [List.getElem?_map, Option.map_eq_some_iff] at hx
    obtain ⟨q, hq, rfl⟩ := hx
    have mq := List.mem_of_getElem? hq
    obtain ⟨_, _, hq3, hq4⟩ := hb.2.2.2.2 q mq
    obtain ⟨x, y, z, eq, ix, iy, iz⟩ := tri_parts hq4
    have lt := hT.l
    have l4 := hb.2.2.2.1
    refine ⟨_, rfl, _, rfl, _, rfl, tu, q.1, ts, x, y, z, rfl, .inl (s1 _ _ ht.1), by rw [s1 _ _ hq3, eq] <;> rfl, by rw [lt]; exact ix, by rw [lt]; exact iy, by rw [lt]; exact iz, fun l ks2 H2 s2 hl e2 hk2 => ?_⟩
    have l2 : ks2.length = 6 := by
      have z := congrArg List.length e2
      rw [List.length_map] at z
      exact z
    refine ⟨ou, l, _, _, rfl, rfl, s2 _ _ hL.1, hl, by rw [List.length_map, List.length_map]; omega, fun p np => ?_⟩
    have s3 := same1 (o := .lst ((L.map fun q => V.ref q.1) ++ ks2.map fun q => V.ref q.1)) np
    refine ⟨_, p, L ++ ks2, rfl, sTr s1 (sTr s2 s3), ⟨by rw [upd_same, List.map_append], fun r hr => ?_⟩, ?_, by rw [List.length_append]; omega⟩
    · rcases List.mem_append.mp hr with hr | hr
      · exact s3 _ _ (s2 _ _ (hL.2 r hr))
      · exact s3 _ _ (hk2 r hr)
    · rw [List.map_append, eL, e2, outs_take hq, eq]
      rfl
  · obtain ⟨o11, ou, L, rfl, s1, hL, eL, lL⟩ := a1
    rw [List.length_map, List.take_length] at eL
    exact k _ _ ⟨a, d, b, o3, o4, o5, o6, o7, o8, tu, u, br, o11, ou, n, ns, ts, ks, L, rfl, h0.same s1, n0, n6, hu.sameL (.of s1), hn, ht.sameL (.of s1), hT, hb.sameL (.of s1), hL, eL⟩
theorem fr21 : ∀ y ∈ (lamS lam21).names, y.2 = .free → (defScope s_law).names.lookup y.1 = some .cell ∨ (defScope s_law).names.lookup y.1 = some .free := by decide +kernel
theorem in21 : ∀ y ∈ (["out"] : List Str), (y, NameKind.free) ∈ (lamS lam21).names := by decide +kernel
theorem all21 : ∀ y ∈ (lamS lam21).names, y.2 = .free → y.1 ∈ (["out"] : List Str) := by decide +kernel
theorem step21 (G : Fns P w K mg base C CE T D) (TT : Tab base mg T c Pt "law.<locals>.<lambda>") (hB : Bn mg) (hg : A.guards = some []) (hr : RmL A s f c) : Step (XL P w K mg base f c A outer s H0 E) (stL 21) (A20 T) (A21 T) := by
  have gn := hB.gn
  refine ⟨_, ps_if (pt_not (pt_val (pe_callG G.is_ hg (hr.mono (by decide)) rfl D.is_.g D.is_.F.kp D.is_.b pass0 (pa_cons (pe_call G.bk (hr.mono (by decide)) rfl D.bk.g D.bk.F.kp D.bk.b .nil passN0 (pa_cons (pv 9) (pa_cons (pe_callTy (r := rTupOf K) cr_tuple rfl (gn _ (by decide)) PyProof.Rows.boot_tuple (pa_cons (pv 10) pa_nil)) pa_nil)))
    (pa_cons (pe_callPin (fr := ["out"]) (js := [15]) G.by_ (hr.mono (by decide)) rfl D.by_.g D.by_.F.kp D.by_.b (fun ok => Caps.made ok fr21 in21 rfl) (clo_all all21) (fun _ _ => rfl) (pa_cons (pv 9) (pa_cons (pe_lam TT.b rfl TT.m TT.u rfl fr21) pa_nil))) pa_nil))))) (pss_one (ps_ret pe_bl)) pss_nil, fun D σ H h k => ?_⟩
  obtain ⟨a, d, b, o3, o4, o5, o6, o7, o8, tu, u, br, o11, ou, n, ns, ts, ks, L, rfl, h0, n0, n6, hu, hn, ht, hT, hb, ho, eL⟩ := h
  have lt := hT.l
  refine ⟨_, rfl, _, rfl, ?_⟩
  unfold tNil
  dsimp only
  refine tuple_any (.inl hb.1) fun t1 H1 s1 ht1 => ?_
  refine ⟨_, _, rfl, .inr (.inr ⟨tu, ts, rfl, .inl (s1 _ _ ht.1), hT.t, by omega, .inr (.inr ⟨t1, ks, _, rfl, ht1, .inr rfl, by have := hb.2.2.2.1; omega, fun q hq => ⟨s1 _ _ (hb.2.2.2.2 q hq).2.2.1, by rw [lt]; exact (hb.2.2.2.2 q hq).2.2.2⟩, fun x U H2 s2 as2 ka2 => ?_⟩)⟩)⟩
  have s12 := sTr s1 s2
  refine ⟨[.ref ou], rfl, _, rfl, h0.1.ext s12, fun f1 c1 H3 eN nn T3 nf hf hc H4 pc sm no => ?_⟩
  have p34 : Same H3 H4 := fun b o e => by rw [sm b fun z => by rw [no b z] at e; cases e]; exact e
  have N3 : SameL H H3 := (SameL.of s12).tr (.ext eN)
  have ht4 := p34 _ _ (ht.sameL N3).1
  have ho4 : Out ou L H4 := ⟨p34 _ _ (N3 _ _ ho.1 rfl), fun q hq => p34 _ _ (N3 _ _ (ho.2 q hq) rfl)⟩
  have fv : FunV P w K mg base 1 f1 (spR ts.length (pOut (L.map (·.2)))) H4 := by
    refine funV_of (p34 _ _ hf) (p34 _ _ hc) pc (Hy := fun H => H ou = some (.lst (L.map fun q => V.ref q.1)) ∧ ∀ q ∈ L, H q.1 = some (.tup (q.2.map V.int))) (lok21 ⟨rfl, rfl, rfl⟩) fun H5 s5 => ?_
    have z := ho4.same s5
    exact ⟨(off_ne (still_ne (pc.same s5).still z.1 fun x y z => by cases z)).trans z.1, fun q hq => (off_ne (still_ne (pc.same s5).still (z.2 q hq) fun x y z => by cases z)).trans (z.2 q hq)⟩
  rw [eL] at fv
  refine ⟨tu, f1, ts, pOut (outs ts ks), rfl, ht4, by omega, fv, fun t l tb H5 s5 ht5 hl htb => ?_⟩
  have k1 : LawK K (off _ H5) t ts (lotF ts.length (pOut (outs ts ks))) := LawK.sameL ⟨l, tb, ht5, hl, htb⟩ (off_L pc s5)
  have s6 := off_same s5 sm no
  have L6 := N3.tr (.of s6)
  have ka6 := (ka2.sameL (.ext eN)).sameL (.of s6)
  rw [asc_rule as2 out_iff] at ka6
  refine ⟨x, t, ts, lotF ts.length (pOut (outs ts ks)), rfl, ka6, k1, by omega, hT.s, lotF_smal (by omega), fun H7 s7 => ⟨true, rfl, iteF (k _ _ ?_)⟩⟩
  have L7 := L6.tr (.of s7)
  exact ⟨a, d, b, o3, o4, o5, o6, o7, o8, tu, u, br, o11, _, n, ns, ts, ks, rfl, h0.sameL L7 ((T3.ext s6).ext s7), n0, n6, hu.sameL L7, hn, ht.sameL L7, hT, hb.sameL L7⟩
end
end RD
set_option maxRecDepth 100000
set_option maxHeartbeats 4000000
namespace RD
open PySem PySem.Spec PyProof.Rows L2 Rd Tb Cn Lm LamX NdefX
theorem numOk_congr {xs ys : List V} {i : Nat} (h : ∀ k, k ≤ i → xs[k]? = ys[k]?) : numOk xs i = numOk ys i := by
  have b : befN xs i = befN ys i := by
    cases i with
    | zero => rfl
    | succ j =>
      show (match xs[j]? with | some (.int k) => k | _ => 0) = (match ys[j]? with | some (.int k) => k | _ => 0)
      rw [h j (Nat.le_succ j)]
  unfold numOk
  rw [h i (Nat.le_refl i), b]
/-- what is put in the place of a number -/
def odd (ns : List Int) (j : Nat) : List V := [.int 0, .int (-1), .bl true, .str "1", .non, .int (if 0 < j then ns.getD (j - 1) 0 else 0)]
def wrs (ns : List Int) (j : Nat) (v : V) : List V := ((ns.take j).map V.int ++ [v]) ++ (ns.drop (j + 1)).map V.int
theorem odd_pln {ns : List Int} {j : Nat} {v : V} (h : v ∈ odd ns j) : Pln v := by
  unfold odd at h
  simp only [List.mem_cons, List.not_mem_nil, or_false] at h
  rcases h with rfl | rfl | rfl | rfl | rfl | rfl
  · exact .int _
  · exact .int _
  · exact .bl _
  · exact .str _
  · exact .non
  · exact .int _
theorem wrs_bad {n j : Nat} {ns : List Int} {v : V} (N : Num n ns) (hj : j < n) (hv : v ∈ odd ns j) : (wrs ns j v).length = n ∧ (∀ x ∈ wrs ns j v, Pln x) ∧ numBad (wrs ns j v) = some j := by
  have ln := N.l
  have l1 : (wrs ns j v).length = n := by
    unfold wrs
    rw [List.length_append, List.length_append, List.length_map, List.length_map, List.length_take, List.length_drop, List.length_singleton]
    omega
  have lt : ((ns.take j).map V.int).length = j := by
    rw [List.length_map, List.length_take]
    omega
  have bef : ∀ i, i < j → (wrs ns j v)[i]? = (ns.map V.int)[i]? := fun i hi => by
    unfold wrs
    rw [List.getElem?_append_left (by rw [List.length_append, lt]; omega), List.getElem?_append_left (by rw [lt]; exact hi), List.getElem?_map, List.getElem?_map, List.getElem?_take_of_lt hi]
  have at_ : (wrs ns j v)[j]? = some v := by
    unfold wrs
    rw [List.getElem?_append_left (by rw [List.length_append, lt]; simp), List.getElem?_append_right (by rw [lt] <;> exact Nat.le_refl _), lt]
    simp
  refine ⟨l1, fun x hx => ?_, numBad_at (by omega) (fun i hi => ?_) ?_⟩
  · unfold wrs at hx
    rcases List.mem_append.mp hx with hx | hx
    · rcases List.mem_append.mp hx with hx | hx
      · exact pln_ints x hx
      · rw [List.mem_singleton.mp hx]
        exact odd_pln hv
    · exact pln_ints x hx
  · rw [numOk_congr (ys := ns.map V.int) fun k hk => bef k (by omega)]
    exact N.ok (by omega)
  · have hb : befN (wrs ns j v) j = (if 0 < j then ns.getD (j - 1) 0 else 0) ∧ 0 ≤ befN (wrs ns j v) j := by
      cases j with
      | zero => exact ⟨rfl, Int.le_refl _⟩
      | succ i =>
        obtain ⟨k, e1, e2, k1, _⟩ := N.at_ (i := i) (by omega)
        have e3 := bef i (Nat.lt_succ_self i)
        rw [e1] at e3
        rw [befN_succ e3, if_pos (Nat.succ_pos i)]
        refine ⟨?_, by omega⟩
        show k = ns.getD i 0
        rw [List.getD, e2]
        rfl
    obtain ⟨h1, h2⟩ := hb
    rw [numOk_at at_]
    unfold odd at hv
    rw [← h1] at hv
    generalize befN (wrs ns j v) j = q at h2 hv ⊢
    simp only [List.mem_cons, List.not_mem_nil, or_false] at hv
    rcases hv with rfl | rfl | rfl | rfl | rfl | rfl
    · show (decide ((0 : Int) ≤ 0) && decide (q < 0)) = false
      rw [decide_eq_false (show ¬ q < 0 by omega), Bool.and_false]
    · rfl
    · rfl
    · rfl
    · rfl
    · show (decide (0 ≤ q) && decide (q < q)) = false
      rw [decide_eq_false (show ¬ q < q by omega), Bool.and_false]
theorem cut_drop {ms : List Int} {n : Nat} (h : n ≤ ms.length) : cutV (ms.map V.int) (some (n : Nat)) none = (ms.drop n).map V.int := by
  unfold cutV
  rw [HT.sIx_nat, HT.sIx_none, List.length_map, Nat.min_eq_left h, List.take_of_length_le (by rw [List.length_drop, List.length_map] <;> exact Nat.le_refl _), List.map_drop]
theorem cut_last {ms : List Int} : cutV (ms.map V.int) none (some (-1)) = (ms.take (ms.length - 1)).map V.int := by
  unfold cutV
  rw [HT.sIx_none, List.length_map, List.drop_zero, Nat.sub_zero, List.map_take]
  congr 1
  show (if (-1 : Int) < 0 then ((-1 : Int) + (ms.length : Int)).toNat else min (-1 : Int).toNat ms.length) = ms.length - 1
  rw [if_pos (by decide)]
  omega
theorem turnBad_last {n : Nat} {ts : List Int} (hn : 0 < n) (l : ts.length = n) : ∃ m, turnBad ((ts.take (n - 1)).map V.int ++ [.int (n : Nat)]) = some m := by
  generalize hx : (ts.take (n - 1)).map V.int ++ [V.int (n : Nat)] = xs
  have lx : xs.length = n := by
    rw [← hx, List.length_append, List.length_map, List.length_take, List.length_singleton]
    omega
  have at_ : xs[n - 1]? = some (.int (n : Nat)) := by
    rw [← hx, List.getElem?_append_right (by rw [List.length_map, List.length_take]; omega), List.length_map, List.length_take]
    rw [show n - 1 - min (n - 1) ts.length = 0 from by omega]
    rfl
  have bad : turnOk xs (n - 1) = false := by
    unfold turnOk
    rw [at_, lx]
    show (isBelow (n : Int) (.int (n : Nat)) && _) = false
    rw [show isBelow (n : Int) (.int (n : Nat)) = false from by
      show (decide ((0 : Int) ≤ n) && decide ((n : Int) < n)) = false
      rw [decide_eq_false (show ¬ (n : Int) < n by omega), Bool.and_false], Bool.false_and]
  unfold turnBad
  split
  · exact ⟨0, rfl⟩
  · cases e : (List.range xs.length).find? fun i => !turnOk xs i with
    | some m => exact ⟨m, rfl⟩
    | none =>
      have z := List.find?_eq_none.mp e (n - 1) (List.mem_range.mpr (by omega))
      rw [bad] at z
      exact absurd rfl z
def tPrev : TE := fun σ H Q => ∃ u, ∃ ns : List Int, ∃ j : Nat, σ[14]? = some (some (.ref u)) ∧ σ[12]? = some (some (.int (j : Nat))) ∧ H u = some (.lst (ns.map V.int)) ∧ j < ns.length ∧ Q (.int (if 0 < j then ns.getD (j - 1) 0 else 0)) H
end RD
set_option maxRecDepth 100000
set_option maxHeartbeats 4000000
namespace RD
open PySem PySem.Spec PyProof.Rows L2 Rd Tb Cn Lm LamX NdefX
section
variable {P : Program} {w : World} {K : PySem.W.Frag} {mg : Str → Option Value} {base : Heap} {C CE f c Pt : Addr} {T : List (Addr × Str)} {A : Around} {outer : List Env} {s : Shared} {H0 : Hp} {E : XK} {D : Defs K mg}
def A22 (T : List (Addr × Str)) (σ : L2.St) (H : Hp) : Prop := ∃ a d b o3 o4 o5 o6 o7 o8 tu u br o11 o15, ∃ n j : Nat, ∃ ns ts ks, σ = [some (.ref a), some (.ref d), some (.int (n : Nat)), o3, o4, o5, o6, o7, o8, some (.ref tu), some (.ref br), o11, some (.int (j : Nat)), none, some (.ref u), o15, none] ∧ B0 T d b H ∧ 0 < n ∧ n ≤ 6 ∧ Lst d b u ns H ∧ Num n ns ∧ Lst d b tu ts H ∧ Tur n ts ∧ Bar d b br n ks H ∧ j < n
def A23 (T : List (Addr × Str)) (σ : L2.St) (H : Hp) : Prop := ∃ a d b o3 o4 o5 o6 o7 o8 tu u br o11 o15 wo, ∃ n j : Nat, ∃ ns ts ks xs, σ = [some (.ref a), some (.ref d), some (.int (n : Nat)), o3, o4, o5, o6, o7, o8, some (.ref tu), some (.ref br), o11, some (.int (j : Nat)), some (.ref wo), some (.ref u), o15, none] ∧ 0 < n ∧ n ≤ 6 ∧ Lst d b u ns H ∧ Num n ns ∧ Lst d b tu ts H ∧ Tur n ts ∧ Bar d b br n ks H ∧ H wo = some (.lst xs) ∧ (∀ x ∈ xs, Pln x) ∧ numBad xs = some j
def A24 (σ : L2.St) (H : Hp) : Prop := ∃ a d b o3 o4 o5 o6 o7 o8 tu br o11 o12 o13 o14 o15, ∃ n : Nat, ∃ ts ks, σ = [some (.ref a), some (.ref d), some (.int (n : Nat)), o3, o4, o5, o6, o7, o8, some (.ref tu), some (.ref br), o11, o12, o13, o14, o15, none] ∧ 0 < n ∧ n ≤ 6 ∧ Lst d b tu ts H ∧ Tur n ts ∧ Bar d b br n ks H
theorem step22 (G : Fns P w K mg base C CE T D) (hr : RmL A s f c) : Step (XL P w K mg base f c A outer s H0 E) (stL 22) (A21 T) (A22 T) := by
  have nd := sc_law.nd
  refine ⟨_, ps_set (i := 12) nd rfl (.inl rfl) (pe_call G.an (hr.mono (by decide)) rfl D.an.g D.an.F.kp D.an.b .nil pass0 (pa_cons (pv 1) (pa_cons (pv 2) pa_nil))), fun D σ H h k => ?_⟩
  obtain ⟨a, d, b, o3, o4, o5, o6, o7, o8, tu, u, br, o11, o15, n, ns, ts, ks, rfl, h0, n0, n6, hu, hn, ht, hT, hb⟩ := h
  refine ⟨_, rfl, _, rfl, d, b, n, rfl, h0.2, by omega, by omega, fun r H1 r0 r1 dl sx => k _ _ ⟨a, d, b, o3, o4, o5, o6, o7, o8, tu, u, br, o11, o15, n, r.toNat, ns, ts, ks, ?_, h0.draw dl sx, n0, n6, hu.draw sx, hn, ht.draw sx, hT, hb.draw sx, by omega⟩⟩
  rw [show ((r.toNat : Nat) : Int) = r from by omega]
  rfl
theorem step23 (G : Fns P w K mg base C CE T D) (hr : RmL A s f c) : Step (XL P w K mg base f c A outer s H0 E) (stL 23) (A22 T) (A23 T) := by
  have nd := sc_law.nd
  refine ⟨_, ps_set (i := 13) nd rfl (.inl rfl) (pe_op op_cat (pe_op op_cat (pe_slice sl_list (pv 14) po_none (po_some (pv 12))) (pe_lst (pa_cons (pe_call G.of_ (hr.mono (by decide)) rfl D.of_.g D.of_.F.kp D.of_.b .nil pass0 (pa_cons (pv 1) (pa_cons
      (pe_lst (pa_cons pe_int (pa_cons (pe_un un_neg pe_int) (pa_cons pe_bl (pa_cons pe_str (pa_cons pe_non (pa_cons
        (pe_imp (t' := tPrev) (pe_ifExp (pt_cmpR op_gt (pv 12) pe_int (nomark _)) (pe_ix ix_seq (pv 14) (pe_op op_sub (pv 12) pe_int) (fun _ _ => rfl)) pe_int) fun σ H Q q => ?_) pa_nil))))))) pa_nil))) pa_nil)))
    (pe_slice sl_list (pv 14) (po_some (pe_op op_add (pv 12) pe_int)) po_none)), fun D σ H h k => ?_⟩
  · obtain ⟨u, ns, j, e14, e12, hu, lj, q⟩ := q
    refine ⟨_, e12, j, 0, rfl, rfl, _, rfl, ?_⟩
    by_cases j0 : 0 < j
    · rw [if_pos j0] at q
      rw [decide_eq_true (show (0 : Int) < (j : Nat) by omega)]
      refine iteT ⟨_, e14, _, e12, j, 1, rfl, rfl, ?_⟩
      have z := ixI (K := K) (x := (j : Int) - 1) (Q := Q) (.inl hu) ⟨by omega, by omega⟩ (by
        show Q (.int (tn ns ((j : Int) - 1))) H
        unfold tn
        rw [show ((j : Int) - 1).toNat = j - 1 from by omega]
        exact q)
      exact z
    · rw [if_neg j0] at q
      rw [decide_eq_false (show ¬ (0 : Int) < (j : Nat) by omega)]
      exact iteF q
  · obtain ⟨a, d, b, o3, o4, o5, o6, o7, o8, tu, u, br, o11, o15, n, j, ns, ts, ks, rfl, h0, n0, n6, hu, hn, ht, hT, hb, lj⟩ := h
    have ln := hn.l
    have zl : 1000 ≤ sizeLine := by decide
    refine ⟨_, rfl, _, rfl, j, rfl, u, _, rfl, .of hu.1, fun p np => ?_⟩
    rw [cut_take (by omega)]
    have s1 := same1 (o := .lst ((ns.take j).map V.int)) np
    obtain ⟨p1, p2⟩ := h0.2.ne np
    have hu1 := hu.sameL (.of s1)
    have hp1 : (upd H p (.lst ((ns.take j).map V.int))) p = some (.lst ((ns.take j).map V.int)) := upd_same
    generalize upd H p (.lst ((ns.take j).map V.int)) = H1 at s1 hu1 hp1 ⊢
    have dl1 := h0.2.same s1
    refine ⟨_, rfl, 1, rfl, u, ns, j, rfl, rfl, hu1.1, by omega, by show 6 ≤ sizeLine; omega, fun l nl => ?_⟩
    have s2 := same1 (o := .lst (odd ns j)) nl
    obtain ⟨l1, l2⟩ := dl1.ne nl
    refine ⟨d, b, l, odd ns j, rfl, dl1.same s2, .inl upd_same, l1, l2, by unfold odd; simp, by show 6 ≤ 1000000; decide, fun i v H2 hv dl2 sx => ⟨by show 1 ≤ sizeLine; omega, fun l2 nl2 => ?_⟩⟩
    have mv := List.mem_of_getElem? hv
    obtain ⟨w1, w2, w3⟩ := wrs_bad hn lj mv
    have sx2 : SameX d b H H2 := ((SameX.of (sTr s1 s2))).tr sx
    have hp2 := sx _ _ (s2 _ _ hp1) p1 p2
    have s3 := same1 (o := .lst [v]) nl2
    refine ⟨p, l2, _, _, rfl, rfl, s3 _ _ hp2, upd_same, by rw [List.length_map, List.length_take]; show _ + 1 ≤ _; omega, fun p3 np3 => ?_⟩
    have s4 := same1 (o := .lst ((ns.take j).map V.int ++ [v])) np3
    have hu4 := (hu.draw sx2).sameL (.of (sTr s3 s4))
    refine ⟨_, rfl, _, rfl, j, 1, rfl, rfl, (j : Int) + 1, rfl, u, _, rfl, .of hu4.1, fun p4 np4 => ?_⟩
    rw [show ((j : Int) + 1) = ((j + 1 : Nat) : Int) from by omega, cut_drop (by omega)]
    have s5 := same1 (o := .lst ((ns.drop (j + 1)).map V.int)) np4
    refine ⟨p3, p4, _, _, rfl, rfl, s5 _ _ upd_same, upd_same, by rw [List.length_append, List.length_map, List.length_map, List.length_take, List.length_drop]; show (_ + 1) + _ ≤ _; omega, fun wo nwo => k _ _ ?_⟩
    have s6 := same1 (o := .lst (wrs ns j v)) nwo
    have s36 := sTr s3 (sTr s4 (sTr s5 s6))
    exact ⟨a, d, b, o3, o4, o5, o6, o7, o8, tu, u, br, o11, o15, wo, n, j, ns, ts, ks, wrs ns j v, rfl, n0, n6, (hu.draw sx2).sameL (.of s36), hn, (ht.draw sx2).sameL (.of s36), hT, (hb.draw sx2).sameL (.of s36), upd_same, w2, w3⟩
end
end RD
set_option maxRecDepth 100000
set_option maxHeartbeats 4000000
namespace RD
open PySem PySem.Spec PyProof.Rows L2 Rd Tb Cn Lm LamX NdefX
theorem bar_items {m : Nat} {ks : List Tri} {p : Addr} {H : Hp} (hk : ∀ q ∈ ks, H q.1 = some (.tup (q.2.map V.int)) ∧ triOk m q.2 = true) (hp : H p = some (.tup [.int 0, .int 0])) : ∀ (i : Nat) z c, ((ks.map fun q => V.ref q.1) ++ [V.ref p])[i]? = some z → (List.replicate ks.length true ++ [false])[i]? = some c → Itm H (m : Nat) z c := by
  intro i z c hz hc
  have l1 : (ks.map fun q => V.ref q.1).length = ks.length := List.length_map ..
  rcases snoc_at hz with ⟨li, hz⟩ | ⟨rfl, rfl⟩
  · rw [l1] at li
    rw [List.getElem?_append_left (by rw [List.length_replicate]; exact li), List.getElem?_replicate, if_pos li] at hc
    cases hc
    rw [List.getElem?_map, Option.map_eq_some_iff] at hz
    obtain ⟨q, hq, rfl⟩ := hz
    obtain ⟨h1, h2⟩ := hk q (List.mem_of_getElem? hq)
    have y := Itm.tri (m := (m : Nat)) h1
    rw [h2] at y
    exact y
  · rw [l1, List.getElem?_append_right (by rw [List.length_replicate] <;> exact Nat.le_refl _), List.length_replicate, Nat.sub_self] at hc
    cases hc
    refine .inr (.inr ⟨p, _, rfl, hp, fun x hx => ?_, rfl⟩)
    simp only [List.mem_cons, List.not_mem_nil, or_false, or_self] at hx
    subst hx
    exact .int 0
theorem bar_first (k : Nat) : firstNo (List.replicate k true ++ [false]) = some k := by
  refine firstNo_at ?_ fun j hj => ?_
  · rw [List.getElem?_append_right (by rw [List.length_replicate] <;> exact Nat.le_refl _), List.length_replicate, Nat.sub_self]
    rfl
  · rw [List.getElem?_append_left (by rw [List.length_replicate]; exact hj), List.getElem?_replicate, if_pos hj]
theorem seven_bad : numBad [.int 1, .int 2, .int 3, .int 4, .int 5, .int 6, .int 7] = some 6 := by decide
theorem none_bad : numBad [] = some 0 := by decide
theorem no_turn : turnBad [] = some 0 := by decide
section
variable {P : Program} {w : World} {K : PySem.W.Frag} {mg : Str → Option Value} {base : Heap} {C CE f c Pt : Addr} {T : List (Addr × Str)} {A : Around} {outer : List Env} {s : Shared} {H0 : Hp} {E : XK} {D : Defs K mg}
theorem step24 (G : Fns P w K mg base C CE T D) (hB : Bn mg) (hr : RmL A s f c) : Step (XL P w K mg base f c A outer s H0 E) (stL 24) (A23 T) A24 := by
  have gn := hB.gn
  refine ⟨_, ps_if (PW.pt (pw_or (pt_cmpR op_ne (pe_call G.di hr rfl D.di.g D.di.F.kp D.di.b .nil pass0 (pa_cons (pe_callTy (r := rTupOf K) cr_tuple rfl (gn _ (by decide)) PyProof.Rows.boot_tuple (pa_cons (pv 13) pa_nil)) pa_nil)) (pv 12) (nomark _))
    (pw_or (pt_cmpR op_ne (pe_call G.di hr rfl D.di.g D.di.F.kp D.di.b .nil pass0 (pa_cons (pv 14) pa_nil)) pe_int (nomark _))
    (pw_or1 (pt_cmpR op_ne (pe_call G.di hr rfl D.di.g D.di.F.kp D.di.b .nil pass0 (pa_cons (pe_tup pa_nil) pa_nil)) pe_int (nomark _)))))) (pss_one (ps_ret pe_bl)) pss_nil, fun D σ H h k => ?_⟩
  obtain ⟨a, d, b, o3, o4, o5, o6, o7, o8, tu, u, br, o11, o15, wo, n, j, ns, ts, ks, xs, rfl, n0, n6, hu, hn, ht, hT, hb, hw, px, nb⟩ := h
  refine ⟨_, rfl, ?_⟩
  unfold tNil
  dsimp only
  refine tuple_any (.inl hw) fun t1 H1 s1 ht1 => ?_
  refine ⟨_, rfl, .inr (.inr ⟨t1, xs, j, rfl, ht1, px, nb, fun H2 s2 => ⟨_, rfl, rfl, _, rfl, ?_⟩⟩)⟩
  rw [decide_eq_true rfl]
  have hu2 := (sTr s1 s2) _ _ hu.1
  refine iteF ⟨_, rfl, _, rfl, .inr (.inl ⟨u, _, rfl, hu2, fun H3 s3 => ⟨rfl, _, rfl, iteF ?_⟩⟩)⟩
  refine ⟨Nat.zero_le _, fun t4 nt4 => ⟨_, rfl, .inr (.inr ⟨t4, [], 0, rfl, upd_same, fun x hx => absurd hx (by simp), none_bad, fun H5 s5 => ⟨rfl, _, rfl, iteF (k _ _ ?_)⟩⟩)⟩⟩
  have s6 := SameL.of (sTr s1 (sTr s2 (sTr s3 (sTr (same1 nt4) s5))))
  exact ⟨a, d, b, o3, o4, o5, o6, o7, o8, tu, br, o11, _, _, _, o15, n, ts, ks, rfl, n0, n6, ht.sameL s6, hT, hb.sameL s6⟩
theorem step25 (G : Fns P w K mg base C CE T D) (hB : Bn mg) (hr : RmL A s f c) : Step (XL P w K mg base f c A outer s H0 E) (stL 25) A24 A24 := by
  have gn := hB.gn
  refine ⟨_, ps_if (PW.pt (pw_or (pt_cmpR op_ne (pe_call G.di hr rfl D.di.g D.di.F.kp D.di.b .nil pass0 (pa_cons (pe_tup (pa_cons pe_int (pa_cons pe_int (pa_cons pe_int (pa_cons pe_int (pa_cons pe_int (pa_cons pe_int (pa_cons pe_int pa_nil)))))))) pa_nil)) pe_int (nomark _))
    (pw_or1 (pt_cmpR op_ne (pe_call G.ba hr rfl D.ba.g D.ba.F.kp D.ba.b .nil pass0 (pa_cons (pv 9) (pa_cons (pe_op op_cat (pv 10) (pe_lst (pa_cons (pe_tup (pa_cons pe_int (pa_cons pe_int pa_nil))) pa_nil))) pa_nil))) (pe_op op_add (pv 2) (pe_callB call_len_seq rfl (gn _ (by decide)) PySem.boot_len (pa_cons (pv 10) pa_nil))) (nomark _))))) (pss_one (ps_ret pe_bl)) pss_nil, fun D σ H h k => ?_⟩
  obtain ⟨a, d, b, o3, o4, o5, o6, o7, o8, tu, br, o11, o12, o13, o14, o15, n, ts, ks, rfl, n0, n6, ht, hT, hb⟩ := h
  have zl : 1000 ≤ sizeLine := by decide
  refine ⟨by show 7 ≤ sizeLine; omega, fun t1 nt1 => ⟨_, rfl, .inr (.inr ⟨t1, _, 6, rfl, upd_same, fun x hx => ?_, seven_bad, fun H2 s2 => ⟨rfl, _, rfl, iteF ?_⟩⟩)⟩⟩
  · simp only [List.mem_cons, List.not_mem_nil, or_false] at hx
    rcases hx with rfl | rfl | rfl | rfl | rfl | rfl | rfl <;> exact .int _
  have s02 := sTr (same1 (o := .tup [.int 1, .int 2, .int 3, .int 4, .int 5, .int 6, .int 7]) nt1) s2
  have ht2 := ht.sameL (.of s02)
  have hb2 := hb.sameL (.of s02)
  have l4 := hb.2.2.2.1
  refine ⟨_, rfl, _, rfl, by show 2 ≤ sizeLine; omega, fun p np => ⟨by show 1 ≤ sizeLine; omega, fun l nl => ?_⟩⟩
  have s3 := same1 (o := .tup [.int 0, .int 0]) np
  have s4 := same1 (o := .lst [.ref p]) nl
  refine ⟨br, l, _, _, rfl, rfl, s4 _ _ (s3 _ _ hb2.1), upd_same, by rw [List.length_map]; show _ + 1 ≤ _; omega, fun l5 nl5 => ?_⟩
  have s5 := same1 (o := .lst ((ks.map fun q => V.ref q.1) ++ [V.ref p])) nl5
  have s35 := sTr s3 (sTr s4 s5)
  have lt := hT.l
  refine ⟨_, _, rfl, .inr ⟨tu, ts, rfl, s35 _ _ ht2.1, hT.t, by omega, .inr ⟨l5, _, List.replicate ks.length true ++ [false], ks.length, rfl, upd_same, ?_, ?_, bar_first _, fun H6 s6 => ?_⟩⟩⟩
  · rw [List.length_append, List.length_append, List.length_replicate, List.length_map]
    rfl
  · exact bar_items (fun q hq => ⟨s35 _ _ (hb2.2.2.2.2 q hq).2.2.1, by rw [lt]; exact (hb2.2.2.2.2 q hq).2.2.2⟩) (s5 _ _ (s4 _ _ upd_same))
  · have s26 := sTr s35 s6
    refine ⟨_, rfl, _, rfl, br, _, rfl, .inl (.of (s26 _ _ hb2.1)), n, _, rfl, rfl, rfl, _, rfl, ?_⟩
    rw [List.length_map, lt, decide_eq_true rfl]
    have s7 := SameL.of (sTr s02 s26)
    exact iteF (k _ _ ⟨a, d, b, o3, o4, o5, o6, o7, o8, tu, br, o11, o12, o13, o14, o15, n, ts, ks, rfl, n0, n6, ht.sameL s7, hT, hb.sameL s7⟩)
theorem step26 (G : Fns P w K mg base C CE T D) (hr : RmL A s f c) : Run (XL P w K mg base f c A outer s H0 E) [stL 26] A24 := by
  refine ⟨_, pss_one (ps_ret (pe_and (pe_cmpR op_eq (pe_call G.ba hr rfl D.ba.g D.ba.F.kp D.ba.b .nil pass0 (pa_cons (pv 9) (pa_cons pe_non pa_nil))) (pv 2) (nomark _))
    (pe_and (pe_cmpR op_notN (pe_call G.ba hr rfl D.ba.g D.ba.F.kp D.ba.b .nil pass0 (pa_cons (pe_op op_cat (pe_slice sl_list (pv 9) po_none (po_some (pe_un un_neg pe_int))) (pe_lst (pa_cons (pv 2) pa_nil))) (pa_cons (pv 10) pa_nil))) pe_non (nomark _))
    (pe_one (pe_cmpR op_eq (pe_call G.ba hr rfl D.ba.g D.ba.F.kp D.ba.b .nil pass0 (pa_cons (pe_lst pa_nil) (pa_cons (pv 10) pa_nil))) pe_int (nomark _)))))), fun D σ H h k => ?_⟩
  obtain ⟨a, d, b, o3, o4, o5, o6, o7, o8, tu, br, o11, o12, o13, o14, o15, n, ts, ks, rfl, n0, n6, ht, hT, hb⟩ := h
  have zl : 1000 ≤ sizeLine := by decide
  have lt := hT.l
  refine ⟨_, rfl, _, _, rfl, .inr ⟨tu, ts, rfl, ht.1, hT.t, by omega, .inl ⟨.non, fun H1 s1 => ?_⟩⟩⟩
  refine ⟨_, rfl, rfl, _, rfl, ?_⟩
  rw [lt, decide_eq_true rfl]
  have ht1 := s1 _ _ ht.1
  refine iteT ⟨_, rfl, 1, rfl, _, rfl, tu, _, rfl, .of ht1, fun p np => ?_⟩
  have e : cutV (ts.map V.int) none (some (-1)) = (ts.take (ts.length - 1)).map V.int := cut_last
  refine ⟨_, rfl, by show 1 ≤ sizeLine; omega, fun l nl => ?_⟩
  have s2 := same1 (o := .lst (cutV (ts.map V.int) none (some (-1)))) np
  have s3 := same1 (o := .lst [.int (n : Nat)]) nl
  refine ⟨p, l, _, _, rfl, rfl, s3 _ _ upd_same, upd_same, ?_, fun l4 nl4 => ⟨_, rfl, ?_⟩⟩
  · have := cutV_length (ts.map V.int) none (some (-1))
    rw [List.length_map] at this
    show (cutV (ts.map V.int) none (some (-1))).length + 1 ≤ _
    omega
  have s4 := same1 (o := .lst (cutV (ts.map V.int) none (some (-1)) ++ [V.int (n : Nat)])) nl4
  obtain ⟨m, hm⟩ := turnBad_last n0 lt
  refine ⟨_, _, rfl, .inl ⟨l4, _, m, rfl, upd_same, ?_, ?_, fun H5 s5 => ⟨rfl, _, rfl, iteT ?_⟩⟩⟩
  · intro x hx
    have hx : x ∈ cutV (ts.map V.int) none (some (-1)) ++ [V.int (n : Nat)] := hx
    rw [e] at hx
    rcases List.mem_append.mp hx with hx | hx
    · exact pln_ints x hx
    · rw [List.mem_singleton.mp hx]
      exact .int _
  · show turnBad (cutV (ts.map V.int) none (some (-1)) ++ [V.int (n : Nat)]) = some m
    rw [e, lt]
    exact hm
  · refine ⟨Nat.zero_le _, fun l6 nl6 => ⟨_, rfl, _, _, rfl, .inl ⟨l6, [], 0, rfl, upd_same, fun x hx => absurd hx (by simp), no_turn, fun H7 s7 => ⟨rfl, ?_⟩⟩⟩⟩
    rw [show decide (V.int ((0 : Nat) : Int) = V.int 0) = true from by decide]
    exact k _
end
end RD
set_option maxRecDepth 100000
set_option maxHeartbeats 4000000
namespace RD
open PySem PySem.Spec PyProof.Rows L2 Rd Tb Cn Lm LamX NdefX
def sp_law (T : List (Addr × Str)) (K : PySem.W.Frag) : Sp := fun vs H Q _ => ∃ a, ∃ ns : List Int, vs = [.ref a] ∧ Tabs T H ∧ SqL K H a (ns.map V.int) ∧ ns.length ≤ 63 ∧ ∀ H1, Q (.bl true) H1
theorem body_law : defBody s_law = [stL 0, stL 1, stL 2, stL 3, stL 4, stL 5, stL 6, stL 7, stL 8, stL 9, stL 10, stL 11, stL 12, stL 13, stL 14, stL 15, stL 16, stL 17, stL 18, stL 19, stL 20, stL 21, stL 22, stL 23, stL 24, stL 25, stL 26] := rfl
/-- the further defs, that the promises rest on -/
structure Deep (K : PySem.W.Frag) (mg : Str → Option Value) where
  v : Vals_ K mg
  k : Kin K mg
  at_ : Df K mg "all_triples" s_all_triples ["many"]
  ot : Df K mg "own_turned" s_own_turned ["many"]
  il : Df K mg "is_level" s_is_level ["triple"]
  cn : Df K mg "check_numbers" s_check_numbers ["numbers"]
  it : Df K mg "is_triangle" s_is_triangle ["a", "b", "c"]
  sk : Df K mg "sum_kind" s_sum_kind ["many"]
  ek : Df K mg "sector_kind" s_sector_kind ["many"]
  tr : Df K mg "_law_triples" s__law_triples ["kind"]
section
variable {P : Program} {w : World} {K : PySem.W.Frag} {mg : Str → Option Value} {base : Heap} {C CE Pt Pc : Addr} {T : List (Addr × Str)} {D : Defs K mg}
theorem fns_mk (Z : Deep K mg) (hB : Bn mg) (hM : ∃ t, mg "MOST_NUMBERS" = some (.int 6 t)) (E : Er P w K mg base "InvalidKind" CE) (KK : KindK P w K mg base C CE) (Hd : Hnd K mg "InvalidKind" CE) (TC : Tab base mg T D.ck.c Pc "_law_clocks_right.<locals>.<lambda>") : Fns P w K mg base C CE T D := by
  obtain ⟨fK, fdK, KC, GK, bK⟩ := id KK.ex
  have gd : FnOk P w K mg base (L2N.CX P w) 10 D.dk.f D.dk.fd ["numbers"] (sp_distance_kind C CE) := ok_distance_kind D.dk Z.cn Z.v.n Z.v.i Z.ot Z.at_ Z.it hB hM E KK
  have gb : FnOk P w K mg base (L2N.CX P w) 10 D.bk.f D.bk.fd ["turned", "barred"] (sp_barred_kind C CE) := ok_barred_kind D.bk Z.k Z.v Z.at_ hB E KK
  exact
    { dr := ok_law_draw D.dr hB
      an := ok_law_any D.an hB
      of_ := ok_law_of D.of_ D.an hB
      mi := ok_law_mixed D.mi D.an hB
      by_ := ok_law_by D.by_ hB
      si := ok_law_six D.si hB
      is_ := ok_law_is D.is_ Z.tr KC hB
      di := ok_law_distance D.di D.dk gd KC Hd hB
      ba := ok_law_barred D.ba D.bk gb KC Hd hB
      ck := ok_clocks (fK := fK) D.ck TC D.by_ D.is_ Z.tr Z.sk Z.ek hB KK
      fr := ok_free_kind D.fr Z.ot Z.at_ hB KK
      bk := gb
      ok := ok_order_kind D.ok D.bk Z.k Z.v Z.at_ hB E KK
      lk := ok_level_kind D.lk Z.ot Z.at_ Z.il hB KK
      dk := gd }
theorem ok_law (Dl : Dc K mg "law" s_law ["script"]) (TT : Tab base mg T Dl.c Pt "law.<locals>.<lambda>") (G : Fns P w K mg base C CE T D) (hB : Bn mg) : FnG P w K mg base CX0 12 Dl.f Dl.fd ["script"] (sp_law T K) := by
  refine fn_ofGC Dl.F sc_law (fun vs H Q E h => ?_) (fun A outer s H vs Q E hg hr h => ?_)
  · obtain ⟨a, ns, rfl, _⟩ := h
    rfl
  · obtain ⟨a, ns, rfl, ht, ha, l63, k⟩ := h
    have run : Run (XL P w K mg base Dl.f Dl.c A outer s H E) (defBody s_law) (A0 T K) := by
      rw [body_law]
      exact Step.cons (step0 G hr) (Step.cons (step1 G hr) (Step.cons (step2 hB hr) (Step.cons (step3 G hg hr) (Step.cons (step4 G TT hg hr) (Step.cons (step5 G TT hg hr) (Step.cons (step6 G TT hr) (Step.cons (step7 G hg hr) (Step.cons (step8 G hB hr) (Step.cons (step9 G TT hB hr)
        (Step.cons (step10 G hB hg hr) (Step.cons (step11 G hr) (Step.cons (step12 G TT hB hg hr) (Step.cons (step13 G TT hB hr) (Step.cons (step14 G TT hB hr) (Step.cons (step15 G hB hg hr) (Step.cons (step16 hB hr) (Step.cons (step17 G hr) (Step.cons (step18 G hB hr) (Step.cons (step19 hr)
        (Step.cons (step20 G hr) (Step.cons (step21 G TT hB hg hr) (Step.cons (step22 G hr) (Step.cons (step23 G hr) (Step.cons (step24 G hB hr) (Step.cons (step25 G hB hr) (step26 G hr))))))))))))))))))))))))))
    obtain ⟨t, ht2, k2⟩ := run
    exact ⟨t, ht2, k2 _ _ _ ⟨a, ns, rfl, ht, ha, l63⟩ fun H1 => k H1⟩
end
end RD
set_option maxRecDepth 100000
set_option maxHeartbeats 4000000
/-! The end of a law that makes lambdas and asks that no guard stands. -/
namespace Rd
open PySem PySem.Spec PyProof.Rows L2 LamX
/-- the script, locked, and the empty tables; nothing else -/
def scrT (K : PySem.W.Frag) (a : Addr) (vs : List Value) (ns : List Int) (Z : List Addr) : Hp := fun b =>
  if b = a ∧ K.lookup a = none then some (.frz { cls := .type "list", data := .seq vs.toArray } (.lst (ns.map V.int))) else if b ∈ Z then some (.tbl #[]) else none
theorem scrT_at {K : PySem.W.Frag} {a b : Addr} {vs : List Value} {ns : List Int} {Z : List Addr} {u : HO} (e : scrT K a vs ns Z b = some u) :
    (b = a ∧ K.lookup a = none ∧ u = .frz { cls := .type "list", data := .seq vs.toArray } (.lst (ns.map V.int))) ∨ (b ∈ Z ∧ u = .tbl #[]) := by
  unfold scrT at e
  split at e
  · rename_i q
    exact .inl ⟨q.1, q.2, (Option.some.inj e).symm⟩
  · split at e
    · rename_i q
      exact .inr ⟨q, (Option.some.inj e).symm⟩
    · cases e
/-- what stands when the law is called -/
structure Stand (P : Program) (w : World) (K : PySem.W.Frag) (mg mb : Str → Option Value) (cs : List (Addr × Addr)) (a : Addr) (vs : List Value) (ns : List Int) (s1 : Shared) : Prop where
  kin : K.In s1.heap
  glo : s1.heap.Ns mainGlobals mg
  blt : s1.heap.Ns builtinsNs mb
  boo : ∀ x : Str, x ≠ "__name__" → mb x = bootBuiltins x
  lim : s1.heap.NoLimit
  gen : s1.gens = #[]
  tab : ∀ p ∈ cs, s1.heap.get? p.2 = some { cls := .none, data := .fields #[] }
  out : ∀ p ∈ cs, K.lookup p.2 = none
  cod : ∀ p ∈ cs, PySem.W.CodeHd s1.heap p.1 p.2
  mod : ∃ (m : Addr) (om : Obj), mg "__builtins__" = some (.ref m) ∧ m ≠ builtinsNs ∧ s1.heap.get? m = some om ∧ om.cls = .type "module" ∧ om.dict = some builtinsNs ∧ om.data = .plain
  scr : s1.heap.get? a = some { cls := .type "list", data := .seq vs.toArray }
  int : IntsAre vs ns
  len : ns.length ≤ sizeLine
section
variable {P : Program} {w : World} {K : PySem.W.Frag} {mg mb : Str → Option Value} {cs : List (Addr × Addr)} {a : Addr} {vs : List Value} {ns : List Int} {s1 : Shared}
abbrev scrH (K : PySem.W.Frag) (a : Addr) (vs : List Value) (ns : List Int) (cs : List (Addr × Addr)) : Hp := scrT K a vs ns (cs.map (·.2))
theorem Stand.isT (S : Stand P w K mg mb cs a vs ns s1) {b : Addr} (hb : b ∈ cs.map (·.2)) : s1.heap.get? b = some { cls := .none, data := .fields #[] } := by
  obtain ⟨p, hp, rfl⟩ := List.mem_map.mp hb
  exact S.tab p hp
theorem Stand.notA (S : Stand P w K mg mb cs a vs ns s1) : a ∉ cs.map (·.2) := fun z => by
  have q := S.isT z
  rw [S.scr] at q
  have r : Data.seq vs.toArray _ = Data.fields #[] := congrArg Obj.data (Option.some.inj q)
  cases r
theorem Stand.tbl (S : Stand P w K mg mb cs a vs ns s1) {p : Addr × Addr} (hp : p ∈ cs) : scrH K a vs ns cs p.2 = some (.tbl #[]) := by
  have m : p.2 ∈ cs.map (·.2) := List.mem_map.mpr ⟨p, hp, rfl⟩
  have n : ¬ (p.2 = a ∧ K.lookup a = none) := fun z => S.notA (by rw [← z.1]; exact m)
  show scrT K a vs ns (cs.map (·.2)) p.2 = _
  unfold scrT
  rw [if_neg n, if_pos m]
theorem Stand.sq (S : Stand P w K mg mb cs a vs ns s1) : SqL K (scrH K a vs ns cs) a (ns.map V.int) := by
  have rv := vals_ints S.int
  have lv := S.int.length
  cases hk : K.lookup a with
  | none => exact .inl (.inr ⟨_, if_pos ⟨rfl, hk⟩⟩)
  | some o =>
    have e := S.kin a o hk
    rw [S.scr] at e
    cases e
    exact .inr ⟨_, vs.toArray, _, hk, rfl, rfl, rfl, by rw [List.size_toArray, lv]; exact S.len, by simpa using rv⟩
theorem Stand.ok (S : Stand P w K mg mb cs a vs ns s1) : HOk P w (scrH K a vs ns cs) s1.heap := fun b u z => by
  rcases scrT_at z with ⟨rfl, _, rfl⟩ | ⟨hb, rfl⟩
  · exact ⟨S.scr, by rw [List.length_map]; exact S.len, vs, _, vals_ints S.int, S.scr⟩
  · exact S.isT hb
/-- what is neither a list nor an empty table is not tracked -/
theorem Stand.free (S : Stand P w K mg mb cs a vs ns s1) {b : Addr} {o : Obj} (e : s1.heap.get? b = some o) (n1 : ∀ x y, o.data ≠ .seq x y) (n2 : o.data ≠ .fields #[]) : scrH K a vs ns cs b = none := by
  cases q : scrH K a vs ns cs b with
  | none => rfl
  | some u =>
    rcases scrT_at q with ⟨rfl, _, _⟩ | ⟨hb, _⟩
    · rw [S.scr] at e
      cases e
      exact (n1 _ _ rfl).elim
    · rw [S.isT hb] at e
      cases e
      exact (n2 rfl).elim
theorem Stand.freeD (S : Stand P w K mg mb cs a vs ns s1) {b : Addr} {o : Obj} {x : Array DictEntry} {y : Nat} (e : s1.heap.get? b = some o) (d : o.data = .dict x y) : scrH K a vs ns cs b = none :=
  S.free e (fun p q z => by rw [d] at z; cases z) fun z => by rw [d] at z; cases z
theorem Stand.freeK (S : Stand P w K mg mb cs a vs ns s1) {b : Addr} {o : Obj} (e : K.lookup b = some o) : scrH K a vs ns cs b = none := by
  cases q : scrH K a vs ns cs b with
  | none => rfl
  | some u =>
    rcases scrT_at q with ⟨rfl, hk, _⟩ | ⟨hb, _⟩
    · rw [hk] at e
      cases e
    · obtain ⟨p, hp, rfl⟩ := List.mem_map.mp hb
      rw [S.out p hp] at e
      cases e
theorem Stand.ns_ (S : Stand P w K mg mb cs a vs ns s1) {b : Addr} {m : Str → Option Value} (h : s1.heap.Ns b m) : (hidT s1.heap (scrH K a vs ns cs)).Ns b m := by
  obtain ⟨o, x, y, e, d, r⟩ := h
  exact ⟨o, x, y, hidT_get e (S.freeD e d), d, r⟩
theorem Stand.kin_ (S : Stand P w K mg mb cs a vs ns s1) : K.In (hidT s1.heap (scrH K a vs ns cs)) := fun b o e => hidT_get (S.kin b o e) (S.freeK e)
theorem Stand.tabB (S : Stand P w K mg mb cs a vs ns s1) {p : Addr × Addr} (hp : p ∈ cs) : TabB (hidT s1.heap (scrH K a vs ns cs)) mg p.1 p.2 := by
  have tp := S.tab p hp
  refine ⟨?_, ?_, fun z => ?_⟩
  · obtain ⟨o, us, fi, tf, fl, tg, nf, tx, tt, e, r1, r2, r3, rr⟩ := S.cod p hp
    refine ⟨o, us, fi, tf, fl, tg, nf, tx, tt, hidT_get e (S.free e (fun x y z => ?_) fun z => ?_), r1, r2, r3, rr⟩
    · rw [r2] at z
      cases z
    · rw [r2] at z
      cases z
      simp at r3
  · obtain ⟨m, om, b1, b2, b3, b4, b5, b6⟩ := S.mod
    have g1 : m ≠ mainGlobals := fun q => by
      obtain ⟨o, x, y, e, d, _⟩ := S.glo
      rw [q, e] at b3
      cases b3
      rw [d] at b6
      cases b6
    have g2 : m ≠ p.2 := fun q => by
      rw [q, tp] at b3
      cases b3
      cases b6
    refine ⟨m, om, b1, b2, g1, g2, hidT_get b3 (S.free b3 (fun x y z => ?_) fun z => ?_), b4, b5, b6⟩
    · rw [b6] at z
      cases z
    · rw [b6] at z
      cases z
  · obtain ⟨o, x, y, e, d, _⟩ := S.glo
    rw [z, tp] at e
    cases e
    cases d
theorem Stand.env (S : Stand P w K mg mb cs a vs ns s1) : Env0 P w K mg (hidT s1.heap (scrH K a vs ns cs)) callerA [] s1 (scrH K a vs ns cs) := by
  have M : L2.Mod K mg (hidT s1.heap (scrH K a vs ns cs)) := ⟨S.kin_, S.ns_ S.glo, ⟨mb, S.ns_ S.blt, S.boo⟩, let ⟨c, h1, h2⟩ := S.lim; ⟨c, S.ns_ h1, h2⟩⟩
  exact ⟨rfl, M, fun b o e => of_hidT e, Nat.le_of_eq (hidT_size _ _), trivial, fun b hb => absurd (show b ∈ ([] : List Addr) from hb) (by simp), S.ok, .of_eq S.gen⟩
theorem law_callGT {CX : CXT} {k : Nat} {fa : Addr} {fd : FuncData} {x : Str} {sp : Sp} (S : Stand P w K mg mb cs a vs ns s1) (hr : Room k callerA)
    (F : ∀ base : Heap, K.In base → base.Ns mainGlobals mg → (∀ p ∈ cs, TabB base mg p.1 p.2) → FnG P w K mg base CX k fa fd [x] sp) (hbind : ∀ (s : Shared) (u : Value), BindsTo s fd ⟨[u], []⟩ [(x, u)])
    (hsp : ∀ H : Hp, (∀ p ∈ cs, H p.2 = some (.tbl #[])) → SqL K H a (ns.map V.int) → sp [.ref a] H (fun v _ => v = .bl true) fun _ _ _ => False) (hCX : ∀ H e s', CX [] H s1 (fun _ _ _ => False) e s' → False) :
    codeAny (model P w) callerA (.call (.ref fa) ⟨[.ref a], []⟩) (fun r s' => r = .ok (.ret (.bool true)) ∧ OldK s1.heap s'.heap ∧ s'.os = s1.os ∧ AllBare s'.gens) s1 := by
  have G := F _ S.kin_ (S.ns_ S.glo) fun p hp => S.tabB hp
  refine codeAny_mono (G.run callerA [] s1 _ ⟨[.ref a], []⟩ [.ref a] [.ref a] _ _ rfl hr S.env (hbind s1 (.ref a)) (.cons rfl .nil) (hsp _ (fun p hp => S.tbl hp) S.sq)) fun r s' h => ?_
  cases r with
  | error e => exact (hCX _ e s' h).elim
  | ok fl =>
    cases fl with
    | next => exact False.elim h
    | brk => exact False.elim h
    | cont => exact False.elim h
    | ret u =>
      obtain ⟨v, H', os, bare, un, hok', r', q⟩ := h
      have q' : v = .bl true := q
      subst q'
      obtain rfl : u = Value.bool true := r'
      have stay : ∀ b o, b ∉ cs.map (·.2) → s1.heap.get? b = some o → s'.heap.get? b = some o := fun b o nb e => by
        cases q : scrH K a vs ns cs b with
        | none => exact un.keep b o e q (fun z => absurd (show b ∈ ([] : List Addr) from z) (by simp)) (by simp)
        | some y =>
          rcases scrT_at q with ⟨rfl, _, rfl⟩ | ⟨hb, _⟩
          · obtain ⟨e1, _⟩ := S.ok _ _ q
            obtain ⟨e2, _⟩ := hok' _ _ (un.frzs _ _ _ q)
            rw [e] at e1
            cases e1
            exact e2
          · exact absurd hb nb
      have grow : ∀ p ∈ cs, ∃ more : Array Value, s'.heap.get? p.2 = some { cls := .none, data := .fields more } := fun p hp => by
        obtain ⟨more, z⟩ := un.tbls p.2 #[] (S.tbl hp)
        exact ⟨_, hok' p.2 _ z⟩
      refine ⟨rfl, ⟨fun b o e => ?_, fun b o e => ?_⟩, os, bare⟩
      · by_cases hb : b ∈ cs.map (·.2)
        · obtain ⟨p, hp, rfl⟩ := List.mem_map.mp hb
          obtain ⟨more, hm⟩ := grow p hp
          have ct := ((S.cod p hp).tab (S.tab p hp)).isCodeTable
          rw [S.tab p hp] at e
          cases e
          exact .inr (.inl ⟨ct, rfl, #[], more, rfl, (by rw [Array.empty_append]; exact hm)⟩)
        · exact .inl (stay b o hb e)
      · by_cases hb : b ∈ cs.map (·.2)
        · obtain ⟨p, hp, rfl⟩ := List.mem_map.mp hb
          obtain ⟨more, hm⟩ := grow p hp
          exact ⟨_, hm⟩
        · exact ⟨o, stay b o hb e⟩
end
/-- the law's promise where the head's heap is h -/
def LawG (l : PySem.W.OpenLaw) (w : World) (K : PySem.W.Frag) (CX : CXT) (k n : Nat) (x : Str) (mg : Str → Option Value) (fa : Addr) (h : Heap) : Prop :=
  ∃ (fd : FuncData) (cs : List (Addr × Addr)) (sp : Sp), (∀ p ∈ cs, h.get? p.2 = some { cls := .none, data := .fields #[] }) ∧ (∀ p ∈ cs, K.lookup p.2 = none) ∧ (∀ p ∈ cs, PySem.W.CodeHd h p.1 p.2) ∧ (∀ (s : Shared) (u : Value), BindsTo s fd ⟨[u], []⟩ [(x, u)]) ∧
    (∀ (H : Hp) (a : Addr) (ns : List Int), ns.length ≤ n → (∀ p ∈ cs, H p.2 = some (.tbl #[])) → SqL K H a (ns.map V.int) → sp [.ref a] H (fun v _ => v = .bl true) fun _ _ _ => False) ∧
    ∀ base : Heap, K.In base → base.Ns mainGlobals mg → (∀ p ∈ cs, TabB base mg p.1 p.2) → FnG l.prog w K mg base CX k fa fd [x] sp
theorem walk_ofGT {l : PySem.W.OpenLaw} {n k : Nat} {q : Program} {loose : List Str} {XP : (Str → Option Value) → Heap → Prop} {YP : World → Heap → Prop} {d : DefRec} {K : Params → PySem.W.Frag} {CX : World → CXT} {x : Str}
    (hn : l.most = some n) (hn2 : n ≤ sizeLine) (hdf : d.params.defaults = []) (hr : Room k callerA) (hY : ∀ (w : World) (h : Heap), YP w h → (K w.params).In h)
    (F : ∀ (w : World) (mg : Str → Option Value) (fa : Addr) (h : Heap), YP w h → (K w.params).In h → h.Ns mainGlobals mg → mg d.name = some (.ref fa) → LawG l w (K w.params) (CX w) k n x mg fa h)
    (hCX : ∀ (w : World) (H : Hp) (s : Shared) (e : Value) (s' : Shared), CX w [] H s (fun _ _ _ => False) e s' → False) :
    PySem.W.WalkO q loose XP YP l.row.toRowW d [] (fun f vs => PySem.call f vs) := by
  refine Att.attach_callB hn hdf fun w s₀ s1 mg mb fa o pm cd doc a vs ns G Y ho hd hcd hmg hobj hints hlen hbits hg => ?_
  obtain ⟨fd, cs, sp, t1, t2, t3, t4, t5, t6⟩ := F w mg fa _ Y (hY w _ Y) G.T.g hmg
  exact law_callGT ⟨hY w _ Y, G.T.g, G.T.b, G.T.builtins, G.T.nolimit, hg, t1, t2, t3, G.T.bmain, hobj, hints, Nat.le_trans hlen hn2⟩ hr t6 t4 (fun H hH hS => t5 H a ns hlen hH hS) fun H e s' => hCX w H s1 e s'
end Rd
set_option maxRecDepth 100000
set_option maxHeartbeats 4000000
namespace RD
open PySem PySem.Spec PyProof.Rows L2 Rd Tb Cn Lm LamX NdefX
/-- an error class, as the rules ask, by one look -/
def errB (K : PySem.W.Frag) (C : Addr) : Bool :=
  decide (PySem.W.findIn K (.ref C) "__setattr__" = some (some (.builtin "object.__setattr__"))) && (decide (PySem.W.subIn K (.ref C) (.type "BaseException") = some true) && (decide (PySem.W.typeIn K (.ref C) = some (.type "type")) && (PySem.W.keepIn K (.ref C) &&
  (decide (PySem.W.findIn K (.ref C) "__getattribute__" = some (some (.builtin "BaseException.__getattribute__"))) && (decide (PySem.W.findIn K (.ref C) "__getattr__" = some none) && (PySem.W.hasDictIn K C &&
  (decide (PySem.W.findIn K (.ref C) "__class__" = some (some (.builtin "object.__class__"))) && (decide (PySem.W.mroIn K C (.type "object") = some true) && decide (PySem.W.findIn K (.ref C) "at" = some none)))))))))
structure ErrB (K : PySem.W.Frag) (C : Addr) : Prop where
  sa : PySem.W.findIn K (.ref C) "__setattr__" = some (some (.builtin "object.__setattr__"))
  ex : PySem.W.subIn K (.ref C) (.type "BaseException") = some true
  ty : PySem.W.typeIn K (.ref C) = some (.type "type")
  kp : PySem.W.keepIn K (.ref C) = true
  ga : PySem.W.findIn K (.ref C) "__getattribute__" = some (some (.builtin "BaseException.__getattribute__"))
  gg : PySem.W.findIn K (.ref C) "__getattr__" = some none
  hd : PySem.W.hasDictIn K C = true
  ha : PySem.W.findIn K (.ref C) "__class__" = some (some (.builtin "object.__class__"))
  hm : PySem.W.mroIn K C (.type "object") = some true
  no : PySem.W.findIn K (.ref C) "at" = some none
theorem errB_ok {K : PySem.W.Frag} {C : Addr} (h : errB K C = true) : ErrB K C := by
  simp only [errB, Bool.and_eq_true, decide_eq_true_eq] at h
  obtain ⟨h1, h2, h3, h4, h5, h6, h7, h8, h9, h10⟩ := h
  exact ⟨h1, h2, h3, h4, h5, h6, h7, h8, h9, h10⟩
theorem err_mk {K : PySem.W.Frag} {h : Heap} {mg : Str → Option Value} {x : Str} {C C0 fI : Addr} (X : K.In h) (G : h.Ns mainGlobals mg)
    {nm q : Str} {N : Addr} {bs : List Value} {sn : List Str} {sub : List Value} {ab : Bool} {col : Option Bool} {dd : Option Addr} {m0 m1 m2 m3 m5 : Option Value}
    (aC : PySem.W.nsIn K mainGlobals x = some (some (.ref C)))
    (xL : K.lookup C = some (excClassObj nm q C N bs [.ref C0, .type "ValueError", .type "Exception", .type "BaseException", .type "object"] true sn sub ab col dd m0 m1 m2 m3 m5 "ValueError.__new__"))
    (eB : errB K C = true) (iC : PySem.W.findIn K (.ref C) "__init__" = some (some (.ref fI))) (tC : PySem.W.typeIn K (.ref fI) = some (.type "function"))
    (hn : PySem.W.specialIn K (.builtin "object.__class__") "__get__" = some (some (.builtin "getset_descriptor.__get__"))) (ht : PySem.W.takesIn K (.builtin "object.__class__") = some true) : Err K mg x C fI := by
  have e := errB_ok eB
  exact ⟨⟨⟨nm, q, N, bs, _, sn, sub, ab, col, dd, m0, m1, m2, m3, m5, xL, rfl⟩, e.sa, e.ex, e.ty, e.kp⟩, ⟨e.ga, e.gg, e.ex, e.hd⟩, ⟨e.ga, e.gg, e.ex, e.hd, e.ha, hn, ht, e.hm⟩, PySem.W.mg_of X G aC, iC, tC, e.no⟩
/-- the table that a code object names -/
def tabOf (K : PySem.W.Frag) (c : Addr) : Option Addr := match K.lookup c with
  | some o => match o.data with
    | .fields vs => match (vs[11]? : Option Value) with
      | some (Value.ref p) => some p
      | _ => none
    | _ => none
  | none => none
def tabsB (K : PySem.W.Frag) (ts : List Addr) (c1 c2 : Addr) : Bool := match tabOf K c1, tabOf K c2 with
  | some p, some q => PySem.W.codeHdIn K c1 p && (PySem.W.codeHdIn K c2 q && (ts.contains p && (ts.contains q && (p != q && ((K.lookup p).isNone && (K.lookup q).isNone)))))
  | _, _ => false
theorem tabsB_ok {K : PySem.W.Frag} {ts : List Addr} {c1 c2 : Addr} (h : tabsB K ts c1 c2 = true) : ∃ p q, PySem.W.codeHdIn K c1 p = true ∧ PySem.W.codeHdIn K c2 q = true ∧ p ∈ ts ∧ q ∈ ts ∧ p ≠ q ∧ K.lookup p = none ∧ K.lookup q = none := by
  unfold tabsB at h
  split at h
  · rename_i p q _ _
    simp only [Bool.and_eq_true, bne_iff_ne, ne_eq, Option.isNone_iff_eq_none, List.contains_iff_mem] at h
    obtain ⟨h1, h2, h3, h4, h5, h6, h7⟩ := h
    exact ⟨p, q, h1, h2, h3, h4, h5, h6, h7⟩
  · cases h
def df_mk {K : PySem.W.Frag} {h : Heap} {mg : Str → Option Value} {x : Str} {st : Stmt} {ps : List Str} {f : Addr} {od an : Option Addr} {sl : Array (Option Value)} {oc kV dc pm cd ct : Value} (X : K.In h) (G : h.Ns mainGlobals mg) (a : PySem.W.nsIn K mainGlobals x = some (some (.ref f)))
    (l : K.lookup f = some ⟨oc, od, .func (PySem.W.fnOf x x (defArgs st) (defBody st) (defScope st) .none kV dc pm an cd ct), sl⟩) (c : PySem.W.codeIn K cd x = true) (k : PySem.W.keepIn K (.ref f) = true)
    (hb : ∀ (kV dc pm : Value) (an : Option Addr) (cd ct : Value) (us : List Value), us.length = ps.length → bindArgs (PySem.W.fnOf x x (defArgs st) (defBody st) (defScope st) .none kV dc pm an cd ct) ⟨us, []⟩ = pure (ps.zip us)) : Df K mg x st ps :=
  ⟨f, _, fun_mk l c k, PySem.W.mg_of X G a, (fun_mk l c k).binds hb⟩
def dc_mk {K : PySem.W.Frag} {h : Heap} {mg : Str → Option Value} {x : Str} {st : Stmt} {ps : List Str} {f cc : Addr} {od an : Option Addr} {sl : Array (Option Value)} {oc kV dc pm ct : Value} (X : K.In h) (G : h.Ns mainGlobals mg) (a : PySem.W.nsIn K mainGlobals x = some (some (.ref f)))
    (l : K.lookup f = some ⟨oc, od, .func (PySem.W.fnOf x x (defArgs st) (defBody st) (defScope st) .none kV dc pm an (.ref cc) ct), sl⟩) (c : PySem.W.codeIn K (.ref cc) x = true) (k : PySem.W.keepIn K (.ref f) = true)
    (hb : ∀ (kV dc pm : Value) (an : Option Addr) (cd ct : Value) (us : List Value), us.length = ps.length → bindArgs (PySem.W.fnOf x x (defArgs st) (defBody st) (defScope st) .none kV dc pm an cd ct) ⟨us, []⟩ = pure (ps.zip us)) : Dc K mg x st ps :=
  ⟨f, _, cc, ⟨⟨oc, od, kV, dc, pm, an, ct, sl, rfl, l, c⟩, k⟩, PySem.W.mg_of X G a, (fun_mk l c k).binds hb⟩
theorem all_mk {l : PySem.W.OpenLaw} {w : World} {K : PySem.W.Frag} {h : Heap} {mg : Str → Option Value} {ts : List Addr} {fa C C0 CE cg0 cg1 fa0 fa1 fa2 fa3 fa4 fa5 fa6 fb0 fb1 fb2 fb3 fb4 fc0 fc1 fc2 fc3 fc4 fc5 fc6 fc7 fd0 fd1 fd2 fd3 fd4 fd5 fd6 fd7 fd8 fe0 fe1 fe2 fe3 fe4 fg0 fg1 fy0 fy1 : Addr} (X : K.In h) (G : h.Ns mainGlobals mg) (hfa : mg "law" = some (.ref fa)) (hts : ∀ P ∈ ts, h.get? P = some { cls := .none, data := .fields #[] })
    {oda0 ana0 : Option Addr} {sla0 : Array (Option Value)} {oca0 kVa0 dca0 pma0 cda0 cta0 : Value}
    (Aa0 : PySem.W.nsIn K mainGlobals "is_integer" = some (some (.ref fa0)))
    (La0 : K.lookup fa0 = some ⟨oca0, oda0, .func (PySem.W.fnOf "is_integer" "is_integer" (defArgs s_is_integer) (defBody s_is_integer) (defScope s_is_integer) .none kVa0 dca0 pma0 ana0 cda0 cta0), sla0⟩)
    (Da0 : PySem.W.codeIn K cda0 "is_integer" = true)
    (Ka0 : PySem.W.keepIn K (.ref fa0) = true)
    {oda1 ana1 : Option Addr} {sla1 : Array (Option Value)} {oca1 kVa1 dca1 pma1 cda1 cta1 : Value}
    (Aa1 : PySem.W.nsIn K mainGlobals "is_number" = some (some (.ref fa1)))
    (La1 : K.lookup fa1 = some ⟨oca1, oda1, .func (PySem.W.fnOf "is_number" "is_number" (defArgs s_is_number) (defBody s_is_number) (defScope s_is_number) .none kVa1 dca1 pma1 ana1 cda1 cta1), sla1⟩)
    (Da1 : PySem.W.codeIn K cda1 "is_number" = true)
    (Ka1 : PySem.W.keepIn K (.ref fa1) = true)
    {oda2 ana2 : Option Addr} {sla2 : Array (Option Value)} {oca2 kVa2 dca2 pma2 cda2 cta2 : Value}
    (Aa2 : PySem.W.nsIn K mainGlobals "is_below" = some (some (.ref fa2)))
    (La2 : K.lookup fa2 = some ⟨oca2, oda2, .func (PySem.W.fnOf "is_below" "is_below" (defArgs s_is_below) (defBody s_is_below) (defScope s_is_below) .none kVa2 dca2 pma2 ana2 cda2 cta2), sla2⟩)
    (Da2 : PySem.W.codeIn K cda2 "is_below" = true)
    (Ka2 : PySem.W.keepIn K (.ref fa2) = true)
    {oda3 ana3 : Option Addr} {sla3 : Array (Option Value)} {oca3 kVa3 dca3 pma3 cda3 cta3 : Value}
    (Aa3 : PySem.W.nsIn K mainGlobals "is_sequence" = some (some (.ref fa3)))
    (La3 : K.lookup fa3 = some ⟨oca3, oda3, .func (PySem.W.fnOf "is_sequence" "is_sequence" (defArgs s_is_sequence) (defBody s_is_sequence) (defScope s_is_sequence) .none kVa3 dca3 pma3 ana3 cda3 cta3), sla3⟩)
    (Da3 : PySem.W.codeIn K cda3 "is_sequence" = true)
    (Ka3 : PySem.W.keepIn K (.ref fa3) = true)
    {oda4 ana4 : Option Addr} {sla4 : Array (Option Value)} {oca4 kVa4 dca4 pma4 cda4 cta4 : Value}
    (Aa4 : PySem.W.nsIn K mainGlobals "are_below" = some (some (.ref fa4)))
    (La4 : K.lookup fa4 = some ⟨oca4, oda4, .func (PySem.W.fnOf "are_below" "are_below" (defArgs s_are_below) (defBody s_are_below) (defScope s_are_below) .none kVa4 dca4 pma4 ana4 cda4 cta4), sla4⟩)
    (Da4 : PySem.W.codeIn K cda4 "are_below" = true)
    (Ka4 : PySem.W.keepIn K (.ref fa4) = true)
    {oda5 ana5 : Option Addr} {sla5 : Array (Option Value)} {oca5 kVa5 dca5 pma5 cda5 cta5 : Value}
    (Aa5 : PySem.W.nsIn K mainGlobals "is_row" = some (some (.ref fa5)))
    (La5 : K.lookup fa5 = some ⟨oca5, oda5, .func (PySem.W.fnOf "is_row" "is_row" (defArgs s_is_row) (defBody s_is_row) (defScope s_is_row) .none kVa5 dca5 pma5 ana5 cda5 cta5), sla5⟩)
    (Da5 : PySem.W.codeIn K cda5 "is_row" = true)
    (Ka5 : PySem.W.keepIn K (.ref fa5) = true)
    {oda6 ana6 : Option Addr} {sla6 : Array (Option Value)} {oca6 kVa6 dca6 pma6 cda6 cta6 : Value}
    (Aa6 : PySem.W.nsIn K mainGlobals "is_triple" = some (some (.ref fa6)))
    (La6 : K.lookup fa6 = some ⟨oca6, oda6, .func (PySem.W.fnOf "is_triple" "is_triple" (defArgs s_is_triple) (defBody s_is_triple) (defScope s_is_triple) .none kVa6 dca6 pma6 ana6 cda6 cta6), sla6⟩)
    (Da6 : PySem.W.codeIn K cda6 "is_triple" = true)
    (Ka6 : PySem.W.keepIn K (.ref fa6) = true)
    {odb0 anb0 : Option Addr} {slb0 : Array (Option Value)} {ocb0 kVb0 dcb0 pmb0 cdb0 ctb0 : Value}
    (Ab0 : PySem.W.nsIn K mainGlobals "check_turned" = some (some (.ref fb0)))
    (Lb0 : K.lookup fb0 = some ⟨ocb0, odb0, .func (PySem.W.fnOf "check_turned" "check_turned" (defArgs s_check_turned) (defBody s_check_turned) (defScope s_check_turned) .none kVb0 dcb0 pmb0 anb0 cdb0 ctb0), slb0⟩)
    (Db0 : PySem.W.codeIn K cdb0 "check_turned" = true)
    (Kb0 : PySem.W.keepIn K (.ref fb0) = true)
    {odb1 anb1 : Option Addr} {slb1 : Array (Option Value)} {ocb1 kVb1 dcb1 pmb1 cdb1 ctb1 : Value}
    (Ab1 : PySem.W.nsIn K mainGlobals "check_triples" = some (some (.ref fb1)))
    (Lb1 : K.lookup fb1 = some ⟨ocb1, odb1, .func (PySem.W.fnOf "check_triples" "check_triples" (defArgs s_check_triples) (defBody s_check_triples) (defScope s_check_triples) .none kVb1 dcb1 pmb1 anb1 cdb1 ctb1), slb1⟩)
    (Db1 : PySem.W.codeIn K cdb1 "check_triples" = true)
    (Kb1 : PySem.W.keepIn K (.ref fb1) = true)
    {odb2 anb2 : Option Addr} {slb2 : Array (Option Value)} {ocb2 kVb2 dcb2 pmb2 cdb2 ctb2 : Value}
    (Ab2 : PySem.W.nsIn K mainGlobals "lacking_reading" = some (some (.ref fb2)))
    (Lb2 : K.lookup fb2 = some ⟨ocb2, odb2, .func (PySem.W.fnOf "lacking_reading" "lacking_reading" (defArgs s_lacking_reading) (defBody s_lacking_reading) (defScope s_lacking_reading) .none kVb2 dcb2 pmb2 anb2 cdb2 ctb2), slb2⟩)
    (Db2 : PySem.W.codeIn K cdb2 "lacking_reading" = true)
    (Kb2 : PySem.W.keepIn K (.ref fb2) = true)
    {odb3 anb3 : Option Addr} {slb3 : Array (Option Value)} {ocb3 kVb3 dcb3 pmb3 cdb3 ctb3 : Value}
    (Ab3 : PySem.W.nsIn K mainGlobals "bits_table" = some (some (.ref fb3)))
    (Lb3 : K.lookup fb3 = some ⟨ocb3, odb3, .func (PySem.W.fnOf "bits_table" "bits_table" (defArgs s_bits_table) (defBody s_bits_table) (defScope s_bits_table) .none kVb3 dcb3 pmb3 anb3 cdb3 ctb3), slb3⟩)
    (Db3 : PySem.W.codeIn K cdb3 "bits_table" = true)
    (Kb3 : PySem.W.keepIn K (.ref fb3) = true)
    {odb4 anb4 : Option Addr} {slb4 : Array (Option Value)} {ocb4 kVb4 dcb4 pmb4 cdb4 ctb4 : Value}
    (Ab4 : PySem.W.nsIn K mainGlobals "readings" = some (some (.ref fb4)))
    (Lb4 : K.lookup fb4 = some ⟨ocb4, odb4, .func (PySem.W.fnOf "readings" "readings" (defArgs s_readings) (defBody s_readings) (defScope s_readings) .none kVb4 dcb4 pmb4 anb4 cdb4 ctb4), slb4⟩)
    (Db4 : PySem.W.codeIn K cdb4 "readings" = true)
    (Kb4 : PySem.W.keepIn K (.ref fb4) = true)
    {odc0 anc0 : Option Addr} {slc0 : Array (Option Value)} {occ0 kVc0 dcc0 pmc0 cdc0 ctc0 : Value}
    (Ac0 : PySem.W.nsIn K mainGlobals "all_triples" = some (some (.ref fc0)))
    (Lc0 : K.lookup fc0 = some ⟨occ0, odc0, .func (PySem.W.fnOf "all_triples" "all_triples" (defArgs s_all_triples) (defBody s_all_triples) (defScope s_all_triples) .none kVc0 dcc0 pmc0 anc0 cdc0 ctc0), slc0⟩)
    (Dc0 : PySem.W.codeIn K cdc0 "all_triples" = true)
    (Kc0 : PySem.W.keepIn K (.ref fc0) = true)
    {odc1 anc1 : Option Addr} {slc1 : Array (Option Value)} {occ1 kVc1 dcc1 pmc1 cdc1 ctc1 : Value}
    (Ac1 : PySem.W.nsIn K mainGlobals "own_turned" = some (some (.ref fc1)))
    (Lc1 : K.lookup fc1 = some ⟨occ1, odc1, .func (PySem.W.fnOf "own_turned" "own_turned" (defArgs s_own_turned) (defBody s_own_turned) (defScope s_own_turned) .none kVc1 dcc1 pmc1 anc1 cdc1 ctc1), slc1⟩)
    (Dc1 : PySem.W.codeIn K cdc1 "own_turned" = true)
    (Kc1 : PySem.W.keepIn K (.ref fc1) = true)
    {odc2 anc2 : Option Addr} {slc2 : Array (Option Value)} {occ2 kVc2 dcc2 pmc2 cdc2 ctc2 : Value}
    (Ac2 : PySem.W.nsIn K mainGlobals "is_level" = some (some (.ref fc2)))
    (Lc2 : K.lookup fc2 = some ⟨occ2, odc2, .func (PySem.W.fnOf "is_level" "is_level" (defArgs s_is_level) (defBody s_is_level) (defScope s_is_level) .none kVc2 dcc2 pmc2 anc2 cdc2 ctc2), slc2⟩)
    (Dc2 : PySem.W.codeIn K cdc2 "is_level" = true)
    (Kc2 : PySem.W.keepIn K (.ref fc2) = true)
    {odc3 anc3 : Option Addr} {slc3 : Array (Option Value)} {occ3 kVc3 dcc3 pmc3 cdc3 ctc3 : Value}
    (Ac3 : PySem.W.nsIn K mainGlobals "check_numbers" = some (some (.ref fc3)))
    (Lc3 : K.lookup fc3 = some ⟨occ3, odc3, .func (PySem.W.fnOf "check_numbers" "check_numbers" (defArgs s_check_numbers) (defBody s_check_numbers) (defScope s_check_numbers) .none kVc3 dcc3 pmc3 anc3 cdc3 ctc3), slc3⟩)
    (Dc3 : PySem.W.codeIn K cdc3 "check_numbers" = true)
    (Kc3 : PySem.W.keepIn K (.ref fc3) = true)
    {odc4 anc4 : Option Addr} {slc4 : Array (Option Value)} {occ4 kVc4 dcc4 pmc4 cdc4 ctc4 : Value}
    (Ac4 : PySem.W.nsIn K mainGlobals "is_triangle" = some (some (.ref fc4)))
    (Lc4 : K.lookup fc4 = some ⟨occ4, odc4, .func (PySem.W.fnOf "is_triangle" "is_triangle" (defArgs s_is_triangle) (defBody s_is_triangle) (defScope s_is_triangle) .none kVc4 dcc4 pmc4 anc4 cdc4 ctc4), slc4⟩)
    (Dc4 : PySem.W.codeIn K cdc4 "is_triangle" = true)
    (Kc4 : PySem.W.keepIn K (.ref fc4) = true)
    {odc5 anc5 : Option Addr} {slc5 : Array (Option Value)} {occ5 kVc5 dcc5 pmc5 cdc5 ctc5 : Value}
    (Ac5 : PySem.W.nsIn K mainGlobals "sum_kind" = some (some (.ref fc5)))
    (Lc5 : K.lookup fc5 = some ⟨occ5, odc5, .func (PySem.W.fnOf "sum_kind" "sum_kind" (defArgs s_sum_kind) (defBody s_sum_kind) (defScope s_sum_kind) .none kVc5 dcc5 pmc5 anc5 cdc5 ctc5), slc5⟩)
    (Dc5 : PySem.W.codeIn K cdc5 "sum_kind" = true)
    (Kc5 : PySem.W.keepIn K (.ref fc5) = true)
    {odc6 anc6 : Option Addr} {slc6 : Array (Option Value)} {occ6 kVc6 dcc6 pmc6 cdc6 ctc6 : Value}
    (Ac6 : PySem.W.nsIn K mainGlobals "sector_kind" = some (some (.ref fc6)))
    (Lc6 : K.lookup fc6 = some ⟨occ6, odc6, .func (PySem.W.fnOf "sector_kind" "sector_kind" (defArgs s_sector_kind) (defBody s_sector_kind) (defScope s_sector_kind) .none kVc6 dcc6 pmc6 anc6 cdc6 ctc6), slc6⟩)
    (Dc6 : PySem.W.codeIn K cdc6 "sector_kind" = true)
    (Kc6 : PySem.W.keepIn K (.ref fc6) = true)
    {odc7 anc7 : Option Addr} {slc7 : Array (Option Value)} {occ7 kVc7 dcc7 pmc7 cdc7 ctc7 : Value}
    (Ac7 : PySem.W.nsIn K mainGlobals "_law_triples" = some (some (.ref fc7)))
    (Lc7 : K.lookup fc7 = some ⟨occ7, odc7, .func (PySem.W.fnOf "_law_triples" "_law_triples" (defArgs s__law_triples) (defBody s__law_triples) (defScope s__law_triples) .none kVc7 dcc7 pmc7 anc7 cdc7 ctc7), slc7⟩)
    (Dc7 : PySem.W.codeIn K cdc7 "_law_triples" = true)
    (Kc7 : PySem.W.keepIn K (.ref fc7) = true)
    {odd0 and0 : Option Addr} {sld0 : Array (Option Value)} {ocd0 kVd0 dcd0 pmd0 cdd0 ctd0 : Value}
    (Ad0 : PySem.W.nsIn K mainGlobals "_law_draw" = some (some (.ref fd0)))
    (Ld0 : K.lookup fd0 = some ⟨ocd0, odd0, .func (PySem.W.fnOf "_law_draw" "_law_draw" (defArgs s__law_draw) (defBody s__law_draw) (defScope s__law_draw) .none kVd0 dcd0 pmd0 and0 cdd0 ctd0), sld0⟩)
    (Dd0 : PySem.W.codeIn K cdd0 "_law_draw" = true)
    (Kd0 : PySem.W.keepIn K (.ref fd0) = true)
    {odd1 and1 : Option Addr} {sld1 : Array (Option Value)} {ocd1 kVd1 dcd1 pmd1 cdd1 ctd1 : Value}
    (Ad1 : PySem.W.nsIn K mainGlobals "_law_any" = some (some (.ref fd1)))
    (Ld1 : K.lookup fd1 = some ⟨ocd1, odd1, .func (PySem.W.fnOf "_law_any" "_law_any" (defArgs s__law_any) (defBody s__law_any) (defScope s__law_any) .none kVd1 dcd1 pmd1 and1 cdd1 ctd1), sld1⟩)
    (Dd1 : PySem.W.codeIn K cdd1 "_law_any" = true)
    (Kd1 : PySem.W.keepIn K (.ref fd1) = true)
    {odd2 and2 : Option Addr} {sld2 : Array (Option Value)} {ocd2 kVd2 dcd2 pmd2 cdd2 ctd2 : Value}
    (Ad2 : PySem.W.nsIn K mainGlobals "_law_of" = some (some (.ref fd2)))
    (Ld2 : K.lookup fd2 = some ⟨ocd2, odd2, .func (PySem.W.fnOf "_law_of" "_law_of" (defArgs s__law_of) (defBody s__law_of) (defScope s__law_of) .none kVd2 dcd2 pmd2 and2 cdd2 ctd2), sld2⟩)
    (Dd2 : PySem.W.codeIn K cdd2 "_law_of" = true)
    (Kd2 : PySem.W.keepIn K (.ref fd2) = true)
    {odd3 and3 : Option Addr} {sld3 : Array (Option Value)} {ocd3 kVd3 dcd3 pmd3 cdd3 ctd3 : Value}
    (Ad3 : PySem.W.nsIn K mainGlobals "_law_mixed" = some (some (.ref fd3)))
    (Ld3 : K.lookup fd3 = some ⟨ocd3, odd3, .func (PySem.W.fnOf "_law_mixed" "_law_mixed" (defArgs s__law_mixed) (defBody s__law_mixed) (defScope s__law_mixed) .none kVd3 dcd3 pmd3 and3 cdd3 ctd3), sld3⟩)
    (Dd3 : PySem.W.codeIn K cdd3 "_law_mixed" = true)
    (Kd3 : PySem.W.keepIn K (.ref fd3) = true)
    {odd4 and4 : Option Addr} {sld4 : Array (Option Value)} {ocd4 kVd4 dcd4 pmd4 cdd4 ctd4 : Value}
    (Ad4 : PySem.W.nsIn K mainGlobals "_law_by" = some (some (.ref fd4)))
    (Ld4 : K.lookup fd4 = some ⟨ocd4, odd4, .func (PySem.W.fnOf "_law_by" "_law_by" (defArgs s__law_by) (defBody s__law_by) (defScope s__law_by) .none kVd4 dcd4 pmd4 and4 cdd4 ctd4), sld4⟩)
    (Dd4 : PySem.W.codeIn K cdd4 "_law_by" = true)
    (Kd4 : PySem.W.keepIn K (.ref fd4) = true)
    {odd5 and5 : Option Addr} {sld5 : Array (Option Value)} {ocd5 kVd5 dcd5 pmd5 cdd5 ctd5 : Value}
    (Ad5 : PySem.W.nsIn K mainGlobals "_law_six" = some (some (.ref fd5)))
    (Ld5 : K.lookup fd5 = some ⟨ocd5, odd5, .func (PySem.W.fnOf "_law_six" "_law_six" (defArgs s__law_six) (defBody s__law_six) (defScope s__law_six) .none kVd5 dcd5 pmd5 and5 cdd5 ctd5), sld5⟩)
    (Dd5 : PySem.W.codeIn K cdd5 "_law_six" = true)
    (Kd5 : PySem.W.keepIn K (.ref fd5) = true)
    {odd6 and6 : Option Addr} {sld6 : Array (Option Value)} {ocd6 kVd6 dcd6 pmd6 cdd6 ctd6 : Value}
    (Ad6 : PySem.W.nsIn K mainGlobals "_law_is" = some (some (.ref fd6)))
    (Ld6 : K.lookup fd6 = some ⟨ocd6, odd6, .func (PySem.W.fnOf "_law_is" "_law_is" (defArgs s__law_is) (defBody s__law_is) (defScope s__law_is) .none kVd6 dcd6 pmd6 and6 cdd6 ctd6), sld6⟩)
    (Dd6 : PySem.W.codeIn K cdd6 "_law_is" = true)
    (Kd6 : PySem.W.keepIn K (.ref fd6) = true)
    {odd7 and7 : Option Addr} {sld7 : Array (Option Value)} {ocd7 kVd7 dcd7 pmd7 cdd7 ctd7 : Value}
    (Ad7 : PySem.W.nsIn K mainGlobals "_law_distance" = some (some (.ref fd7)))
    (Ld7 : K.lookup fd7 = some ⟨ocd7, odd7, .func (PySem.W.fnOf "_law_distance" "_law_distance" (defArgs s__law_distance) (defBody s__law_distance) (defScope s__law_distance) .none kVd7 dcd7 pmd7 and7 cdd7 ctd7), sld7⟩)
    (Dd7 : PySem.W.codeIn K cdd7 "_law_distance" = true)
    (Kd7 : PySem.W.keepIn K (.ref fd7) = true)
    {odd8 and8 : Option Addr} {sld8 : Array (Option Value)} {ocd8 kVd8 dcd8 pmd8 cdd8 ctd8 : Value}
    (Ad8 : PySem.W.nsIn K mainGlobals "_law_barred" = some (some (.ref fd8)))
    (Ld8 : K.lookup fd8 = some ⟨ocd8, odd8, .func (PySem.W.fnOf "_law_barred" "_law_barred" (defArgs s__law_barred) (defBody s__law_barred) (defScope s__law_barred) .none kVd8 dcd8 pmd8 and8 cdd8 ctd8), sld8⟩)
    (Dd8 : PySem.W.codeIn K cdd8 "_law_barred" = true)
    (Kd8 : PySem.W.keepIn K (.ref fd8) = true)
    {ode0 ane0 : Option Addr} {sle0 : Array (Option Value)} {oce0 kVe0 dce0 pme0 cde0 cte0 : Value}
    (Ae0 : PySem.W.nsIn K mainGlobals "free_kind" = some (some (.ref fe0)))
    (Le0 : K.lookup fe0 = some ⟨oce0, ode0, .func (PySem.W.fnOf "free_kind" "free_kind" (defArgs s_free_kind) (defBody s_free_kind) (defScope s_free_kind) .none kVe0 dce0 pme0 ane0 cde0 cte0), sle0⟩)
    (De0 : PySem.W.codeIn K cde0 "free_kind" = true)
    (Ke0 : PySem.W.keepIn K (.ref fe0) = true)
    {ode1 ane1 : Option Addr} {sle1 : Array (Option Value)} {oce1 kVe1 dce1 pme1 cde1 cte1 : Value}
    (Ae1 : PySem.W.nsIn K mainGlobals "barred_kind" = some (some (.ref fe1)))
    (Le1 : K.lookup fe1 = some ⟨oce1, ode1, .func (PySem.W.fnOf "barred_kind" "barred_kind" (defArgs s_barred_kind) (defBody s_barred_kind) (defScope s_barred_kind) .none kVe1 dce1 pme1 ane1 cde1 cte1), sle1⟩)
    (De1 : PySem.W.codeIn K cde1 "barred_kind" = true)
    (Ke1 : PySem.W.keepIn K (.ref fe1) = true)
    {ode2 ane2 : Option Addr} {sle2 : Array (Option Value)} {oce2 kVe2 dce2 pme2 cde2 cte2 : Value}
    (Ae2 : PySem.W.nsIn K mainGlobals "order_kind" = some (some (.ref fe2)))
    (Le2 : K.lookup fe2 = some ⟨oce2, ode2, .func (PySem.W.fnOf "order_kind" "order_kind" (defArgs s_order_kind) (defBody s_order_kind) (defScope s_order_kind) .none kVe2 dce2 pme2 ane2 cde2 cte2), sle2⟩)
    (De2 : PySem.W.codeIn K cde2 "order_kind" = true)
    (Ke2 : PySem.W.keepIn K (.ref fe2) = true)
    {ode3 ane3 : Option Addr} {sle3 : Array (Option Value)} {oce3 kVe3 dce3 pme3 cde3 cte3 : Value}
    (Ae3 : PySem.W.nsIn K mainGlobals "level_kind" = some (some (.ref fe3)))
    (Le3 : K.lookup fe3 = some ⟨oce3, ode3, .func (PySem.W.fnOf "level_kind" "level_kind" (defArgs s_level_kind) (defBody s_level_kind) (defScope s_level_kind) .none kVe3 dce3 pme3 ane3 cde3 cte3), sle3⟩)
    (De3 : PySem.W.codeIn K cde3 "level_kind" = true)
    (Ke3 : PySem.W.keepIn K (.ref fe3) = true)
    {ode4 ane4 : Option Addr} {sle4 : Array (Option Value)} {oce4 kVe4 dce4 pme4 cde4 cte4 : Value}
    (Ae4 : PySem.W.nsIn K mainGlobals "distance_kind" = some (some (.ref fe4)))
    (Le4 : K.lookup fe4 = some ⟨oce4, ode4, .func (PySem.W.fnOf "distance_kind" "distance_kind" (defArgs s_distance_kind) (defBody s_distance_kind) (defScope s_distance_kind) .none kVe4 dce4 pme4 ane4 cde4 cte4), sle4⟩)
    (De4 : PySem.W.codeIn K cde4 "distance_kind" = true)
    (Ke4 : PySem.W.keepIn K (.ref fe4) = true)
    {odg0 ang0 : Option Addr} {slg0 : Array (Option Value)} {ocg0 kVg0 dcg0 pmg0 ctg0 : Value}
    (Ag0 : PySem.W.nsIn K mainGlobals "_law_clocks_right" = some (some (.ref fg0)))
    (Lg0 : K.lookup fg0 = some ⟨ocg0, odg0, .func (PySem.W.fnOf "_law_clocks_right" "_law_clocks_right" (defArgs s__law_clocks_right) (defBody s__law_clocks_right) (defScope s__law_clocks_right) .none kVg0 dcg0 pmg0 ang0 (.ref cg0) ctg0), slg0⟩)
    (Dg0 : PySem.W.codeIn K (.ref cg0) "_law_clocks_right" = true)
    (Kg0 : PySem.W.keepIn K (.ref fg0) = true)
    {odg1 ang1 : Option Addr} {slg1 : Array (Option Value)} {ocg1 kVg1 dcg1 pmg1 ctg1 : Value}
    (Ag1 : PySem.W.nsIn K mainGlobals "law" = some (some (.ref fg1)))
    (Lg1 : K.lookup fg1 = some ⟨ocg1, odg1, .func (PySem.W.fnOf "law" "law" (defArgs s_law) (defBody s_law) (defScope s_law) .none kVg1 dcg1 pmg1 ang1 (.ref cg1) ctg1), slg1⟩)
    (Dg1 : PySem.W.codeIn K (.ref cg1) "law" = true)
    (Kg1 : PySem.W.keepIn K (.ref fg1) = true)
    (hn : PySem.W.specialIn K (.builtin "object.__class__") "__get__" = some (some (.builtin "getset_descriptor.__get__")))
    (ht : PySem.W.takesIn K (.builtin "object.__class__") = some true)
    (gB : PySem.W.nsIn K mainGlobals "RingsError" = some (some (.ref C0)))
    (h1 : PySem.W.specialIn K (.ref C0) "__getattribute__" = some (some (.builtin "type.__getattribute__")))
    (h2 : PySem.W.readsIn K C0 (.type "type") = true)
    (h3 : PySem.W.findCls K (.ref C0) (.type "type") "__init__" = some (.val (.builtin "ValueError.__init__")))
    {nm q : Str} {N : Addr} {bs : List Value} {sn : List Str} {sub : List Value} {ab : Bool} {col : Option Bool} {dd : Option Addr} {m0 m1 m2 m3 m5 : Option Value}
    (ac : PySem.W.nsIn K mainGlobals "InvalidKind" = some (some (.ref CE)))
    (xc : K.lookup CE = some (excClassObj nm q CE N bs [.ref C0, .type "ValueError", .type "Exception", .type "BaseException", .type "object"] true sn sub ab col dd m0 m1 m2 m3 m5 "ValueError.__new__"))
    (ec : errB K CE = true)
    (em : PySem.W.exmOne K (.ref CE) (.ref CE) = some true)
    (nc : PySem.W.findIn K (.ref CE) "__init__" = some (some (.ref fy0)))
    (tc : PySem.W.typeIn K (.ref fy0) = some (.type "function"))
    {ody0 any0 : Option Addr} {sly0 : Array (Option Value)} {ocy0 kVy0 dcy0 pmy0 cdy0 cty0 : Value}
    (Ly0 : K.lookup fy0 = some ⟨ocy0, ody0, .func (PySem.W.fnOf "__init__" "InvalidKind.__init__" (defArgs i_InvalidKind) (defBody i_InvalidKind) (defScope i_InvalidKind) .none kVy0 dcy0 pmy0 any0 cdy0 cty0), sly0⟩)
    (Dy0 : PySem.W.codeIn K cdy0 "InvalidKind.__init__" = true)
    (Ky0 : PySem.W.keepIn K (.ref fy0) = true)
    (ak : PySem.W.nsIn K mainGlobals "Kind" = some (some (.ref C)))
    (nk : PySem.W.findIn K (.ref C) "__init__" = some (some (.ref fy1)))
    (ik : PySem.W.isFn K (.ref fy1) = true)
    {ody1 any1 : Option Addr} {sly1 : Array (Option Value)} {ocy1 kVy1 dcy1 pmy1 cdy1 cty1 : Value}
    (Ly1 : K.lookup fy1 = some ⟨ocy1, ody1, .func (PySem.W.fnOf "__init__" "Kind.__init__" (defArgs i_Kind) (defBody i_Kind) (defScope i_Kind) .none kVy1 dcy1 pmy1 any1 cdy1 cty1), sly1⟩)
    (Dy1 : PySem.W.codeIn K cdy1 "Kind.__init__" = true)
    (Ky1 : PySem.W.keepIn K (.ref fy1) = true)
    (pg : PySem.W.plainGet K C Str.empty = true)
    (hd : PySem.W.hasDictIn K C = true)
    (po : PySem.W.plainOver K C = true)
    (sa : PySem.W.findIn K (.ref C) "__setattr__" = some (some (.builtin "object.__setattr__")))
    (mk : PySem.W.makesIn K C = true)
    (kc : PySem.W.keepIn K (.ref C) = true)
    (n0 : PySem.W.findIn K (.ref C) "relations" = some none)
    (n1 : PySem.W.findIn K (.ref C) "turned" = some none)
    (n2 : PySem.W.findIn K (.ref C) "triples" = some none)
    (n3 : PySem.W.findIn K (.ref C) "bits" = some none)
    {tM : Tok}
    (gM : PySem.W.nsIn K mainGlobals "MOST_NUMBERS" = some (some (.int 6 tM)))
    (z0 : PySem.W.nsIn K mainGlobals "isinstance" = some none)
    (z1 : PySem.W.nsIn K mainGlobals "int" = some none)
    (z2 : PySem.W.nsIn K mainGlobals "bool" = some none)
    (z3 : PySem.W.nsIn K mainGlobals "str" = some none)
    (z4 : PySem.W.nsIn K mainGlobals "list" = some none)
    (z5 : PySem.W.nsIn K mainGlobals "tuple" = some none)
    (z6 : PySem.W.nsIn K mainGlobals "len" = some none)
    (z7 : PySem.W.nsIn K mainGlobals "range" = some none)
    (z8 : PySem.W.nsIn K mainGlobals "enumerate" = some none)
    (z9 : PySem.W.nsIn K mainGlobals "set" = some none)
    (z10 : PySem.W.nsIn K mainGlobals "sorted" = some none)
    (z11 : PySem.W.nsIn K mainGlobals "max" = some none)
    (z12 : PySem.W.nsIn K mainGlobals "min" = some none)
    (z13 : PySem.W.nsIn K mainGlobals "abs" = some none)
    (z14 : PySem.W.nsIn K mainGlobals "repr" = some none)
    (z15 : PySem.W.nsIn K mainGlobals "sum" = some none)
    (z16 : PySem.W.nsIn K mainGlobals "any" = some none)
    (z17 : PySem.W.nsIn K mainGlobals "all" = some none)
    (tb : tabsB K ts cg0 cg1 = true) : LawG l w K CX0 12 63 "script" mg fa h := by
  have e := hfa.symm.trans (PySem.W.mg_of X G Ag1)
  cases e
  have B : Bse K mg C0 := ⟨PySem.W.mg_of X G gB, h1, h2, h3⟩
  have Ee := err_mk X G ac xc ec nc tc hn ht
  have Fy0 := fun_mk (st := i_InvalidKind) Ly0 Dy0 Ky0
  have by0 := Fy0.binds (ps := ["self", "at"]) fun _ _ _ _ _ _ us hl => match us, hl with | [_, _], _ => rfl
  have Fy1 := fun_mk (st := i_Kind) Ly1 Dy1 Ky1
  have by1 := Fy1.binds (ps := ["self", "turned", "triples"]) fun _ _ _ _ _ _ us hl => match us, hl with | [_, _, _], _ => rfl
  have Xa0 : Df K mg "is_integer" s_is_integer ["value"] := df_mk X G Aa0 La0 Da0 Ka0 fun _ _ _ _ _ _ us hl => match us, hl with | [_], _ => rfl
  have Xa1 : Df K mg "is_number" s_is_number ["value"] := df_mk X G Aa1 La1 Da1 Ka1 fun _ _ _ _ _ _ us hl => match us, hl with | [_], _ => rfl
  have Xa2 : Df K mg "is_below" s_is_below ["value", "many"] := df_mk X G Aa2 La2 Da2 Ka2 fun _ _ _ _ _ _ us hl => match us, hl with | [_, _], _ => rfl
  have Xa3 : Df K mg "is_sequence" s_is_sequence ["value"] := df_mk X G Aa3 La3 Da3 Ka3 fun _ _ _ _ _ _ us hl => match us, hl with | [_], _ => rfl
  have Xa4 : Df K mg "are_below" s_are_below ["values", "many"] := df_mk X G Aa4 La4 Da4 Ka4 fun _ _ _ _ _ _ us hl => match us, hl with | [_, _], _ => rfl
  have Xa5 : Df K mg "is_row" s_is_row ["value", "length", "many"] := df_mk X G Aa5 La5 Da5 Ka5 fun _ _ _ _ _ _ us hl => match us, hl with | [_, _, _], _ => rfl
  have Xa6 : Df K mg "is_triple" s_is_triple ["value", "many"] := df_mk X G Aa6 La6 Da6 Ka6 fun _ _ _ _ _ _ us hl => match us, hl with | [_, _], _ => rfl
  have Xb0 : Df K mg "check_turned" s_check_turned ["turned"] := df_mk X G Ab0 Lb0 Db0 Kb0 fun _ _ _ _ _ _ us hl => match us, hl with | [_], _ => rfl
  have Xb1 : Df K mg "check_triples" s_check_triples ["triples", "many"] := df_mk X G Ab1 Lb1 Db1 Kb1 fun _ _ _ _ _ _ us hl => match us, hl with | [_, _], _ => rfl
  have Xb2 : Df K mg "lacking_reading" s_lacking_reading ["turned", "triples"] := df_mk X G Ab2 Lb2 Db2 Kb2 fun _ _ _ _ _ _ us hl => match us, hl with | [_, _], _ => rfl
  have Xb3 : Df K mg "bits_table" s_bits_table ["many", "triples"] := df_mk X G Ab3 Lb3 Db3 Kb3 fun _ _ _ _ _ _ us hl => match us, hl with | [_, _], _ => rfl
  have Xb4 : Df K mg "readings" s_readings ["turned", "triple"] := df_mk X G Ab4 Lb4 Db4 Kb4 fun _ _ _ _ _ _ us hl => match us, hl with | [_, _], _ => rfl
  have Xc0 : Df K mg "all_triples" s_all_triples ["many"] := df_mk X G Ac0 Lc0 Dc0 Kc0 fun _ _ _ _ _ _ us hl => match us, hl with | [_], _ => rfl
  have Xc1 : Df K mg "own_turned" s_own_turned ["many"] := df_mk X G Ac1 Lc1 Dc1 Kc1 fun _ _ _ _ _ _ us hl => match us, hl with | [_], _ => rfl
  have Xc2 : Df K mg "is_level" s_is_level ["triple"] := df_mk X G Ac2 Lc2 Dc2 Kc2 fun _ _ _ _ _ _ us hl => match us, hl with | [_], _ => rfl
  have Xc3 : Df K mg "check_numbers" s_check_numbers ["numbers"] := df_mk X G Ac3 Lc3 Dc3 Kc3 fun _ _ _ _ _ _ us hl => match us, hl with | [_], _ => rfl
  have Xc4 : Df K mg "is_triangle" s_is_triangle ["a", "b", "c"] := df_mk X G Ac4 Lc4 Dc4 Kc4 fun _ _ _ _ _ _ us hl => match us, hl with | [_, _, _], _ => rfl
  have Xc5 : Df K mg "sum_kind" s_sum_kind ["many"] := df_mk X G Ac5 Lc5 Dc5 Kc5 fun _ _ _ _ _ _ us hl => match us, hl with | [_], _ => rfl
  have Xc6 : Df K mg "sector_kind" s_sector_kind ["many"] := df_mk X G Ac6 Lc6 Dc6 Kc6 fun _ _ _ _ _ _ us hl => match us, hl with | [_], _ => rfl
  have Xc7 : Df K mg "_law_triples" s__law_triples ["kind"] := df_mk X G Ac7 Lc7 Dc7 Kc7 fun _ _ _ _ _ _ us hl => match us, hl with | [_], _ => rfl
  have Xd0 : Df K mg "_law_draw" s__law_draw ["script", "salt"] := df_mk X G Ad0 Ld0 Dd0 Kd0 fun _ _ _ _ _ _ us hl => match us, hl with | [_, _], _ => rfl
  have Xd1 : Df K mg "_law_any" s__law_any ["deal", "bound"] := df_mk X G Ad1 Ld1 Dd1 Kd1 fun _ _ _ _ _ _ us hl => match us, hl with | [_, _], _ => rfl
  have Xd2 : Df K mg "_law_of" s__law_of ["deal", "some"] := df_mk X G Ad2 Ld2 Dd2 Kd2 fun _ _ _ _ _ _ us hl => match us, hl with | [_, _], _ => rfl
  have Xd3 : Df K mg "_law_mixed" s__law_mixed ["deal", "some"] := df_mk X G Ad3 Ld3 Dd3 Kd3 fun _ _ _ _ _ _ us hl => match us, hl with | [_, _], _ => rfl
  have Xd4 : Df K mg "_law_by" s__law_by ["turned", "is_right"] := df_mk X G Ad4 Ld4 Dd4 Kd4 fun _ _ _ _ _ _ us hl => match us, hl with | [_, _], _ => rfl
  have Xd5 : Df K mg "_law_six" s__law_six ["turned", "triple"] := df_mk X G Ad5 Ld5 Dd5 Kd5 fun _ _ _ _ _ _ us hl => match us, hl with | [_, _], _ => rfl
  have Xd6 : Df K mg "_law_is" s__law_is ["made", "kind"] := df_mk X G Ad6 Ld6 Dd6 Kd6 fun _ _ _ _ _ _ us hl => match us, hl with | [_, _], _ => rfl
  have Xd7 : Df K mg "_law_distance" s__law_distance ["numbers"] := df_mk X G Ad7 Ld7 Dd7 Kd7 fun _ _ _ _ _ _ us hl => match us, hl with | [_], _ => rfl
  have Xd8 : Df K mg "_law_barred" s__law_barred ["turned", "barred"] := df_mk X G Ad8 Ld8 Dd8 Kd8 fun _ _ _ _ _ _ us hl => match us, hl with | [_, _], _ => rfl
  have Xe0 : Df K mg "free_kind" s_free_kind ["many"] := df_mk X G Ae0 Le0 De0 Ke0 fun _ _ _ _ _ _ us hl => match us, hl with | [_], _ => rfl
  have Xe1 : Df K mg "barred_kind" s_barred_kind ["turned", "barred"] := df_mk X G Ae1 Le1 De1 Ke1 fun _ _ _ _ _ _ us hl => match us, hl with | [_, _], _ => rfl
  have Xe2 : Df K mg "order_kind" s_order_kind [] := df_mk X G Ae2 Le2 De2 Ke2 fun _ _ _ _ _ _ us hl => match us, hl with | [], _ => rfl
  have Xe3 : Df K mg "level_kind" s_level_kind ["many"] := df_mk X G Ae3 Le3 De3 Ke3 fun _ _ _ _ _ _ us hl => match us, hl with | [_], _ => rfl
  have Xe4 : Df K mg "distance_kind" s_distance_kind ["numbers"] := df_mk X G Ae4 Le4 De4 Ke4 fun _ _ _ _ _ _ us hl => match us, hl with | [_], _ => rfl
  let Xg0 : Dc K mg "_law_clocks_right" s__law_clocks_right ["many"] := dc_mk X G Ag0 Lg0 Dg0 Kg0 fun _ _ _ _ _ _ us hl => match us, hl with | [_], _ => rfl
  let Xg1 : Dc K mg "law" s_law ["script"] := dc_mk X G Ag1 Lg1 Dg1 Kg1 fun _ _ _ _ _ _ us hl => match us, hl with | [_], _ => rfl
  have gn : Bn mg := by
    refine ⟨fun x hx => ?_⟩
    simp only [List.mem_cons, List.not_mem_nil, or_false] at hx
    rcases hx with rfl | rfl | rfl | rfl | rfl | rfl | rfl | rfl | rfl | rfl | rfl | rfl | rfl | rfl | rfl | rfl | rfl | rfl
    · exact PySem.W.mg_none_of X G z0
    · exact PySem.W.mg_none_of X G z1
    · exact PySem.W.mg_none_of X G z2
    · exact PySem.W.mg_none_of X G z3
    · exact PySem.W.mg_none_of X G z4
    · exact PySem.W.mg_none_of X G z5
    · exact PySem.W.mg_none_of X G z6
    · exact PySem.W.mg_none_of X G z7
    · exact PySem.W.mg_none_of X G z8
    · exact PySem.W.mg_none_of X G z9
    · exact PySem.W.mg_none_of X G z10
    · exact PySem.W.mg_none_of X G z11
    · exact PySem.W.mg_none_of X G z12
    · exact PySem.W.mg_none_of X G z13
    · exact PySem.W.mg_none_of X G z14
    · exact PySem.W.mg_none_of X G z15
    · exact PySem.W.mg_none_of X G z16
    · exact PySem.W.mg_none_of X G z17
  have KC : KindC K mg C fy1 := ⟨⟨mk, nk, ik, kc⟩, ⟨pg, hd, po, sa⟩, PySem.W.mg_of X G ak, n0, n1, n2, n3⟩
  have V : Vals_ K mg := ⟨Xa0, Xa1, Xa2, Xa3, Xa4, Xa5, Xa6⟩
  have KI : Kin K mg := ⟨Xb0, Xb1, Xb2, Xb3, Xb4⟩
  have Z : Deep K mg := ⟨V, KI, Xc0, Xc1, Xc2, Xc3, Xc4, Xc5, Xc6, Xc7⟩
  let DD : Defs K mg := ⟨Xd0, Xd1, Xd2, Xd3, Xd4, Xd5, Xd6, Xd7, Xd8, Xg0, Xe0, Xe1, Xe2, Xe3, Xe4⟩
  have Hd : Hnd K mg "InvalidKind" CE := ⟨Ee.g, em, Ee.xf, Ee.n⟩
  obtain ⟨P1, P2, hP1, hP2, i1, i2, ne, o1, o2⟩ := tabsB_ok tb
  let TT : List (Addr × Str) := [(P1, "_law_clocks_right.<locals>.<lambda>"), (P2, "law.<locals>.<lambda>")]
  refine ⟨Xg1.fd, [(cg0, P1), (cg1, P2)], sp_law TT K, fun p hp => ?_, fun p hp => ?_, fun p hp => ?_, fun s u => .of_eq rfl, fun H a ns hl hH hS => ⟨a, ns, rfl, fun p hp => ?_, hS, hl, fun _ => rfl⟩, fun base hb hg hTB => ?_⟩
  · simp only [List.mem_cons, List.not_mem_nil, or_false] at hp
    rcases hp with rfl | rfl
    · exact hts _ i1
    · exact hts _ i2
  · simp only [List.mem_cons, List.not_mem_nil, or_false] at hp
    rcases hp with rfl | rfl
    · exact o1
    · exact o2
  · simp only [List.mem_cons, List.not_mem_nil, or_false] at hp
    rcases hp with rfl | rfl
    · exact PySem.W.codeHd_of_K X hP1
    · exact PySem.W.codeHd_of_K X hP2
  · have hp : p ∈ [(P1, ("_law_clocks_right.<locals>.<lambda>" : Str)), (P2, ("law.<locals>.<lambda>" : Str))] := hp
    simp only [List.mem_cons, List.not_mem_nil, or_false] at hp
    rcases hp with rfl | rfl
    · exact .nil (hH (cg0, P1) (by simp))
    · exact .nil (hH (cg1, P2) (by simp))
  · have u1 : ∀ p ∈ TT, p.1 = P1 → p.2 = ("_law_clocks_right.<locals>.<lambda>" : Str) := fun p hp e => by
      have hp : p ∈ [(P1, ("_law_clocks_right.<locals>.<lambda>" : Str)), (P2, ("law.<locals>.<lambda>" : Str))] := hp
      simp only [List.mem_cons, List.not_mem_nil, or_false] at hp
      rcases hp with rfl | rfl
      · rfl
      · exact absurd e.symm ne
    have u2 : ∀ p ∈ TT, p.1 = P2 → p.2 = ("law.<locals>.<lambda>" : Str) := fun p hp e => by
      have hp : p ∈ [(P1, ("_law_clocks_right.<locals>.<lambda>" : Str)), (P2, ("law.<locals>.<lambda>" : Str))] := hp
      simp only [List.mem_cons, List.not_mem_nil, or_false] at hp
      rcases hp with rfl | rfl
      · exact absurd e ne
      · rfl
    have T1 : Tab base mg TT cg0 P1 "_law_clocks_right.<locals>.<lambda>" := ⟨hTB (cg0, P1) (by simp), by show _ ∈ [_, _]; simp, u1⟩
    have T2 : Tab base mg TT cg1 P2 "law.<locals>.<lambda>" := ⟨hTB (cg1, P2) (by simp), by show _ ∈ [_, _]; simp, u2⟩
    have Er0 : Er l.prog w K mg base "InvalidKind" CE := er_InvalidKind Fy0 B Ee by0
    have KK : KindK l.prog w K mg base C CE := ⟨fy1, _, KC, ok_Kind Fy1 KC KI V gn Er0, by1⟩
    have FN : Fns l.prog w K mg base C CE TT DD := fns_mk (D := DD) Z gn ⟨tM, PySem.W.mg_of X G gM⟩ Er0 KK Hd T1
    exact ok_law (D := DD) Xg1 T2 FN gn
end RD
open PySem PySem.W PyProof.Rows
set_option maxRecDepth 100000 in
set_option maxHeartbeats 0 in
theorem PySem.Challenge.cw_ringsdecide_k02_whole_kinds_built_by_rul_holds : PySem.Challenge.rw_ringsdecide_k02_whole_kinds_built_by_rul.Holds := by
  w_on; o_law; k_head; (case hw => w_witness2)
  k_fill
  refine Rd.walk_ofGT (l := PySem.Challenge.rw_ringsdecide_k02_whole_kinds_built_by_rul) (n := 63) (k := 12) (x := "script") (CX := fun _ => L2.CX0) rfl (by decide) rfl ⟨rfl, by decide, by decide⟩ (fun w h Y => PySem.W.km_in_of Y) ?F fun _ _ _ _ _ z => z
  case F =>
    intro w mg fa h Y KX G hmg
    have hts := PySem.W.km_tabs_of Y
    refine' RD.all_mk KX G hmg hts ?Aa0 ?La0 ?Da0 ?Ka0 ?Aa1 ?La1 ?Da1 ?Ka1 ?Aa2 ?La2 ?Da2 ?Ka2 ?Aa3 ?La3 ?Da3 ?Ka3 ?Aa4 ?La4 ?Da4 ?Ka4 ?Aa5 ?La5 ?Da5 ?Ka5 ?Aa6 ?La6 ?Da6 ?Ka6 ?Ab0 ?Lb0 ?Db0 ?Kb0 ?Ab1 ?Lb1 ?Db1 ?Kb1 ?Ab2 ?Lb2 ?Db2 ?Kb2 ?Ab3 ?Lb3 ?Db3 ?Kb3 ?Ab4 ?Lb4 ?Db4 ?Kb4 ?Ac0 ?Lc0 ?Dc0 ?Kc0 ?Ac1 ?Lc1 ?Dc1 ?Kc1 ?Ac2 ?Lc2 ?Dc2 ?Kc2 ?Ac3 ?Lc3 ?Dc3 ?Kc3 ?Ac4 ?Lc4 ?Dc4 ?Kc4 ?Ac5 ?Lc5 ?Dc5 ?Kc5 ?Ac6 ?Lc6 ?Dc6 ?Kc6 ?Ac7 ?Lc7 ?Dc7 ?Kc7 ?Ad0 ?Ld0 ?Dd0 ?Kd0 ?Ad1 ?Ld1 ?Dd1 ?Kd1 ?Ad2 ?Ld2 ?Dd2 ?Kd2 ?Ad3 ?Ld3 ?Dd3 ?Kd3 ?Ad4 ?Ld4 ?Dd4 ?Kd4 ?Ad5 ?Ld5 ?Dd5 ?Kd5 ?Ad6 ?Ld6 ?Dd6 ?Kd6 ?Ad7 ?Ld7 ?Dd7 ?Kd7 ?Ad8 ?Ld8 ?Dd8 ?Kd8 ?Ae0 ?Le0 ?De0 ?Ke0 ?Ae1 ?Le1 ?De1 ?Ke1 ?Ae2 ?Le2 ?De2 ?Ke2 ?Ae3 ?Le3 ?De3 ?Ke3 ?Ae4 ?Le4 ?De4 ?Ke4 ?Ag0 ?Lg0 ?Dg0 ?Kg0 ?Ag1 ?Lg1 ?Dg1 ?Kg1 ?hn ?ht ?gB ?h1 ?h2 ?h3 ?ac ?xc ?ec ?em ?nc ?tc ?Ly0 ?Dy0 ?Ky0 ?ak ?nk ?ik ?Ly1 ?Dy1 ?Ky1 ?pg ?hd ?po ?sa ?mk ?kc ?n0 ?n1 ?n2 ?n3 ?gM ?z0 ?z1 ?z2 ?z3 ?z4 ?z5 ?z6 ?z7 ?z8 ?z9 ?z10 ?z11 ?z12 ?z13 ?z14 ?z15 ?z16 ?z17 ?tb
    (case Aa0 => k_is)
    (case La0 => k_is)
    (case Da0 => k_is)
    (case Ka0 => k_is)
    (case Aa1 => k_is)
    (case La1 => k_is)
    (case Da1 => k_is)
    (case Ka1 => k_is)
    (case Aa2 => k_is)
    (case La2 => k_is)
    (case Da2 => k_is)
    (case Ka2 => k_is)
    (case Aa3 => k_is)
    (case La3 => k_is)
    (case Da3 => k_is)
    (case Ka3 => k_is)
    (case Aa4 => k_is)
    (case La4 => k_is)
    (case Da4 => k_is)
    (case Ka4 => k_is)
    (case Aa5 => k_is)
    (case La5 => k_is)
    (case Da5 => k_is)
    (case Ka5 => k_is)
    (case Aa6 => k_is)
    (case La6 => k_is)
    (case Da6 => k_is)
    (case Ka6 => k_is)
    (case Ab0 => k_is)
    (case Lb0 => k_is)
    (case Db0 => k_is)
    (case Kb0 => k_is)
    (case Ab1 => k_is)
    (case Lb1 => k_is)
    (case Db1 => k_is)
    (case Kb1 => k_is)
    (case Ab2 => k_is)
    (case Lb2 => k_is)
    (case Db2 => k_is)
    (case Kb2 => k_is)
    (case Ab3 => k_is)
    (case Lb3 => k_is)
    (case Db3 => k_is)
    (case Kb3 => k_is)
    (case Ab4 => k_is)
    (case Lb4 => k_is)
    (case Db4 => k_is)
    (case Kb4 => k_is)
    (case Ac0 => k_is)
    (case Lc0 => k_is)
    (case Dc0 => k_is)
    (case Kc0 => k_is)
    (case Ac1 => k_is)
    (case Lc1 => k_is)
    (case Dc1 => k_is)
    (case Kc1 => k_is)
    (case Ac2 => k_is)
    (case Lc2 => k_is)
    (case Dc2 => k_is)
    (case Kc2 => k_is)
    (case Ac3 => k_is)
    (case Lc3 => k_is)
    (case Dc3 => k_is)
    (case Kc3 => k_is)
    (case Ac4 => k_is)
    (case Lc4 => k_is)
    (case Dc4 => k_is)
    (case Kc4 => k_is)
    (case Ac5 => k_is)
    (case Lc5 => k_is)
    (case Dc5 => k_is)
    (case Kc5 => k_is)
    (case Ac6 => k_is)
    (case Lc6 => k_is)
    (case Dc6 => k_is)
    (case Kc6 => k_is)
    (case Ac7 => k_is)
    (case Lc7 => k_is)
    (case Dc7 => k_is)
    (case Kc7 => k_is)
    (case Ad0 => k_is)
    (case Ld0 => k_is)
    (case Dd0 => k_is)
    (case Kd0 => k_is)
    (case Ad1 => k_is)
    (case Ld1 => k_is)
    (case Dd1 => k_is)
    (case Kd1 => k_is)
    (case Ad2 => k_is)
    (case Ld2 => k_is)
    (case Dd2 => k_is)
    (case Kd2 => k_is)
    (case Ad3 => k_is)
    (case Ld3 => k_is)
    (case Dd3 => k_is)
    (case Kd3 => k_is)
    (case Ad4 => k_is)
    (case Ld4 => k_is)
    (case Dd4 => k_is)
    (case Kd4 => k_is)
    (case Ad5 => k_is)
    (case Ld5 => k_is)
    (case Dd5 => k_is)
    (case Kd5 => k_is)
    (case Ad6 => k_is)
    (case Ld6 => k_is)
    (case Dd6 => k_is)
    (case Kd6 => k_is)
    (case Ad7 => k_is)
    (case Ld7 => k_is)
    (case Dd7 => k_is)
    (case Kd7 => k_is)
    (case Ad8 => k_is)
    (case Ld8 => k_is)
    (case Dd8 => k_is)
    (case Kd8 => k_is)
    (case Ae0 => k_is)
    (case Le0 => k_is)
    (case De0 => k_is)
    (case Ke0 => k_is)
    (case Ae1 => k_is)
    (case Le1 => k_is)
    (case De1 => k_is)
    (case Ke1 => k_is)
    (case Ae2 => k_is)
    (case Le2 => k_is)
    (case De2 => k_is)
    (case Ke2 => k_is)
    (case Ae3 => k_is)
    (case Le3 => k_is)
    (case De3 => k_is)
    (case Ke3 => k_is)
    (case Ae4 => k_is)
    (case Le4 => k_is)
    (case De4 => k_is)
    (case Ke4 => k_is)
    (case Ag0 => k_is)
    (case Lg0 => k_is)
    (case Dg0 => k_is)
    (case Kg0 => k_is)
    (case Ag1 => k_is)
    (case Lg1 => k_is)
    (case Dg1 => k_is)
    (case Kg1 => k_is)
    (case hn => k_is)
    (case ht => k_is)
    (case gB => k_is)
    (case h1 => k_is)
    (case h2 => k_is)
    (case h3 => k_is)
    (case ac => k_is)
    (case xc => k_is)
    (case ec => kernel_rfl)
    (case em => kernel_rfl)
    (case nc => k_is)
    (case tc => k_is)
    (case Ly0 => k_is)
    (case Dy0 => k_is)
    (case Ky0 => k_is)
    (case ak => k_is)
    (case nk => k_is)
    (case ik => k_is)
    (case Ly1 => k_is)
    (case Dy1 => k_is)
    (case Ky1 => k_is)
    (case pg => k_is)
    (case hd => k_is)
    (case po => k_is)
    (case sa => k_is)
    (case mk => k_is)
    (case kc => k_is)
    (case n0 => k_is)
    (case n1 => k_is)
    (case n2 => k_is)
    (case n3 => k_is)
    (case gM => k_is)
    (case z0 => k_is)
    (case z1 => k_is)
    (case z2 => k_is)
    (case z3 => k_is)
    (case z4 => k_is)
    (case z5 => k_is)
    (case z6 => k_is)
    (case z7 => k_is)
    (case z8 => k_is)
    (case z9 => k_is)
    (case z10 => k_is)
    (case z11 => k_is)
    (case z12 => k_is)
    (case z13 => k_is)
    (case z14 => k_is)
    (case z15 => k_is)
    (case z16 => k_is)
    (case z17 => k_is)
    (case tb => kernel_rfl)

