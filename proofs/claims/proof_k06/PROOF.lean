import PyProof.Rows.All
import Wide.All
import OpenK.AllK
import Wide.FinOn
import HandS.ForMost
import HandS.ForExc
import HandS.Sort
import HandS.SortOrd
import HandS.SortRule
import HandS.SortInts
import HandS.SortKw
import HandS.Conv
import HandS.Flow
import HandS.Style
import HandS.IsInst
import HandS.Codes
import HandS.Lambda
import HandS.EndBits
import HandS.EndTab
import HandS.Wide
import HandS.ExcIs
import HandS.SetFor
import KE.SortData
import KE.SortKeyHeap
import KE.DataMinMax
import HandS.Iter
import HandS.TupAny
import HandS.WordsExc
import PySem.Challenge.RW_boatpairs_k06_refused
set_option Elab.async false
section
set_option linter.all false
set_option autoImplicit false
namespace Bp

/-! ### marks and packings -/
def aloneP (m L w : Int) : Bool := decide (L < w + m)
def betwP (m L w : Int) : Bool := decide (m ≤ w) && decide (w + m ≤ L)
/-- how many boats the mark asks for -/
def asked (m L : Int) (ws : List Int) : Nat := ws.countP (aloneP m L) + (ws.countP (betwP m L) + 1) / 2
theorem asked_perm {m L : Int} {ws vs : List Int} (h : ws.Perm vs) : asked m L ws = asked m L vs := by
  unfold asked
  rw [h.countP_eq, h.countP_eq]
/-- one or two who may go together -/
def Group (L : Int) (g : List Int) : Prop := (∃ a, g = [a] ∧ a ≤ L) ∨ ∃ a b, g = [a, b] ∧ a + b ≤ L
def Packs (L : Int) (ws : List Int) (gs : List (List Int)) : Prop := gs.flatten.Perm ws ∧ ∀ g ∈ gs, Group L g
theorem group_bound {m L : Int} (hm : 2 * m ≤ L + 1) {g : List Int} (h : Group L g) : 2 * g.countP (aloneP m L) + g.countP (betwP m L) ≤ 2 := by
  rcases h with ⟨a, rfl, ha⟩ | ⟨a, b, rfl, hab⟩
  · simp only [List.countP_cons, List.countP_nil, aloneP, betwP, Bool.and_eq_true, decide_eq_true_eq]
    split <;> split <;> omega
  · simp only [List.countP_cons, List.countP_nil, aloneP, betwP, Bool.and_eq_true, decide_eq_true_eq]
    split <;> split <;> split <;> split <;> omega
theorem groups_bound {m L : Int} (hm : 2 * m ≤ L + 1) : ∀ {gs : List (List Int)}, (∀ g ∈ gs, Group L g) → 2 * gs.flatten.countP (aloneP m L) + gs.flatten.countP (betwP m L) ≤ 2 * gs.length
  | [], _ => by simp
  | g :: gs, h => by
    have a := group_bound hm (h g List.mem_cons_self)
    have b := groups_bound hm (gs := gs) fun x hx => h x (List.mem_cons_of_mem _ hx)
    rw [List.flatten_cons, List.countP_append, List.countP_append, List.length_cons]
    omega
/-- fewer won't do -/
theorem packs_bound {m L : Int} {ws : List Int} {gs : List (List Int)} (hm : 2 * m ≤ L + 1) (h : Packs L ws gs) : asked m L ws ≤ gs.length := by
  rw [← asked_perm h.1]
  have := groups_bound hm h.2
  unfold asked
  omega
theorem Packs.perm {L : Int} {ws vs : List Int} {gs : List (List Int)} (h : Packs L ws gs) (p : ws.Perm vs) : Packs L vs gs := ⟨h.1.trans p, h.2⟩
theorem Group.mono {L M : Int} {g : List Int} (h : Group L g) (l : L ≤ M) : Group M g := by
  rcases h with ⟨a, rfl, ha⟩ | ⟨a, b, rfl, hab⟩
  · exact .inl ⟨a, rfl, by omega⟩
  · exact .inr ⟨a, b, rfl, by omega⟩
theorem Packs.mono {L M : Int} {ws : List Int} {gs : List (List Int)} (h : Packs L ws gs) (l : L ≤ M) : Packs M ws gs := ⟨h.1, fun g hg => (h.2 g hg).mono l⟩
theorem Group.len {L : Int} {g : List Int} (h : Group L g) : g.length ≤ 2 ∧ 1 ≤ g.length := by
  rcases h with ⟨a, rfl, ha⟩ | ⟨a, b, rfl, hab⟩ <;> simp
theorem flat_len {L : Int} : ∀ {gs : List (List Int)}, (∀ g ∈ gs, Group L g) → gs.flatten.length ≤ 2 * gs.length ∧ gs.length ≤ gs.flatten.length
  | [], _ => by simp
  | g :: gs, h => by
    have a := (h g List.mem_cons_self).len
    have b := flat_len (gs := gs) fun x hx => h x (List.mem_cons_of_mem _ hx)
    rw [List.flatten_cons, List.length_append, List.length_cons]
    omega
theorem Packs.len {L : Int} {ws : List Int} {gs : List (List Int)} (h : Packs L ws gs) : ws.length ≤ 2 * gs.length ∧ gs.length ≤ ws.length := by
  have a := flat_len h.2
  have b := h.1.length_eq
  omega
/-- one person less -/
theorem packs_less {L x : Int} {ws : List Int} {gs : List (List Int)} (hx : 0 ≤ x) (h : Packs L (ws ++ [x]) gs) : ∃ gs', Packs L ws gs' ∧ gs'.length ≤ gs.length := by
  have hm : x ∈ gs.flatten := h.1.mem_iff.mpr (by simp)
  obtain ⟨g, hg, hxg⟩ := List.mem_flatten.mp hm
  obtain ⟨s, t, rfl⟩ := List.append_of_mem hg
  have gg := h.2 g hg
  have pw : ∀ {b r : List Int}, (s.flatten ++ (r ++ t.flatten)).Perm (s.flatten ++ (b ++ t.flatten)) → (s.flatten ++ (b ++ t.flatten)).Perm (ws ++ [x]) → (s.flatten ++ (r ++ t.flatten)).Perm (ws ++ [x]) := fun a b => a.trans b
  have P0 : (s.flatten ++ (g ++ t.flatten)).Perm (ws ++ [x]) := by
    have := h.1
    rw [List.flatten_append, List.flatten_cons] at this
    exact this
  have rest : ∀ y ∈ s ++ t, Group L y := fun y hy => h.2 y (by
    rcases List.mem_append.mp hy with z | z
    · exact List.mem_append_left _ z
    · exact List.mem_append_right _ (List.mem_cons_of_mem _ z))
  -- what is left of g
  have key : ∀ r : List Int, g.Perm (x :: r) → (s.flatten ++ (r ++ t.flatten)).Perm ws := fun r hr => by
    have a : (s.flatten ++ (g ++ t.flatten)).Perm (x :: (s.flatten ++ (r ++ t.flatten))) := by
      have b : (s.flatten ++ (g ++ t.flatten)).Perm (s.flatten ++ ((x :: r) ++ t.flatten)) := (List.Perm.refl _).append (hr.append_right _)
      refine b.trans ?_
      rw [List.cons_append]
      exact List.perm_middle
    have c : (x :: (s.flatten ++ (r ++ t.flatten))).Perm (x :: ws) := a.symm.trans (P0.trans (List.perm_append_comm.trans (by simp)))
    exact c.cons_inv
  rcases gg with ⟨a, rfl, ha⟩ | ⟨a, b, rfl, hab⟩
  · have e : x = a := by simpa using hxg
    subst e
    refine ⟨s ++ t, ⟨?_, rest⟩, by simp⟩
    rw [List.flatten_append]
    have := key [] (List.Perm.refl _)
    simpa using this
  · have e : x = a ∨ x = b := by simpa using hxg
    have go : ∀ c, [a, b].Perm [x, c] → c ≤ L → ∃ gs', Packs L ws gs' ∧ gs'.length ≤ (s ++ [a, b] :: t).length := fun c pc hc => by
      refine ⟨s ++ [c] :: t, ⟨?_, fun y hy => ?_⟩, by simp⟩
      · rw [List.flatten_append, List.flatten_cons]
        exact key [c] pc
      · rcases List.mem_append.mp hy with z | z
        · exact rest y (List.mem_append_left _ z)
        · rcases List.mem_cons.mp z with z | z
          · rw [z]; exact .inl ⟨c, rfl, hc⟩
          · exact rest y (List.mem_append_right _ z)
    rcases e with rfl | rfl
    · exact go b (List.Perm.refl _) (by omega)
    · exact go a (List.Perm.swap _ _ _) (by omega)
theorem packs_more {L x : Int} {ws : List Int} {gs : List (List Int)} (hx : x ≤ L) (h : Packs L ws gs) : Packs L (ws ++ [x]) (gs ++ [[x]]) := by
  refine ⟨?_, fun g hg => ?_⟩
  · rw [List.flatten_append]
    have e : ([[x]] : List (List Int)).flatten = [x] := rfl
    rw [e]
    exact h.1.append_right _
  · rcases List.mem_append.mp hg with z | z
    · exact h.2 g z
    · rw [List.mem_singleton.mp z]; exact .inl ⟨x, rfl, hx⟩

/-! ### the fewest -/
def Opt (L : Int) (ws : List Int) (c : Nat) : Prop := (∃ gs, Packs L ws gs ∧ gs.length = c) ∧ ∃ m, 0 ≤ m ∧ 2 * m ≤ L + 1 ∧ asked m L ws = c
theorem Opt.le {L : Int} {ws : List Int} {c : Nat} (h : Opt L ws c) {gs : List (List Int)} (p : Packs L ws gs) : c ≤ gs.length := by
  obtain ⟨_, m, _, hm, rfl⟩ := h
  exact packs_bound hm p
theorem Opt.ge {L : Int} {ws : List Int} {c : Nat} (h : Opt L ws c) {m : Int} (hm : 2 * m ≤ L + 1) : asked m L ws ≤ c := by
  obtain ⟨⟨gs, p, rfl⟩, _⟩ := h
  exact packs_bound hm p
theorem Opt.perm {L : Int} {ws vs : List Int} {c : Nat} (h : Opt L ws c) (p : ws.Perm vs) : Opt L vs c := by
  obtain ⟨⟨gs, a, b⟩, m, h1, h2, h3⟩ := h
  exact ⟨⟨gs, a.perm p, b⟩, m, h1, h2, by rw [← asked_perm p]; exact h3⟩
theorem Opt.uniq {L : Int} {ws : List Int} {c d : Nat} (h : Opt L ws c) (k : Opt L ws d) : c = d := by
  have a : c ≤ d := by
    obtain ⟨⟨gs, p, rfl⟩, _⟩ := k
    exact h.le p
  have b : d ≤ c := by
    obtain ⟨⟨gs, p, rfl⟩, _⟩ := h
    exact k.le p
  omega
theorem Opt.more {L x : Int} {ws : List Int} {c d : Nat} (hx0 : 0 ≤ x) (hx : x ≤ L) (h : Opt L ws c) (k : Opt L (ws ++ [x]) d) : d = c ∨ d = c + 1 := by
  have a : d ≤ c + 1 := by
    obtain ⟨⟨gs, p, rfl⟩, _⟩ := h
    have := k.le (packs_more hx p)
    simpa using this
  have b : c ≤ d := by
    obtain ⟨⟨gs, p, rfl⟩, _⟩ := k
    obtain ⟨gs', p', l⟩ := packs_less hx0 p
    exact Nat.le_trans (h.le p') l
  omega
theorem Opt.mono {L M : Int} {ws : List Int} {c d : Nat} (l : L ≤ M) (h : Opt L ws c) (k : Opt M ws d) : d ≤ c := by
  obtain ⟨⟨gs, p, rfl⟩, _⟩ := h
  exact k.le (p.mono l)
theorem Opt.half {L : Int} {ws : List Int} {c : Nat} (h : Opt L ws c) : ws.length ≤ 2 * c ∧ c ≤ ws.length := by
  obtain ⟨⟨gs, p, rfl⟩, _⟩ := h
  exact p.len
end Bp

end

section
set_option linter.all false
set_option autoImplicit false
namespace Bp

/-! ### boats of persons -/
def wAt (ws : List Int) (i : Int) : Int := ws.getD i.toNat 0
def BoatOk (ws : List Int) (L : Int) (b : List Int) : Prop := (∃ i, b = [i] ∧ wAt ws i ≤ L) ∨ ∃ i j, b = [i, j] ∧ i < j ∧ wAt ws i + wAt ws j ≤ L
/-- the persons that there are -/
def pers (n : Nat) : List Int := (List.range n).map Int.ofNat
def AllCross (ws : List Int) (L : Int) (bs : List (List Int)) : Prop := bs.flatten.Perm (pers ws.length) ∧ ∀ b ∈ bs, BoatOk ws L b
/-- what Boats(bs, m).shows(ws, L) says -/
def Shows (ws : List Int) (L : Int) (bs : List (List Int)) (m : Int) : Prop := 0 ≤ 2 * m ∧ 2 * m ≤ L + 1 ∧ AllCross ws L bs ∧ bs.length = asked m L ws
theorem wAt_nat (ws : List Int) (k : Nat) : wAt ws (k : Int) = ws.getD k 0 := by
  unfold wAt
  rw [Int.toNat_natCast]
theorem pers_len (n : Nat) : (pers n).length = n := by simp [pers]
theorem pers_map (ws : List Int) : (pers ws.length).map (wAt ws) = ws := by
  unfold pers
  rw [List.map_map]
  refine List.ext_getElem (by simp) fun i h1 h2 => ?_
  simp [wAt, h2]
theorem mem_pers {n : Nat} {i : Int} : i ∈ pers n ↔ 0 ≤ i ∧ i < n := by
  unfold pers
  rw [List.mem_map]
  constructor
  · rintro ⟨k, hk, rfl⟩
    have := List.mem_range.mp hk
    exact ⟨Int.natCast_nonneg k, by show (k : Int) < n; omega⟩
  · rintro ⟨h0, h1⟩
    exact ⟨i.toNat, List.mem_range.mpr (by omega), by show ((i.toNat : Nat) : Int) = i; omega⟩
theorem pers_nodup (n : Nat) : (pers n).Nodup := by
  unfold pers
  exact List.Pairwise.map _ (fun a b h e => h (Int.ofNat.inj e)) List.nodup_range
theorem cross_packs {ws : List Int} {L : Int} {bs : List (List Int)} (h : AllCross ws L bs) : Packs L ws (bs.map (·.map (wAt ws))) := by
  refine ⟨?_, fun g hg => ?_⟩
  · rw [← List.map_flatten]
    have := h.1.map (wAt ws)
    rw [pers_map] at this
    exact this
  · obtain ⟨b, hb, rfl⟩ := List.mem_map.mp hg
    rcases h.2 b hb with ⟨i, rfl, hi⟩ | ⟨i, j, rfl, _, hij⟩
    · exact .inl ⟨_, rfl, hi⟩
    · exact .inr ⟨_, _, rfl, hij⟩
theorem Shows.opt {ws : List Int} {L m : Int} {bs : List (List Int)} (h : Shows ws L bs m) : Opt L ws bs.length :=
  ⟨⟨_, cross_packs h.2.2.1, by simp⟩, m, by have := h.1; omega, h.2.1, h.2.2.2.symm⟩
theorem Shows.light {ws : List Int} {L m : Int} {bs : List (List Int)} (h : Shows ws L bs m) (hp : ∀ w ∈ ws, 0 ≤ w) : ∀ w ∈ ws, w ≤ L := by
  intro w hw
  have p := cross_packs h.2.2.1
  obtain ⟨g, hg, hwg⟩ := List.mem_flatten.mp (p.1.mem_iff.mpr hw)
  have pos : ∀ x ∈ g, 0 ≤ x := fun x hx => hp x (p.1.mem_iff.mp (List.mem_flatten.mpr ⟨g, hg, hx⟩))
  rcases p.2 g hg with ⟨a, rfl, ha⟩ | ⟨a, b, rfl, hab⟩
  · rw [List.mem_singleton.mp hwg]; exact ha
  · have h1 := pos a (by simp)
    have h2 := pos b (by simp)
    have e : w = a ∨ w = b := by simpa using hwg
    rcases e with rfl | rfl <;> omega
theorem AllCross.perm {ws : List Int} {L : Int} {bs cs : List (List Int)} (h : AllCross ws L bs) (p : cs.Perm bs) : AllCross ws L cs :=
  ⟨p.flatten.trans h.1, fun b hb => h.2 b (p.mem_iff.mp hb)⟩
theorem Shows.perm {ws : List Int} {L m : Int} {bs cs : List (List Int)} (h : Shows ws L bs m) (p : cs.Perm bs) : Shows ws L cs m :=
  ⟨h.1, h.2.1, h.2.2.1.perm p, p.length_eq.trans h.2.2.2⟩

/-! ### the greedy walk: from the lightest (i), up to the heaviest left (e - 1) -/
def mn (x y : Int) : Int := if y < x then y else x
/-- the k-th lightest's weight -/
def ka (ws os : List Int) (k : Nat) : Int := wAt ws (os.getD k 0)
structure Gr (ws os : List Int) (L : Int) (bs : List (List Int)) (m : Int) (i e : Nat) : Prop where
  ie : i ≤ e
  en : e ≤ os.length
  len : bs.length + e = os.length
  flat : bs.flatten.Perm (os.take i ++ os.drop e)
  ok : ∀ b ∈ bs, BoatOk ws L b
  low : ∀ k, k < i → e < os.length ∧ ka ws os k + ka ws os e ≤ L
  mrk : (m = 0 ∧ i + e = os.length) ∨ ∃ p q : Nat, p < q ∧ q < os.length ∧ L < ka ws os p + ka ws os q ∧ m = mn (ka ws os p) ((L + 1) / 2) ∧ (∀ k, k < p → ka ws os k + ka ws os q ≤ L) ∧ p ≤ i ∧ i + e = p + q ∧
    (p < i → ka ws os p + ka ws os (q - 1) ≤ L)
/-- os: all persons, rising by weight; nobody too heavy -/
structure Ord (ws os : List Int) (L : Int) : Prop where
  perm : os.Perm (pers ws.length)
  up : os.Pairwise fun x y => wAt ws x ≤ wAt ws y
  pos : ∀ w ∈ ws, 1 ≤ w
  light : ∀ w ∈ ws, w ≤ L
  lim : 0 ≤ L
section
variable {ws os : List Int} {L : Int} {bs : List (List Int)} {m : Int} {i e : Nat}
theorem Ord.len (O : Ord ws os L) : os.length = ws.length := by rw [O.perm.length_eq, pers_len]
theorem getD_mem {os : List Int} {k : Nat} (h : k < os.length) : os.getD k 0 ∈ os := by
  rw [List.getD_eq_getElem?_getD, List.getElem?_eq_getElem h]
  exact List.getElem_mem h
theorem Ord.mem (O : Ord ws os L) {k : Nat} (h : k < os.length) : 0 ≤ os.getD k 0 ∧ os.getD k 0 < ws.length := mem_pers.mp (O.perm.mem_iff.mp (getD_mem h))
theorem wAt_mem {ws : List Int} {i : Int} (h0 : 0 ≤ i) (h1 : i < ws.length) : wAt ws i ∈ ws := getD_mem (by omega)
theorem Ord.ka_mem (O : Ord ws os L) {k : Nat} (h : k < os.length) : ka ws os k ∈ ws := wAt_mem (O.mem h).1 (O.mem h).2
theorem Ord.mono (O : Ord ws os L) {j k : Nat} (h : j ≤ k) (hk : k < os.length) : ka ws os j ≤ ka ws os k := by
  rcases Nat.lt_or_eq_of_le h with l | rfl
  · have := List.pairwise_iff_getElem.mp O.up j k (by omega) hk l
    unfold ka
    rw [List.getD_eq_getElem?_getD, List.getD_eq_getElem?_getD, List.getElem?_eq_getElem (by omega), List.getElem?_eq_getElem hk]
    exact this
  · exact Int.le_refl _
theorem Ord.inj (O : Ord ws os L) {j k : Nat} (hj : j < os.length) (hk : k < os.length) (h : j ≠ k) : os.getD j 0 ≠ os.getD k 0 := by
  have nd : os.Nodup := O.perm.nodup_iff.mpr (pers_nodup _)
  rw [List.getD_eq_getElem?_getD, List.getD_eq_getElem?_getD, List.getElem?_eq_getElem hj, List.getElem?_eq_getElem hk]
  exact fun q => h ((List.getElem_inj nd).mp q)
theorem take_succ' {os : List Int} {i : Nat} (h : i < os.length) : os.take (i + 1) = os.take i ++ [os.getD i 0] := by
  rw [List.take_add_one, List.getD_eq_getElem?_getD, List.getElem?_eq_getElem h]
  simp
theorem drop_pred' {os : List Int} {e : Nat} (h : e < os.length) : os.drop e = os.getD e 0 :: os.drop (e + 1) := by
  rw [List.getD_eq_getElem?_getD, List.getElem?_eq_getElem h]
  simp
theorem Gr.start (O : Ord ws os L) : Gr ws os L [] 0 0 os.length :=
  ⟨Nat.zero_le _, Nat.le_refl _, by simp, by simp, fun b hb => absurd hb (by simp), fun k hk => absurd hk (by omega), .inl ⟨rfl, by omega⟩⟩
theorem flat_snoc (bs : List (List Int)) (b : List Int) : (bs ++ [b]).flatten = bs.flatten ++ b := by
  rw [List.flatten_append]
  simp
theorem Gr.pair (O : Ord ws os L) (G : Gr ws os L bs m i e) (h : i + 1 < e) (hs : ka ws os i + ka ws os (e - 1) ≤ L) {b : List Int}
    (hb : (b = [os.getD i 0, os.getD (e - 1) 0] ∧ os.getD i 0 < os.getD (e - 1) 0) ∨ (b = [os.getD (e - 1) 0, os.getD i 0] ∧ os.getD (e - 1) 0 < os.getD i 0)) : Gr ws os L (bs ++ [b]) m (i + 1) (e - 1) := by
  have en := G.en
  have hbp : b.Perm ([os.getD i 0] ++ [os.getD (e - 1) 0]) := by
    rcases hb with ⟨rfl, _⟩ | ⟨rfl, _⟩
    · exact List.Perm.refl _
    · exact List.Perm.swap _ _ _
  refine ⟨by omega, by omega, ?_, ?_, fun c hc => ?_, fun k hk => ?_, ?_⟩
  · have := G.len
    rw [List.length_append, List.length_singleton]
    omega
  · rw [flat_snoc, take_succ' (by omega), drop_pred' (os := os) (e := e - 1) (by omega), show e - 1 + 1 = e by omega]
    refine (G.flat.append hbp).trans ?_
    rw [List.append_assoc, List.append_assoc]
    refine (List.Perm.refl (os.take i)).append ?_
    refine (List.perm_append_comm).trans ?_
    rw [List.append_assoc]
    rfl
  · rcases List.mem_append.mp hc with z | z
    · exact G.ok c z
    · rw [List.mem_singleton.mp z]
      rcases hb with ⟨rfl, hl⟩ | ⟨rfl, hl⟩
      · exact .inr ⟨_, _, rfl, hl, hs⟩
      · exact .inr ⟨_, _, rfl, hl, by rw [Int.add_comm]; exact hs⟩
  · refine ⟨by omega, ?_⟩
    have := O.mono (j := k) (k := i) (by omega) (by omega)
    omega
  · rcases G.mrk with ⟨h1, h2⟩ | ⟨p, q, h1, h2, h3, h4, h5, h6, h7, h8⟩
    · exact .inl ⟨h1, by omega⟩
    · refine .inr ⟨p, q, h1, h2, h3, h4, h5, by omega, by omega, fun _ => ?_⟩
      by_cases hp : p < i
      · exact h8 hp
      · have e1 : p = i := by omega
        have e2 : q = e := by omega
        rw [e1, e2]
        exact hs
theorem Gr.alone (O : Ord ws os L) (G : Gr ws os L bs m i e) (h : i + 1 < e) (hs : L < ka ws os i + ka ws os (e - 1)) : Gr ws os L (bs ++ [[os.getD (e - 1) 0]]) (mn (ka ws os i) ((L + 1) / 2)) i (e - 1) := by
  have en := G.en
  refine ⟨by omega, by omega, ?_, ?_, fun c hc => ?_, fun k hk => ?_, .inr ⟨i, e - 1, by omega, by omega, hs, rfl, fun k hk => ?_, Nat.le_refl _, rfl, fun z => absurd z (Nat.lt_irrefl _)⟩⟩
  · have := G.len
    rw [List.length_append, List.length_singleton]
    omega
  · rw [flat_snoc, drop_pred' (os := os) (e := e - 1) (by omega), show e - 1 + 1 = e by omega]
    refine (G.flat.append_right _).trans ?_
    rw [List.append_assoc]
    refine (List.Perm.refl (os.take i)).append ?_
    exact List.perm_append_comm
  · rcases List.mem_append.mp hc with z | z
    · exact G.ok c z
    · rw [List.mem_singleton.mp z]
      exact .inl ⟨_, rfl, O.light _ (O.ka_mem (by omega))⟩
  · obtain ⟨h1, h2⟩ := G.low k hk
    have := O.mono (j := e - 1) (k := e) (by omega) h1
    exact ⟨by omega, by omega⟩
  · obtain ⟨h1, h2⟩ := G.low k hk
    have := O.mono (j := e - 1) (k := e) (by omega) h1
    omega
/-- the last one left -/
theorem Gr.last (O : Ord ws os L) (G : Gr ws os L bs m i e) (h : i + 1 = e) : (bs ++ [[os.getD i 0]]).flatten.Perm os ∧ (∀ b ∈ bs ++ [[os.getD i 0]], BoatOk ws L b) ∧ (bs ++ [[os.getD i 0]]).length + i = os.length := by
  have en := G.en
  refine ⟨?_, fun c hc => ?_, ?_⟩
  · rw [flat_snoc]
    refine (G.flat.append_right _).trans ?_
    rw [List.append_assoc]
    have e1 : os = os.take i ++ (os.getD i 0 :: os.drop (i + 1)) := by
      rw [← drop_pred' (by omega), List.take_append_drop]
    conv => rhs; rw [e1]
    refine (List.Perm.refl (os.take i)).append ?_
    rw [← h]
    exact List.perm_append_comm
  · rcases List.mem_append.mp hc with z | z
    · exact G.ok c z
    · rw [List.mem_singleton.mp z]
      exact .inl ⟨_, rfl, O.light _ (O.ka_mem (by omega))⟩
  · have := G.len
    rw [List.length_append, List.length_singleton]
    omega
theorem Gr.none_left (O : Ord ws os L) (G : Gr ws os L bs m i e) (h : i = e) : bs.flatten.Perm os ∧ (∀ b ∈ bs, BoatOk ws L b) ∧ bs.length + i = os.length := by
  refine ⟨?_, G.ok, by have := G.len; omega⟩
  have := G.flat
  rw [h, List.take_append_drop] at this
  exact this
/-- the weights, rising -/
theorem Ord.weights (O : Ord ws os L) : ws.Perm (os.map (wAt ws)) := by
  have := O.perm.map (wAt ws)
  rw [pers_map] at this
  exact this.symm
theorem mem_take_ka {k : Nat} {x : Int} (h : x ∈ (os.take k).map (wAt ws)) : ∃ j, j < k ∧ j < os.length ∧ x = ka ws os j := by
  obtain ⟨y, hy, rfl⟩ := List.mem_map.mp h
  obtain ⟨j, hj⟩ := List.mem_iff_getElem?.mp hy
  rw [List.getElem?_take] at hj
  split at hj
  · rename_i hk
    obtain ⟨hl, e⟩ := List.getElem?_eq_some_iff.mp hj
    exact ⟨j, hk, hl, by unfold ka; rw [List.getD_eq_getElem?_getD, hj]; rfl⟩
  · cases hj
theorem mem_drop_ka {k : Nat} {x : Int} (h : x ∈ (os.drop k).map (wAt ws)) : ∃ j, k ≤ j ∧ j < os.length ∧ x = ka ws os j := by
  obtain ⟨y, hy, rfl⟩ := List.mem_map.mp h
  obtain ⟨j, hj⟩ := List.mem_iff_getElem?.mp hy
  rw [List.getElem?_drop] at hj
  obtain ⟨hl, e⟩ := List.getElem?_eq_some_iff.mp hj
  exact ⟨k + j, by omega, hl, by unfold ka; rw [List.getD_eq_getElem?_getD, hj]; rfl⟩
theorem mem_mid_ka {p q : Nat} {x : Int} (h : x ∈ ((os.take q).drop p).map (wAt ws)) : ∃ j, p ≤ j ∧ j < q ∧ j < os.length ∧ x = ka ws os j := by
  obtain ⟨y, hy, rfl⟩ := List.mem_map.mp h
  obtain ⟨j, hj⟩ := List.mem_iff_getElem?.mp hy
  rw [List.getElem?_drop, List.getElem?_take] at hj
  split at hj
  · rename_i hk
    obtain ⟨hl, e⟩ := List.getElem?_eq_some_iff.mp hj
    exact ⟨p + j, by omega, hk, hl, by unfold ka; rw [List.getD_eq_getElem?_getD, hj]; rfl⟩
  · cases hj
theorem cut3 (os : List Int) {p q : Nat} (h : p ≤ q) : os = os.take p ++ ((os.take q).drop p ++ os.drop q) := by
  rw [← List.append_assoc]
  have : os.take p = (os.take q).take p := by rw [List.take_take, Nat.min_eq_left h]
  rw [this, List.take_append_drop, List.take_append_drop]
theorem count_all {f : Int → Bool} {l : List Int} (h : ∀ x ∈ l, f x = true) : l.countP f = l.length := List.countP_eq_length.mpr h
theorem count_none {f : Int → Bool} {l : List Int} (h : ∀ x ∈ l, f x = false) : l.countP f = 0 := List.countP_eq_zero.mpr fun x hx => by rw [h x hx]; exact Bool.false_ne_true
/-- as many as the mark asks for, and the mark is one -/
theorem Gr.asked (O : Ord ws os L) (G : Gr ws os L bs m i e) (h : i = e ∨ i + 1 = e) : 0 ≤ 2 * m ∧ 2 * m ≤ L + 1 ∧ os.length - i = asked m L ws := by
  have lim := O.lim
  have en := G.en
  have posk : ∀ k, k < os.length → 1 ≤ ka ws os k := fun k hk => O.pos _ (O.ka_mem hk)
  have lik : ∀ k, k < os.length → ka ws os k ≤ L := fun k hk => O.light _ (O.ka_mem hk)
  rcases G.mrk with ⟨rfl, hn⟩ | ⟨p, q, h1, h2, h3, h4, h5, h6, h7, h8⟩
  · refine ⟨by omega, by omega, ?_⟩
    unfold Bp.asked
    have c1 : ws.countP (aloneP 0 L) = 0 := count_none fun x hx => by
      have := O.light x hx
      exact decide_eq_false (by omega)
    have c2 : ws.countP (betwP 0 L) = ws.length := count_all fun x hx => by
      have a := O.light x hx
      have b := O.pos x hx
      unfold betwP
      rw [Bool.and_eq_true, decide_eq_true_eq, decide_eq_true_eq]
      omega
    rw [c1, c2]
    have := O.len
    omega
  · have hq1 := posk p (by omega)
    have hm0 : 0 ≤ m ∧ 2 * m ≤ L + 1 ∧ m ≤ ka ws os p ∧ (m = ka ws os p ∨ (L ≤ 2 * m ∧ m < ka ws os p)) := by
      rw [h4]
      unfold mn
      split <;> omega
    obtain ⟨hm0, hm1, hm2, hm3⟩ := hm0
    refine ⟨by omega, hm1, ?_⟩
    have pq := O.mono (j := p) (k := q) (by omega) h2
    rw [asked_perm (O.weights.trans (List.Perm.of_eq (congrArg (·.map (wAt ws)) (cut3 os (p := p) (q := q) (by omega)))))]
    unfold Bp.asked
    simp only [List.map_append, List.countP_append]
    have lt : ∀ x ∈ (os.take p).map (wAt ws), x < m ∧ x + m ≤ L := fun x hx => by
      obtain ⟨j, hj, hj2, rfl⟩ := mem_take_ka hx
      have := h5 j hj
      omega
    have ld : ∀ x ∈ (os.drop q).map (wAt ws), L < x + m := fun x hx => by
      obtain ⟨j, hj, hj2, rfl⟩ := mem_drop_ka hx
      have := O.mono hj hj2
      omega
    have a1 : ((os.take p).map (wAt ws)).countP (aloneP m L) = 0 := count_none fun x hx => decide_eq_false (by have := lt x hx; omega)
    have a2 : ((os.take p).map (wAt ws)).countP (betwP m L) = 0 := count_none fun x hx => by
      have := lt x hx
      unfold betwP
      rw [decide_eq_false (by omega)]; rfl
    have a3 : ((os.drop q).map (wAt ws)).countP (aloneP m L) = os.length - q := by
      rw [count_all (f := aloneP m L) fun x hx => decide_eq_true (by have := ld x hx; omega)]; simp
    have a4 : ((os.drop q).map (wAt ws)).countP (betwP m L) = 0 := count_none fun x hx => by
      have := ld x hx
      unfold betwP
      rw [decide_eq_false (show ¬ x + m ≤ L by omega), Bool.and_false]
    have ml : (((os.take q).drop p).map (wAt ws)).length = q - p := by simp; omega
    rw [a1, a2, a3, a4]
    by_cases h1' : p + 1 = q
    · -- one in the middle: alone or between
      have hl1 : (((os.take q).drop p).map (wAt ws)).length = 1 := by omega
      obtain ⟨x, hx⟩ := List.length_eq_one_iff.mp hl1
      obtain ⟨j, hj1, hj2, hj3, e⟩ := mem_mid_ka (ws := ws) (os := os) (p := p) (q := q) (x := x) (by rw [hx]; simp)
      have ej : j = p := by omega
      subst ej
      rw [hx]
      simp only [List.countP_cons, List.countP_nil, aloneP, betwP, Bool.and_eq_true, decide_eq_true_eq]
      by_cases c : L < x + m
      · rw [if_pos c, if_neg (by omega)]
        omega
      · rw [if_neg c, if_pos (by omega)]
        omega
    · have h8' := h8 (by omega)
      have b : ∀ x ∈ ((os.take q).drop p).map (wAt ws), m ≤ x ∧ x + m ≤ L := fun x hx => by
        obtain ⟨j, hj1, hj2, hj3, rfl⟩ := mem_mid_ka hx
        have c1 := O.mono hj1 hj3
        have c2 := O.mono (j := j) (k := q - 1) (by omega) (by omega)
        omega
      rw [count_none (f := aloneP m L) fun x hx => decide_eq_false (by have := b x hx; omega), count_all (f := betwP m L) fun x hx => by
        have := b x hx
        unfold betwP
        rw [decide_eq_true (by omega), decide_eq_true (by omega)]; rfl, ml]
      omega
theorem Gr.shows_last (O : Ord ws os L) (G : Gr ws os L bs m i e) (h : i + 1 = e) : Shows ws L (bs ++ [[os.getD i 0]]) m := by
  obtain ⟨a, b, c⟩ := G.last O h
  obtain ⟨x, y, z⟩ := G.asked O (.inr h)
  exact ⟨x, y, ⟨a.trans O.perm, b⟩, by omega⟩
theorem Gr.shows_none (O : Ord ws os L) (G : Gr ws os L bs m i e) (h : i = e) : Shows ws L bs m := by
  obtain ⟨a, b, c⟩ := G.none_left O h
  obtain ⟨x, y, z⟩ := G.asked O (.inl h)
  exact ⟨x, y, ⟨a.trans O.perm, b⟩, by omega⟩
end
end Bp

end

section
set_option linter.all false
set_option autoImplicit false
namespace Bp

/-! ### the least limit -/
/-- v is what least_limit(ws, B) tells -/
def Least (ws : List Int) (B v : Int) : Prop := ∃ rs : List Int, rs.Perm ws ∧ rs.Pairwise (· ≤ ·) ∧ (∀ w ∈ ws, w ≤ v) ∧
  (∀ k : Nat, (k : Int) < ws.length - B → rs.getD k 0 + rs.getD (2 * ((ws.length : Int) - B) - 1 - k).toNat 0 ≤ v) ∧
  ((ws = [] ∧ v = 0) ∨ v ∈ ws ∨ ∃ k : Nat, (k : Int) < ws.length - B ∧ v = rs.getD k 0 + rs.getD (2 * ((ws.length : Int) - B) - 1 - k).toNat 0)
theorem getD_le {rs : List Int} (h : rs.Pairwise (· ≤ ·)) {j k : Nat} (hjk : j ≤ k) (hk : k < rs.length) : rs.getD j 0 ≤ rs.getD k 0 := by
  rcases Nat.lt_or_eq_of_le hjk with l | rfl
  · have := List.pairwise_iff_getElem.mp h j k (by omega) hk l
    rw [List.getD_eq_getElem?_getD, List.getD_eq_getElem?_getD, List.getElem?_eq_getElem (by omega), List.getElem?_eq_getElem hk]
    exact this
  · exact Int.le_refl _
/-- rs, the first 2p of it two by two from without, the rest alone -/
def pairUp (rs : List Int) : Nat → List (List Int)
  | 0 => []
  | p + 1 => [rs.getD 0 0, rs.getD (2 * p + 1) 0] :: pairUp (rs.drop 1) p
theorem pairUp_len : ∀ (p : Nat) (rs : List Int), (pairUp rs p).length = p
  | 0, _ => rfl
  | p + 1, rs => by show (pairUp (rs.drop 1) p).length + 1 = p + 1; rw [pairUp_len p]
theorem getD_drop1 (rs : List Int) (k : Nat) : (rs.drop 1).getD k 0 = rs.getD (k + 1) 0 := by
  rw [List.getD_eq_getElem?_getD, List.getD_eq_getElem?_getD, List.getElem?_drop, Nat.add_comm]
theorem pairUp_flat : ∀ (p : Nat) (rs : List Int), 2 * p ≤ rs.length → (pairUp rs p).flatten.Perm (rs.take (2 * p))
  | 0, rs, _ => by simp [pairUp]
  | p + 1, rs, h => by
    cases rs with
    | nil => simp at h
    | cons r t =>
      have ih := pairUp_flat p t (by simp at h; omega)
      show ([r, (r :: t).getD (2 * p + 1) 0] ++ (pairUp t p).flatten).Perm ((r :: t).take (2 * p + 1 + 1))
      rw [List.take_succ_cons, show (r :: t).getD (2 * p + 1) 0 = t.getD (2 * p) 0 from rfl]
      have e : t.take (2 * p + 1) = t.take (2 * p) ++ [t.getD (2 * p) 0] := take_succ' (by simp at h; omega)
      rw [e]
      show (r :: ([t.getD (2 * p) 0] ++ (pairUp t p).flatten)).Perm (r :: (t.take (2 * p) ++ [t.getD (2 * p) 0]))
      refine List.Perm.cons r ?_
      exact List.perm_append_comm.trans (ih.append_right _)
theorem pairUp_ok {v : Int} : ∀ (p : Nat) (rs : List Int), (∀ k, k < p → rs.getD k 0 + rs.getD (2 * p - 1 - k) 0 ≤ v) → ∀ g ∈ pairUp rs p, Group v g
  | 0, _, _, g, hg => absurd hg (by simp [pairUp])
  | p + 1, rs, h, g, hg => by
    rcases List.mem_cons.mp hg with e | hg
    · refine .inr ⟨_, _, e, ?_⟩
      have := h 0 (by omega)
      rw [show 2 * (p + 1) - 1 - 0 = 2 * p + 1 by omega] at this
      exact this
    · refine pairUp_ok p (rs.drop 1) (fun k hk => ?_) g hg
      have := h (k + 1) (by omega)
      rw [getD_drop1, getD_drop1, show 2 * p - 1 - k + 1 = 2 * (p + 1) - 1 - (k + 1) by omega]
      exact this
theorem single_flat : ∀ l : List Int, (l.map fun w => [w]).flatten = l
  | [] => rfl
  | w :: l => by rw [List.map_cons, List.flatten_cons, single_flat l]; rfl
section
variable {ws : List Int} {B v : Int}
/-- by it so many boats do -/
theorem Least.does (h : Least ws B v) (hB : (ws.length : Int) ≤ 2 * B) {c : Nat} (o : Opt v ws c) : (c : Int) ≤ B := by
  obtain ⟨rs, hp, hs, hw, hk, _⟩ := h
  have hl := hp.length_eq
  have hB0 : 0 ≤ B := by omega
  obtain ⟨p, hpp⟩ : ∃ p : Nat, p = ((ws.length : Int) - B).toNat := ⟨_, rfl⟩
  have P : Packs v ws (pairUp rs p ++ (rs.drop (2 * p)).map fun w => [w]) := by
    refine ⟨?_, fun g hg => ?_⟩
    · rw [List.flatten_append, single_flat]
      refine ((pairUp_flat p rs (by omega)).append_right _).trans ?_
      rw [List.take_append_drop]
      exact hp
    · rcases List.mem_append.mp hg with q | q
      · refine pairUp_ok p rs (fun k hkp => ?_) g q
        have := hk k (by omega)
        rw [show (2 * ((ws.length : Int) - B) - 1 - k).toNat = 2 * p - 1 - k by omega] at this
        exact this
      · obtain ⟨w, hw2, rfl⟩ := List.mem_map.mp q
        exact .inl ⟨w, rfl, hw w (hp.mem_iff.mp (List.mem_of_mem_drop hw2))⟩
  have := o.le P
  rw [List.length_append, pairUp_len, List.length_map, List.length_drop] at this
  omega
theorem count_drop {f : Int → Bool} {rs : List Int} {k : Nat} (h : ∀ j, k ≤ j → j < rs.length → f (rs.getD j 0) = true) : rs.length - k ≤ rs.countP f := by
  have e : rs.countP f = (rs.take k).countP f + (rs.drop k).countP f := by rw [← List.countP_append, List.take_append_drop]
  have e2 : (rs.drop k).countP f = (rs.drop k).length := count_all fun x hx => by
    obtain ⟨i, hi⟩ := List.mem_iff_getElem?.mp hx
    rw [List.getElem?_drop] at hi
    have := h (k + i) (by omega) (List.getElem?_eq_some_iff.mp hi).1
    rw [List.getD_eq_getElem?_getD, hi] at this
    exact this
  rw [e, e2, List.length_drop]
  omega
theorem count_or (f g : Int → Bool) : ∀ l : List Int, l.countP (fun w => f w || g w) ≤ l.countP f + l.countP g
  | [] => by simp
  | w :: l => by
    have ih := count_or f g l
    rw [List.countP_cons, List.countP_cons, List.countP_cons]
    cases f w <;> cases g w <;> simp <;> omega
/-- by one less they don't, or somebody is too heavy -/
theorem Least.less (h : Least ws B v) (hB : (ws.length : Int) ≤ 2 * B) (hpos : ∀ w ∈ ws, 1 ≤ w) (hv : 0 < v) : (∃ w ∈ ws, v - 1 < w) ∨ ∀ c, Opt (v - 1) ws c → B < c := by
  obtain ⟨rs, hp, hs, hw, hk, h3⟩ := h
  have hl := hp.length_eq
  rcases h3 with ⟨_, e⟩ | e | ⟨k, hkp, e⟩
  · omega
  · exact .inl ⟨v, e, by omega⟩
  · right
    intro c o
    obtain ⟨j, hj⟩ : ∃ j : Nat, j = (2 * ((ws.length : Int) - B) - 1 - k).toNat := ⟨_, rfl⟩
    have hjn : j < rs.length := by omega
    have hkj : k < j := by omega
    rw [← hj] at e
    have hkk : rs.getD k 0 ≤ rs.getD j 0 := getD_le hs (by omega) hjn
    have hge := o.ge (m := rs.getD k 0) (by omega)
    rw [← asked_perm hp] at hge
    have a1 : rs.length - j ≤ rs.countP (aloneP (rs.getD k 0) (v - 1)) := count_drop fun i hi hil => by
      have := getD_le hs hi hil
      exact decide_eq_true (by omega)
    have a2 : rs.length - k ≤ rs.countP (fun w => aloneP (rs.getD k 0) (v - 1) w || betwP (rs.getD k 0) (v - 1) w) := count_drop fun i hi hil => by
      have := getD_le hs hi hil
      unfold aloneP betwP
      by_cases c1 : v - 1 < rs.getD i 0 + rs.getD k 0
      · rw [decide_eq_true c1, Bool.true_or]
      · rw [decide_eq_false c1, Bool.false_or, Bool.and_eq_true, decide_eq_true_eq, decide_eq_true_eq]
        omega
    have a4 := count_or (aloneP (rs.getD k 0) (v - 1)) (betwP (rs.getD k 0) (v - 1)) rs
    unfold asked at hge
    omega
/-- more boats never need a greater one -/
theorem Least.anti {C u : Int} (h : Least ws B v) (k : Least ws C u) (hB : (ws.length : Int) ≤ 2 * B) (l : B ≤ C) (hpos : ∀ w ∈ ws, 1 ≤ w) : u ≤ v := by
  obtain ⟨rs, hp, hs, hw, hk, h3⟩ := h
  obtain ⟨qs, kp, ks, kw, kk, k3⟩ := k
  have e : qs = rs := List.Perm.eq_of_pairwise (fun x y _ _ h1 h2 => by omega) ks hs (kp.trans hp.symm)
  subst e
  have hl := hp.length_eq
  rcases k3 with ⟨e, rfl⟩ | e | ⟨i, hi, e⟩
  · subst e
    rcases h3 with ⟨_, e⟩ | e | ⟨i, hi, e⟩
    · omega
    · cases e
    · have hq : qs = [] := List.length_eq_zero_iff.mp hl
      subst hq
      simp at e
      omega
  · exact hw _ e
  · have h1 := hk i (by omega)
    have h2 : qs.getD (2 * ((ws.length : Int) - C) - 1 - i).toNat 0 ≤ qs.getD (2 * ((ws.length : Int) - B) - 1 - i).toNat 0 := getD_le hs (by omega) (by omega)
    omega
theorem Least.nonneg (h : Least ws B v) (hpos : ∀ w ∈ ws, 1 ≤ w) : 0 ≤ v := by
  obtain ⟨rs, hp, hs, hw, hk, h3⟩ := h
  cases ws with
  | nil =>
    rcases h3 with ⟨_, e⟩ | e | ⟨i, hi, e⟩
    · omega
    · cases e
    · have hq : rs = [] := List.length_eq_zero_iff.mp hp.length_eq
      subst hq
      simp at e
      omega
  | cons w ws =>
    have := hw w List.mem_cons_self
    have := hpos w List.mem_cons_self
    omega
end

/-! ### the fewest, by trying -/
def MinPk (L : Int) (ws : List Int) (c : Nat) : Prop := (∃ gs, Packs L ws gs ∧ gs.length = c) ∧ ∀ gs, Packs L ws gs → c ≤ gs.length
theorem MinPk.nil (L : Int) : MinPk L [] 0 := ⟨⟨[], ⟨List.Perm.refl _, fun g hg => absurd hg (by simp)⟩, rfl⟩, fun _ _ => Nat.zero_le _⟩
theorem Opt.minpk {L : Int} {ws : List Int} {c d : Nat} (o : Opt L ws c) (m : MinPk L ws d) : c = d := by
  obtain ⟨⟨gs, p, rfl⟩, h⟩ := m
  have a := o.le p
  obtain ⟨⟨hs, q, rfl⟩, _⟩ := o
  have b := h hs q
  omega
theorem perm_getD_eraseIdx : ∀ {l : List Int} {k : Nat}, k < l.length → l.Perm (l.getD k 0 :: l.eraseIdx k)
  | [], k, h => by simp at h
  | a :: l, 0, _ => List.Perm.refl _
  | a :: l, k + 1, h => by
    have ih := perm_getD_eraseIdx (l := l) (k := k) (by simpa using h)
    show (a :: l).Perm (l.getD k 0 :: a :: l.eraseIdx k)
    exact (List.Perm.cons a ih).trans (List.Perm.swap _ _ _)
/-- alone -/
theorem packs_alone {L x : Int} {init : List Int} {gs : List (List Int)} (hx : x ≤ L) (h : Packs L init gs) : Packs L (init ++ [x]) ([x] :: gs) := by
  refine ⟨?_, fun g hg => ?_⟩
  · rw [List.flatten_cons]
    exact List.perm_append_comm.trans (h.1.append_right _)
  · rcases List.mem_cons.mp hg with rfl | hg
    · exact .inl ⟨x, rfl, hx⟩
    · exact h.2 g hg
/-- with the one at k -/
theorem packs_with {L x : Int} {init : List Int} {gs : List (List Int)} {k : Nat} (hk : k < init.length) (hx : init.getD k 0 + x ≤ L) (h : Packs L (init.eraseIdx k) gs) : Packs L (init ++ [x]) ([init.getD k 0, x] :: gs) := by
  refine ⟨?_, fun g hg => ?_⟩
  · rw [List.flatten_cons]
    have a : ([init.getD k 0, x] ++ gs.flatten).Perm ([init.getD k 0, x] ++ init.eraseIdx k) := h.1.append_left _
    refine a.trans ?_
    have b : (init.getD k 0 :: init.eraseIdx k ++ [x]).Perm (init ++ [x]) := (perm_getD_eraseIdx hk).symm.append_right _
    refine List.Perm.trans ?_ b
    show (init.getD k 0 :: x :: init.eraseIdx k).Perm (init.getD k 0 :: (init.eraseIdx k ++ [x]))
    exact List.Perm.cons _ (List.perm_append_comm (l₁ := [x]))
  · rcases List.mem_cons.mp hg with rfl | hg
    · exact .inr ⟨_, _, rfl, hx⟩
    · exact h.2 g hg
/-- a way to send init and x sends x alone, or with some one of init -/
theorem packs_last {L x : Int} {init : List Int} {gs : List (List Int)} (h : Packs L (init ++ [x]) gs) :
    (∃ hs, Packs L init hs ∧ gs.length = hs.length + 1) ∨ ∃ k, k < init.length ∧ init.getD k 0 + x ≤ L ∧ ∃ hs, Packs L (init.eraseIdx k) hs ∧ gs.length = hs.length + 1 := by
  have hm : x ∈ gs.flatten := h.1.mem_iff.mpr (by simp)
  obtain ⟨g, hg, hxg⟩ := List.mem_flatten.mp hm
  obtain ⟨s, t, rfl⟩ := List.append_of_mem hg
  have rest : ∀ y ∈ s ++ t, Group L y := fun y hy => h.2 y (by
    rcases List.mem_append.mp hy with z | z
    · exact List.mem_append_left _ z
    · exact List.mem_append_right _ (List.mem_cons_of_mem _ z))
  have P0 : (g ++ (s ++ t).flatten).Perm (init ++ [x]) := by
    have a := h.1
    rw [List.flatten_append, List.flatten_cons] at a
    rw [List.flatten_append]
    have b : (g ++ (s.flatten ++ t.flatten)).Perm (s.flatten ++ (g ++ t.flatten)) := by
      rw [← List.append_assoc, ← List.append_assoc]
      exact List.perm_append_comm.append_right _
    exact b.trans a
  have len : (s ++ g :: t).length = (s ++ t).length + 1 := by simp; omega
  have two : ∀ c, g.Perm [x, c] → c + x ≤ L → (∃ hs, Packs L init hs ∧ (s ++ g :: t).length = hs.length + 1) ∨ ∃ k, k < init.length ∧ init.getD k 0 + x ≤ L ∧ ∃ hs, Packs L (init.eraseIdx k) hs ∧ (s ++ g :: t).length = hs.length + 1 := fun c hc hcx => by
    right
    have P1 : (x :: c :: (s ++ t).flatten).Perm (x :: init) := ((hc.append_right _).symm.trans P0).trans List.perm_append_comm
    have P2 : (c :: (s ++ t).flatten).Perm init := P1.cons_inv
    obtain ⟨k, hk⟩ := List.mem_iff_getElem?.mp (P2.mem_iff.mp List.mem_cons_self)
    have hkl := (List.getElem?_eq_some_iff.mp hk).1
    have ec : init.getD k 0 = c := by rw [List.getD_eq_getElem?_getD, hk]; rfl
    refine ⟨k, hkl, by rw [ec]; exact hcx, s ++ t, ⟨?_, rest⟩, len⟩
    have P3 := P2.trans (perm_getD_eraseIdx hkl)
    rw [ec] at P3
    exact P3.cons_inv
  rcases h.2 g hg with ⟨a, rfl, ha⟩ | ⟨a, b, rfl, hab⟩
  · have e : x = a := by simpa using hxg
    subst e
    left
    exact ⟨s ++ t, ⟨(P0.trans List.perm_append_comm).cons_inv, rest⟩, len⟩
  · have e : x = a ∨ x = b := by simpa using hxg
    rcases e with rfl | rfl
    · exact two b (List.Perm.refl _) (by omega)
    · exact two a (List.Perm.swap _ _ _) (by omega)
/-- the loop of the trial: what is found so far is the least of those tried -/
theorem MinPk.last {L x : Int} {init : List Int} {c : Nat} {cs : Nat → Nat} {r : Nat} (hx : x ≤ L) (h0 : MinPk L init c) (hk : ∀ k, k < init.length → init.getD k 0 + x ≤ L → MinPk L (init.eraseIdx k) (cs k))
    (hr : r = c + 1 ∨ ∃ k, k < init.length ∧ init.getD k 0 + x ≤ L ∧ r = cs k + 1) (hle : r ≤ c + 1 ∧ ∀ k, k < init.length → init.getD k 0 + x ≤ L → r ≤ cs k + 1) : MinPk L (init ++ [x]) r := by
  constructor
  · rcases hr with rfl | ⟨k, hkl, hkx, rfl⟩
    · obtain ⟨gs, p, rfl⟩ := h0.1
      exact ⟨_, packs_alone hx p, rfl⟩
    · obtain ⟨gs, p, e⟩ := (hk k hkl hkx).1
      exact ⟨_, packs_with hkl hkx p, by rw [List.length_cons, e]⟩
  · intro gs p
    rcases packs_last p with ⟨hs, q, e⟩ | ⟨k, hkl, hkx, hs, q, e⟩
    · have := h0.2 hs q
      omega
    · have := (hk k hkl hkx).2 hs q
      have := hle.2 k hkl hkx
      omega
theorem MinPk.last' {L x : Int} {init : List Int} {c r : Nat} (hx : x ≤ L) (h0 : MinPk L init c)
    (hr : r = c + 1 ∨ ∃ k d, k < init.length ∧ init.getD k 0 + x ≤ L ∧ MinPk L (init.eraseIdx k) d ∧ r = d + 1) (h1 : r ≤ c + 1) (h2 : ∀ k, k < init.length → init.getD k 0 + x ≤ L → ∃ d, MinPk L (init.eraseIdx k) d ∧ r ≤ d + 1) : MinPk L (init ++ [x]) r := by
  constructor
  · rcases hr with rfl | ⟨k, d, hkl, hkx, hd, rfl⟩
    · obtain ⟨gs, p, rfl⟩ := h0.1
      exact ⟨_, packs_alone hx p, rfl⟩
    · obtain ⟨gs, p, e⟩ := hd.1
      exact ⟨_, packs_with hkl hkx p, by rw [List.length_cons, e]⟩
  · intro gs p
    rcases packs_last p with ⟨hs, q, e⟩ | ⟨k, hkl, hkx, hs, q, e⟩
    · have := h0.2 hs q
      omega
    · obtain ⟨d, hd, hle⟩ := h2 k hkl hkx
      have := hd.2 hs q
      omega
end Bp

end

section
set_option linter.all false
set_option autoImplicit false
namespace Bp

/-! ### two by two: each pick of one, with the rest -/
def picks : List Int → List (Int × List Int)
  | [] => []
  | y :: r => (y, r) :: (picks r).map fun p => (p.1, y :: p.2)
def sumP (l : List (Int × List Int)) (f : Int → List Int → Nat) : Nat := (l.map fun p => f p.1 p.2).sum
theorem sumP_cons (y : Int) (r : List Int) (f : Int → List Int → Nat) : sumP (picks (y :: r)) f = f y r + sumP (picks r) (fun z s => f z (y :: s)) := by
  unfold sumP
  rw [picks, List.map_cons, List.sum_cons, List.map_map]
  rfl
theorem sumP_nil (f : Int → List Int → Nat) : sumP (picks []) f = 0 := rfl
theorem sumP_congr {f g : Int → List Int → Nat} : ∀ {r : List Int}, (∀ z s, r.Perm (z :: s) → f z s = g z s) → sumP (picks r) f = sumP (picks r) g
  | [], _ => rfl
  | y :: r, h => by
    rw [sumP_cons, sumP_cons, h y r (List.Perm.refl _), sumP_congr (r := r) fun z s hp => h z (y :: s) ((hp.cons y).trans (List.Perm.swap _ _ _))]
theorem sumP_add (f g : Int → List Int → Nat) : ∀ r : List Int, sumP (picks r) (fun z s => f z s + g z s) = sumP (picks r) f + sumP (picks r) g
  | [] => rfl
  | y :: r => by
    rw [sumP_cons, sumP_cons, sumP_cons, sumP_add (fun z s => f z (y :: s)) (fun z s => g z (y :: s)) r]
    omega
/-- f that asks the rest's items alone -/
def Sym (f : Int → List Int → Nat) : Prop := ∀ z s t, s.Perm t → f z s = f z t
theorem sumP_perm {r r' : List Int} (h : r.Perm r') : ∀ f, Sym f → sumP (picks r) f = sumP (picks r') f := by
  induction h with
  | nil => intro f _; rfl
  | cons y h ih =>
    intro f hf
    rw [sumP_cons, sumP_cons, hf y _ _ h, ih (fun z s => f z (y :: s)) fun z s t q => hf z _ _ (q.cons y)]
  | swap y x l =>
    intro f hf
    rw [sumP_cons, sumP_cons, sumP_cons, sumP_cons, sumP_congr (f := fun z s => f z (y :: x :: s)) (g := fun z s => f z (x :: y :: s)) fun z s _ => hf z _ _ (List.Perm.swap _ _ _)]
    omega
  | trans _ _ a b => intro f hf; rw [a f hf, b f hf]
/-- two picks, one after the other: either way -/
theorem sumP_two (g : Int → Int → List Int → Nat) : ∀ r : List Int, sumP (picks r) (fun z s => sumP (picks s) fun u t => g z u t) = sumP (picks r) (fun z s => sumP (picks s) fun u t => g u z t)
  | [] => rfl
  | y :: r => by
    rw [sumP_cons, sumP_cons]
    have e1 : sumP (picks r) (fun z s => sumP (picks (y :: s)) fun u t => g z u t) = sumP (picks r) (fun z s => g z y s) + sumP (picks r) (fun z s => sumP (picks s) fun u t => g z u (y :: t)) := by
      rw [← sumP_add]
      exact sumP_congr fun z s _ => sumP_cons y s _
    have e2 : sumP (picks r) (fun z s => sumP (picks (y :: s)) fun u t => g u z t) = sumP (picks r) (fun z s => g y z s) + sumP (picks r) (fun z s => sumP (picks s) fun u t => g u z (y :: t)) := by
      rw [← sumP_add]
      exact sumP_congr fun z s _ => sumP_cons y s _
    rw [e1, e2, sumP_two (fun z u t => g z u (y :: t)) r]
    omega

/-! ### the ways -/
/-- of fuel k: the first one with each other -/
def Tk (L : Int) : Nat → List Int → Nat
  | _, [] => 1
  | 0, _ :: _ => 0
  | k + 1, x :: r => sumP (picks r) fun z s => if z + x ≤ L then Tk L k s else 0
theorem Tk_nil (L : Int) (k : Nat) : Tk L k [] = 1 := by cases k <;> rfl
theorem Tk_perm (L : Int) : ∀ (k : Nat) {l l' : List Int}, l.Perm l' → Tk L k l = Tk L k l' := by
  intro k
  induction k with
  | zero =>
    intro l l' h
    cases l with
    | nil => rw [h.nil_eq]
    | cons x r =>
      cases l' with
      | nil => exact absurd h.eq_nil (by simp)
      | cons y s => rfl
  | succ k ih =>
    have sym : ∀ x, Sym fun z s => if z + x ≤ L then Tk L k s else 0 := fun x z s t h => by
      show (if z + x ≤ L then Tk L k s else 0) = if z + x ≤ L then Tk L k t else 0
      rw [ih h]
    intro l l' h
    induction h with
    | nil => rfl
    | cons x h _ => exact sumP_perm h _ (sym x)
    | swap x y r =>
      show sumP (picks (x :: r)) (fun z s => if z + y ≤ L then Tk L k s else 0) = sumP (picks (y :: r)) (fun z s => if z + x ≤ L then Tk L k s else 0)
      rw [sumP_cons, sumP_cons, Int.add_comm x y]
      congr 1
      cases k with
      | zero =>
        refine sumP_congr fun z s _ => ?_
        show (if z + y ≤ L then 0 else 0) = (if z + x ≤ L then 0 else 0)
        split <;> split <;> rfl
      | succ k =>
        have e : ∀ a b : Int, sumP (picks r) (fun z s => if z + a ≤ L then Tk L (k + 1) (b :: s) else 0) = sumP (picks r) (fun z s => sumP (picks s) fun u t => if z + a ≤ L ∧ u + b ≤ L then Tk L k t else 0) := fun a b => by
          refine sumP_congr fun z s _ => ?_
          show (if z + a ≤ L then sumP (picks s) (fun u t => if u + b ≤ L then Tk L k t else 0) else 0) = _
          by_cases c : z + a ≤ L
          · rw [if_pos c]
            refine sumP_congr fun u t _ => ?_
            by_cases d : u + b ≤ L
            · rw [if_pos d, if_pos ⟨c, d⟩]
            · rw [if_neg d, if_neg fun q => d q.2]
          · rw [if_neg c]
            have : ∀ s : List Int, sumP (picks s) (fun _ _ => 0) = 0 := fun s => by
              induction s with
              | nil => rfl
              | cons y s ih => rw [sumP_cons, ih]
            refine (this s).symm.trans (sumP_congr fun u t _ => ?_)
            rw [if_neg fun q => c (And.left q)]
        rw [e, e, sumP_two]
        refine sumP_congr fun z s _ => sumP_congr fun u t _ => ?_
        by_cases c : u + y ≤ L ∧ z + x ≤ L
        · rw [if_pos c, if_pos ⟨c.2, c.1⟩]
        · rw [if_neg c, if_neg fun q => c ⟨q.2, q.1⟩]
    | trans _ _ a b => rw [a, b]
theorem picks_len {r : List Int} {z : Int} {s : List Int} (h : r.Perm (z :: s)) : s.length + 1 = r.length := by
  rw [h.length_eq]
  rfl
theorem Tk_more (L : Int) : ∀ (k j : Nat) (l : List Int), l.length ≤ 2 * k → l.length ≤ 2 * j → Tk L k l = Tk L j l
  | _, _, [], _, _ => by rw [Tk_nil, Tk_nil]
  | 0, _, _ :: _, h, _ => by simp at h
  | _, 0, _ :: _, _, h => by simp at h
  | k + 1, j + 1, x :: r, h1, h2 => by
    refine sumP_congr fun z s hp => ?_
    have := picks_len hp
    rw [List.length_cons] at h1 h2
    rw [Tk_more L k j s (by omega) (by omega)]
/-- how many ways there are to send all in boats of two -/
def T (L : Int) (l : List Int) : Nat := Tk L l.length l
theorem T_nil (L : Int) : T L [] = 1 := rfl
theorem T_perm {L : Int} {l l' : List Int} (h : l.Perm l') : T L l = T L l' := by
  unfold T
  rw [h.length_eq]
  exact Tk_perm L _ h
theorem T_cons (L x : Int) (r : List Int) : T L (x :: r) = sumP (picks r) fun z s => if z + x ≤ L then T L s else 0 := by
  show Tk L (r.length + 1) (x :: r) = _
  refine sumP_congr fun z s hp => ?_
  have := picks_len hp
  unfold T
  rw [Tk_more L r.length s.length s (by omega) (by omega)]
/-- .. by places -/
theorem sumP_range (f : Int → List Int → Nat) : ∀ r : List Int, sumP (picks r) f = ((List.range r.length).map fun k => f (r.getD k 0) (r.eraseIdx k)).sum
  | [] => rfl
  | y :: r => by
    rw [sumP_cons, sumP_range (fun z s => f z (y :: s)) r, List.length_cons, List.range_succ_eq_map, List.map_cons, List.sum_cons, List.map_map]
    rfl
theorem T_last (L x : Int) (init : List Int) : T L (init ++ [x]) = ((List.range init.length).map fun k => if init.getD k 0 + x ≤ L then T L (init.eraseIdx k) else 0).sum := by
  rw [T_perm (List.perm_append_comm (l₁ := init) (l₂ := [x]))]
  show T L (x :: init) = _
  rw [T_cons, sumP_range]

/-! ### all light: any two may -/
/-- 1 * 3 * 5 ..: all may go with all -/
def E : Nat → Nat
  | 0 => 1
  | 1 => 0
  | n + 2 => (n + 1) * E n
theorem sumP_const (c : Nat) : ∀ {r : List Int} {f : Int → List Int → Nat}, (∀ z s, r.Perm (z :: s) → f z s = c) → sumP (picks r) f = r.length * c
  | [], _, _ => by rw [sumP_nil]; simp
  | y :: r, f, h => by
    rw [sumP_cons, h y r (List.Perm.refl _), sumP_const c (r := r) fun z s hp => h z (y :: s) ((hp.cons y).trans (List.Perm.swap _ _ _)), List.length_cons, Nat.add_mul]
    omega
theorem T_light {L : Int} : ∀ (n : Nat) {l : List Int}, l.length = n → (∀ w ∈ l, 2 * w ≤ L) → T L l = E n
  | 0, l, hn, _ => by rw [List.length_eq_zero_iff.mp hn]; rfl
  | 1, l, hn, _ => by
    obtain ⟨x, rfl⟩ := List.length_eq_one_iff.mp hn
    rfl
  | n + 2, l, hn, h => by
    cases l with
    | nil => simp at hn
    | cons x r =>
      have hr : r.length = n + 1 := by simpa using hn
      rw [T_cons, sumP_const (E n) fun z s hp => ?_, hr]
      · rfl
      · have h1 := h x List.mem_cons_self
        have h2 := h z (List.mem_cons_of_mem _ (hp.mem_iff.mpr List.mem_cons_self))
        rw [if_pos (by omega)]
        exact T_light n (by have := picks_len hp; omega) fun w hw => h w (List.mem_cons_of_mem _ (hp.mem_iff.mpr (List.mem_cons_of_mem _ hw)))

/-! ### heavy ones take a light one each -/
/-- how many of ls may go with h -/
def fit (L : Int) (ls : List Int) (h : Int) : Int := (ls.countP fun l => decide (l + h ≤ L) : Nat)
def Ez (n : Int) : Int := if n < 0 then 0 else E n.toNat
/-- the product: for each heavy one how many are left to choose from, then the light ones left -/
def G (L : Int) (ls : List Int) : Int → List Int → Int
  | d, [] => Ez (ls.length - d)
  | d, h :: hs => (fit L ls h - d) * G L ls (d + 1) hs
theorem fit_pick {L z h : Int} {ls s : List Int} (hp : ls.Perm (z :: s)) (hz : z + h ≤ L) : fit L s h = fit L ls h - 1 := by
  unfold fit
  rw [hp.countP_eq, List.countP_cons_of_pos (by exact decide_eq_true hz)]
  omega
theorem G_pick {L z : Int} {ls s : List Int} (hp : ls.Perm (z :: s)) : ∀ (hs : List Int) (d : Int), (∀ h ∈ hs, z + h ≤ L) → G L s d hs = G L ls (d + 1) hs
  | [], d, _ => by
    have := picks_len hp
    show Ez (s.length - d) = Ez (ls.length - (d + 1))
    congr 1
    omega
  | h :: hs, d, hz => by
    show (fit L s h - d) * G L s (d + 1) hs = (fit L ls h - (d + 1)) * G L ls (d + 1 + 1) hs
    rw [G_pick hp hs (d + 1) fun x hx => hz x (List.mem_cons_of_mem _ hx), fit_pick hp (hz h List.mem_cons_self)]
    congr 1
    omega
/-- a pick out of hs ++ ls where none of hs may -/
theorem sumP_skip {f : Int → List Int → Nat} : ∀ (hs ls : List Int), (∀ z s, z ∈ hs → f z s = 0) → sumP (picks (hs ++ ls)) f = sumP (picks ls) fun z s => f z (hs ++ s)
  | [], ls, _ => rfl
  | h :: hs, ls, hf => by
    rw [List.cons_append, sumP_cons, hf h _ List.mem_cons_self, Nat.zero_add, sumP_skip (f := fun z s => f z (h :: s)) hs ls fun z s hz => hf z (h :: s) (List.mem_cons_of_mem _ hz)]
    rfl
theorem sumP_if {L h : Int} {c : Nat} : ∀ {r : List Int} {f : Int → List Int → Nat}, (∀ z s, r.Perm (z :: s) → z + h ≤ L → f z s = c) → (∀ z s, ¬ z + h ≤ L → f z s = 0) → sumP (picks r) f = r.countP (fun l => decide (l + h ≤ L)) * c
  | [], _, _, _ => by rw [sumP_nil]; simp
  | y :: r, f, h1, h2 => by
    rw [sumP_cons, sumP_if (c := c) (r := r) (f := fun z s => f z (y :: s)) (fun z s hp hz => h1 z (y :: s) ((hp.cons y).trans (List.Perm.swap _ _ _)) hz) fun z s hz => h2 z _ hz]
    by_cases q : y + h ≤ L
    · rw [h1 y r (List.Perm.refl _) q, List.countP_cons_of_pos (by exact decide_eq_true q), Nat.add_mul]
      omega
    · rw [h2 y r q, List.countP_cons_of_neg (by rw [decide_eq_false q]; exact Bool.false_ne_true)]
      omega
theorem T_heavy {L : Int} : ∀ (hs : List Int) {ls : List Int}, (∀ w ∈ ls, 2 * w ≤ L) → (∀ h ∈ hs, L < 2 * h) → hs.Pairwise (· ≥ ·) → (T L (hs ++ ls) : Int) = G L ls 0 hs
  | [], ls, hl, _, _ => by
    show (T L ls : Int) = Ez (ls.length - 0)
    rw [T_light ls.length rfl hl]
    unfold Ez
    rw [if_neg (by omega)]
    simp
  | h :: hs, ls, hl, hh, hd => by
    have hh1 := hh h List.mem_cons_self
    have hd' := List.pairwise_cons.mp hd
    rw [List.cons_append, T_cons, sumP_skip hs ls fun z s hz => if_neg (by have := hh z (List.mem_cons_of_mem _ hz); omega)]
    have step : ∀ z s, ls.Perm (z :: s) → z + h ≤ L → (T L (hs ++ s) : Int) = G L ls 1 hs := fun z s hp hz => by
      rw [T_heavy hs (fun w hw => hl w (hp.mem_iff.mpr (List.mem_cons_of_mem _ hw))) (fun w hw => hh w (List.mem_cons_of_mem _ hw)) hd'.2]
      exact G_pick hp hs 0 fun x hx => by have := hd'.1 x hx; omega
    show ((sumP (picks ls) fun z s => if z + h ≤ L then T L (hs ++ s) else 0 : Nat) : Int) = (fit L ls h - 0) * G L ls (0 + 1) hs
    by_cases hne : ∃ z s, ls.Perm (z :: s) ∧ z + h ≤ L
    · obtain ⟨z, s, hp, hz⟩ := hne
      have e := step z s hp hz
      rw [sumP_if (h := h) (L := L) (c := T L (hs ++ s)) (fun z' s' hp' hz' => ?_) fun z' s' hz' => if_neg hz']
      · unfold fit
        rw [Int.natCast_mul, e]
        simp
      · rw [if_pos hz']
        have e' := step z' s' hp' hz'
        omega
    · have e0 : ls.countP (fun l => decide (l + h ≤ L)) = 0 := List.countP_eq_zero.mpr fun x hx => by
        rw [decide_eq_true_eq]
        intro q
        obtain ⟨a, b, rfl⟩ := List.append_of_mem hx
        exact hne ⟨x, a ++ b, List.perm_middle, q⟩
      rw [sumP_if (h := h) (L := L) (c := 0) (fun z' s' hp' hz' => absurd ⟨z', s', hp', hz'⟩ hne) fun z' s' hz' => if_neg hz']
      unfold fit
      rw [e0]
      simp
end Bp

end

section
set_option linter.all false
set_option autoImplicit false
namespace Bp
/-! ### all cross: by counts -/
theorem count_one {l : List Int} (h : l.Nodup) {a : Int} (m : a ∈ l) : l.count a = 1 := by
  rw [h.count, if_pos m]
def goodB (ws : List Int) (L : Int) (b : List Int) : Prop := BoatOk ws L b ∧ ∀ p ∈ b, 0 ≤ p ∧ p < ws.length
theorem cross_iff {ws : List Int} {L : Int} {bs : List (List Int)} : AllCross ws L bs ↔ (∀ b ∈ bs, goodB ws L b) ∧ ∀ p : Nat, p < ws.length → bs.flatten.count (p : Int) = 1 := by
  constructor
  · intro h
    refine ⟨fun b hb => ⟨h.2 b hb, fun p hp => ?_⟩, fun p hp => ?_⟩
    · exact mem_pers.mp (h.1.mem_iff.mp (List.mem_flatten.mpr ⟨b, hb, hp⟩))
    · rw [h.1.count_eq]
      exact count_one (pers_nodup _) (mem_pers.mpr ⟨by omega, by omega⟩)
  · rintro ⟨h1, h2⟩
    refine ⟨List.perm_iff_count.mpr fun a => ?_, fun b hb => (h1 b hb).1⟩
    by_cases ha : a ∈ pers ws.length
    · have hr := mem_pers.mp ha
      obtain ⟨p, rfl⟩ : ∃ p : Nat, a = (p : Int) := ⟨a.toNat, by omega⟩
      rw [h2 p (by omega), count_one (pers_nodup _) ha]
    · rw [List.count_eq_zero_of_not_mem ha, List.count_eq_zero_of_not_mem]
      intro hf
      obtain ⟨b, hb, hp⟩ := List.mem_flatten.mp hf
      exact ha (mem_pers.mpr ((h1 b hb).2 a hp))
def metL (n : Nat) (l : List Int) : List Int := (List.range n).map fun p : Nat => ((l.count (p : Int) : Nat) : Int)
theorem metL_len (n : Nat) (l : List Int) : (metL n l).length = n := by simp [metL]
theorem metL_get {n p : Nat} (l : List Int) (h : p < n) : (metL n l).getD p 0 = (l.count (p : Int) : Nat) := by
  rw [List.getD_eq_getElem?_getD, metL, List.getElem?_map, List.getElem?_range h]
  rfl
theorem metL_nil (n : Nat) : metL n [] = List.replicate n 0 := by
  unfold metL
  refine List.ext_getElem (by simp) fun i h1 h2 => ?_
  simp
theorem metL_set {n p : Nat} (l : List Int) (h : p < n) : (metL n l).set p (((l.count (p : Int) : Nat) : Int) + 1) = metL n (l ++ [(p : Int)]) := by
  refine List.ext_getElem (by simp [metL]) fun i h1 h2 => ?_
  rw [List.getElem_set]
  simp only [metL, List.getElem_map, List.getElem_range, List.count_append, List.count_singleton]
  by_cases e : p = i
  · subst e
    simp
  · rw [if_neg e, if_neg (by simp; omega)]
    simp
theorem no_zero {ws : List Int} {L : Int} {bs : List (List Int)} (h : AllCross ws L bs) : ¬ AllCross ws L (bs ++ [[0]]) := fun k => by
  have h1 := h.1.length_eq
  have h2 := k.1.length_eq
  rw [flat_snoc, List.length_append, h1, List.length_singleton] at h2
  omega
theorem boat_sum {ws : List Int} {L : Int} {b : List Int} (s : (∃ i, b = [i]) ∨ ∃ i j, b = [i, j] ∧ i < j) : BoatOk ws L b ↔ (b.map (wAt ws)).sum ≤ L := by
  rcases s with ⟨i, rfl⟩ | ⟨i, j, rfl, h⟩
  · simp only [List.map_cons, List.map_nil, List.sum_cons, List.sum_nil, Int.add_zero]
    constructor
    · rintro (⟨i', e, z⟩ | ⟨i', j, e, _⟩)
      · cases e
        exact z
      · cases e
    · exact fun z => .inl ⟨i, rfl, z⟩
  · simp only [List.map_cons, List.map_nil, List.sum_cons, List.sum_nil, Int.add_zero]
    constructor
    · rintro (⟨i', e, z⟩ | ⟨i', j', e, _, z⟩)
      · cases e
      · cases e
        exact z
    · exact fun z => .inr ⟨i, j, rfl, h, z⟩
theorem boat_shape {ws : List Int} {L : Int} {b : List Int} (h : BoatOk ws L b) : (∃ i, b = [i]) ∨ ∃ i j, b = [i, j] ∧ i < j := by
  rcases h with ⟨i, e, _⟩ | ⟨i, j, e, h, _⟩
  · exact .inl ⟨i, e⟩
  · exact .inr ⟨i, j, e, h⟩
theorem shape_of {b : List Int} (h0 : b.length ≠ 0) (h2 : b.length ≤ 2) (h : b.length = 2 → b.getD 0 0 < b.getD 1 0) : (∃ i, b = [i]) ∨ ∃ i j, b = [i, j] ∧ i < j := by
  match b, h0, h2, h with
  | [], h0, _, _ => exact absurd rfl h0
  | [i], _, _, _ => exact .inl ⟨i, rfl⟩
  | [i, j], _, _, h => exact .inr ⟨i, j, rfl, h rfl⟩
  | i :: j :: k :: r, _, h2, _ => simp at h2
theorem asked_bound (m L : Int) (ws : List Int) : ((ws.countP (aloneP m L) : Nat) : Int) + ((ws.countP (betwP m L) : Nat) : Int) / 2 + ((ws.countP (betwP m L) : Nat) : Int) % 2 = (asked m L ws : Nat) := by
  unfold asked
  omega
theorem opt1346 {c : Nat} (h : Opt 7 [1, 3, 4, 6] c) : c = 2 := by
  have h1 := h.half.1
  have h2 := h.le (gs := [[1, 6], [3, 4]]) ⟨by decide, fun g hg => by
    rcases List.mem_cons.mp hg with rfl | hg
    · exact .inr ⟨1, 6, rfl, by decide⟩
    · rw [List.mem_singleton.mp hg]
      exact .inr ⟨3, 4, rfl, by decide⟩⟩
  simp at h1 h2
  omega
theorem some_ints {α : Type} {f : Int → α} {ws : List Int} : ∀ {ys : List α}, (∀ y ∈ ys, y ∈ ws.map f) → ∃ zs : List Int, ys = zs.map f ∧ ∀ z ∈ zs, z ∈ ws
  | [], _ => ⟨[], rfl, fun z hz => absurd hz (by simp)⟩
  | y :: ys, h => by
    obtain ⟨z, hz, rfl⟩ := List.mem_map.mp (h y List.mem_cons_self)
    obtain ⟨zs, e, hzs⟩ := some_ints (ys := ys) fun x hx => h x (List.mem_cons_of_mem _ hx)
    refine ⟨z :: zs, by rw [e]; rfl, fun x hx => ?_⟩
    rcases List.mem_cons.mp hx with rfl | hx
    · exact hz
    · exact hzs x hx
end Bp

end

section
set_option linter.all false
set_option autoImplicit false
namespace Bp
/-! ### the least limits of small lists -/
theorem sorted_is {rs ws ss : List Int} (h : rs.Perm ws) (hs : rs.Pairwise (· ≤ ·)) (k : ss.Perm ws) (ks : ss.Pairwise (· ≤ ·)) : rs = ss :=
  List.Perm.eq_of_pairwise (fun a b _ _ h1 h2 => Int.le_antisymm h1 h2) hs ks (h.trans k.symm)
theorem least_nil {B v : Int} (hB : 0 ≤ B) (h : Least [] B v) : v = 0 := by
  obtain ⟨rs, _, _, _, _, h3⟩ := h
  rcases h3 with ⟨_, e⟩ | h | ⟨k, hk, _⟩
  · exact e
  · simp at h
  · simp at hk
    omega
theorem least_524_2 {v : Int} (h : Least [5, 2, 4] 2 v) : v = 6 := by
  obtain ⟨rs, hp, hs, h1, h2, h3⟩ := h
  have e := sorted_is (ss := [2, 4, 5]) hp hs (by decide) (by decide)
  subst e
  have a : (6 : Int) ≤ v := h2 0 (by decide)
  rcases h3 with ⟨e, _⟩ | h | ⟨k, hk, e⟩
  · simp at e
  · simp at h
    omega
  · have hk0 : k = 0 := by simp at hk; omega
    subst hk0
    exact e
theorem least_524_3 {v : Int} (h : Least [5, 2, 4] 3 v) : v = 5 := by
  obtain ⟨rs, hp, hs, h1, h2, h3⟩ := h
  have a := h1 5 (by simp)
  rcases h3 with ⟨e, _⟩ | h | ⟨k, hk, e⟩
  · simp at e
  · simp at h
    omega
  · simp at hk
    omega
end Bp

end

section
set_option linter.all false
set_option autoImplicit false
namespace Bp
/-! ### the ways as a product -/
def prodI : List Int → Int
  | [] => 1
  | x :: r => x * prodI r
theorem prodI_app : ∀ a b : List Int, prodI (a ++ b) = prodI a * prodI b
  | [], b => by simp [prodI]
  | x :: a, b => by
    show x * prodI (a ++ b) = x * prodI a * prodI b
    rw [prodI_app a b, Int.mul_assoc]
theorem prodI_one (x : Int) : prodI [x] = x := by simp [prodI]
theorem prodI_size : ∀ {l : List Int}, (∀ x ∈ l, x.natAbs < 2 ^ 16) → (prodI l).natAbs < 2 ^ (16 * l.length + 1)
  | [], _ => by decide
  | x :: l, h => by
    have a := h x List.mem_cons_self
    have b := prodI_size (l := l) fun y hy => h y (List.mem_cons_of_mem _ hy)
    show (x * prodI l).natAbs < 2 ^ (16 * (l.length + 1) + 1)
    rw [Int.natAbs_mul, show 16 * (l.length + 1) + 1 = 16 + (16 * l.length + 1) by omega, Nat.pow_add]
    exact Nat.mul_lt_mul'' a b
/-- heavy one by heavy one -/
def chs (L : Int) (ls hs : List Int) (d : Int) : List Int := (List.range hs.length).map fun t : Nat => fit L ls (hs.getD t 0) - (d + t)
theorem chs_cons (L : Int) (ls hs : List Int) (h d : Int) : chs L ls (h :: hs) d = (fit L ls h - d) :: chs L ls hs (d + 1) := by
  unfold chs
  rw [List.length_cons, List.range_succ_eq_map, List.map_cons, List.map_map]
  have e0 : fit L ls ((h :: hs).getD 0 0) - (d + ((0 : Nat) : Int)) = fit L ls h - d := by
    rw [List.getD_cons_zero]
    simp
  rw [e0]
  congr 1
  refine List.map_congr_left fun t _ => ?_
  show fit L ls ((h :: hs).getD (t + 1) 0) - (d + ((t + 1 : Nat) : Int)) = fit L ls (hs.getD t 0) - (d + 1 + t)
  rw [List.getD_cons_succ]
  omega
theorem G_eq (L : Int) (ls : List Int) : ∀ (hs : List Int) (d : Int), G L ls d hs = prodI (chs L ls hs d) * Ez (ls.length - d - hs.length)
  | [], d => by
    show Ez (ls.length - d) = prodI [] * Ez (ls.length - d - 0)
    simp [prodI]
  | h :: hs, d => by
    rw [chs_cons]
    show (fit L ls h - d) * G L ls (d + 1) hs = (fit L ls h - d) * prodI (chs L ls hs (d + 1)) * Ez (ls.length - d - ((hs.length + 1 : Nat) : Int))
    rw [G_eq L ls hs (d + 1), Int.mul_assoc, show (ls.length : Int) - (d + 1) - hs.length = ls.length - d - ((hs.length + 1 : Nat) : Int) by omega]
def odds (k : Nat) : List Int := (List.range k).map fun i : Nat => 1 + (i : Int) * 2
theorem E_even : ∀ k : Nat, (E (2 * k) : Int) = prodI (odds k)
  | 0 => rfl
  | k + 1 => by
    have e : E (2 * (k + 1)) = (2 * k + 1) * E (2 * k) := rfl
    rw [e, Int.natCast_mul, E_even k, odds, odds, List.range_succ, List.map_append, prodI_app, List.map_singleton, prodI_one, Int.mul_comm]
    congr 1
    omega
theorem E_odd : ∀ k : Nat, E (2 * k + 1) = 0
  | 0 => rfl
  | k + 1 => by
    have e : E (2 * (k + 1) + 1) = (2 * k + 1 + 1) * E (2 * k + 1) := rfl
    rw [e, E_odd k, Nat.mul_zero]
theorem Ez_none {x : Int} (h : x < 0 ∨ x % 2 = 1) : Ez x = 0 := by
  unfold Ez
  by_cases c : x < 0
  · rw [if_pos c]
  · rw [if_neg c, show x.toNat = 2 * (x.toNat / 2) + 1 by omega, E_odd]
    rfl
theorem Ez_even {x : Int} (h : ¬ x < 0) (h2 : ¬ x % 2 = 1) : Ez x = prodI (odds (x / 2).toNat) := by
  unfold Ez
  rw [if_neg h, show x.toNat = 2 * (x / 2).toNat by omega, E_even]
def lightP (L w : Int) : Bool := decide (2 * w ≤ L)
def heavyP (L w : Int) : Bool := decide (L < 2 * w)
theorem T_split {L : Int} {ws ls hs : List Int} (hl : ls.Perm (ws.filter (lightP L))) (hh : hs.Perm (ws.filter (heavyP L))) (hd : hs.Pairwise (· ≥ ·)) : (T L ws : Int) = prodI (chs L ls hs 0) * Ez (ls.length - hs.length) := by
  have hw : ws.Perm (hs ++ ls) := by
    have e : (ws.filter (heavyP L)) = ws.filter fun w => !lightP L w := List.filter_congr fun w _ => by
      unfold heavyP lightP
      rw [← decide_not]
      exact decide_eq_decide.mpr (by omega)
    have p : (ws.filter (lightP L) ++ ws.filter fun w => !lightP L w).Perm ws := List.filter_append_perm _ _
    rw [← e] at p
    exact p.symm.trans (List.perm_append_comm.trans ((hh.symm.append_right _).trans (hl.symm.append_left _)))
  rw [T_perm hw, T_heavy hs (fun w hw => ?_) (fun h hh' => ?_) hd, G_eq, Int.sub_zero]
  · have := (List.mem_filter.mp (hl.mem_iff.mp hw)).2
    exact of_decide_eq_true this
  · have := (List.mem_filter.mp (hh.mem_iff.mp hh')).2
    exact of_decide_eq_true this
/-- how many fit, by the first that does not -/
theorem fit_is {L h : Int} {ls : List Int} (hs : ls.Pairwise (· ≤ ·)) {f : Nat} (hf : f ≤ ls.length) (h1 : ∀ j, j < f → ls.getD j 0 + h ≤ L) (h2 : f < ls.length → ¬ ls.getD f 0 + h ≤ L) : fit L ls h = f := by
  unfold fit
  have e : ls.countP (fun l => decide (l + h ≤ L)) = f := by
    conv => lhs; rw [← List.take_append_drop f ls, List.countP_append]
    have a : (ls.take f).countP (fun l => decide (l + h ≤ L)) = f := by
      rw [count_all fun x hx => ?_]
      · rw [List.length_take]
        omega
      · obtain ⟨j, hj⟩ := List.mem_iff_getElem?.mp hx
        rw [List.getElem?_take] at hj
        split at hj
        · rename_i hjf
          have := h1 j hjf
          rw [List.getD_eq_getElem?_getD, hj] at this
          exact decide_eq_true this
        · cases hj
    have b : (ls.drop f).countP (fun l => decide (l + h ≤ L)) = 0 := count_none fun x hx => by
      obtain ⟨j, hj⟩ := List.mem_iff_getElem?.mp hx
      rw [List.getElem?_drop] at hj
      have hjl := (List.getElem?_eq_some_iff.mp hj).1
      have m := getD_le hs (j := f) (k := f + j) (by omega) hjl
      have n := h2 (by omega)
      rw [List.getD_eq_getElem?_getD (i := f + j), hj] at m
      refine decide_eq_false ?_
      show ¬ x + h ≤ L
      have : ls.getD f 0 ≤ x := m
      omega
    rw [a, b]
    omega
  rw [e]
theorem fit_le (L : Int) (ls : List Int) (h : Int) : 0 ≤ fit L ls h ∧ fit L ls h ≤ ls.length := by
  unfold fit
  have := List.countP_le_length (p := fun l => decide (l + h ≤ L)) (l := ls)
  omega
theorem chs_len (L : Int) (ls hs : List Int) (d : Int) : (chs L ls hs d).length = hs.length := by simp [chs]
end Bp

end

section
set_option linter.all false
set_option autoImplicit false
namespace Bp
/-! ### ways or none -/
theorem sumP_pos {f : Int → List Int → Nat} : ∀ {r : List Int}, 0 < sumP (picks r) f → ∃ z s, r.Perm (z :: s) ∧ 0 < f z s
  | [], h => absurd h (by rw [sumP_nil]; exact Nat.lt_irrefl 0)
  | y :: r, h => by
    rw [sumP_cons] at h
    by_cases c : 0 < f y r
    · exact ⟨y, r, List.Perm.refl _, c⟩
    · obtain ⟨z, s, p, q⟩ := sumP_pos (f := fun z s => f z (y :: s)) (r := r) (by omega)
      exact ⟨z, y :: s, (p.cons y).trans (List.Perm.swap _ _ _), q⟩
theorem T_pos_of {L : Int} : ∀ {n : Nat} {ws : List Int}, ws.length ≤ n → 0 < T L ws → ∃ gs : List (List Int), (∀ g ∈ gs, ∃ a b, g = [a, b] ∧ a + b ≤ L) ∧ gs.flatten.Perm ws
  | _, [], _, _ => ⟨[], fun g hg => absurd hg (by simp), List.Perm.refl _⟩
  | 0, _ :: _, h, _ => by simp at h
  | n + 1, x :: r, h, hT => by
    rw [T_cons] at hT
    obtain ⟨z, s, p, q⟩ := sumP_pos hT
    by_cases c : z + x ≤ L
    · rw [if_pos c] at q
      have hl := picks_len p
      rw [List.length_cons] at h
      obtain ⟨gs, h1, h2⟩ := T_pos_of (n := n) (by omega) q
      refine ⟨[x, z] :: gs, fun g hg => ?_, ?_⟩
      · rcases List.mem_cons.mp hg with rfl | hg
        · exact ⟨x, z, rfl, by omega⟩
        · exact h1 g hg
      · rw [List.flatten_cons]
        exact ((h2.cons z).trans p.symm).cons x
    · rw [if_neg c] at q
      exact absurd q (Nat.lt_irrefl 0)
theorem T_of_pairs {L : Int} : ∀ {gs : List (List Int)}, (∀ g ∈ gs, ∃ a b, g = [a, b] ∧ a + b ≤ L) → 0 < T L gs.flatten
  | [], _ => by
    show 0 < T L []
    rw [T_nil]
    decide
  | g :: gs, h => by
    obtain ⟨a, b, rfl, hab⟩ := h g List.mem_cons_self
    have ih := T_of_pairs (gs := gs) fun g hg => h g (List.mem_cons_of_mem _ hg)
    show 0 < T L (a :: b :: gs.flatten)
    rw [T_cons, sumP_cons, if_pos (by omega)]
    omega
theorem T_none_heavy {L : Int} {ws : List Int} {w : Int} (hw : w ∈ ws) (h : L < w) (hp : ∀ w ∈ ws, 1 ≤ w) : T L ws = 0 := by
  rcases Nat.eq_zero_or_pos (T L ws) with e | e
  · exact e
  · exfalso
    obtain ⟨gs, h1, h2⟩ := T_pos_of (Nat.le_refl _) e
    obtain ⟨g, hg, hwg⟩ := List.mem_flatten.mp (h2.mem_iff.mpr hw)
    obtain ⟨a, b, rfl, hab⟩ := h1 g hg
    have pa := hp a (h2.mem_iff.mp (List.mem_flatten.mpr ⟨_, hg, by simp⟩))
    have pb := hp b (h2.mem_iff.mp (List.mem_flatten.mpr ⟨_, hg, by simp⟩))
    have : w = a ∨ w = b := by simpa using hwg
    omega
theorem all_two {L : Int} : ∀ {gs : List (List Int)}, (∀ g ∈ gs, Group L g) → gs.flatten.length = 2 * gs.length → ∀ g ∈ gs, ∃ a b, g = [a, b] ∧ a + b ≤ L
  | [], _, _, g, hg => absurd hg (by simp)
  | x :: gs, h, e, g, hg => by
    have hx := (h x List.mem_cons_self).len
    have hr := flat_len fun g hg => h g (List.mem_cons_of_mem x hg)
    rw [List.flatten_cons, List.length_append, List.length_cons] at e
    rcases List.mem_cons.mp hg with rfl | hg
    · rcases h g List.mem_cons_self with ⟨a, rfl, _⟩ | ⟨a, b, rfl, hab⟩
      · have z : [a].length = 1 := rfl
        omega
      · exact ⟨a, b, rfl, hab⟩
    · exact all_two (fun g hg => h g (List.mem_cons_of_mem x hg)) (by omega) g hg
theorem T_whole {L : Int} {ws : List Int} {c : Nat} (o : Opt L ws c) : 0 < T L ws ↔ 2 * c = ws.length := by
  constructor
  · intro h
    obtain ⟨gs, h1, h2⟩ := T_pos_of (Nat.le_refl _) h
    have hl : ∀ gs : List (List Int), (∀ g ∈ gs, ∃ a b, g = [a, b] ∧ a + b ≤ L) → gs.flatten.length = 2 * gs.length := fun gs h => by
      induction gs with
      | nil => rfl
      | cons g gs ih =>
        obtain ⟨a, b, rfl, _⟩ := h g List.mem_cons_self
        rw [List.flatten_cons, List.length_append, ih fun g hg => h g (List.mem_cons_of_mem _ hg)]
        simp
        omega
    have h3 := hl gs h1
    have h4 := h2.length_eq
    have h5 := o.le (gs := gs) ⟨h2, fun g hg => .inr (h1 g hg)⟩
    have h6 := o.half.1
    omega
  · intro e
    obtain ⟨⟨gs, p, hc⟩, _⟩ := o
    have h1 := all_two p.2 (by rw [p.1.length_eq]; omega)
    have h2 := T_of_pairs h1
    rw [T_perm p.1] at h2
    exact h2
/-! ### the heaviest's mates -/
theorem T_univ {L z : Int} {A : List Int} (h : ∀ y ∈ A, y + z ≤ L) : T L (z :: A) = sumP (picks A) fun _ s => T L s := by
  rw [T_cons]
  exact sumP_congr fun y s p => if_pos (h y (p.mem_iff.mpr List.mem_cons_self))
theorem T_swap {L z z' : Int} {e e' : List Int} (p : (z :: e).Perm (z' :: e')) (h : ∀ y ∈ z :: e, y + z ≤ L ∧ y + z' ≤ L) : T L e = T L e' := by
  by_cases c : z = z'
  · subst c
    exact T_perm p.cons_inv
  · have hm : z' ∈ e := by
      rcases List.mem_cons.mp (p.mem_iff.mpr (List.mem_cons_self (a := z'))) with q | q
      · exact absurd q.symm c
      · exact q
    obtain ⟨a, b, rfl⟩ := List.append_of_mem hm
    have p1 : (a ++ z' :: b).Perm (z' :: (a ++ b)) := List.perm_middle
    have p2 : e'.Perm (z :: (a ++ b)) := by
      have : (z' :: e').Perm (z' :: z :: (a ++ b)) := p.symm.trans ((p1.cons z).trans (List.Perm.swap _ _ _))
      exact this.cons_inv
    rw [T_perm p1, T_perm p2, T_univ fun y hy => (h y ?_).2, T_univ fun y hy => (h y ?_).1]
    · exact List.mem_cons_of_mem _ (p1.mem_iff.mpr (List.mem_cons_of_mem _ hy))
    · exact List.mem_cons_of_mem _ (p1.mem_iff.mpr (List.mem_cons_of_mem _ hy))
theorem T_max {L x z0 : Int} {init e0 : List Int} (hx : ∀ y ∈ init, y ≤ x) (p : init.Perm (z0 :: e0)) (h0 : z0 + x ≤ L) : T L (init ++ [x]) = init.countP (fun w => decide (w + x ≤ L)) * T L e0 := by
  rw [T_perm (List.perm_append_comm (l₁ := init) (l₂ := [x]))]
  show T L (x :: init) = _
  rw [T_cons]
  refine sumP_if (fun z s hp hz => ?_) fun z s hz => if_neg hz
  rw [if_pos hz]
  refine T_swap (hp.symm.trans p) fun y hy => ?_
  have := hx y (hp.mem_iff.mpr hy)
  omega
theorem T_max0 {L x : Int} {init : List Int} (h : ∀ z ∈ init, ¬ z + x ≤ L) : T L (init ++ [x]) = 0 := by
  rw [T_perm (List.perm_append_comm (l₁ := init) (l₂ := [x]))]
  show T L (x :: init) = _
  rw [T_cons, sumP_if (h := x) (L := L) (c := 0) (fun z s hp hz => absurd hz (h z (hp.mem_iff.mpr List.mem_cons_self))) fun z s hz => if_neg hz, Nat.mul_zero]
theorem first_at {k : Int} : ∀ {ns : List Int}, k ∈ ns → ∃ j : Nat, ns[j]? = some k ∧ ∀ m : Nat, m < j → ns[m]? ≠ some k
  | [], h => absurd h (by simp)
  | n :: ns, h => by
    by_cases c : n = k
    · subst c
      exact ⟨0, rfl, fun m hm => absurd hm (Nat.not_lt_zero _)⟩
    · obtain ⟨j, h1, h2⟩ := first_at (ns := ns) (by
        rcases List.mem_cons.mp h with q | q
        · exact absurd q.symm c
        · exact q)
      refine ⟨j + 1, by simpa using h1, fun m hm => ?_⟩
      cases m with
      | zero => simpa using c
      | succ m => simpa using h2 m (by omega)
end Bp

end

section
set_option Elab.async false
set_option linter.all false
set_option maxRecDepth 100000
set_option maxHeartbeats 4000000
namespace Bp
open PySem PySem.Spec PyProof.Rows L2 LamX

/-! ### ints as data -/
theorem reads_ints {h : Heap} : ∀ {vs : List Value} {ns : List Int}, IntsAre vs ns → ReadsAll h vs (ns.map PyData.int) []
  | _, _, .nil => .nil
  | _, _, .cons n t r => .cons (as := []) (.int n t) (reads_ints r)
theorem alike_map (ns : List Int) : PySem.W.AlikeAll (ns.map PyData.int) := by
  refine ⟨fun x hx y hy => ?_, fun x hx => ?_⟩
  · obtain ⟨a, _, rfl⟩ := List.mem_map.mp hx
    obtain ⟨b, _, rfl⟩ := List.mem_map.mp hy
    simp [PySem.W.alike]
  · obtain ⟨a, _, rfl⟩ := List.mem_map.mp hx
    intro z
    cases z
theorem maxD_ints : ∀ (y : Int) (ys : List Int), ∃ m, PySem.W.maxD (.int y) (ys.map PyData.int) = .int m ∧ m ∈ y :: ys ∧ ∀ j ∈ y :: ys, j ≤ m
  | y, [] => ⟨y, rfl, by simp, fun j hj => by have := List.mem_singleton.mp hj; omega⟩
  | y, z :: zs => by
    have e : PySem.W.maxD (.int y) ((z :: zs).map PyData.int) = PySem.W.maxD (.int (if y < z then z else y)) (zs.map PyData.int) := by
      show PySem.W.maxD (if PySem.W.dataLt (.int y) (.int z) then PyData.int z else .int y) (zs.map PyData.int) = _
      rw [PySem.W.dataLt_int]
      by_cases h : y < z
      · rw [decide_eq_true h, if_pos rfl, if_pos h]
      · rw [decide_eq_false h, if_neg Bool.false_ne_true, if_neg h]
    obtain ⟨m, h1, h2, h3⟩ := maxD_ints (if y < z then z else y) zs
    refine ⟨m, e.trans h1, ?_, fun j hj => ?_⟩
    · rcases List.mem_cons.mp h2 with q | q
      · rw [q]
        split <;> simp
      · exact List.mem_cons_of_mem _ (List.mem_cons_of_mem _ q)
    · have k := h3 _ List.mem_cons_self
      rcases List.mem_cons.mp hj with q | q
      · rw [q]
        split at k <;> omega
      · rcases List.mem_cons.mp q with q | q
        · rw [q]
          split at k <;> omega
        · exact h3 j (List.mem_cons_of_mem _ q)
theorem minD_ints : ∀ (y : Int) (ys : List Int), ∃ m, PySem.W.minD (.int y) (ys.map PyData.int) = .int m ∧ m ∈ y :: ys ∧ ∀ j ∈ y :: ys, m ≤ j
  | y, [] => ⟨y, rfl, by simp, fun j hj => by have := List.mem_singleton.mp hj; omega⟩
  | y, z :: zs => by
    have e : PySem.W.minD (.int y) ((z :: zs).map PyData.int) = PySem.W.minD (.int (if z < y then z else y)) (zs.map PyData.int) := by
      show PySem.W.minD (if PySem.W.dataLt (.int z) (.int y) then PyData.int z else .int y) (zs.map PyData.int) = _
      rw [PySem.W.dataLt_int]
      by_cases h : z < y
      · rw [decide_eq_true h, if_pos rfl, if_pos h]
      · rw [decide_eq_false h, if_neg Bool.false_ne_true, if_neg h]
    obtain ⟨m, h1, h2, h3⟩ := minD_ints (if z < y then z else y) zs
    refine ⟨m, e.trans h1, ?_, fun j hj => ?_⟩
    · rcases List.mem_cons.mp h2 with q | q
      · rw [q]
        split <;> simp
      · exact List.mem_cons_of_mem _ (List.mem_cons_of_mem _ q)
    · have k := h3 _ List.mem_cons_self
      rcases List.mem_cons.mp hj with q | q
      · rw [q]
        split at k <;> omega
      · rcases List.mem_cons.mp q with q | q
        · rw [q]
          split at k <;> omega
        · exact h3 j (List.mem_cons_of_mem _ q)
theorem depth0 (ns : List Int) : PyData.depthAll (ns.map PyData.int) = 0 := PySem.W.depth_ints ns

section
variable {X : Cx}
/-! ### max(xs, default=d), min(t), max(t) -/
def rMaxD (K : PySem.W.Frag) : List V → List V → Hp → VK → Prop := fun vs zs H Q => ∃ (a : Addr) (ns : List Int) (d : Int), vs = [V.ref a] ∧ zs = [V.int d] ∧ SqL K H a (ns.map V.int) ∧ (ns = [] → Q (.int d) H) ∧ ∀ m, m ∈ ns → (∀ j ∈ ns, j ≤ m) → Q (.int m) H
theorem cr_maxD (hc : X.calm = true) (hu : X.A.units + 1 < cLine) : CallRK X (.builtin "max") [Str.ofString "default"] (rMaxD X.K) := by
  intro pins s σ H vs zs us ws Q I r rz h
  obtain ⟨a, ns, d, rfl, rfl, hs, h0, h1⟩ := h
  obtain rfl := Vals.ref1 r
  obtain ⟨w1, rfl, ⟨td, rfl⟩⟩ := vals1 rz
  obtain ⟨its, rv, hl, hz⟩ := I.list hs
  refine PySem.W.max_list_default (xs := ns.map PyData.int) (as := []) (I.ok.hd hc) hl.isList (reads_ints rv.ints) (alike_map ns) (by rw [depth0]; exact hu) (fun e h' tk k => ?_) fun y ys i v h' tk bs e _ rd k => ?_
  · have e' : ns = [] := List.map_eq_nil_iff.mp e
    exact ⟨.int d, H, I.kept k, ⟨td, rfl⟩, h0 e'⟩
  · cases ns with
    | nil => cases e
    | cons n ns =>
      have e1 : PyData.int n = y := (List.cons.inj e).1
      have e2 : ns.map PyData.int = ys := (List.cons.inj e).2
      subst e1 e2
      obtain ⟨m, k1, k2, k3⟩ := maxD_ints n ns
      rw [k1] at rd
      cases rd with
      | int i t => exact ⟨.int m, H, I.kept k, ⟨t, rfl⟩, h1 m k2 k3⟩
def rMinT (K : PySem.W.Frag) : List V → Hp → VK → Prop := fun vs H Q => ∃ (a : Addr) (ns : List Int), vs = [V.ref a] ∧ SqT K H a (ns.map V.int) ∧ ns ≠ [] ∧ ∀ m, m ∈ ns → (∀ j ∈ ns, m ≤ j) → Q (.int m) H
def rMaxT (K : PySem.W.Frag) : List V → Hp → VK → Prop := fun vs H Q => ∃ (a : Addr) (ns : List Int), vs = [V.ref a] ∧ SqT K H a (ns.map V.int) ∧ ns ≠ [] ∧ ∀ m, m ∈ ns → (∀ j ∈ ns, j ≤ m) → Q (.int m) H
theorem cr_minT (hc : X.calm = true) (hu : X.A.units + 1 < cLine) : CallR X (.builtin "min") (rMinT X.K) := by
  intro pins s σ H vs us Q I r h
  obtain ⟨a, ns, rfl, hs, hne, h1⟩ := h
  obtain rfl := Vals.ref1 r
  obtain ⟨its, rv, hl, hz⟩ := I.tuple hs
  cases ns with
  | nil => exact absurd rfl hne
  | cons n ns =>
    refine PySem.W.min_tuple_data (x := .int n) (xs := ns.map PyData.int) (as := []) (I.ok.hd hc) (show s.heap.IsTuple a its.toArray from hl) (reads_ints (ns := n :: ns) rv.ints) (alike_map (n :: ns)) (by rw [show PyData.depthAll (PyData.int n :: ns.map PyData.int) = 0 from depth0 (n :: ns)]; exact hu) fun i v h' tk bs _ rd k => ?_
    obtain ⟨m, k1, k2, k3⟩ := minD_ints n ns
    rw [k1] at rd
    cases rd with
    | int i t => exact ⟨.int m, H, I.kept k, ⟨t, rfl⟩, h1 m k2 k3⟩
theorem cr_maxT (hc : X.calm = true) (hu : X.A.units + 1 < cLine) : CallR X (.builtin "max") (rMaxT X.K) := by
  intro pins s σ H vs us Q I r h
  obtain ⟨a, ns, rfl, hs, hne, h1⟩ := h
  obtain rfl := Vals.ref1 r
  obtain ⟨its, rv, hl, hz⟩ := I.tuple hs
  cases ns with
  | nil => exact absurd rfl hne
  | cons n ns =>
    refine PySem.W.max_tuple_data (x := .int n) (xs := ns.map PyData.int) (as := []) (I.ok.hd hc) (show s.heap.IsTuple a its.toArray from hl) (reads_ints (ns := n :: ns) rv.ints) (alike_map (n :: ns)) (by rw [show PyData.depthAll (PyData.int n :: ns.map PyData.int) = 0 from depth0 (n :: ns)]; exact hu) fun i v h' tk bs _ rd k => ?_
    obtain ⟨m, k1, k2, k3⟩ := maxD_ints n ns
    rw [k1] at rd
    cases rd with
    | int i t => exact ⟨.int m, H, I.kept k, ⟨t, rfl⟩, h1 m k2 k3⟩

/-! ### xs[a:b:c], told as some of xs -/
def tSl3 (K : PySem.W.Frag) (te : TE) (tl th ts : TO) : TE := fun σ H Q => te σ H fun x H1 => tl σ H1 fun l H2 => th σ H2 fun u H3 => ts σ H3 fun c H4 => ∃ a xs, x = .ref a ∧ SqL K H4 a xs ∧ c ≠ some 0 ∧
  ∀ p ys, H4 p = none → (∀ y ∈ ys, y ∈ xs) → ys.length ≤ xs.length → Q (.ref p) (upd H4 p (.lst ys))
theorem slicePick_mem {its : List Value} {lo hi st : Option Int} {v : Value} (h : v ∈ (slicePick its.toArray lo hi st).toList) : v ∈ its := by
  unfold slicePick at h
  dsimp only at h
  obtain ⟨k, _, e⟩ := List.mem_filterMap.mp h
  have e' : its[k]? = some v := by simpa using e
  exact List.mem_of_getElem? e'
theorem vals_some : ∀ {xs : List V} {us : List Value}, Vals xs us → ∀ ws : List Value, (∀ w ∈ ws, w ∈ us) → ∃ ys, Vals ys ws ∧ ∀ y ∈ ys, y ∈ xs
  | xs, us, r, [], _ => ⟨[], .nil, fun _ h => absurd h (by simp)⟩
  | xs, us, r, w :: ws, h => by
    obtain ⟨i, hi⟩ := List.mem_iff_getElem?.mp (h w List.mem_cons_self)
    have hl : i < xs.length := by rw [r.length]; exact (List.getElem?_eq_some_iff.mp hi).1
    obtain ⟨u, e, rv⟩ := r.get (List.getElem?_eq_getElem hl)
    rw [hi] at e
    cases e
    obtain ⟨ys, r2, m⟩ := vals_some r ws fun z hz => h z (List.mem_cons_of_mem _ hz)
    refine ⟨xs[i] :: ys, .cons rv r2, fun y hy => ?_⟩
    rcases List.mem_cons.mp hy with q | q
    · rw [q]
      exact List.getElem_mem hl
    · exact m y q
theorem pe_sl3 {e c : Expr} {lo hi : Option Expr} {te : TE} {tl th ts : TO} {p3 pos : Pos} (he : PE X e te) (hl : PO X lo tl) (hh : PO X hi th) (hs : PO X (some c) ts) : PE X (.Subscript e (.Slice lo hi (some c) p3) pos) (tSl3 X.K te tl th ts) := by
  refine ⟨fun pins s σ H Q I h => ?_⟩
  refine Subscript_ (thn (he.run pins s σ H _ I h) fun v s1 ⟨x, H1, I1, r1, q1⟩ => ?_)
  refine wpAny_Slice (thn (hl.run pins s1 σ H1 _ I1 q1) fun vl s2 ⟨l, H2, I2, pl, q2⟩ => thn (hh.run pins s2 σ H2 _ I2 q2) fun vu s3 ⟨u, H3, I3, pu, q3⟩ => thn (hs.run pins s3 σ H3 _ I3 q3) fun vs s4 ⟨o, H4, I4, ps, q4⟩ => ?_)
  obtain ⟨a, xs, ex, hx, h0, q⟩ := q4
  subst ex
  cases r1
  have I5 : Inv X pins σ H4 { s4 with heap := s4.heap.push { cls := .type "slice", data := .fields #[vl, vu, vs] } } := I4.kept (t' := s4.toks) fun b ob q => Heap.get?_push_of_some _ q
  obtain ⟨its, r, ht, hz⟩ := I5.list hx
  have hlen := r.length
  show wpAny (model X.prog X.w) X.A (subscriptTail e (.Slice lo hi (some c) p3) (.ref a) (.ref s4.heap.objs.size)) (EP X pins σ Q) X.xe { s4 with heap := s4.heap.push { cls := .type "slice", data := .fields #[vl, vu, vs] } }
  refine tail_any (ops := [.ref a, .ref s4.heap.objs.size]) ht.isList.typeIs (PySem.slot_list_getitem.lookup) ?_ (by with_unfolding_all rfl)
  refine wpAny_getItem_list_slice ht.isList (Heap.IsSliceOf.new _ vl vu vs) pl pu ps h0 ?_ (by rw [List.size_toArray]; omega)
  obtain ⟨ys, r2, m⟩ := vals_some r (slicePick its.toArray l u o).toList fun w hw => slicePick_mem hw
  have hsz : ys.length ≤ xs.length := by
    have z := slicePick_size_le its.toArray l u o
    rw [r2.length, Array.length_toList, hlen]
    rw [List.size_toArray] at z
    exact z
  refine ⟨.ref _, _, I5.laid (t' := s4.toks) (o := .lst ys) (fun b ob q => Heap.get?_push_of_some _ q) (Nat.le_refl _) ?_, rfl, q _ ys (I5.hok.fresh (Nat.le_refl _)) m hsz⟩
  exact ⟨Nat.le_trans hsz hz, _, 0, r2, by rw [Array.toArray_toList]; exact Heap.get?_push_size _ rfl⟩
end
end Bp

end

section
set_option Elab.async false
set_option linter.all false
set_option maxRecDepth 100000
set_option maxHeartbeats 4000000
namespace Bp
open PySem PySem.Spec PyProof.Rows L2 LamX

/-! ### a list of tuples of ints -/
def TupI (K : PySem.W.Frag) (H : Hp) (x : V) (ns : List Int) : Prop := ∃ t, x = .ref t ∧ SqT K H t (ns.map V.int)
abbrev RowsI (K : PySem.W.Frag) (H : Hp) : List V → List (List Int) → Prop := Paired (TupI K H)
theorem paired_zip {α β : Type} {R : α → β → Prop} : ∀ {xs : List α} {ys : List β}, Paired R xs ys → ∀ p ∈ ys.zip xs, R p.2 p.1
  | _, _, .nil, p, h => absurd h (by simp)
  | _, _, .cons r t, p, h => by
    rw [List.zip_cons_cons] at h
    rcases List.mem_cons.mp h with e | h
    · rw [e]; exact r
    · exact paired_zip t p h
theorem paired_of_zip {α β : Type} {R : α → β → Prop} : ∀ {l : List (β × α)}, (∀ p ∈ l, R p.2 p.1) → Paired R (l.map (·.2)) (l.map (·.1))
  | [], _ => .nil
  | p :: l, h => .cons (h p List.mem_cons_self) (paired_of_zip fun q hq => h q (List.mem_cons_of_mem _ hq))
theorem each_rel {β : Type} {f : β → V} : ∀ {us : List Value} {bs : List β}, PySem.W.EachIs (fun u b => RelV (f b) u) us bs → Vals (bs.map f) us
  | _, _, .nil => .nil
  | _, _, .cons r t => .cons r (each_rel t)
theorem each_of_zip {bs : List (List Int)} : ∀ {xs : List V} {us : List Value}, Vals xs us → xs.length = bs.length → PySem.W.EachIs (fun (u : Value) (b : List Int × V) => RelV b.2 u) us (bs.zip xs) := by
  induction bs with
  | nil =>
    intro xs us r e
    cases r with
    | nil => exact .nil
    | cons _ _ => cases e
  | cons b bs ih =>
    intro xs us r e
    cases r with
    | nil => cases e
    | cons r t => exact .cons r (ih t (by simpa using e))
theorem each_with {α β : Type} {R S : α → β → Prop} : ∀ {as : List α} {bs : List β}, PySem.W.EachIs R as bs → (∀ a b, b ∈ bs → R a b → S a b) → PySem.W.EachIs S as bs
  | _, _, .nil, _ => .nil
  | _, _, .cons r t, h => .cons (h _ _ List.mem_cons_self r) (each_with t fun a b hb => h a b (List.mem_cons_of_mem _ hb))

section
variable {X : Cx}
theorem TupI.reads {pins : List (Addr × Obj)} {σ : L2.St} {H : Hp} {s : Shared} {x : V} {u : Value} {ns : List Int} (I : Inv X pins σ H s) (h : TupI X.K H x ns) (r : RelV x u) : Reads s.heap u (.tuple (ns.map PyData.int)) [] := by
  obtain ⟨t, rfl, ht⟩ := h
  obtain rfl : u = Value.ref t := r
  obtain ⟨its, rv, ⟨o, ho, hc, n, hd⟩, hz⟩ := I.tuple ht
  exact .tuple ho hc hd (reads_ints rv.ints)
/-- sorted(xs), xs a list of tuples of ints of any lengths but 0 -/
def rSortedR (K : PySem.W.Frag) : List V → Hp → VK → Prop := fun vs H Q => ∃ (a : Addr) (xs : List V) (bs : List (List Int)), vs = [V.ref a] ∧ SqL K H a xs ∧ RowsI K H xs bs ∧ (∀ b ∈ bs, b ≠ []) ∧
  ∀ ys cs p, RowsI K H ys cs → cs.Perm bs → H p = none → Q (.ref p) (upd H p (.lst ys))
theorem cr_sortedR (hu : X.A.units + 3 < cLine) : CallR X (.builtin "sorted") (rSortedR X.K) := by
  intro pins s σ H vs us Q I r h
  obtain ⟨a, xs, bs, rfl, hs, hr, hne, q⟩ := h
  obtain rfl := Vals.ref1 r
  obtain ⟨its, rv, hl, hz⟩ := I.list hs
  have hlen : xs.length = bs.length := Paired.length hr
  have hzl : (bs.zip xs).length = its.length := by rw [List.length_zip, ← rv.length, hlen, Nat.min_self]
  have e0 : PySem.W.EachIs (fun (u : Value) (b : List Int × V) => RelV b.2 u) its (bs.zip xs) := each_of_zip rv hlen
  have hal : PySem.W.AllAlike ((bs.zip xs).map fun b => PyData.tuple (b.1.map PyData.int)) := PySem.W.AllAlike.of fun b b' => by
    simp only [PySem.W.alike]
    exact PySem.W.alike_ints _ _
  have hk : PySem.W.Sortable ((bs.zip xs).map fun b => PyData.tuple (b.1.map PyData.int)) := .inl fun d hd => by
    obtain ⟨b, hb, rfl⟩ := List.mem_map.mp hd
    have hb1 : b.1 ∈ bs := (List.of_mem_zip hb).1
    cases e : b.1 with
    | nil => exact absurd e (hne _ hb1)
    | cons n ns => exact ⟨.int n, ns.map .int, rfl⟩
  refine PySem.W.sorted_data (vs := its) (bs := bs.zip xs) (enc := fun b : List Int × V => PyData.tuple (b.1.map PyData.int)) (R := fun (u : Value) (b : List Int × V) => RelV b.2 u) hl.isList e0
    (each_with e0 fun u b hb ru => ⟨[], TupI.reads I (paired_zip hr b hb) ru⟩) hal hk (by rw [hzl, ← rv.length]; exact hz) (fun b _ => ?_) fun out h1 h2 => ?_
  · have e : (PyData.tuple (b.1.map PyData.int)).depth = 1 := by
      simp only [PyData.depth]
      rw [depth0]
    rw [e]
    exact hu
  · have p : (List.mergeSort (bs.zip xs) (PySem.W.dataLe false fun b : List Int × V => PyData.tuple (b.1.map PyData.int))).Perm (bs.zip xs) := List.mergeSort_perm _ _
    obtain ⟨ep, he'⟩ := PyProof.Rows.sortedAll_at s.heap its out.toArray
    have hv : Vals ((List.mergeSort (bs.zip xs) (PySem.W.dataLe false fun b : List Int × V => PyData.tuple (b.1.map PyData.int))).map (·.2)) out := each_rel h2
    refine ⟨.ref _, upd H (s.heap.objs.size + 1) (.lst _), I.laid (t' := s.toks) (fun _ _ => PyProof.Rows.sortedAll_old) (Nat.le_succ _) ⟨?_, out, ep, hv, he'⟩, rfl, q _ _ _ (paired_of_zip fun b hb => paired_zip hr b (p.mem_iff.mp hb)) ?_ (I.hok.fresh (Nat.le_succ _))⟩
    · rw [List.length_map, p.length_eq, hzl, ← rv.length]
      exact hz
    · have := p.map (·.1)
      rw [List.map_fst_zip (by rw [hlen]; exact Nat.le_refl _)] at this
      exact this

/-! ### sorted(range(n), key=a lambda of one int) -/
theorem range1 : CallR X (.type "range") (fun vs H Q => ∃ j : Int, vs = [V.int j] ∧ ∀ p, H p = none → Q (.ref p) (upd H p (.rng 0 j))) := by
  intro pins s σ H vs us Q I r h
  obtain ⟨j, rfl, q⟩ := h
  obtain ⟨u1, rfl, rj⟩ := vals1 r
  obtain ⟨t, rfl⟩ := rj
  refine call_range_1 ⟨.ref s.heap.objs.size, upd H s.heap.objs.size (.rng 0 j), I.laid (t' := s.toks + 2) (fun b o e => Heap.get?_push_of_some _ e) (Nat.le_refl _) ?_, rfl, q _ (I.hok.fresh (Nat.le_refl _))⟩
  exact ⟨_, _, _, Heap.get?_push_size _ rfl⟩
end
section
variable {prog : Program} {w : World} {A : Around} {E : Value → Shared → Prop} {s : Shared}
theorem items_each : ∀ {n : Nat} {acc : Array Value}, ItemsOf (fun i v => ∃ t, v = Value.int (0 + (i : Int) * 1) t) acc n → PySem.W.EachIs (fun (v : Value) (x : Int) => ∃ t, v = Value.int x t) acc.toList (pers n) := by
  intro n acc h
  obtain ⟨hs, hi⟩ := h
  have key : ∀ (l : List Value) (off : Nat), (∀ i v, l[i]? = some v → ∃ t, v = Value.int ((off + i : Nat) : Int) t) → PySem.W.EachIs (fun (v : Value) (x : Int) => ∃ t, v = Value.int x t) l ((List.range' off l.length).map Int.ofNat) := by
    intro l
    induction l with
    | nil => intro off _; exact .nil
    | cons v l ih =>
      intro off h
      rw [List.length_cons, List.range'_succ, List.map_cons]
      refine .cons (h 0 v rfl) (ih (off + 1) fun i u hu => ?_)
      obtain ⟨t, e⟩ := h (i + 1) u (by simpa using hu)
      exact ⟨t, by rw [e]; congr 2; omega⟩
  have hl : acc.toList.length = n := by rw [Array.length_toList]; exact hs
  have k := key acc.toList 0 fun i v hv => by
    have hlt : i < n := by rw [← hl]; exact (List.getElem?_eq_some_iff.mp hv).1
    obtain ⟨t, e⟩ := hi i v (by rw [← Array.getElem?_toList]; exact hv)
    exact ⟨t, by rw [e]; congr 1; omega⟩
  rw [hl, ← List.range_eq_range'] at k
  exact k
end
end Bp

end

section
set_option Elab.async false
set_option linter.all false
set_option maxRecDepth 100000
set_option maxHeartbeats 4000000
namespace Bp
open PySem PySem.Spec PyProof.Rows L2 LamX

/-! ### a lambda of one parameter that reads xs[i], xs captured -/
section
variable {prog : Program} {w : World} {A : Around} {s : Shared}
/-- one turn of the key -/
theorem lam_item {h : Heap} {tk : Nat} {f c' a cw : Addr} {q xw xp : Str} {params : Arguments} {scope : Scope} {clos : List (Str × Addr)} {pm ctv : Value} {p1 p2 p3 : Pos} {its : List Value} {ws : List Int} {i : Int} {ti : Tok}
    (hroom : A.depth < recursionLimit) (hf : s.heap.get? f = some (PySem.W.kla_obj "<lambda>" q params (.Subscript (.Name xw p1) (.Name xp p2) p3) scope clos pm c' ctv))
    (hcode : ∃ (oc : Obj) (vs : Array Value) (t : Tok), s.heap.get? c' = some oc ∧ oc.data = .fields vs ∧ vs[1]? = some (.str q t)) (lim : s.heap.NoLimit) (kp : ∀ b o, s.heap.get? b = some o → h.get? b = some o)
    (sk : scope.kind = .function) (sco : scope.isCoroutine = false) (sgen : scope.isGenerator = false) (nocell : ∀ x ∈ scope.names, x.2 ≠ .cell) (kp1 : scope.names.lookup xp = some .local) (kw1 : scope.names.lookup xw = some .free)
    (hbind : ∀ v, bindArgs (PySem.W.kla_fn "<lambda>" q params (.Subscript (.Name xw p1) (.Name xp p2) p3) scope clos pm (.ref c') ctv) ⟨[v], []⟩ = pure [(xp, v)])
    (hclo : clos.lookup xw = some cw) (hcell : s.heap.IsCell cw (some (.ref a))) (hl : s.heap.IsList a its.toArray) (hi : IntsAre its ws) (h0 : 0 ≤ i) (h1 : i < ws.length) (hfit : i < 2 ^ 63)
    (d1 : (xw == ("__debug__" : Str)) = false) (d2 : (xp == ("__debug__" : Str)) = false) (d3 : (xw == ("__classdict__" : Str)) = false) :
    wpAny (model prog w) A (call (.ref f) [.int i ti]) (PySem.W.KeyPure (.int (wAt ws i)) { s with heap := h, toks := tk }) (fun _ _ => False) { s with heap := h, toks := tk } := by
  obtain ⟨oc, vs, t, hoc, hdc, hvc⟩ := hcode
  refine wpAny_call (PySem.W.kla_callFunE (s := { s with heap := h, toks := tk }) hroom (kp _ _ hf) rfl sco sgen rfl ⟨c', oc, vs, t, rfl, kp _ _ hoc, hdc, hvc⟩ ?_)
  rw [hbind]
  refine wpAny_pure (wpAny_newFunctionEnv nocell (fun y hy => ?_) (fun h₁ hns hsb => ⟨(lim.keeps kp).fresh _ hsb, ?_⟩) sk)
  · rw [List.mem_singleton.mp hy]
    exact kp1
  have k2 : ∀ b o, h.get? b = some o → h₁.get? b = some o := fun b o e => hsb.extBut b o (Nat.ne_of_lt (Heap.lt_size e)) (Heap.get?_push_of_some _ e)
  have k3 : ∀ b o, s.heap.get? b = some o → h₁.get? b = some o := fun b o e => k2 b o (kp b o e)
  refine PySem.W.kla_codeExpr (wpAny_mono (Q := PySem.W.KeyPure (.int (wAt ws i)) { s with heap := h, toks := tk }) (E := fun _ _ => False) ?_ (fun v s' hq => hq) fun _ _ hF => hF.elim)
  obtain ⟨o2, ho2, hd2⟩ := hcell
  refine Subscript_ (wpAny_Name (wpAny_loadName_free (c := cw) (v := .ref a) sk kw1 hclo ⟨o2, k3 _ _ ho2, hd2⟩ ?_ d3) d1)
  refine wpAny_Name (wpAny_loadName_local (v := .int i ti) sk kp1 hns ?_ ?_) d2
  · show List.lookup xp [(xp, Value.int i ti)] = some (Value.int i ti)
    simp [List.lookup]
  · obtain ⟨ol, hol, hcl, nl, hdl⟩ := hl
    refine item_list_intsR (vs := its) (ns := ws) ⟨ol, k3 _ _ hol, hcl, nl, hdl⟩ hi h0 h1 hfit fun t2 => ?_
    refine ⟨_, _, rfl, k2, ?_⟩
    exact .int _ _
/-- sorted(r, key=f), r a range from 0, f by its calls -/
theorem sorted_range_key {r f : Addr} {n : Nat} {t u v : Tok} {k : Int → Int} {E : Value → Shared → Prop} {Q : Value → Shared → Prop} (hh : A.handled = none) (hr : IsRange s.heap r 0 n 1 t u v) (hn : n ≤ 100000) (hu : A.units + 2 < cLine)
    (turn : ∀ (i : Int) (ti : Tok), 0 ≤ i → i < n → ∀ (h : Heap) (tk : Nat), (∀ b o, s.heap.get? b = some o → h.get? b = some o) →
      wpAny (model prog w) A.in1.in1 (call (.ref f) [.int i ti]) (PySem.W.KeyPure (.int (k i)) { s with heap := h, toks := tk }) (fun _ _ => False) { s with heap := h, toks := tk })
    (h : ∀ (os : List Int) (out : List Value) (c : Nat) (hm h' : Heap) (tk : Nat) (D : Addr), (∀ b o, s.heap.get? b = some o → hm.get? b = some o) → (∀ b o, hm.get? b = some o → h'.get? b = some o) → hm.objs.size ≤ D → h'.get? D = some (seqObj "list" (List.toArray out) c) → Vals (os.map V.int) out →
      os.Perm (pers n) → os.Pairwise (fun x y => k x ≤ k y) → Q (.ref D) { s with heap := h', toks := tk }) :
    wpAny (model prog w) A (call (.builtin "sorted") [.ref r] [(Str.ofString "key", .ref f)]) Q E s := by
  refine call_function_entry_kw kind_sorted plain_sorted entry_sorted (PyProof.Rows.ksk_s1 _ _) ?_
  unfold Builtin.«sorted»
  refine wpAny_bind (m := checkCount "sorted" 1 1 _) (wpAny_pure ?_)
  refine wpAny_bind (L2.collect_range (n := n) hh hr (small_one (by decide) (by decide) (by omega) (by omega)) (by rw [rangeSize_one]; split <;> omega) (by omega) fun h' tk acc hk hi => ?_)
  have hsz : acc.toList.length = n := by rw [Array.length_toList]; exact hi.1
  have e0 := items_each hi
  refine wpAny_bind (wpAny_newList ?_ (by rw [hsz, sizeLine_eq]; omega))
  have hoL : (h'.push (seqObj "list" acc.toList.toArray 0)).get? h'.objs.size = some (seqObj "list" acc.toList.toArray 0) := Heap.get?_push_size _ rfl
  have keep : ∀ b o, s.heap.get? b = some o → (h'.push (seqObj "list" acc.toList.toArray 0)).get? b = some o := fun b o q => Heap.get?_push_of_some _ (hk b o q)
  refine wpAny_bind (wpAny_holding (wpAny_call_entry_kw slot_list_sort ⟨_, hoL, rfl⟩ entry_list_sort ?_ (PyProof.Rows.ksk_l1 _ _)))
  rw [PyProof.Rows.ksk_t1]
  have hne : ∀ b o, s.heap.get? b = some o → b ≠ h'.objs.size := fun b o q => Nat.ne_of_lt (Heap.lt_size (hk b o q))
  refine PySem.W.keyH_tree (kz := (pers n).map fun x => PyData.int (k x)) (s := { s with heap := h'.push (seqObj "list" acc.toList.toArray 0), toks := tk }) hoL (by rw [List.length_map, pers_len, hsz]) (by rw [hsz, sizeLine_eq]; omega)
    (PySem.W.AllAlike.of (enc := fun x : Int => PyData.int (k x)) fun _ _ => by simp [PySem.W.alike]) (PySem.W.Sortable.others (enc := fun x : Int => PyData.int (k x)) fun _ => ⟨by simp, by simp⟩) (fun d hd => ?_)
    (PySem.W.keyH_turns (s := { s with heap := h'.push (seqObj "list" acc.toList.toArray 0), toks := tk }) e0 fun u x hR hx hp tk2 kp => ?_) fun h3 tk3 out c kp hD ko => ⟨_, rfl, ?_⟩
  · obtain ⟨x, _, rfl⟩ := List.mem_map.mp hd
    simp only [PyData.depth]
    exact hu
  · obtain ⟨ti, rfl⟩ := hR
    have hx' := mem_pers.mp hx
    exact turn x ti hx'.1 hx'.2 hp tk2 fun b o q => kp b o (hne b o q) (keep b o q)
  · have hE := PySem.W.keyedOut_each (fun x : Int => PyData.int (k x)) ko e0
    rw [PySem.W.dataLe_int] at hE
    refine wpAny_pure ⟨_, rfl, h _ out c h' h3 tk3 _ hk (fun b o q => kp b o (Nat.ne_of_lt (Heap.lt_size q)) (Heap.get?_push_of_some _ q)) (Nat.le_refl _) hD (each_rel (f := V.int) hE) (List.mergeSort_perm _ _) ?_⟩
    have := List.pairwise_mergeSort (le := fun a b : Int => decide (k a ≤ k b)) (fun a b c h1 h2 => by simp at *; omega) (fun a b => by simp; omega) (pers n)
    exact this.imp fun hh => by simpa using hh
end
section
variable {X : Cx}
/-- sorted(range(n), key=lambda p: xs[p]), xs captured: the slot iw -/
def tSortLam (K : PySem.W.Frag) (H0 : Hp) (T : List (Addr × Str)) (t : TA) (iw : Nat) : TE := fun σ H Q => t σ H fun vs H1 => ∃ (r a : Addr) (ws : List Int), vs = [V.ref r] ∧ H1 r = some (.rng 0 ws.length) ∧ σ[iw]? = some (some (.ref a)) ∧ SqL K H1 a (ws.map V.int) ∧ ws.length ≤ 100000 ∧ Tabs T H1 ∧
  ∀ (os : List Int) (p : Addr) (H2 : Hp), ExtN H1 H2 → (∀ b ps, H0 b = some (.tbl ps) → ∃ ps', H2 b = some (.tbl ps')) → Tabs T H2 → H2 p = none → os.Perm (pers ws.length) → os.Pairwise (fun x y => wAt ws x ≤ wAt ws y) → Q (.ref p) (upd H2 p (.lst (os.map V.int)))
theorem extn_seq {K : PySem.W.Frag} {H H' : Hp} {a : Addr} {xs : List V} (e : ExtN H H') (h : SqL K H a xs) : SqL K H' a xs := by
  rcases h with (h | ⟨o, h⟩) | h
  · exact .inl (.inl (e _ _ h fun ps z => by cases z))
  · exact .inl (.inr ⟨o, e _ _ h fun ps z => by cases z⟩)
  · exact .inr h
theorem extn_tup {K : PySem.W.Frag} {H H' : Hp} {a : Addr} {xs : List V} (e : ExtN H H') (h : SqT K H a xs) : SqT K H' a xs := by
  rcases h with (h | ⟨o, h⟩) | h
  · exact .inl (.inl (e _ _ h fun ps z => by cases z))
  · exact .inl (.inr ⟨o, e _ _ h fun ps z => by cases z⟩)
  · exact .inr h
theorem pe_sortLam {T : List (Addr × Str)} {c P : Addr} {qn xw xp : Str} {e : Expr} {t : TA} {params : Arguments} {scope : Scope} {iw k : Nat} {p p1 p2 p3 lpos kpos pos : Pos}
    (hg : Gl X "sorted") (hm : X.mg "sorted" = none) (ha : PA X [e] t) (hc : X.calm = true) (hr : Room (k + 3) X.A) (TB : TabB X.base X.mg c P) (hcode : X.env.code = .ref c) (hq : X.env.qual ++ "<lambda>" = qn) (hmT : (P, qn) ∈ T) (hu : ∀ x ∈ T, x.1 = P → x.2 = qn)
    (hN : X.N[iw]? = some xw) (hx : X.env.scope.names.lookup xw = some .cell) (hdef : defaultsOf params X.env = ([], [])) (sk : scope.kind = .function) (sco : scope.isCoroutine = false) (sgen : scope.isGenerator = false) (nocell : ∀ x ∈ scope.names, x.2 ≠ .cell)
    (hfree : ∀ y ∈ scope.names, y.2 = .free → y.1 = xw) (kp1 : scope.names.lookup xp = some .local) (kw1 : scope.names.lookup xw = some .free)
    (hbind : ∀ (q : Str) (cl : List (Str × Addr)) (pm cv ctv v : Value), bindArgs (PySem.W.kla_fn "<lambda>" q params (.Subscript (.Name xw p1) (.Name xp p2) p3) scope cl pm cv ctv) ⟨[v], []⟩ = pure [(xp, v)])
    (hclo : ∀ cells : List (Str × Addr), (cloFrom cells scope.names []).lookup xw = some ((cells.lookup xw).getD 0))
    (d1 : (xw == ("__debug__" : Str)) = false := by decide) (d2 : (xp == ("__debug__" : Str)) = false := by decide) (d3 : (xw == ("__classdict__" : Str)) = false := by decide)
    (he : backTo pos (starEach [e] X.env) = (false, eval e X.env) :: backTo pos (starEach [] X.env) := by rfl) (hpl : (backTo pos (starEach [e] X.env)).any (·.1) = false := by rfl) :
    PE X (.Call (.Name "sorted" p) [e] [⟨some "key", .Lambda params (.Subscript (.Name xw p1) (.Name xp p2) p3) scope lpos, kpos⟩] pos) (tSortLam X.K X.H_0 T t iw) := by
  refine ⟨fun pins s σ H Q I h => ?_⟩
  refine wpAny_Call_Name_kw (ld_blt I hg hm (u := .builtin "sorted") (by decide +kernel) ?_)
  refine PyProof.Rows.callWith_kw (thn (ha.run pos pins s σ H _ I h) fun us s1 ⟨vs, H1, I1, r1, q1⟩ => ?_) he hpl (by rfl) (by rfl)
  obtain ⟨r, a, ws, rfl, hr1, hσ, hl, hz, hT, q⟩ := q1
  obtain rfl := Vals.ref1 r1
  have hfr : ∀ y ∈ scope.names, y.2 = .free → ∃ c, X.env.cells.lookup y.1 = some c := fun y hy e => by
    rw [hfree y hy e]
    exact I1.ok.has xw (.inl hx)
  show wpAny _ _ (evalAll [do let v ← eval (.Lambda params (.Subscript (.Name xw p1) (.Name xp p2) p3) scope lpos) X.env; standAt pos; pure v]) _ _ s1
  refine wpAny_evalAll_cons (wpAny_bind (lam_make2 I1 TB hcode (by rw [hq]; exact hmT) (by rw [hq]; exact hu) hT hdef hfr fun f c' pm ctv H2 s2 I2 eN T2 hf hf0 hfs hc' => ?_))
  refine wpAny_bind (wpAny_standAt (wpAny_pure (wpAny_evalAll_nil ?_)))
  rw [hq] at hf hc'
  show wpAny (model X.prog X.w) X.A (call (.builtin "sorted") [.ref r] [(Str.ofString "key", .ref f)]) _ _ s2
  obtain ⟨t1, t2, t3, hrng⟩ : ∃ t u v, IsRange s2.heap r 0 ws.length 1 t u v := I2.hok r _ (eN r _ hr1 fun ps z => by cases z)
  obtain ⟨its, rv, hls, hz2⟩ := I2.list (extn_seq eN hl)
  have hcodeR : ∃ (oc : Obj) (vs : Array Value) (t : Tok), s2.heap.get? c' = some oc ∧ oc.data = .fields vs ∧ vs[1]? = some (.str qn t) := (I2.hok c' _ hc').1
  obtain ⟨cw, hcw⟩ := I2.ok.has xw (.inl hx)
  have hcellw : s2.heap.IsCell cw (some (.ref a)) := by
    obtain ⟨m, hn, hlk⟩ := I2.loc
    obtain ⟨u, ru, lk⟩ := hlk iw xw (.ref a) hN hσ (.inr (.inl hx))
    obtain rfl : u = Value.ref a := ru
    rcases lk with ⟨k1, _⟩ | ⟨_, c2, e2, z⟩
    · rw [show X.env.kindOf xw = some .cell from hx] at k1
      cases k1
    · rw [hcw] at e2
      cases e2
      exact z
  refine sorted_range_key (n := ws.length) (k := wAt ws) (I2.ok.hd hc) hrng hz (by have := hr.un; omega) (fun i ti h0 h1 hh tk kp => ?_) fun os out c2 hm2 h' tk D k1 k2 hD hd hv hp hs => ?_
  · exact lam_item (cw := cw) hr.in1.in1.depth hf hcodeR I2.nolimit kp sk sco sgen nocell kp1 kw1 (fun v => hbind _ _ _ _ _ v) (by rw [hclo, hcw]; rfl) hcellw hls.isList rv.ints h0 h1 (by omega) d1 d2 d3
  · have I3 : Inv X pins σ H2 { s2 with heap := hm2, toks := tk } := I2.kept k1
    have hn : H2 D = none := I3.hok.fresh hD
    refine ⟨.ref D, upd H2 D (.lst (os.map V.int)), I3.laid (t' := tk) k2 hD ⟨?_, out, c2, hv, hd⟩, rfl, q os D H2 eN (fun b ps e => (I2.base.tbls b ps e).elim fun m z => ⟨ps ++ m, z⟩) T2 hn hp hs⟩
    rw [List.length_map, hp.length_eq, pers_len, sizeLine_eq]
    omega
end
end Bp

end

section
set_option Elab.async false
set_option linter.all false
set_option maxRecDepth 100000
set_option maxHeartbeats 4000000
namespace Bp
open PySem PySem.Spec PyProof.Rows L2 LamX

/-! ### kinds -/
theorem tyx_list {K : PySem.W.Frag} {H : Hp} {a : Addr} {xs : List V} (h : SqL K H a xs) : TyX K H (.ref a) (.type "list") := by
  rcases h with (h | ⟨o, h⟩) | ⟨o, its, n, hk, hc, _⟩
  · exact .base (.lst h)
  · exact .base (.frz h)
  · exact .kList hk hc
theorem tyx_tup {K : PySem.W.Frag} {H : Hp} {a : Addr} {xs : List V} (h : SqT K H a xs) : TyX K H (.ref a) (.type "tuple") := by
  rcases h with (h | ⟨o, h⟩) | ⟨o, its, n, hk, hc, _⟩
  · exact .base (.tup h)
  · exact .fTuple h
  · exact .kTuple hk hc

/-! ### items -/
theorem at_int {ns : List Int} {i : Int} (h0 : 0 ≤ i) (h1 : i < ns.length) : atI (ns.map V.int) i = some (V.int (wAt ns i)) := by
  obtain ⟨k, rfl⟩ : ∃ k : Nat, i = (k : Int) := ⟨i.toNat, by omega⟩
  refine atI_nat ?_
  rw [List.getElem?_map, wAt_nat, List.getD_eq_getElem?_getD, List.getElem?_eq_getElem (by omega)]
  rfl
theorem map_at {ns : List Int} {i : Nat} {x : V} (h : (ns.map V.int)[i]? = some x) : i < ns.length ∧ x = V.int (ns.getD i 0) ∧ ns[i]? = some (ns.getD i 0) := by
  rw [List.getElem?_map] at h
  cases e : ns[i]? with
  | none => rw [e] at h; cases h
  | some n =>
    rw [e] at h
    refine ⟨(List.getElem?_eq_some_iff.mp e).1, ?_, ?_⟩
    · rw [List.getD_eq_getElem?_getD, e]
      exact (Option.some.inj h).symm
    · rw [List.getD_eq_getElem?_getD, e]
      rfl
theorem cut_hi {xs : List V} {k : Nat} (h : k ≤ xs.length) : cutV xs none (some (k : Int)) = xs.take k := by
  unfold cutV
  rw [HT.sIx_none, HT.sIx_nat, Nat.min_eq_left h, List.drop_zero, Nat.sub_zero]
theorem cut_hi' {xs : List V} {k : Nat} : cutV xs none (some (k : Int)) = xs.take k := by
  unfold cutV
  rw [HT.sIx_none, HT.sIx_nat, List.drop_zero, Nat.sub_zero]
  rcases Nat.le_total k xs.length with h | h
  · rw [Nat.min_eq_left h]
  · rw [Nat.min_eq_right h, List.take_of_length_le h, List.take_of_length_le (Nat.le_refl _)]
theorem cut_lo {xs : List V} {k : Nat} : cutV xs (some (k : Int)) none = xs.drop k := by
  unfold cutV
  rw [HT.sIx_none, HT.sIx_nat]
  rcases Nat.le_total k xs.length with h | h
  · rw [Nat.min_eq_left h, List.take_of_length_le (by rw [List.length_drop]; exact Nat.le_refl _)]
  · rw [Nat.min_eq_right h, List.drop_of_length_le h, List.drop_of_length_le (Nat.le_refl _)]
    simp
theorem cut_mid {xs : List V} {i j : Nat} : cutV xs (some (i : Int)) (some (j : Int)) = (xs.take j).drop i := by
  unfold cutV
  rw [HT.sIx_nat, HT.sIx_nat, List.drop_take]
  rcases Nat.le_total i xs.length with h | h
  · rw [Nat.min_eq_left h]
    rcases Nat.le_total j xs.length with h2 | h2
    · rw [Nat.min_eq_left h2]
    · rw [Nat.min_eq_right h2, List.take_of_length_le (by rw [List.length_drop]; exact Nat.le_refl _), List.take_of_length_le (by rw [List.length_drop]; omega)]
  · rw [Nat.min_eq_right h, List.drop_of_length_le (i := xs.length) (Nat.le_refl _), List.drop_of_length_le h]
    simp
/-- xs[i:-1] -/
theorem cut_last {xs : List V} {i : Nat} : cutV xs (some (i : Int)) (some (-1)) = xs.dropLast.drop i := by
  unfold cutV
  have e : HT.sIx xs.length xs.length (some (-1)) = xs.length - 1 := by
    show (if (-1 : Int) < 0 then ((-1 : Int) + (xs.length : Int)).toNat else min (-1 : Int).toNat xs.length) = _
    rw [if_pos (by decide)]
    omega
  rw [HT.sIx_nat, e, List.dropLast_eq_take, List.drop_take]
  rcases Nat.le_total i xs.length with h | h
  · rw [Nat.min_eq_left h]
  · rw [Nat.min_eq_right h, List.drop_of_length_le (i := xs.length) (Nat.le_refl _), List.drop_of_length_le h]
    simp
theorem cut_dl {xs : List V} : cutV xs none (some (-1)) = xs.dropLast := by
  unfold cutV
  have e : HT.sIx xs.length xs.length (some (-1)) = xs.length - 1 := by
    show (if (-1 : Int) < 0 then ((-1 : Int) + (xs.length : Int)).toNat else min (-1 : Int).toNat xs.length) = _
    rw [if_pos (by decide)]
    omega
  rw [HT.sIx_none, e, List.dropLast_eq_take, List.drop_zero, Nat.sub_zero]

/-! ### data -/
theorem eqvAll_ints : ∀ xs ys : List Int, PyData.eqvAll (xs.map .int) (ys.map .int) = decide (xs = ys)
  | [], [] => by simp [PyData.eqvAll]
  | [], y :: ys => by simp [PyData.eqvAll]
  | x :: xs, [] => by simp [PyData.eqvAll]
  | x :: xs, y :: ys => by
    show PyData.eqvAll (.int x :: xs.map .int) (.int y :: ys.map .int) = _
    rw [PyData.eqvAll, eqvAll_ints xs ys, PyData.eqv]
    by_cases h : x = y
    · subst h; simp
    · have h' : ¬ (x :: xs = y :: ys) := fun q => h (List.cons.inj q).1
      rw [decide_eq_false h', beq_false_of_ne h, Bool.false_and]
theorem eqv_ints (xs ys : List Int) : PyData.eqv (.list (xs.map .int)) (.list (ys.map .int)) = decide (xs = ys) := by
  rw [PyData.eqv]
  exact eqvAll_ints xs ys
theorem eqvAll_rows : ∀ xs ys : List (List Int), PyData.eqvAll (xs.map fun b => .tuple (b.map .int)) (ys.map fun b => .tuple (b.map .int)) = decide (xs = ys)
  | [], [] => by simp [PyData.eqvAll]
  | [], y :: ys => by simp [PyData.eqvAll]
  | x :: xs, [] => by simp [PyData.eqvAll]
  | x :: xs, y :: ys => by
    show PyData.eqvAll (.tuple (x.map .int) :: xs.map fun b => .tuple (b.map .int)) (.tuple (y.map .int) :: ys.map fun b => .tuple (b.map .int)) = _
    rw [PyData.eqvAll, eqvAll_rows xs ys, PyData.eqv, eqvAll_ints]
    by_cases h : x = y
    · subst h; simp
    · have h' : ¬ (x :: xs = y :: ys) := fun q => h (List.cons.inj q).1
      rw [decide_eq_false h', decide_eq_false h, Bool.false_and]
theorem eqv_rows (xs ys : List (List Int)) : PyData.eqv (.list (xs.map fun b => .tuple (b.map .int))) (.list (ys.map fun b => .tuple (b.map .int))) = decide (xs = ys) := by
  rw [PyData.eqv]
  exact eqvAll_rows xs ys
theorem can_ints : ∀ xs : List Int, PyData.canLayAll0 (xs.map .int) = true
  | [] => by simp [PyData.canLayAll0]
  | x :: xs => by
    show PyData.canLayAll0 (.int x :: xs.map .int) = true
    simp only [PyData.canLayAll0, can_ints xs, PyData.canLay0, Bool.and_self]
theorem can_rows : ∀ xs : List (List Int), PyData.canLayAll0 (xs.map fun b => .tuple (b.map .int)) = true
  | [] => by simp [PyData.canLayAll0]
  | x :: xs => by
    show PyData.canLayAll0 (.tuple (x.map .int) :: xs.map fun b => .tuple (b.map .int)) = true
    simp only [PyData.canLayAll0, can_rows xs, PyData.canLay0, can_ints, Bool.and_self]
theorem depth_rows : ∀ xs : List (List Int), PyData.depthAll (xs.map fun b => .tuple (b.map .int)) ≤ 1
  | [] => by simp [PyData.depthAll]
  | x :: xs => by
    show PyData.depthAll (.tuple (x.map .int) :: xs.map fun b => .tuple (b.map .int)) ≤ 1
    have h := depth_rows xs
    simp only [PyData.depthAll, PyData.depth, depth0]
    omega
theorem shaped_ints (xs : List Int) : SeqAt.shaped (.list (xs.map .int)) = true := by
  unfold SeqAt.shaped
  simp only [PyData.canLay0, can_ints, PyData.depth, depth0]
  decide
theorem shaped_rows (xs : List (List Int)) : SeqAt.shaped (.list (xs.map fun b => .tuple (b.map .int))) = true := by
  have h := depth_rows xs
  unfold SeqAt.shaped
  simp only [PyData.canLay0, can_rows, PyData.depth, Bool.true_and]
  exact decide_eq_true (by omega)
theorem dp_all (K : PySem.W.Frag) (H : Hp) : ∀ ns : List Int, DpAll K H (ns.map V.int) (ns.map .int)
  | [] => .nil
  | n :: ns => .cons (.int n) (dp_all K H ns)
theorem dp_ints {K : PySem.W.Frag} {H : Hp} {a : Addr} {ns : List Int} (h : SqL K H a (ns.map V.int)) : Dp K H (.ref a) (.list (ns.map .int)) := .lst h (dp_all K H ns)
theorem dp_rowsAll {K : PySem.W.Frag} {H : Hp} : ∀ {xs : List V} {bs : List (List Int)}, RowsI K H xs bs → DpAll K H xs (bs.map fun b => .tuple (b.map .int))
  | _, _, .nil => .nil
  | _, _, .cons ⟨t, e, h⟩ r => by
    rw [e]
    exact .cons (.tup h (dp_all K H _)) (dp_rowsAll r)
theorem dp_rows {K : PySem.W.Frag} {H : Hp} {a : Addr} {xs : List V} {bs : List (List Int)} (h : SqL K H a xs) (r : RowsI K H xs bs) : Dp K H (.ref a) (.list (bs.map fun b => .tuple (b.map .int))) := .lst h (dp_rowsAll r)

/-! ### rows under growth -/
theorem TupI.mono {K : PySem.W.Frag} {H H' : Hp} {x : V} {ns : List Int} (e : ∀ t ys, SqT K H t ys → SqT K H' t ys) (h : TupI K H x ns) : TupI K H' x ns := by
  obtain ⟨t, rfl, h⟩ := h
  exact ⟨t, rfl, e _ _ h⟩
theorem RowsI.mono {K : PySem.W.Frag} {H H' : Hp} (e : ∀ t ys, SqT K H t ys → SqT K H' t ys) : ∀ {xs : List V} {bs : List (List Int)}, RowsI K H xs bs → RowsI K H' xs bs
  | _, _, .nil => .nil
  | _, _, .cons r t => .cons (r.mono e) (RowsI.mono e t)
theorem Same.sqt {K : PySem.W.Frag} {H H' : Hp} (e : Same H H') : ∀ t ys, SqT K H t ys → SqT K H' t ys := fun t ys h => by
  rcases h with (h | ⟨o, h⟩) | h
  · exact .inl (.inl (e _ _ h))
  · exact .inl (.inr ⟨o, e _ _ h⟩)
  · exact .inr h
theorem same_new {H : Hp} {p : Addr} {o : HO} (h : H p = none) : Same H (upd H p o) := fun b u e => by
  rw [upd_ne (ne_of_none e h)]
  exact e
/-- an object that H does not know may change -/
theorem same_mut {H H' : Hp} {p : Addr} {o : HO} (e : Same H H') (h : H p = none) : Same H (upd H' p o) := fun b u hb => by
  rw [upd_ne (ne_of_none hb h)]
  exact e b u hb
/-- tuples stand through a list's change -/
theorem sqt_upd {K : PySem.W.Frag} {H : Hp} {p : Addr} {xs : List V} {o : HO} (h : H p = some (.lst xs)) : ∀ t ys, SqT K H t ys → SqT K (upd H p o) t ys := fun t ys q => by
  rcases q with (q | ⟨o', q⟩) | q
  · exact .inl (.inl (by rw [upd_ne (ne_of q h (by intro z; cases z))]; exact q))
  · refine .inl (.inr ⟨o', ?_⟩)
    rw [upd_ne (ne_of q h (by intro z; cases z))]
    exact q
  · exact .inr q
theorem paired_app {α β : Type} {R : α → β → Prop} : ∀ {xs xs' : List α} {ys ys' : List β}, Paired R xs ys → Paired R xs' ys' → Paired R (xs ++ xs') (ys ++ ys')
  | _, _, _, _, .nil, h => h
  | _, _, _, _, .cons r t, h => .cons r (paired_app t h)
theorem paired_get {α β : Type} {R : α → β → Prop} : ∀ {xs : List α} {ys : List β}, Paired R xs ys → ∀ {i : Nat} {x : α}, xs[i]? = some x → ∃ y, ys[i]? = some y ∧ R x y
  | _, _, .nil, _, _, h => by simp at h
  | _, _, .cons r t, 0, _, h => by
    cases h
    exact ⟨_, rfl, r⟩
  | _, _, .cons r t, i + 1, _, h => by
    obtain ⟨y, h1, h2⟩ := paired_get t (i := i) (by simpa using h)
    exact ⟨y, by simpa using h1, h2⟩
theorem paired_take {α β : Type} {R : α → β → Prop} : ∀ {xs : List α} {ys : List β} (n : Nat), Paired R xs ys → Paired R (xs.take n) (ys.take n)
  | _, _, 0, _ => .nil
  | _, _, _ + 1, .nil => .nil
  | _, _, n + 1, .cons r t => .cons r (paired_take n t)
theorem paired_drop {α β : Type} {R : α → β → Prop} : ∀ {xs : List α} {ys : List β} (n : Nat), Paired R xs ys → Paired R (xs.drop n) (ys.drop n)
  | _, _, 0, r => r
  | _, _, _ + 1, .nil => .nil
  | _, _, n + 1, .cons r t => paired_drop n t

/-! ### loops -/
theorem take_next {α : Type} {l : List α} {i : Nat} {x : α} (h : l[i]? = some x) : l.take (i + 1) = l.take i ++ [x] := by
  rw [List.take_add_one, h]
  rfl
/-- for i, x in enumerate(xs) -/
theorem for_enum {K : PySem.W.Frag} {a : Addr} {xs : List V} {g : TG} {tb : TS} {D : Ends} {σ : L2.St} {H : Hp} (Pv : Nat → L2.St → Hp → Prop) (h0 : Pv 0 σ H) (hq : ∀ i σ H, Pv i σ H → SqL K H a xs)
    (hs : ∀ (i : Nat) (x : V) (T : Addr) (σ : L2.St) (H : Hp), xs[i]? = some x → Pv i σ H → H T = none → g (.ref T) σ (upd H T (.tup [.int (i : Nat), x])) fun σ2 H2 => tb { D with nx := Pv (i + 1), ct := Pv (i + 1), bk := D.nx } σ2 H2) (hd : ∀ σ H, Pv xs.length σ H → D.nx σ H) :
    ∃ W : Nat → Nat → L2.St → Hp → Prop, (∃ m, W 0 m σ H) ∧ ∀ i m σ H, W i m σ H →
      ((Ite K a).stop i H ∧ D.nx σ H) ∨ ((Ite K a).go i H ∧ ∃ N : L2.St → Hp → Prop, (∀ σ' H', N σ' H' → ∃ m', m' < m ∧ W (i + 1) m' σ' H') ∧ ∀ v H', (Ite K a).yld i H v H' → g v σ H' fun σ2 H2 => tb { D with nx := N, ct := N, bk := D.nx } σ2 H2) := by
  refine ⟨fun i m σ H => m = xs.length - i ∧ i ≤ xs.length ∧ Pv i σ H, ⟨xs.length, rfl, Nat.zero_le _, h0⟩, ?_⟩
  rintro i m σ H ⟨rfl, hi, p⟩
  have qx := hq i σ H p
  by_cases hlt : i < xs.length
  · have hx : xs[i]? = some xs[i] := List.getElem?_eq_getElem hlt
    refine .inr ⟨⟨xs, _, qx, hx⟩, Pv (i + 1), fun σ' H' p' => ⟨xs.length - (i + 1), by omega, rfl, hlt, p'⟩, fun v H' y => ?_⟩
    obtain ⟨T, x', rfl, hT, rfl, f1⟩ := y
    exact hs i x' T σ H (f1 xs qx) p hT
  · have e : i = xs.length := by omega
    subst e
    exact .inl ⟨⟨xs, qx, Nat.le_refl _⟩, hd σ H p⟩
theorem wipe1 (σ : L2.St) (j : Nat) (v : V) : wipe ((wipe σ [j]).set j (some v)) [j] = wipe σ [j] := by
  show ((σ.set j none).set j (some v)).set j none = σ.set j none
  rw [List.set_set, List.set_set]
/-- [e for x in xs if t], e and t values that make nothing: p tells which, f what -/
theorem lc_pure {K : PySem.W.Frag} {a : Addr} {xs : List V} {j : Nat} {tt : TT} {te : TE} {σ : L2.St} {H1 : Hp} {D : Addr} {Qd : Hp → Prop} (f : V → V) (p : V → Bool) (hD : H1 D = none) (hS : SqL K H1 a xs) (hz : xs.length < sizeLine)
    (hs : ∀ (i : Nat) x H, xs[i]? = some x → Same H1 H → ∀ Q : Bool → Hp → Prop, Q (p x) H → tt ((wipe σ [j]).set j (some x)) H Q)
    (he : ∀ (i : Nat) x H, xs[i]? = some x → Same H1 H → p x = true → ∀ Q : VK, Q (f x) H → te ((wipe σ [j]).set j (some x)) H Q) (hd : Qd (upd H1 D (.lst ((xs.filter p).map f)))) :
    ∃ W : Nat → Nat → Hp → Prop, (∃ m, W 0 m (upd H1 D (.lst []))) ∧ ∀ i m H, W i m H →
      ((Itl K a).stop i H ∧ Qd H) ∨ ((Itl K a).go i H ∧ ∃ Nx : Hp → Prop, (∀ H', Nx H' → ∃ m', m' < m ∧ W (i + 1) m' H') ∧ ∀ x H', (Itl K a).yld i H x H' → gName j x (wipe σ [j]) H' fun σ2 H2 => wipe σ2 [j] = wipe σ [j] ∧ tt σ2 H2 fun b H3 =>
        if b = true then te σ2 H3 fun y H4 => ∃ acc, H4 D = some (.lst acc) ∧ acc.length < sizeLine ∧ Nx (upd H4 D (.lst (acc ++ [y]))) else Nx H3) := by
  refine lc_list (xs := xs) (fun i H => H = upd H1 D (.lst (((xs.take i).filter p).map f))) (by rw [List.take_zero]; rfl) (fun i H _ e => ?_) (fun i x H hx e => ?_) (fun H e => ?_)
  · rw [e]
    exact Same.seq (same_new hD) hS
  · subst e
    refine ⟨wipe1 σ j x, hs i x _ hx (same_new hD) _ ?_⟩
    by_cases hp : p x = true
    · rw [hp, if_pos rfl]
      refine he i x _ hx (same_new hD) hp _ ⟨_, upd_same, ?_, ?_⟩
      · have := List.length_filter_le p (xs.take i)
        rw [List.length_map]
        rw [List.length_take] at this
        omega
      · rw [upd_upd, take_next hx, List.filter_append, List.map_append, List.filter_cons_of_pos hp]
        rfl
    · rw [if_neg hp, take_next hx, List.filter_append, List.filter_cons_of_neg hp]
      simp
  · rw [e, List.take_of_length_le (Nat.le_refl _)]
    exact hd
/-- .. over a range -/
theorem lc_pureR {n : Nat} {lo : Int} {j : Nat} {tt : TT} {te : TE} {σ : L2.St} {H1 : Hp} {D : Addr} {Qd : Hp → Prop} (f : Int → V) (hD : H1 D = none) (hz : n < sizeLine)
    (hs : ∀ (i : Nat) H, i < n → Same H1 H → ∀ Q : Bool → Hp → Prop, Q true H → tt ((wipe σ [j]).set j (some (.int (lo + i)))) H Q)
    (he : ∀ (i : Nat) H, i < n → Same H1 H → ∀ Q : VK, Q (f (lo + i)) H → te ((wipe σ [j]).set j (some (.int (lo + i)))) H Q) (hd : Qd (upd H1 D (.lst ((List.range n).map fun i : Nat => f (lo + i))))) :
    ∃ W : Nat → Nat → Hp → Prop, (∃ m, W 0 m (upd H1 D (.lst []))) ∧ ∀ i m H, W i m H →
      ((Itr lo n).stop i H ∧ Qd H) ∨ ((Itr lo n).go i H ∧ ∃ Nx : Hp → Prop, (∀ H', Nx H' → ∃ m', m' < m ∧ W (i + 1) m' H') ∧ ∀ x H', (Itr lo n).yld i H x H' → gName j x (wipe σ [j]) H' fun σ2 H2 => wipe σ2 [j] = wipe σ [j] ∧ tt σ2 H2 fun b H3 =>
        if b = true then te σ2 H3 fun y H4 => ∃ acc, H4 D = some (.lst acc) ∧ acc.length < sizeLine ∧ Nx (upd H4 D (.lst (acc ++ [y]))) else Nx H3) := by
  refine lc_range (lo := lo) (n := n) (fun i H => H = upd H1 D (.lst ((List.range i).map fun i : Nat => f (lo + i)))) rfl (fun i H hi e => ?_) (fun H e => ?_)
  · subst e
    refine ⟨wipe1 σ j _, hs i _ hi (same_new hD) _ ?_⟩
    rw [if_pos rfl]
    refine he i _ hi (same_new hD) _ ⟨_, upd_same, ?_, ?_⟩
    · rw [List.length_map, List.length_range]
      omega
    · rw [upd_upd, List.range_succ, List.map_append]
      rfl
  · rw [e]
    exact hd
/-- of ints alone -/
def onI (p : Int → Bool) : V → Bool
  | .int n => p n
  | _ => false
theorem filter_ints (p : Int → Bool) : ∀ ns : List Int, (ns.map V.int).filter (onI p) = (ns.filter p).map V.int
  | [] => rfl
  | n :: ns => by
    rw [List.map_cons, List.filter_cons, List.filter_cons, filter_ints p ns]
    show (if p n = true then _ else _) = _
    split <;> rfl
/-- [y for x in xs for y in x], xs a list of tuples of ints -/
theorem lc2_flat {K : PySem.W.Frag} {b : Addr} {xs : List V} {bs : List (List Int)} {j1 j2 : Nat} {σ : L2.St} {H1 : Hp} {D : Addr} {Qd : Hp → Prop} (hD : H1 D = none) (hS : SqL K H1 b xs) (hr : RowsI K H1 xs bs) (hz : bs.flatten.length < sizeLine)
    (h1 : j1 < σ.length) (h2 : j2 < σ.length) (hne : j1 ≠ j2) (hd : Qd (upd H1 D (.lst (bs.flatten.map V.int)))) :
    ∃ W : Nat → Nat → Hp → Prop, (∃ m, W 0 m (upd H1 D (.lst []))) ∧ ∀ i m H, W i m H →
      ((Itl K b).stop i H ∧ Qd H) ∨ ((Itl K b).go i H ∧ ∃ Nx : Hp → Prop, (∀ H', Nx H' → ∃ m', m' < m ∧ W (i + 1) m' H') ∧ ∀ x H', (Itl K b).yld i H x H' → gName j1 x (wipe σ [j1, j2]) H' fun σ2 H2 => wipe σ2 [j1, j2] = wipe σ [j1, j2] ∧ tYes σ2 H2 fun c H3 =>
        if c = true then iTup K (tVar j1) σ2 H3 fun J1 H4 => ∃ W1 : Nat → Nat → Hp → Prop, (∃ m, W1 0 m H4) ∧ ∀ j k H, W1 j k H →
          (J1.stop j H ∧ Nx H) ∨ (J1.go j H ∧ ∃ Nx1 : Hp → Prop, (∀ H', Nx1 H' → ∃ k', k' < k ∧ W1 (j + 1) k' H') ∧ ∀ x H', J1.yld j H x H' → gName j2 x (wipe σ2 [j2]) H' fun σ3 H5 => wipe σ3 [j2] = wipe σ2 [j2] ∧ tYes σ3 H5 fun c H6 =>
            if c = true then tVar j2 σ3 H6 fun y H7 => ∃ acc, H7 D = some (.lst acc) ∧ acc.length < sizeLine ∧ Nx1 (upd H7 D (.lst (acc ++ [y]))) else Nx1 H6)
        else Nx H3) := by
  have hlen : xs.length = bs.length := Paired.length hr
  refine ⟨fun i m H => m = xs.length - i ∧ i ≤ xs.length ∧ H = upd H1 D (.lst ((bs.take i).flatten.map V.int)), ⟨xs.length, by simp, Nat.zero_le _, by rw [List.take_zero]; rfl⟩, ?_⟩
  rintro i m H ⟨rfl, hi, rfl⟩
  have q : SqL K (upd H1 D (.lst ((bs.take i).flatten.map V.int))) b xs := Same.seq (same_new hD) hS
  by_cases hlt : i < xs.length
  · refine .inr ⟨⟨xs, xs[i], q, by simp [hlt]⟩, fun H' => H' = upd H1 D (.lst ((bs.take (i + 1)).flatten.map V.int)), fun H' e => ⟨xs.length - (i + 1), by omega, rfl, hlt, e⟩, fun x H' y => ?_⟩
    obtain ⟨rfl, y⟩ := y
    have hx := y xs q
    obtain ⟨c, hc, t, rfl, ht⟩ := paired_get hr hx
    have hci : i < bs.length := by omega
    have etk : bs.take (i + 1) = bs.take i ++ [c] := take_next hc
    refine ⟨?_, ?_⟩
    · show (((σ.set j2 none).set j1 none).set j1 (some (V.ref t)) |>.set j2 none).set j1 none = (σ.set j2 none).set j1 none
      rw [List.set_set, List.set_comm _ _ hne.symm, List.set_set, List.set_comm _ _ hne, List.set_set]
    · simp only [tYes, if_true]
      refine ⟨.ref t, ?_, t, rfl, ⟨_, Same.sqt (same_new hD) _ _ ht⟩, fun j k H => k = c.length - j ∧ j ≤ c.length ∧ H = upd H1 D (.lst (((bs.take i).flatten ++ c.take j).map V.int)), ⟨c.length, by simp, Nat.zero_le _, by rw [List.take_zero, List.append_nil]⟩, ?_⟩
      · show (((σ.set j2 none).set j1 none).set j1 (some (V.ref t)))[j1]? = _
        rw [List.getElem?_set_self (by rw [List.length_set, List.length_set]; exact h1)]
      · rintro j k H ⟨rfl, hj, rfl⟩
        have qt : SqT K (upd H1 D (.lst (((bs.take i).flatten ++ c.take j).map V.int))) t (c.map V.int) := Same.sqt (same_new hD) _ _ ht
        by_cases hjl : j < c.length
        · refine .inr ⟨⟨_, _, qt, by rw [List.getElem?_map, List.getElem?_eq_getElem hjl]; rfl⟩, fun H' => H' = upd H1 D (.lst (((bs.take i).flatten ++ c.take (j + 1)).map V.int)), fun H' e => ⟨c.length - (j + 1), by omega, rfl, hjl, e⟩, fun v H' y => ?_⟩
          obtain ⟨rfl, y⟩ := y
          obtain ⟨_, hv, hn⟩ := map_at (y _ qt)
          refine ⟨wipe1 _ j2 v, ?_⟩
          refine ⟨v, ?_, _, upd_same, ?_, ?_⟩
          · show ((List.set _ j2 none).set j2 (some v))[j2]? = _
            rw [List.getElem?_set_self (by simp only [List.length_set, wipe_length]; exact h2)]
          · have e1 : (bs.take i).flatten.length + c.length ≤ bs.flatten.length := by
              have e : bs.flatten = (bs.take (i + 1)).flatten ++ (bs.drop (i + 1)).flatten := by rw [← List.flatten_append, List.take_append_drop]
              rw [e, etk, List.flatten_append, List.length_append, List.length_append]
              simp
            rw [List.length_map, List.length_append, List.length_take]
            omega
          · rw [upd_upd, take_next hn, ← List.append_assoc, List.map_append (l₂ := [_]), hv]
            rfl
        · have e : j = c.length := by omega
          subst e
          refine .inl ⟨⟨_, qt, by rw [List.length_map]; exact Nat.le_refl _⟩, ?_⟩
          rw [List.take_of_length_le (Nat.le_refl _), etk, List.flatten_append]
          simp
  · have e : i = xs.length := by omega
    subst e
    refine .inl ⟨⟨xs, q, Nat.le_refl _⟩, ?_⟩
    rw [hlen, List.take_of_length_le (Nat.le_refl _)]
    exact hd
theorem pers_up (n : Nat) : (pers n).Pairwise (· ≤ ·) := by
  unfold pers
  refine List.pairwise_map.mpr (List.pairwise_lt_range.imp fun h => ?_)
  show ((_ : Nat) : Int) ≤ ((_ : Nat) : Int)
  omega
/-- a def whose code object is told -/
theorem calC {P : Program} {w : World} {K : PySem.W.Frag} {mg : Str → Option Value} {base : Heap} {x : Str} {st : Stmt} {f c : Addr} {N ps : List Str} {k : Nat} {sp : Sp} {oc kV doc pm ct : Value} {od an : Option Addr} {osl : Array (Option Value)}
    (lk : K.lookup f = some ⟨oc, od, .func (PySem.W.fnOf x x (C8.fnArgs st) (C8.fnBody st) (C8.fnScope st) .none kV doc pm an (.ref c) ct), osl⟩) (hcd : PySem.W.codeIn K (.ref c) x = true) (hm : mg x = some (.ref f)) (kp : PySem.W.keepIn K (.ref f) = true)
    (b : Binds K (PySem.W.fnOf x x (C8.fnArgs st) (C8.fnBody st) (C8.fnScope st) .none kV doc pm an (.ref c) ct) ps []) (S : FnScope N ps (C8.fnScope st)) (len : ∀ vs H Q E, sp vs H Q E → vs.length = ps.length)
    (hbody : ∀ (A : Around) (outer : List Env) (s : Shared) (H : Hp) (vs : List V) (Q : VK) (E : XK), Room k (A.deeper (envOfC x (C8.fnScope st) s.heap.objs.size f (.ref c))) → sp vs H Q E →
      ∃ t, PSs (cxOf C8.CX0 P w K mg base N x (C8.fnScope st) f (.ref c) A outer s H E).nox (C8.fnBody st) t ∧ t { nx := fun _ H' => Q .non H', rt := Q } (start N vs) H) : C8.Cal P w K mg base (k + 1) x sp [] := by
  refine ⟨f, _, ps, [], fn_of lk hcd S len (fun A outer s H vs Q E hr hsp => ?_), hm, kp, b, .nil⟩
  obtain ⟨t, h, q⟩ := hbody A outer s H vs Q E hr hsp
  exact ⟨t, h.nox, q⟩
theorem extn_same {H H1 H2 : Hp} (a : ExtN H H1) (b : Same H1 H2) : ExtN H H2 := fun c o h n => b c o (a c o h n)
theorem extn_sqt {K : PySem.W.Frag} {H H' : Hp} (e : ExtN H H') : ∀ t ys, SqT K H t ys → SqT K H' t ys := fun _ _ h => extn_tup e h
theorem rows_same {K : PySem.W.Frag} {H H' : Hp} {xs : List V} {bs : List (List Int)} (e : Same H H') (h : RowsI K H xs bs) : RowsI K H' xs bs := RowsI.mono (Same.sqt e) h
/-- a tuple is made and appended -/
theorem rows_snoc {K : PySem.W.Frag} {H : Hp} {l t : Addr} {xs : List V} {bs : List (List Int)} {ns : List Int} (hl : H l = some (.lst xs)) (ht : H t = none) (h : RowsI K H xs bs) :
    RowsI K (upd (upd H t (.tup (ns.map V.int))) l (.lst (xs ++ [.ref t]))) (xs ++ [.ref t]) (bs ++ [ns]) := by
  have ntl : t ≠ l := fun e => by rw [e, hl] at ht; cases ht
  have hl' : upd H t (.tup (ns.map V.int)) l = some (.lst xs) := by rw [upd_ne ntl.symm]; exact hl
  refine paired_app (RowsI.mono (sqt_upd hl') (rows_same (same_new ht) h)) (.cons ⟨t, rfl, SqT.of ?_⟩ .nil)
  rw [upd_ne ntl, upd_same]
/-- all but the tables stay, nothing that was tracked is gone, the tables tell what they told -/
structure Grow (T : List (Addr × Str)) (H H' : Hp) : Prop where
  ext : ExtN H H'
  nn : ∀ b, H' b = Option.none → H b = Option.none
  tab : Tabs T H'
theorem Grow.same {T : List (Addr × Str)} {H H1 H2 : Hp} (a : Grow T H H1) (b : Same H1 H2) : Grow T H H2 := ⟨extn_same a.ext b, fun c h => a.nn c (b.free h), Tabs.ext a.tab b⟩
theorem Grow.refl {T : List (Addr × Str)} {H : Hp} (t : Tabs T H) : Grow T H H := ⟨ExtN.refl H, fun _ h => h, t⟩
theorem Grow.trans {T : List (Addr × Str)} {H H1 H2 : Hp} (a : Grow T H H1) (b : Grow T H1 H2) : Grow T H H2 := ⟨a.ext.trans b.ext, fun c h => a.nn c (b.nn c h), b.tab⟩
theorem Grow.ofSame {T : List (Addr × Str)} {H H1 : Hp} (b : Same H H1) (t : Tabs T H) : Grow T H H1 := (Grow.refl t).same b
theorem Grow.seq {T : List (Addr × Str)} {K : PySem.W.Frag} {H H' : Hp} {a : Addr} {xs : List V} (g : Grow T H H') (h : SqL K H a xs) : SqL K H' a xs := extn_seq g.ext h
theorem Grow.sqt {T : List (Addr × Str)} {K : PySem.W.Frag} {H H' : Hp} (g : Grow T H H') : ∀ t ys, SqT K H t ys → SqT K H' t ys := fun _ _ h => extn_tup g.ext h
theorem Grow.lst {T : List (Addr × Str)} {H H' : Hp} {a : Addr} {xs : List V} (g : Grow T H H') (h : H a = some (.lst xs)) : H' a = some (.lst xs) := g.ext _ _ h fun ps z => by cases z
theorem Grow.ins {T : List (Addr × Str)} {H H' : Hp} {a C dx : Addr} {fs : List (Str × V)} (g : Grow T H H') (h : H a = some (.ins C dx fs)) : H' a = some (.ins C dx fs) := g.ext _ _ h fun ps z => by cases z
theorem Grow.rows {T : List (Addr × Str)} {K : PySem.W.Frag} {H H' : Hp} {xs : List V} {bs : List (List Int)} (g : Grow T H H') (h : RowsI K H xs bs) : RowsI K H' xs bs := RowsI.mono g.sqt h
/-- a list changes in place -/
theorem tabs_upd {T : List (Addr × Str)} {H : Hp} {p : Addr} {xs : List V} {o : HO} (h : H p = some (.lst xs)) (t : Tabs T H) : Tabs T (upd H p o) := fun q hq => by
  obtain ⟨ps, h1, h2, h3⟩ := t q hq
  refine ⟨ps, by rw [upd_ne (ne_of h1 h (by intro z; cases z))]; exact h1, h2, fun pos cv hc => ?_⟩
  obtain ⟨c, e1, e2⟩ := h3 pos cv hc
  exact ⟨c, e1, by rw [upd_ne (ne_of e2 h (by unfold CodeO; intro z; cases z))]; exact e2⟩
end Bp

end

section
set_option Elab.async false
set_option linter.all false
set_option maxRecDepth 100000
set_option maxHeartbeats 4000000
namespace Bp
open PySem PySem.Spec PyProof.Rows L2 LamX

/-! ### of ints -/
def mapI (g : Int → Int) : V → V
  | .int n => .int (g n)
  | v => v
theorem map_mapI (g : Int → Int) : ∀ ns : List Int, (ns.map V.int).map (mapI g) = (ns.map g).map V.int
  | [] => rfl
  | n :: ns => by
    rw [List.map_cons, List.map_cons, map_mapI g ns]
    rfl
theorem size4 : (4 : Nat) ≤ sizeLine := by rw [sizeLine_eq]; decide
theorem le_size {n : Nat} (h : n ≤ 16777216) : n ≤ sizeLine := by rw [sizeLine_eq]; exact h
/-- [g x for x in xs if p x], ints -/
theorem lc_ints {K : PySem.W.Frag} {a : Addr} {ns : List Int} {j : Nat} {tt : TT} {te : TE} {σ : L2.St} {H1 : Hp} {D : Addr} {Qd : Hp → Prop} (g : Int → Int) (p : Int → Bool) (hD : H1 D = none) (hS : SqL K H1 a (ns.map V.int)) (hz : ns.length ≤ 100000)
    (hs : ∀ (i : Nat) n H, ns[i]? = some n → Same H1 H → ∀ Q : Bool → Hp → Prop, Q (p n) H → tt ((wipe σ [j]).set j (some (.int n))) H Q)
    (he : ∀ (i : Nat) n H, ns[i]? = some n → Same H1 H → p n = true → ∀ Q : VK, Q (.int (g n)) H → te ((wipe σ [j]).set j (some (.int n))) H Q) (hd : Qd (upd H1 D (.lst (((ns.filter p).map g).map V.int)))) :
    ∃ W : Nat → Nat → Hp → Prop, (∃ m, W 0 m (upd H1 D (.lst []))) ∧ ∀ i m H, W i m H →
      ((Itl K a).stop i H ∧ Qd H) ∨ ((Itl K a).go i H ∧ ∃ Nx : Hp → Prop, (∀ H', Nx H' → ∃ m', m' < m ∧ W (i + 1) m' H') ∧ ∀ x H', (Itl K a).yld i H x H' → gName j x (wipe σ [j]) H' fun σ2 H2 => wipe σ2 [j] = wipe σ [j] ∧ tt σ2 H2 fun b H3 =>
        if b = true then te σ2 H3 fun y H4 => ∃ acc, H4 D = some (.lst acc) ∧ acc.length < sizeLine ∧ Nx (upd H4 D (.lst (acc ++ [y]))) else Nx H3) := by
  refine lc_pure (f := mapI g) (p := onI p) hD hS (by rw [List.length_map, sizeLine_eq]; omega) (fun i x H hx sm Q q => ?_) (fun i x H hx sm hp Q q => ?_) ?_
  · obtain ⟨_, rfl, hn⟩ := map_at hx
    exact hs i _ H hn sm Q q
  · obtain ⟨_, rfl, hn⟩ := map_at hx
    exact he i _ H hn sm hp Q q
  · rw [filter_ints, map_mapI]
    exact hd
theorem filter_true {α : Type} (l : List α) : l.filter (fun _ => true) = l := List.filter_eq_self.mpr fun _ _ => rfl
/-- one of four -/
theorem pick4 {P : Int → Prop} {a b c d : Int} (ha : P a) (hb : P b) (hc : P c) (hd : P d) (i : Int) : ∃ m, P m ∧ atI [V.int a, V.int b, V.int c, V.int d] (i % 4) = some (V.int m) := by
  have h0 := Int.emod_nonneg i (by decide : (4 : Int) ≠ 0)
  have h1 := Int.emod_lt_of_pos i (by decide : (0 : Int) < 4)
  generalize i % 4 = k at h0 h1
  rcases (by omega : k = 0 ∨ k = 1 ∨ k = 2 ∨ k = 3) with rfl | rfl | rfl | rfl
  · exact ⟨a, ha, rfl⟩
  · exact ⟨b, hb, rfl⟩
  · exact ⟨c, hc, rfl⟩
  · exact ⟨d, hd, rfl⟩
/-- xs[-1] -/
theorem at_neg {xs : List V} (h : 0 < xs.length) : atI xs (-1) = xs.getLast? := by
  unfold atI
  have e : ixN xs.length (-1) = some (xs.length - 1) := by
    unfold ixN
    rw [if_neg (by decide), if_pos (by omega)]
    congr 1
    omega
  rw [e, List.getLast?_eq_getElem?]
  rfl
theorem at_last {ns : List Int} (h : 0 < ns.length) : ∃ m, m ∈ ns ∧ ns.getLast? = some m ∧ atI (ns.map V.int) (-1) = some (V.int m) := by
  cases e : ns.getLast? with
  | none => rw [List.getLast?_eq_none_iff] at e; rw [e] at h; cases h
  | some m =>
    refine ⟨m, List.mem_of_getLast? e, rfl, ?_⟩
    rw [at_neg (by rw [List.length_map]; exact h), List.getLast?_map, e]
    rfl
theorem at_snoc {init : List Int} {x : Int} : atI ((init ++ [x]).map V.int) (-1) = some (V.int x) := by
  rw [at_neg (by simp), List.getLast?_map, List.getLast?_append]
  rfl
theorem at_mem {ns : List Int} {i : Int} (h0 : 0 ≤ i) (h1 : i < ns.length) : ∃ m, m ∈ ns ∧ atI (ns.map V.int) i = some (V.int m) := by
  refine ⟨wAt ns i, ?_, at_int h0 h1⟩
  obtain ⟨k, rfl⟩ : ∃ k : Nat, i = (k : Int) := ⟨i.toNat, by omega⟩
  rw [wAt_nat, List.getD_eq_getElem?_getD, List.getElem?_eq_getElem (by omega)]
  exact List.getElem_mem _
theorem eqv_ints' (xs ys : List Int) : PyData.eqv (.list (xs.map .int)) (.list (ys.map .int)) = decide (xs = ys) := eqv_ints xs ys
theorem dp_nil {K : PySem.W.Frag} {H : Hp} {l : Addr} (h : H l = some (.lst [])) : Dp K H (.ref l) (.list (([] : List Int).map .int)) := dp_ints (ns := []) (SqL.of h)
/-- instances of a class of the text -/
structure Kls (K : PySem.W.Frag) (C : Addr) : Prop where
  cl : Cls K C
  at_ : PySem.W.findIn K (.ref C) "__class__" = some (some (.builtin "object.__class__"))
  mro : PySem.W.mroIn K C (.type "object") = some true
theorem tyx_ins {K : PySem.W.Frag} {H : Hp} {a C dx : Addr} {fs : List (Str × V)} (k : Kls K C) (hn : PySem.W.specialIn K (.builtin "object.__class__") "__get__" = some (some (.builtin "getset_descriptor.__get__"))) (htk : PySem.W.takesIn K (.builtin "object.__class__") = some true)
    (e : H a = some (.ins C dx fs)) : TyX K H (.ref a) (.ref C) := .base (.ins e k.cl k.at_ hn htk k.mro)
end Bp

end

section
set_option Elab.async false
set_option linter.all false
set_option maxRecDepth 100000
set_option maxHeartbeats 4000000
namespace Bp
open PySem PySem.Spec PyProof.Rows L2 LamX
/-- .. over a tuple -/
theorem lc_pureT {K : PySem.W.Frag} {a : Addr} {xs : List V} {j : Nat} {tt : TT} {te : TE} {σ : L2.St} {H1 : Hp} {D : Addr} {Qd : Hp → Prop} (f : V → V) (p : V → Bool) (hD : H1 D = none) (hS : SqT K H1 a xs) (hz : xs.length < sizeLine)
    (hs : ∀ (i : Nat) x H, xs[i]? = some x → Same H1 H → ∀ Q : Bool → Hp → Prop, Q (p x) H → tt ((wipe σ [j]).set j (some x)) H Q)
    (he : ∀ (i : Nat) x H, xs[i]? = some x → Same H1 H → p x = true → ∀ Q : VK, Q (f x) H → te ((wipe σ [j]).set j (some x)) H Q) (hd : Qd (upd H1 D (.lst ((xs.filter p).map f)))) :
    ∃ W : Nat → Nat → Hp → Prop, (∃ m, W 0 m (upd H1 D (.lst []))) ∧ ∀ i m H, W i m H →
      ((Itt K a).stop i H ∧ Qd H) ∨ ((Itt K a).go i H ∧ ∃ Nx : Hp → Prop, (∀ H', Nx H' → ∃ m', m' < m ∧ W (i + 1) m' H') ∧ ∀ x H', (Itt K a).yld i H x H' → gName j x (wipe σ [j]) H' fun σ2 H2 => wipe σ2 [j] = wipe σ [j] ∧ tt σ2 H2 fun b H3 =>
        if b = true then te σ2 H3 fun y H4 => ∃ acc, H4 D = some (.lst acc) ∧ acc.length < sizeLine ∧ Nx (upd H4 D (.lst (acc ++ [y]))) else Nx H3) := by
  refine lc_tup (xs := xs) (fun i H => H = upd H1 D (.lst (((xs.take i).filter p).map f))) (by rw [List.take_zero]; rfl) (fun i H _ e => ?_) (fun i x H hx e => ?_) (fun H e => ?_)
  · rw [e]
    exact Same.sqt (same_new hD) _ _ hS
  · subst e
    refine ⟨wipe1 σ j x, hs i x _ hx (same_new hD) _ ?_⟩
    by_cases hp : p x = true
    · rw [hp, if_pos rfl]
      refine he i x _ hx (same_new hD) hp _ ⟨_, upd_same, ?_, ?_⟩
      · have := List.length_filter_le p (xs.take i)
        rw [List.length_map]
        rw [List.length_take] at this
        omega
      · rw [upd_upd, take_next hx, List.filter_append, List.map_append, List.filter_cons_of_pos hp]
        rfl
    · rw [if_neg hp, take_next hx, List.filter_append, List.filter_cons_of_neg hp]
      simp
  · rw [e, List.take_of_length_le (Nat.le_refl _)]
    exact hd

/-- one of two rules, as the reading says -/
def tBoth (t u : TE) : TE := fun σ H Q => t σ H Q ∨ u σ H Q
theorem pe_both {X : Cx} {e : Expr} {t u : TE} (h : PE X e t) (k : PE X e u) : PE X e (tBoth t u) := ⟨fun pins s σ H Q I q => q.elim (h.run pins s σ H Q I) (k.run pins s σ H Q I)⟩
theorem Grow.mut {T : List (Addr × Str)} {H H' : Hp} {b : Addr} {xs : List V} {o : HO} (g : Grow T H H') (h0 : H b = none) (hb : H' b = some (.lst xs)) : Grow T H (upd H' b o) := by
  refine ⟨fun c u e n => ?_, fun c e => ?_, tabs_upd hb g.tab⟩
  · rw [upd_ne (ne_of_none e h0)]
    exact g.ext c u e n
  · by_cases z : c = b
    · rw [z, upd_same] at e
      cases e
    · rw [upd_ne z] at e
      exact g.nn c e
/-- [e for x in xs], e may make things -/
theorem lc_same {K : PySem.W.Frag} {a : Addr} {xs : List V} {j : Nat} {te : TE} {σ : L2.St} {H1 : Hp} {D : Addr} {Qd : Hp → Prop} (f : V → V) (hD : H1 D = none) (hS : SqL K H1 a xs) (hz : xs.length < sizeLine)
    (he : ∀ (i : Nat) x H, xs[i]? = some x → Same H1 H → ∀ Q : VK, (∀ H', Same H H' → Q (f x) H') → te ((wipe σ [j]).set j (some x)) H Q) (hd : ∀ H', Same H1 H' → H' D = some (.lst (xs.map f)) → Qd H') :
    ∃ W : Nat → Nat → Hp → Prop, (∃ m, W 0 m (upd H1 D (.lst []))) ∧ ∀ i m H, W i m H →
      ((Itl K a).stop i H ∧ Qd H) ∨ ((Itl K a).go i H ∧ ∃ Nx : Hp → Prop, (∀ H', Nx H' → ∃ m', m' < m ∧ W (i + 1) m' H') ∧ ∀ x H', (Itl K a).yld i H x H' → gName j x (wipe σ [j]) H' fun σ2 H2 => wipe σ2 [j] = wipe σ [j] ∧ tYes σ2 H2 fun b H3 =>
        if b = true then te σ2 H3 fun y H4 => ∃ acc, H4 D = some (.lst acc) ∧ acc.length < sizeLine ∧ Nx (upd H4 D (.lst (acc ++ [y]))) else Nx H3) := by
  refine lc_list (xs := xs) (fun i H => Same H1 H ∧ H D = some (.lst ((xs.take i).map f))) ⟨same_new hD, by rw [upd_same, List.take_zero]; rfl⟩ (fun i H _ e => e.1.seq hS) (fun i x H hx e => ?_) (fun H e => ?_)
  · refine ⟨wipe1 σ j x, ?_⟩
    simp only [tYes, if_true]
    refine he i x H hx e.1 _ fun H' sm => ⟨_, sm _ _ e.2, ?_, same_mut (e.1.trans sm) hD, ?_⟩
    · rw [List.length_map, List.length_take]
      omega
    · rw [upd_same, take_next hx, List.map_append]
      rfl
  · rw [List.take_of_length_le (Nat.le_refl _)] at e
    exact hd H e.1 e.2
end Bp

end

section
set_option Elab.async false
set_option linter.all false
set_option maxRecDepth 100000
set_option maxHeartbeats 4000000
namespace Bp
open PySem PySem.Spec PyProof.Rows L2 LamX
/-- list(range(i, j, c)) -/
def tLst3 (t : TA) : TE := fun σ H Q => t σ H fun vs H1 => ∃ (i j c : Int) (n : Nat), vs = [.int i, .int j, .int c] ∧ RgC i j c n ∧ n ≤ 2 ^ 24 ∧ ∀ q, H1 q = none → Q (.ref q) (upd H1 q (.lst ((List.range n).map fun k : Nat => V.int (i + (k : Int) * c))))
theorem vals_step {i c : Int} {n : Nat} {acc : Array Value} (h : ItemsOf (fun k v => ∃ t, v = .int (i + k * c) t) acc n) : Vals ((List.range n).map fun k : Nat => V.int (i + (k : Int) * c)) acc.toList := by
  have e : acc.toList.length = n := by rw [Array.length_toList]; exact h.1
  rw [← e]
  refine vals_of_get acc.toList _ fun j u hj => ?_
  obtain ⟨t, rfl⟩ := h.2 j u (by rw [← hj, Array.getElem?_toList])
  exact ⟨t, rfl⟩
theorem pe_listRg3 {X : Cx} {a b c : Expr} {t : TA} {p p2 pos pos2 : Pos} (hc : X.calm = true) (hg : Gl X "list") (hm : X.mg "list" = none) (hg2 : Gl X "range") (hm2 : X.mg "range" = none) (ha : PA X [a, b, c] t)
    (na : starEach [.Call (.Name "range" p2) [a, b, c] [] pos2] X.env = (false, eval (.Call (.Name "range" p2) [a, b, c] [] pos2) X.env) :: starEach [] X.env := by rfl)
    (hs : starEach [a, b, c] X.env = (false, eval a X.env) :: starEach [b, c] X.env := by rfl) (hpl : (backTo pos2 (starEach [b, c] X.env)).any (·.1) = false := by rfl) :
    PE X (.Call (.Name "list" p) [.Call (.Name "range" p2) [a, b, c] [] pos2] [] pos) (tLst3 t) := by
  refine ⟨fun pins s σ H Q I h => ?_⟩
  have inner : wpAny (model X.prog X.w) X.A (eval (.Call (.Name "range" p2) [a, b, c] [] pos2) X.env) (fun x s' => ∃ r i j k n t u v H', x = .ref r ∧ IsRange s'.heap r i j k t u v ∧ RgC i j k n ∧ n ≤ 2 ^ 24 ∧ Inv X pins σ H' s' ∧ ∀ q, H' q = none → Q (.ref q) (upd H' q (.lst ((List.range n).map fun m : Nat => V.int (i + (m : Int) * k))))) X.xe s := by
    refine Call_ (ld_blt I hg2 hm2 boot_range (PyProof.Rows.callWith_type1 (thn (ha.run pos2 pins s σ H _ I h) fun us s1 ⟨vs, H1, I1, r1, q1⟩ => ?_) hs hpl))
    obtain ⟨i, j, k, n, e, ⟨c0, c1, c2, c3⟩, h24, q⟩ := q1
    subst e
    cases r1 with
    | cons r rr =>
      cases rr with
      | cons r' rr =>
        cases rr with
        | cons r'' rr =>
          cases rr
          obtain ⟨t, rfl⟩ := r
          obtain ⟨t', rfl⟩ := r'
          obtain ⟨t'', rfl⟩ := r''
          exact call_range_3 c0 ⟨_, i, j, k, n, _, _, _, H1, rfl, IsRange.new _ _ _ _ _ _ _, ⟨c0, c1, c2, c3⟩, h24, I1.kept fun b u e => Heap.get?_push_of_some _ e, q⟩ (.inl (PyProof.noPylong_small c1))
  refine Call_ (ld_blt I hg hm boot_list (PyProof.Rows.callWith_type1 (args_cons (thn inner fun x s1 ⟨r, i, j, k, n, t, u, v, H1, ex, hr, ⟨c0, c1, c2, c3⟩, h24, I1, q⟩ => args_nil ?_) na) na))
  subst ex
  refine call_list_range (n := n) (I1.ok.hd hc) hr c2 c3 h24 fun h' tk acc c' hk e' hi => ?_
  refine ⟨.ref s1.heap.objs.size, upd H1 s1.heap.objs.size (.lst ((List.range n).map fun m : Nat => V.int (i + (m : Int) * k))), I1.laid hk (Nat.le_refl _) (show ObjOk X.prog X.w _ _ _ (.lst ((List.range n).map fun m : Nat => V.int (i + (m : Int) * k))) from ⟨?_, acc.toList, c', vals_step hi, ?_⟩), rfl, q _ (I1.hok.fresh (Nat.le_refl _))⟩
  · rw [List.length_map, List.length_range, sizeLine_eq]; omega
  · rw [Array.toArray_toList]; exact e'
theorem rgc_odds {n : Int} (h0 : 0 ≤ n) (h1 : n ≤ 100000) : RgC 1 n 2 (n / 2).toNat := by
  have e : Builtin.Range.rangeSize 1 n 2 = ((n / 2).toNat : Int) := by
    unfold Builtin.Range.rangeSize
    rw [if_pos (by decide)]
    split <;> omega
  refine ⟨by decide, by decide, ?_, e⟩
  unfold Builtin.Range.small
  rw [e]
  simp only [Builtin.Range.rangeFitsLong, Bool.and_eq_true, Bool.or_eq_true, decide_eq_true_eq, beq_iff_eq]
  refine ⟨?_, ?_⟩ <;> (first | omega | (refine ⟨?_, ?_⟩ <;> omega) | (right; rw [if_pos (by decide), Bool.and_eq_true, decide_eq_true_eq, decide_eq_true_eq]; constructor <;> omega))
end Bp

end

section
set_option Elab.async false
set_option linter.all false
set_option maxRecDepth 100000
set_option maxHeartbeats 4000000
namespace Bp
open PySem PySem.Spec PyProof.Rows L2 LamX
/-! ### t[::-1] -/
theorem all_places {α : Type} : ∀ l : List α, (List.range l.length).filterMap (fun k => l[k]?) = l
  | [] => rfl
  | a :: l => by
    rw [List.length_cons, List.range_succ_eq_map, List.filterMap_cons, List.filterMap_map]
    exact congrArg (a :: ·) (all_places l)
theorem fm_congr {α β : Type} {f g : α → Option β} : ∀ {l : List α}, (∀ x ∈ l, f x = g x) → l.filterMap f = l.filterMap g
  | [], _ => rfl
  | a :: l, h => by
    rw [List.filterMap_cons, List.filterMap_cons, h a List.mem_cons_self, fm_congr fun x hx => h x (List.mem_cons_of_mem _ hx)]
theorem pick_rev (l : List Value) : (List.range l.length).filterMap (fun k : Nat => l.toArray[((l.length : Int) - 1 + (k : Int) * (-1)).toNat]?) = l.reverse := by
  have e : ∀ k ∈ List.range l.length, l.toArray[((l.length : Int) - 1 + (k : Int) * (-1)).toNat]? = l.reverse[k]? := fun k hk => by
    have hk := List.mem_range.mp hk
    rw [List.getElem?_toArray, List.getElem?_reverse hk, show ((l.length : Int) - 1 + (k : Int) * (-1)).toNat = l.length - 1 - k by omega]
  rw [fm_congr e]
  have := all_places l.reverse
  rw [List.length_reverse] at this
  exact this
section
variable {prog : Program} {w : World} {A : Around} {E : Value → Shared → Prop} {s : Shared}
theorem applied_rev {sl : Addr} {t : Tok} {n : Nat} {Q : Int × Int × Nat → Shared → Prop} (hs : s.heap.IsSliceOf sl .none .none (.int (-1) t)) (h : Q ((n : Int) - 1, -1, n) s) : wpAny (model prog w) A (Builtin.Slice.sliceApplied (.ref sl) (pure (n : Int))) Q E s := by
  obtain ⟨o, ho, hc, hd⟩ := hs; unfold Builtin.Slice.sliceApplied Builtin.Slice.sliceFields
  refine wpAny_bind (wpAny_bind (wpAny_field ho hd (x := .none) rfl (wpAny_bind (wpAny_field ho hd (x := .none) rfl (wpAny_bind (wpAny_field ho hd (x := .int (-1) t) rfl (wpAny_pure ?_)))))))
  refine wpAny_bind (slicePart_int ?_); show wpAny _ _ (if ((-1 : Int) == 0) = true then _ else _) _ _ s
  rw [if_neg (show ¬ ((-1 : Int) == 0) = true by decide)]; refine wpAny_bind (slicePart_none (wpAny_bind (slicePart_none (wpAny_bind (wpAny_pure ?_)))))
  have e : Builtin.Slice.slicePlaces ((n : Int) - 1) (-1) (-1) = n := by
    unfold Builtin.Slice.slicePlaces
    rw [if_neg (by decide)]
    split
    · rw [show (-(-1) : Int) = 1 from rfl, Int.ediv_one]
      omega
    · omega
  show wpAny _ _ (pure ((n : Int) - 1, (-1 : Int), Builtin.Slice.slicePlaces ((n : Int) - 1) (-1) (-1))) _ _ s
  rw [e]
  exact wpAny_pure h
theorem item_rev {t sl : Addr} {u : Tok} {l : List Value} {Q : Value → Shared → Prop} (ht : IsTup s.heap t l.toArray) (hs : s.heap.IsSliceOf sl .none .none (.int (-1) u)) (hz : l.length ≤ sizeLine)
    (h : Q (.ref s.heap.objs.size) { s with heap := s.heap.push { cls := .type "tuple", data := .seq l.reverse.toArray } }) : wpAny (model prog w) A (getItem (.ref t) (.ref sl)) Q E s := by
  have hT : s.TypeIs (.ref sl) "slice" := by obtain ⟨o, ho, hc, hd⟩ := hs; exact ⟨o, ho, hc⟩
  have hk : sizeOk (.seq l.reverse.toArray) := by show l.reverse.toArray.size ≤ sizeLine; rw [List.size_toArray, List.length_reverse]; exact hz
  unfold getItem; try with_reducible refine wpAny_holding ?_
  first | refine wpAny_bind (wpAny_pure ?_); skip | skip
  refine wpAny_bind (wpAny_sequenceKey ht.typeIs (by decide) (wpAny_bind (wpAny_callSpecial?_slot (name := Str.ofString "__getitem__") ht.typeIs PyProof.Rows.slot_tuple_getitem (wpAny_call_entry PyProof.Rows.slot_tuple_getitem ht.typeIs entry_tuple_getitem ?_ (args_tuple_getitem _ _)))))
  refine wpAny_bind (m := Builtin.Tuple.tupleItemsOf (.ref t)) (tupleItemsOf_ ht (wpAny_bind (wpAny_typeOf hT ?_)))
  rw [if_pos (by decide)]; rw [List.size_toArray]; refine wpAny_bind (applied_rev hs ?_)
  show wpAny _ _ (if ((((l.length : Int) - 1 == 0) && ((-1 : Int) == 1) && (l.length == l.length))) = true then _ else _) _ _ s
  rw [if_neg (by simp), pick_rev]
  first
    | exact wpAny_bind (m := Builtin.Tuple.tupleExact _) (wpAny_newObj_type (wpAny_pure ⟨_, rfl, wpAny_pure h⟩) hk); done
    | exact wpAny_bind (m := Builtin.Tuple.tupleExact _) (wpAny_newObj_type (wpAny_bind (wpAny_pure (wpAny_pure ⟨_, rfl, wpAny_pure h⟩))) hk); done
    | exact wpAny_bind (wpAny_bind (m := Builtin.Tuple.tupleExact _) (wpAny_newObj_type (wpAny_pure (wpAny_pure ⟨_, rfl, wpAny_pure h⟩)) hk)); done
    | exact wpAny_bind (wpAny_bind (m := Builtin.Tuple.tupleExact _) (wpAny_newObj_type (wpAny_pure ⟨_, rfl, wpAny_pure h⟩) hk)); done
end
def tRevT (K : PySem.W.Frag) (te : TE) : TE := fun σ H Q => te σ H fun x H1 => ∃ a xs, x = .ref a ∧ SqT K H1 a xs ∧ ∀ p, H1 p = none → Q (.ref p) (upd H1 p (.tup xs.reverse))
theorem pe_revT {X : Cx} {e : Expr} {te : TE} {k : Nat} {p1 p2 p3 pos : Pos} (he : PE X e te) : PE X (.Subscript e (.Slice none none (some (.UnaryOp .USub (.Constant (.int 1) k p1) p2)) p3) pos) (tRevT X.K te) := by
  refine ⟨fun pins s σ H Q I h => Subscript_ (thn (he.run pins s σ H _ I h) fun v s1 ⟨x, H1, I1, r1, a, xs, ex, hx, q⟩ => ?_)⟩
  subst ex; cases r1
  have hp : PO X (some (.UnaryOp .USub (.Constant (.int 1) k p1) p2)) (tPart (tUn (rU fun i => .int (-i)) (tC (.int 1)))) := po_some (pe_un un_neg pe_int)
  refine wpAny_Slice (thn (po_none.run pins s1 σ H1 (fun o H2 => o = none ∧ H2 = H1) I1 ⟨rfl, rfl⟩) fun vl s2 ⟨l, H2, I2, pl, el, e2⟩ => thn (po_none.run pins s2 σ H2 (fun o H3 => o = none ∧ H3 = H2) I2 ⟨rfl, rfl⟩) fun vu s3 ⟨u, H3, I3, pu, eu, e3⟩ => thn (hp.run pins s3 σ H3 (fun o H4 => o = some (-1) ∧ H4 = H3) I3 ⟨1, rfl, -1, rfl, rfl, rfl⟩) fun vs s4 ⟨o, H4, I4, ps, eo, e4⟩ => ?_)
  subst el e2 eu e3 eo e4
  cases pl; cases pu; cases ps with
  | int _ tk =>
  have I5 : Inv X pins σ H4 { s4 with heap := s4.heap.push { cls := .type "slice", data := .fields #[.none, .none, .int (-1) tk] } } := I4.kept (t' := s4.toks) fun b ob q => Heap.get?_push_of_some _ q
  obtain ⟨its, r, ht, hz⟩ := I5.tuple hx
  have hl := r.length
  show wpAny (model X.prog X.w) X.A (subscriptTail e (.Slice none none (some (.UnaryOp .USub (.Constant (.int 1) k p1) p2)) p3) (.ref a) (.ref s4.heap.objs.size)) (EP X pins σ Q) X.xe { s4 with heap := s4.heap.push { cls := .type "slice", data := .fields #[.none, .none, .int (-1) tk] } }
  refine tail_any (ops := [.ref a, .ref s4.heap.objs.size]) ht.typeIs PyProof.Rows.slot_tuple_getitem.lookup ?_ (by with_unfolding_all rfl)
  refine item_rev ht (Heap.IsSliceOf.new _ .none .none (.int (-1) tk)) (by omega) ?_
  exact ⟨.ref _, _, I5.laid (t' := s4.toks) (o := .tup xs.reverse) (fun b ob q => Heap.get?_push_of_some _ q) (Nat.le_refl _) ⟨by rw [List.length_reverse]; exact hz, _, r.reverse, IsTup.new _ _⟩, rfl, q _ (I5.hok.fresh (Nat.le_refl _))⟩
/-! ### a statement's ends, told by one thing -/
def tJoin (t : TS) : TS := fun D σ H => ∃ J : L2.St → Hp → Prop, t { D with nx := J } σ H ∧ ∀ σ' H', J σ' H' → D.nx σ' H'
theorem ps_join {X : Cx} {st : Stmt} {t : TS} (h : PS X st t) : PS X st (tJoin t) := ⟨fun pins s σ H D I ⟨J, q, k⟩ => thn (h.run pins s σ H _ I q) fun f s' z => by
  cases f with
  | next => exact z.elim fun σ' z => z.elim fun H' z => ⟨σ', H', z.1, k _ _ z.2⟩
  | brk => exact z
  | cont => exact z
  | ret u => exact z⟩
/-- [e for boat in boats], e a tuple of ints for each -/
theorem lc_rows {K : PySem.W.Frag} {a : Addr} {xs : List V} {bs : List (List Int)} {j : Nat} {te : TE} {σ : L2.St} {H1 : Hp} {D : Addr} {Qd : Hp → Prop} (g : List Int → List Int) (hD : H1 D = none) (hS : SqL K H1 a xs) (hr : RowsI K H1 xs bs) (hz : bs.length ≤ 100000)
    (he : ∀ (c : List Int) (t : Addr) H, c ∈ bs → Same H1 H → SqT K H t (c.map V.int) → ∀ Q : VK, (∀ H' t', Same H H' → SqT K H' t' ((g c).map V.int) → Q (.ref t') H') → te ((wipe σ [j]).set j (some (.ref t))) H Q)
    (hd : ∀ H' ys, Same H1 H' → H' D = some (.lst ys) → RowsI K H' ys (bs.map g) → Qd H') :
    ∃ W : Nat → Nat → Hp → Prop, (∃ m, W 0 m (upd H1 D (.lst []))) ∧ ∀ i m H, W i m H →
      ((Itl K a).stop i H ∧ Qd H) ∨ ((Itl K a).go i H ∧ ∃ Nx : Hp → Prop, (∀ H', Nx H' → ∃ m', m' < m ∧ W (i + 1) m' H') ∧ ∀ x H', (Itl K a).yld i H x H' → gName j x (wipe σ [j]) H' fun σ2 H2 => wipe σ2 [j] = wipe σ [j] ∧ tYes σ2 H2 fun b H3 =>
        if b = true then te σ2 H3 fun y H4 => ∃ acc, H4 D = some (.lst acc) ∧ acc.length < sizeLine ∧ Nx (upd H4 D (.lst (acc ++ [y]))) else Nx H3) := by
  have hl := Paired.length hr
  refine lc_list (xs := xs) (fun i H => Same H1 H ∧ ∃ ys, H D = some (.lst ys) ∧ RowsI K H ys ((bs.take i).map g)) ⟨same_new hD, [], upd_same, by rw [List.take_zero]; exact .nil⟩ (fun i H _ e => e.1.seq hS) (fun i x H hx e => ?_) (fun H e => ?_)
  · obtain ⟨sm, ys, hys, hrw⟩ := e
    obtain ⟨c, hc, t, rfl, ht⟩ := paired_get hr hx
    refine ⟨wipe1 σ j _, ?_⟩
    simp only [tYes, if_true]
    have yl := Paired.length hrw
    rw [List.length_map, List.length_take] at yl
    refine he c t H (List.mem_of_getElem? hc) sm (Same.sqt sm _ _ ht) _ fun H' t' s2 ht' => ⟨ys, s2 _ _ hys, by rw [sizeLine_eq]; omega, same_mut (sm.trans s2) hD, _, upd_same, ?_⟩
    rw [take_next hc, List.map_append]
    exact paired_app (RowsI.mono (sqt_upd (s2 _ _ hys)) (rows_same s2 hrw)) (.cons ⟨t', rfl, sqt_upd (s2 _ _ hys) _ _ ht'⟩ .nil)
  · obtain ⟨sm, ys, hys, hrw⟩ := e
    rw [hl, List.take_of_length_le (Nat.le_refl _)] at hrw
    exact hd H ys sm hys hrw
theorem flat_le {M : Nat} : ∀ {cs : List (List Int)}, (∀ c ∈ cs, c.length ≤ M) → cs.flatten.length ≤ M * cs.length
  | [], _ => Nat.zero_le _
  | c :: cs, h => by
    have h1 := h c List.mem_cons_self
    have h2 := flat_le (cs := cs) fun d hd => h d (List.mem_cons_of_mem _ hd)
    rw [List.flatten_cons, List.length_append, List.length_cons, Nat.mul_add]
    omega
end Bp

end

section
set_option Elab.async false
set_option linter.all false
set_option maxRecDepth 100000
set_option maxHeartbeats 4000000
namespace Bp
open PySem PySem.Spec PyProof.Rows L2 LamX
/-! ### data typed out: lists, tuples, numbers, True and False -/
mutual
inductive Lay (H : Hp) : V → PyData → Prop where
  | int (i : Int) : Lay H (.int i) (.int i)
  | bl (b : Bool) : Lay H (.bl b) (.bool b)
  | lst {p : Addr} {vs : List V} {ds : List PyData} (h : H p = some (.lst vs)) (a : LayAll H vs ds) : Lay H (.ref p) (.list ds)
  | tup {p : Addr} {vs : List V} {ds : List PyData} (h : H p = some (.tup vs)) (a : LayAll H vs ds) : Lay H (.ref p) (.tuple ds)
inductive LayAll (H : Hp) : List V → List PyData → Prop where
  | nil : LayAll H [] []
  | cons {v : V} {vs : List V} {d : PyData} {ds : List PyData} (h : Lay H v d) (a : LayAll H vs ds) : LayAll H (v :: vs) (d :: ds)
end
mutual
theorem Lay.same {H H' : Hp} (e : Same H H') : ∀ {v : V} {d : PyData}, Lay H v d → Lay H' v d
  | _, _, .int i => .int i
  | _, _, .bl b => .bl b
  | _, _, .lst h a => .lst (e _ _ h) (LayAll.same e a)
  | _, _, .tup h a => .tup (e _ _ h) (LayAll.same e a)
theorem LayAll.same {H H' : Hp} (e : Same H H') : ∀ {vs : List V} {ds : List PyData}, LayAll H vs ds → LayAll H' vs ds
  | _, _, .nil => .nil
  | _, _, .cons h a => .cons (Lay.same e h) (LayAll.same e a)
end
theorem LayAll.len {H : Hp} : ∀ {vs : List V} {ds : List PyData}, LayAll H vs ds → vs.length = ds.length
  | _, _, .nil => rfl
  | _, _, .cons _ a => congrArg Nat.succ a.len
theorem LayAll.app {H : Hp} : ∀ {vs us : List V} {ds es : List PyData}, LayAll H vs ds → LayAll H us es → LayAll H (vs ++ us) (ds ++ es)
  | _, _, _, _, .nil, b => b
  | _, _, _, _, .cons h a, b => .cons h (a.app b)
theorem LayAll.get {H : Hp} : ∀ {vs : List V} {ds : List PyData}, LayAll H vs ds → ∀ {i : Nat} {v : V}, vs[i]? = some v → ∃ d, ds[i]? = some d ∧ Lay H v d
  | _, _, .nil, _, _, h => by simp at h
  | _, _, .cons l a, 0, _, h => by
    cases h
    exact ⟨_, rfl, l⟩
  | _, _, .cons l a, i + 1, _, h => by
    obtain ⟨d, h1, h2⟩ := a.get (i := i) (by simpa using h)
    exact ⟨d, by simpa using h1, h2⟩
theorem lay_rep {H : Hp} {v : V} {d : PyData} (l : Lay H v d) : ∀ n : Nat, LayAll H (List.replicate n [v]).flatten (List.replicate n d)
  | 0 => .nil
  | n + 1 => by
    rw [List.replicate_succ, List.replicate_succ]
    exact .cons l (lay_rep l n)
theorem lay_ints {H : Hp} : ∀ {ns : List Int} {vs : List V}, LayAll H vs (ns.map .int) → vs = ns.map V.int
  | [], _, .nil => rfl
  | n :: ns, _, .cons h a => by
    cases h
    rw [lay_ints a]
    rfl
def encB (b : List Int) : PyData := .tuple (b.map .int)
theorem lay_rows {K : PySem.W.Frag} {H : Hp} : ∀ {bs : List (List Int)} {vs : List V}, LayAll H vs (bs.map encB) → RowsI K H vs bs
  | [], _, .nil => .nil
  | b :: bs, _, .cons h a => by
    cases h with
    | tup h q =>
      rw [lay_ints q] at h
      exact .cons ⟨_, rfl, SqT.of h⟩ (lay_rows a)
def tLit (p : L2.St → Prop) (d : PyData) : TE := fun σ H Q => p σ ∧ ∀ H' v, Same H H' → Lay H' v d → Q v H'
def tLits (p : L2.St → Prop) (ds : List PyData) : TA := fun σ H R => p σ ∧ ∀ H' vs, Same H H' → LayAll H' vs ds → R vs H'
section
variable {X : Cx} {p : L2.St → Prop}
theorem pe_weak {e : Expr} {t t' : TE} (h : PE X e t) (k : ∀ σ H Q, t' σ H Q → t σ H Q) : PE X e t' := ⟨fun pins s σ H Q I q => h.run pins s σ H Q I (k σ H Q q)⟩
theorem pa_weak {es : List Expr} {t t' : TA} (h : PA X es t) (k : ∀ σ H R, t' σ H R → t σ H R) : PA X es t' := ⟨fun pos pins s σ H R I q => h.run pos pins s σ H R I (k σ H R q)⟩
theorem lit_int {i : Int} {k : Nat} {pos : Pos} : PE X (.Constant (.int i) k pos) (tLit p (.int i)) := pe_weak pe_int fun σ H Q h => h.2 H _ (Same.refl H) (.int i)
theorem lit_neg {i : Int} {k : Nat} {pos pos2 : Pos} : PE X (.UnaryOp .USub (.Constant (.int i) k pos) pos2) (tLit p (.int (-i))) := pe_weak (pe_un un_neg pe_int) fun σ H Q h => ⟨i, rfl, h.2 H _ (Same.refl H) (.int (-i))⟩
theorem lit_bl {b : Bool} {k : Nat} {pos : Pos} : PE X (.Constant (.bool b) k pos) (tLit p (.bool b)) := pe_weak pe_bl fun σ H Q h => h.2 H _ (Same.refl H) (.bl b)
theorem lit_of {e : Expr} {t : TE} {g : Int} (h : PE X e t) (k : ∀ σ H Q, p σ → Q (.int g) H → t σ H Q) : PE X e (tLit p (.int g)) := pe_weak h fun σ H Q q => k σ H Q q.1 (q.2 H _ (Same.refl H) (.int g))
theorem lit_lst {es : List Expr} {ds : List PyData} {pos : Pos} (h : PA X es (tLits p ds)) (hz : ds.length ≤ 1000) : PE X (.List es pos) (tLit p (.list ds)) :=
  pe_weak (pe_lst h) fun σ H Q q => ⟨q.1, fun H' vs s a => ⟨by rw [a.len, sizeLine_eq]; omega, fun l hl => q.2 _ _ (s.trans (same_new hl)) (.lst upd_same (a.same (same_new hl)))⟩⟩
theorem lit_tup {es : List Expr} {ds : List PyData} {k : Nat} {pos : Pos} (h : PA X es (tLits p ds)) (hz : ds.length ≤ 1000) : PE X (.Tuple es k pos) (tLit p (.tuple ds)) :=
  pe_weak (pe_tup h) fun σ H Q q => ⟨q.1, fun H' vs s a => ⟨by rw [a.len, sizeLine_eq]; omega, fun l hl => q.2 _ _ (s.trans (same_new hl)) (.tup upd_same (a.same (same_new hl)))⟩⟩
theorem la_nil : PA X [] (tLits p []) := pa_weak pa_nil fun σ H R q => q.2 H [] (Same.refl H) .nil
theorem la_cons {e : Expr} {es : List Expr} {d : PyData} {ds : List PyData} (h : PE X e (tLit p d)) (k : PA X es (tLits p ds)) (hs : starEach (e :: es) X.env = (false, eval e X.env) :: starEach es X.env := by rfl) : PA X (e :: es) (tLits p (d :: ds)) :=
  pa_weak (pa_cons h k hs) fun σ H R q => ⟨q.1, fun H1 v s1 l1 => ⟨q.1, fun H2 vs s2 l2 => q.2 _ _ (s1.trans s2) (.cons (l1.same s2) l2)⟩⟩
theorem lit_rep {e : Expr} {d : PyData} {k : Int} {n : Nat} {pos pos2 : Pos} (h : PE X e (tLit p (.list [d]))) (h0 : 0 ≤ k) (h1 : k ≤ 1000) : PE X (.BinOp e .Mult (.Constant (.int k) n pos) pos2) (tLit p (.list (List.replicate k.toNat d))) :=
  pe_weak (pe_op op_rep h pe_int) fun σ H Q q => ⟨q.1, fun H' v s l => by
    cases l with
    | @lst l vs _ hl a =>
      cases a with
      | cons hv hn =>
        cases hn
        exact ⟨l, k, _, rfl, rfl, hl, by omega, by omega, by rw [sizeLine_eq]; show 1 * k.toNat ≤ _; omega, fun r hr => q.2 _ _ (s.trans (same_new hr)) (.lst upd_same ((lay_rep hv _).same (same_new hr)))⟩⟩
/-- 10 ** 30 -/
abbrev great : Int := 10 ^ (30 : Int).toNat
abbrev PGr : L2.St → Prop := fun σ => σ[0]? = some (some (.int great))
end
/-! ### the cases -/
def enc5 (c : List (List Int) × Int × List Int × Int × Bool) : PyData := .tuple [.list (c.1.map encB), .int c.2.1, .list (c.2.2.1.map .int), .int c.2.2.2.1, .bool c.2.2.2.2]
theorem lay5 {K : PySem.W.Frag} {H : Hp} {v : V} {c : List (List Int) × Int × List Int × Int × Bool} (l : Lay H v (enc5 c)) : ∃ (t b a : Addr) (xs : List V), v = .ref t ∧ H t = some (.tup [.ref b, .int c.2.1, .ref a, .int c.2.2.2.1, .bl c.2.2.2.2]) ∧ H b = some (.lst xs) ∧ RowsI K H xs c.1 ∧ H a = some (.lst (c.2.2.1.map V.int)) := by
  cases l with
  | tup h q =>
  cases q with
  | cons q1 q =>
  cases q with
  | cons q2 q =>
  cases q with
  | cons q3 q =>
  cases q with
  | cons q4 q =>
  cases q with
  | cons q5 q =>
  cases q
  cases q2
  cases q4
  cases q5
  cases q1 with
  | lst h1 r1 =>
  cases q3 with
  | lst h3 r3 =>
  rw [lay_ints r3] at h3
  exact ⟨_, _, _, _, rfl, h, h1, lay_rows r1, h3⟩
/-- a number or two, a list of numbers -/
def enc4 (c : Int × List Int × Int × Bool) : PyData := .tuple [.int c.1, .list (c.2.1.map .int), .int c.2.2.1, .bool c.2.2.2]
theorem lay4 {H : Hp} {v : V} {c : Int × List Int × Int × Bool} (l : Lay H v (enc4 c)) : ∃ (t a : Addr), v = .ref t ∧ H t = some (.tup [.int c.1, .ref a, .int c.2.2.1, .bl c.2.2.2]) ∧ H a = some (.lst (c.2.1.map V.int)) := by
  cases l with
  | tup h q =>
  cases q with
  | cons q1 q =>
  cases q with
  | cons q2 q =>
  cases q with
  | cons q3 q =>
  cases q with
  | cons q4 q =>
  cases q
  cases q1
  cases q3
  cases q4
  cases q2 with
  | lst h3 r3 =>
  rw [lay_ints r3] at h3
  exact ⟨_, _, rfl, h, h3⟩
def enc3 (c : List Int × Int × Int) : PyData := .tuple [.list (c.1.map .int), .int c.2.1, .int c.2.2]
theorem lay3 {H : Hp} {v : V} {c : List Int × Int × Int} (l : Lay H v (enc3 c)) : ∃ (t a : Addr), v = .ref t ∧ H t = some (.tup [.ref a, .int c.2.1, .int c.2.2]) ∧ H a = some (.lst (c.1.map V.int)) := by
  cases l with
  | tup h q =>
  cases q with
  | cons q1 q =>
  cases q with
  | cons q2 q =>
  cases q with
  | cons q3 q =>
  cases q
  cases q2
  cases q3
  cases q1 with
  | lst h3 r3 =>
  rw [lay_ints r3] at h3
  exact ⟨_, _, rfl, h, h3⟩
def enc2 (c : List Int × Int) : PyData := .tuple [.list (c.1.map .int), .int c.2]
theorem lay2 {H : Hp} {v : V} {c : List Int × Int} (l : Lay H v (enc2 c)) : ∃ (t a : Addr), v = .ref t ∧ H t = some (.tup [.ref a, .int c.2]) ∧ H a = some (.lst (c.1.map V.int)) := by
  cases l with
  | tup h q =>
  cases q with
  | cons q1 q =>
  cases q with
  | cons q2 q =>
  cases q
  cases q2
  cases q1 with
  | lst h3 r3 =>
  rw [lay_ints r3] at h3
  exact ⟨_, _, rfl, h, h3⟩
/-- the word, by trial -/
def boatB (ws : List Int) (L : Int) : List Int → Bool
  | [i] => decide (wAt ws i ≤ L)
  | [i, j] => decide (i < j) && decide (wAt ws i + wAt ws j ≤ L)
  | _ => false
def showsB (ws : List Int) (L : Int) (bs : List (List Int)) (m : Int) : Bool := decide (0 ≤ 2 * m) && decide (2 * m ≤ L + 1) && decide (bs.flatten.Perm (pers ws.length)) && bs.all (boatB ws L) && decide (bs.length = asked m L ws)
theorem boatB_iff {ws : List Int} {L : Int} {b : List Int} : boatB ws L b = true ↔ BoatOk ws L b := by
  match b with
  | [] => exact ⟨fun h => (by cases h), fun h => (by rcases h with ⟨_, e, _⟩ | ⟨_, _, e, _⟩ <;> cases e)⟩
  | [i] =>
    refine ⟨fun h => .inl ⟨i, rfl, of_decide_eq_true h⟩, fun h => ?_⟩
    rcases h with ⟨_, e, h⟩ | ⟨_, _, e, _⟩
    · cases e
      exact decide_eq_true h
    · cases e
  | [i, j] =>
    constructor
    · intro h
      have h : (decide (i < j) && decide (wAt ws i + wAt ws j ≤ L)) = true := h
      rw [Bool.and_eq_true, decide_eq_true_eq, decide_eq_true_eq] at h
      exact .inr ⟨i, j, rfl, h.1, h.2⟩
    · intro h
      rcases h with ⟨_, e, _⟩ | ⟨_, _, e, h1, h2⟩
      · cases e
      · cases e
        show (decide (i < j) && decide (wAt ws i + wAt ws j ≤ L)) = true
        rw [decide_eq_true h1, decide_eq_true h2]
        rfl
  | _ :: _ :: _ :: _ => exact ⟨fun h => (by cases h), fun h => (by rcases h with ⟨_, e, _⟩ | ⟨_, _, e, _⟩ <;> cases e)⟩
theorem showsB_iff {ws : List Int} {L : Int} {bs : List (List Int)} {m : Int} : showsB ws L bs m = true ↔ Shows ws L bs m := by
  unfold showsB Shows AllCross
  simp only [Bool.and_eq_true, decide_eq_true_eq, List.all_eq_true, boatB_iff]
  exact ⟨fun h => ⟨h.1.1.1.1, h.1.1.1.2, ⟨h.1.1.2, h.1.2⟩, h.2⟩, fun h => ⟨⟨⟨⟨h.1, h.2.1⟩, h.2.2.1.1⟩, h.2.2.1.2⟩, h.2.2.2⟩⟩
/-- f() -/
theorem pe_c0 {X : Cx} {j k : Nat} {x : Str} {sp : Sp} {p pos : Pos} (c : C8.Cal X.prog X.w X.K X.mg X.base k x sp []) (hr : Room j X.A) (hk : k ≤ j) (hg : Gl X x) (hdb : (x == ("__debug__" : Str)) = false := by decide) : PE X (.Call (.Name x p) [] [] pos) (tCall sp [] C8.E0 tNil) := by
  obtain ⟨f, fd, ps, ds, F, hm, kp, b, d⟩ := c.ex
  exact pe_call0 F (hr.mono hk) hg hm kp b d C8.pass0 hdb
theorem lay_list {H : Hp} {v : V} {ds : List PyData} (l : Lay H v (.list ds)) : ∃ (p : Addr) (vs : List V), v = .ref p ∧ H p = some (.lst vs) ∧ LayAll H vs ds := by
  cases l with
  | lst h a => exact ⟨_, _, rfl, h, a⟩
theorem Grow.tup {T : List (Addr × Str)} {H H' : Hp} {a : Addr} {xs : List V} (g : Grow T H H') (h : H a = some (.tup xs)) : H' a = some (.tup xs) := g.ext _ _ h fun ps z => by cases z
def C1 : List (List (List Int) × Int × List Int × Int × Bool) := [([], 0, [], 0, true), ([[0]], 0, [5], 5, true), ([[0]], 3, [5], 5, true), ([[0]], 4, [5], 5, false), ([[0]], -1, [5], 5, false), ([[0, 1]], 0, [2, 3], 5, true),
  ([[0], [1]], 0, [2, 3], 5, false), ([[1, 0]], 0, [2, 3], 5, false), ([[0, 1], [0]], 0, [2, 3], 5, false), ([[0]], 0, [2, 3], 5, false), ([[0, 1], [2]], 0, [2, 2, 2], 4, true), ([[0, 1, 2]], 0, [1, 1, 1], 4, false),
  ([[0], [1]], 3, [3, 3], 5, true), ([[0], [1]], 0, [3, 3], 5, false), ([[0, 0]], 0, [2], 5, false), ([[]], 0, [], 5, false), ([[0, 2]], 0, [2, 3], 5, false), ([[2], [0, 1]], 0, [2, 2, 2], 4, true)]
theorem C1ok : ∀ c ∈ C1, showsB c.2.2.1 c.2.2.2.1 c.1 c.2.1 = c.2.2.2.2 ∧ c.2.2.1.length ≤ 100 ∧ c.1.length ≤ 100 ∧ c.1.flatten.length ≤ 100 := by decide +kernel
def C2 : List (Int × List Int × Int × Bool) := [(0, [5], 4, true), (0, [5], 5, false), (1, [5], 4, false), (-1, [5], 4, false), (1, [1, great], 9, true), (0, [1, great], 9, false)]
theorem C2ok : ∀ c ∈ C2, decide (0 ≤ c.1 ∧ c.1 < c.2.1.length ∧ c.2.2.1 < wAt c.2.1 c.1) = c.2.2.2 := by decide +kernel
def C3 : List (List Int × Int × Int) := [([], 0, 0), ([5], 5, 1), ([3, 3], 5, 2), ([2, 2, 2], 4, 2), ([1, 2, 3, 4], 5, 2), (List.replicate 5 great, great, 5), (List.replicate 7 1, 2, 4), ([5, 1, 1, 1], 5, 3)]
theorem opt_by {L : Int} {ws : List Int} {c k : Nat} (gs : List (List Int)) (m : Int) (o : Opt L ws c) (h1 : gs.flatten.Perm ws) (h2 : ∀ g ∈ gs, (∃ a, g = [a] ∧ a ≤ L) ∨ ∃ a b, g = [a, b] ∧ a + b ≤ L) (h3 : gs.length = k) (h4 : 2 * m ≤ L + 1) (h5 : asked m L ws = k) : c = k := by
  have a := o.le (gs := gs) ⟨h1, h2⟩
  have b := o.ge (m := m) h4
  omega
def groupB (L : Int) : List Int → Bool
  | [a] => decide (a ≤ L)
  | [a, b] => decide (a + b ≤ L)
  | _ => false
theorem groupB_ok {L : Int} {g : List Int} (h : groupB L g = true) : (∃ a, g = [a] ∧ a ≤ L) ∨ ∃ a b, g = [a, b] ∧ a + b ≤ L := by
  match g, h with
  | [a], h => exact .inl ⟨a, rfl, of_decide_eq_true h⟩
  | [a, b], h => exact .inr ⟨a, b, rfl, of_decide_eq_true h⟩
theorem C3ok : ∀ c ∈ C3, (∀ w ∈ c.1, 1 ≤ w) ∧ (∀ w ∈ c.1, w ≤ c.2.1) ∧ 0 ≤ c.2.1 ∧ c.1.length ≤ 100 ∧ ∀ k : Nat, Opt c.2.1 c.1 k → (k : Int) = c.2.2 := by
  have key : ∀ (ws : List Int) (L n : Int) (gs : List (List Int)) (m : Int), (decide (gs.flatten.Perm ws) && gs.all (groupB L) && decide ((gs.length : Int) = n) && decide (2 * m ≤ L + 1) && decide ((asked m L ws : Int) = n)) = true → ∀ k : Nat, Opt L ws k → (k : Int) = n := fun ws L n gs m h k o => by
    simp only [Bool.and_eq_true, decide_eq_true_eq, List.all_eq_true] at h
    have := opt_by (k := gs.length) gs m o h.1.1.1.1 (fun g hg => groupB_ok (h.1.1.1.2 g hg)) rfl h.1.2 (by omega)
    omega
  intro c hc
  simp only [C3, List.mem_cons, List.not_mem_nil, or_false] at hc
  rcases hc with rfl | rfl | rfl | rfl | rfl | rfl | rfl | rfl
  · exact ⟨by decide +kernel, by decide +kernel, by decide +kernel, by decide +kernel, key _ _ _ [] 0 (by decide +kernel)⟩
  · exact ⟨by decide +kernel, by decide +kernel, by decide +kernel, by decide +kernel, key _ _ _ [[5]] 0 (by decide +kernel)⟩
  · exact ⟨by decide +kernel, by decide +kernel, by decide +kernel, by decide +kernel, key _ _ _ [[3], [3]] 3 (by decide +kernel)⟩
  · exact ⟨by decide +kernel, by decide +kernel, by decide +kernel, by decide +kernel, key _ _ _ [[2, 2], [2]] 0 (by decide +kernel)⟩
  · exact ⟨by decide +kernel, by decide +kernel, by decide +kernel, by decide +kernel, key _ _ _ [[1, 4], [2, 3]] 0 (by decide +kernel)⟩
  · exact ⟨by decide +kernel, by decide +kernel, by decide +kernel, by decide +kernel, key _ _ _ [[great], [great], [great], [great], [great]] 1 (by decide +kernel)⟩
  · exact ⟨by decide +kernel, by decide +kernel, by decide +kernel, by decide +kernel, key _ _ _ [[1, 1], [1, 1], [1, 1], [1]] 0 (by decide +kernel)⟩
  · exact ⟨by decide +kernel, by decide +kernel, by decide +kernel, by decide +kernel, key _ _ _ [[5], [1, 1], [1]] 1 (by decide +kernel)⟩
def C4 : List (List Int × Int) := [([], 0), ([1], 5), ([1, 1], 1), ([1, 1, 1, 1], 2), ([5, 1], 5), (List.replicate 6 great, 2 * great), (List.replicate 20 1, 2), ([9, 1, 1, 1], 5), ([1, 2, 3, 4], 5)]
theorem C4ok : C4.map (fun c => ((T c.2 c.1 : Nat) : Int)) = [1, 0, 0, 3, 0, 15, 654729075, 0, 1] := by
  have h6 : T (2 * great) (List.replicate 6 great) = E 6 := T_light 6 (by decide +kernel) fun w hw => by
    rw [List.eq_of_mem_replicate hw]
    exact Int.le_refl _
  have h20 : T 2 (List.replicate 20 1) = E 20 := T_light 20 (by decide +kernel) fun w hw => by
    rw [List.eq_of_mem_replicate hw]
    decide
  simp only [C4, List.map_cons, List.map_nil, h6, h20]
  decide +kernel
theorem C4in : ∀ c ∈ C4, (∀ w ∈ c.1, 1 ≤ w) ∧ 0 ≤ c.2 ∧ c.1.length ≤ 100 := by decide +kernel
def C5 : List (List Int × Int) := [([], 0), ([3, 5], 2), ([3, 5], 1), ([1, 2, 3, 4], 2), ([7], 5), ([great, 1], 1), ([1, 2, 3, 4], 3), ([5, 5, 1], 2)]
def C5v : List Int := [0, 5, 8, 5, 7, great + 1, 4, 6]
theorem C5in : ∀ c ∈ C5, (∀ w ∈ c.1, 1 ≤ w) ∧ (c.1.length : Int) ≤ 2 * c.2 ∧ c.1.length ≤ 100 := by decide +kernel
def leastB (ws rs : List Int) (B v : Int) : Bool := decide (rs.Perm ws) && decide (rs.Pairwise (· ≤ ·)) && ws.all (fun w => decide (w ≤ v)) && (List.range ((ws.length : Int) - B).toNat).all (fun k => decide (rs.getD k 0 + rs.getD (2 * ((ws.length : Int) - B) - 1 - k).toNat 0 ≤ v)) &&
  (decide (ws = [] ∧ v = 0) || decide (v ∈ ws) || (List.range ((ws.length : Int) - B).toNat).any fun k => decide (v = rs.getD k 0 + rs.getD (2 * ((ws.length : Int) - B) - 1 - k).toNat 0))
theorem leastB_ok {ws rs : List Int} {B v : Int} (h : leastB ws rs B v = true) : Least ws B v := by
  unfold leastB at h
  simp only [Bool.and_eq_true, Bool.or_eq_true, decide_eq_true_eq, List.all_eq_true, List.any_eq_true, List.mem_range] at h
  obtain ⟨⟨⟨⟨h1, h2⟩, h3⟩, h4⟩, h5⟩ := h
  refine ⟨rs, h1, h2, h3, fun k hk => h4 k (by omega), ?_⟩
  rcases h5 with (h | h) | ⟨k, hk, e⟩
  · exact .inl h
  · exact .inr (.inl h)
  · exact .inr (.inr ⟨k, by omega, e⟩)
theorem C5ok : ∀ (i : Nat) (c : List Int × Int) (u : Int), C5[i]? = some c → Least c.1 c.2 u → C5v[i]? = some u := by
  have key : ∀ (ws rs : List Int) (B v u : Int), leastB ws rs B v = true → (∀ w ∈ ws, 1 ≤ w) → (ws.length : Int) ≤ 2 * B → Least ws B u → u = v := fun ws rs B v u h hp hB l => Int.le_antisymm ((leastB_ok h).anti l hB (Int.le_refl _) hp) (l.anti (leastB_ok h) hB (Int.le_refl _) hp)
  intro i c u hc l
  match i, hc with
  | 0, hc => cases hc; exact congrArg some (key _ [] _ 0 _ (by decide +kernel) (by decide +kernel) (by decide +kernel) l).symm
  | 1, hc => cases hc; exact congrArg some (key _ [3, 5] _ 5 _ (by decide +kernel) (by decide +kernel) (by decide +kernel) l).symm
  | 2, hc => cases hc; exact congrArg some (key _ [3, 5] _ 8 _ (by decide +kernel) (by decide +kernel) (by decide +kernel) l).symm
  | 3, hc => cases hc; exact congrArg some (key _ [1, 2, 3, 4] _ 5 _ (by decide +kernel) (by decide +kernel) (by decide +kernel) l).symm
  | 4, hc => cases hc; exact congrArg some (key _ [7] _ 7 _ (by decide +kernel) (by decide +kernel) (by decide +kernel) l).symm
  | 5, hc => cases hc; exact congrArg some (key _ [1, great] _ (great + 1) _ (by decide +kernel) (by decide +kernel) (by decide +kernel) l).symm
  | 6, hc => cases hc; exact congrArg some (key _ [1, 2, 3, 4] _ 4 _ (by decide +kernel) (by decide +kernel) (by decide +kernel) l).symm
  | 7, hc => cases hc; exact congrArg some (key _ [1, 5, 5] _ 6 _ (by decide +kernel) (by decide +kernel) (by decide +kernel) l).symm
  | i + 8, hc => cases hc
end Bp

end

section
set_option Elab.async false
set_option linter.all false
set_option maxRecDepth 100000
set_option maxHeartbeats 4000000
namespace Bp
open PySem PySem.Spec PyProof.Rows L2 LamX
/-! ### a def that errors leave -/
structure CalX (P : Program) (w : World) (K : PySem.W.Frag) (mg : Str → Option Value) (base : Heap) (k : Nat) (x : Str) (sp : Sp) : Prop where
  ex : ∃ (f : Addr) (fd : FuncData) (ps : List Str), FnOk P w K mg base (L2.CX P w) k f fd ps sp ∧ mg x = some (.ref f) ∧ PySem.W.keepIn K (.ref f) = true ∧ Binds K fd ps []
section
variable {P : Program} {w : World} {K : PySem.W.Frag} {mg : Str → Option Value} {base : Heap}
theorem calX0 {x : Str} {st : Stmt} {f : Addr} {fd : FuncData} {N ps : List Str} {k : Nat} {sp : Sp} (F : C8.Def K mg x st f fd) (b : Binds K fd ps []) (S : FnScope N ps (C8.fnScope st)) (len : ∀ vs H Q E, sp vs H Q E → vs.length = ps.length)
    (hbody : ∀ (cdv : Value) (A : Around) (outer : List Env) (s : Shared) (H : Hp) (vs : List V) (Q : VK) (E : XK), Room k (A.deeper (envOfC x (C8.fnScope st) s.heap.objs.size f cdv)) → sp vs H Q E →
      ∃ t, PSs (cxOf (L2.CX P w) P w K mg base N x (C8.fnScope st) f cdv A outer s H E) (C8.fnBody st) t ∧ t { nx := fun _ H' => Q .non H', rt := Q } (start N vs) H) : CalX P w K mg base (k + 1) x sp := by
  obtain ⟨oc, od, dV, kV, doc, pm, an, cdv, ct, osl, rfl, lk, hcd⟩ := F.fn.ex
  exact ⟨f, _, ps, fn_of lk hcd S len fun A outer s H vs Q E hr hsp => hbody cdv A outer s H vs Q E hr hsp, F.mgf, F.kp, b⟩
end
/-- a call of it in a def that the same errors leave -/
theorem pe_cX {X : Cx} {W : WX} {j k : Nat} {x : Str} {sp : Sp} {E : XK} {e : Expr} {es : List Expr} {t : TA} {p pos : Pos} (c : CalX X.prog X.w X.K X.mg X.base k x sp) (hr : Room j X.A) (hk : k ≤ j) (hg : Gl X x) (tk : Takes X W) (hW : ∀ cls d σ H, E cls d H → W cls d σ H) (ha : PA X (e :: es) t)
    (hdb : (x == ("__debug__" : Str)) = false := by decide) (he : starEach (e :: es) X.env = (false, eval e X.env) :: starEach es X.env := by rfl) (hpl : (backTo pos (starEach es X.env)).any (·.1) = false := by rfl) :
    PE X (.Call (.Name x p) (e :: es) [] pos) (tCall sp [] E t) := by
  obtain ⟨f, fd, ps, F, hm, kp, b⟩ := c.ex
  exact pe_call F (hr.mono hk) hg hm kp b .nil (passes_call tk hW) ha hdb he hpl
/-- a call of it in a try's body -/
theorem pe_cS {X : Cx} {W : WX} {j k : Nat} {x : Str} {sp : Sp} {e : Expr} {es : List Expr} {t : TA} {p pos : Pos} (c : CalX X.prog X.w X.K X.mg X.base k x sp) (hr : Room j X.A) (hk : k ≤ j) (hg : Gl X x) (tk : Takes X W) (ha : PA X (e :: es) t)
    (hdb : (x == ("__debug__" : Str)) = false := by decide) (he : starEach (e :: es) X.env = (false, eval e X.env) :: starEach es X.env := by rfl) (hpl : (backTo pos (starEach es X.env)).any (·.1) = false := by rfl) :
    PE X (.Call (.Name x p) (e :: es) [] pos) (tCallS sp (WE W) t) := by
  obtain ⟨f, fd, ps, F, hm, kp, b⟩ := c.ex
  exact pe_callS F (hr.mono hk) hg hm kp b (fun σ => passAt tk σ) ha hdb he hpl
end Bp

end

section
set_option Elab.async false
set_option linter.all false
set_option maxRecDepth 100000
set_option maxHeartbeats 4000000
namespace Bp
open PySem PySem.Spec PyProof.Rows L2 LamX

/-! ### the text by places -/
def top (i : Nat) : Stmt := PySem.Challenge.pw_boatpairs_k06_refused.main.body.getD i (.Pass ⟨0, 0, 0, 0⟩)
abbrev s_is_whole : Stmt := top 6
abbrev s_check_people : Stmt := top 7
abbrev s_check_limit : Stmt := top 8
abbrev s_check_boats : Stmt := top 9
abbrev s_ways : Stmt := top 11
abbrev s_choices : Stmt := top 12
abbrev s_product : Stmt := top 13
abbrev s_Heavy_init : Stmt := inClass (top 16) 0
abbrev s_Heavy_shows : Stmt := inClass (top 16) 1
abbrev s_Boats_init : Stmt := inClass (top 17) 0
abbrev s_Boats_shows : Stmt := inClass (top 17) 1
abbrev s_all_cross : Stmt := top 18
abbrev s_is_boat : Stmt := top 19
abbrev s_asked_by : Stmt := top 20
abbrev s_told : Stmt := top 22
abbrev s_sent : Stmt := top 23
abbrev s_least_limit : Stmt := top 24
abbrev s_law_ask : Stmt := top 26
abbrev s_law_told : Stmt := top 27
abbrev s_law : Stmt := top 28

/-! ### what the top has written -/
structure Txt (K : PySem.W.Frag) (mg : Str → Option Value) (CH CB : Addr) : Prop where
  clH : Cls K CH
  clB : Cls K CB
  nP : NoAttr K CH "person"
  nB : NoAttr K CB "boats"
  nM : NoAttr K CB "mark"
  len : mg "len" = none
  sorted : mg "sorted" = none
  range : mg "range" = none
  min : mg "min" = none
  max : mg "max" = none
  list : mg "list" = none
  enumerate : mg "enumerate" = none
  all : mg "all" = none
  isinstance : mg "isinstance" = none
  int : mg "int" = none
  bool : mg "bool" = none
/-- the code object of the def that makes a lambda, its table -/
abbrev lamName : Str := "_sent.<locals>.<lambda>"
abbrev TabT (P : Addr) : List (Addr × Str) := [(P, lamName)]

/-! ### promises -/
def spWhole : Sp := fun vs H Q _ => ∃ i, vs = [.int i] ∧ Q (.bl true) H
def spPeople (K : PySem.W.Frag) : Sp := fun vs H Q _ => ∃ (a : Addr) (ws : List Int), vs = [.ref a] ∧ SqL K H a (ws.map V.int) ∧ (∀ w ∈ ws, 1 ≤ w) ∧ Q .non H
def spLimit : Sp := fun vs H Q _ => ∃ L, vs = [.int L] ∧ 0 ≤ L ∧ Q .non H
def spCount : Sp := fun vs H Q _ => ∃ B n, vs = [.int B, .int n] ∧ n ≤ 2 * B ∧ Q .non H
def hvF (p : Int) : List (Str × V) := [("person", .int p)]
def btF (b : Addr) (m : Int) : List (Str × V) := [("boats", .ref b), ("mark", .int m)]
def spHInit (C : Addr) : Sp := fun vs H Q _ => ∃ (x dx : Addr) (p : Int), vs = [.ref x, .int p] ∧ H x = some (.ins C dx []) ∧ Q .non (upd H x (.ins C dx (hvF p)))
def spHShows (K : PySem.W.Frag) (C : Addr) : Sp := fun vs H Q _ => ∃ (x dx a : Addr) (p L : Int) (ws : List Int), vs = [.ref x, .ref a, .int L] ∧ H x = some (.ins C dx (hvF p)) ∧ SqL K H a (ws.map V.int) ∧
  ∀ r : Bool, (r = true ↔ 0 ≤ p ∧ p < ws.length ∧ L < wAt ws p) → Q (.bl r) H
def spBInit (K : PySem.W.Frag) (C : Addr) : Sp := fun vs H Q _ => ∃ (x dx a : Addr) (xs : List V) (m : Int), vs = [.ref x, .ref a, .int m] ∧ H x = some (.ins C dx []) ∧ SqL K H a xs ∧
  ∀ b, H b = none → Q .non (upd (upd H b (.lst xs)) x (.ins C dx (btF b m)))
def spBoat (K : PySem.W.Frag) : Sp := fun vs H Q _ => ∃ (t a : Addr) (ns ws : List Int) (L : Int), vs = [.ref t, .ref a, .int L] ∧ SqT K H t (ns.map V.int) ∧ SqL K H a (ws.map V.int) ∧ (∀ p ∈ ns, 0 ≤ p ∧ p < ws.length) ∧
  ∀ r : Bool, (r = true ↔ BoatOk ws L ns) → Q (.bl r) H
def spAsked (K : PySem.W.Frag) : Sp := fun vs H Q _ => ∃ (m L : Int) (a : Addr) (ws : List Int), vs = [.int m, .ref a, .int L] ∧ SqL K H a (ws.map V.int) ∧ ws.length ≤ 100000 ∧
  ∀ H', Same H H' → Q (.int (asked m L ws)) H'
def spCross (K : PySem.W.Frag) : Sp := fun vs H Q _ => ∃ (b a : Addr) (xs : List V) (bs : List (List Int)) (ws : List Int) (L : Int), vs = [.ref b, .ref a, .int L] ∧ SqL K H b xs ∧ RowsI K H xs bs ∧ SqL K H a (ws.map V.int) ∧
  ws.length ≤ 100000 ∧ bs.length ≤ 100000 ∧ bs.flatten.length ≤ 100000 ∧ ∀ H' (r : Bool), Same H H' → (r = true ↔ AllCross ws L bs) → Q (.bl r) H'
def spBShows (K : PySem.W.Frag) (C : Addr) : Sp := fun vs H Q _ => ∃ (x dx b a : Addr) (xs : List V) (bs : List (List Int)) (ws : List Int) (L m : Int), vs = [.ref x, .ref a, .int L] ∧ H x = some (.ins C dx (btF b m)) ∧ SqL K H b xs ∧ RowsI K H xs bs ∧
  SqL K H a (ws.map V.int) ∧ ws.length ≤ 100000 ∧ bs.length ≤ 100000 ∧ bs.flatten.length ≤ 100000 ∧ ∀ H' (r : Bool), Same H H' → (r = true ↔ Shows ws L bs m) → Q (.bl r) H'

section
variable {P : Program} {w : World} {K : PySem.W.Frag} {mg : Str → Option Value} {base : Heap} {CH CB f : Addr} {fd : FuncData}

/-! ### the checks, asked rightly -/
abbrev N_is_whole : List Str := ["thing"]
theorem sc_is_whole : FnScope N_is_whole ["thing"] (C8.fnScope s_is_whole) := C8.fnScope_by (by decide +kernel)
theorem ok_is_whole (F : C8.Def K mg "is_whole" s_is_whole f fd) (b : Binds K fd ["thing"] []) (T : Txt K mg CH CB) : C8.Cal P w K mg base 1 "is_whole" spWhole [] := by
  refine C8.cal0 F b .nil sc_is_whole (fun vs H Q E h => by obtain ⟨i, rfl, _⟩ := h; rfl) (fun cdv A outer s H vs Q E hr h => ?_)
  obtain ⟨i, rfl, q⟩ := h
  refine ⟨_, (pss_one (ps_ret (pe_and (pe_callB call_isi (by rfl) T.isinstance (by decide +kernel) (pa_cons (pv 0) (pa_cons (pe_bltn (by rfl) T.int (by decide +kernel) (show RelV (.ty "int") (.type "int") from rfl)) pa_nil)))
          (pe_one (pe_not (pe_callB call_isi (by rfl) T.isinstance (by decide +kernel) (pa_cons (pv 0) (pa_cons (pe_bltn (by rfl) T.bool (by decide +kernel) (show RelV (.ty "bool") (.type "bool") from rfl)) pa_nil)))))))), ?_⟩
  refine ⟨_, rfl, _, _, _, _, _, rfl, .ty _, .base (.int i), kit_ty (by decide +kernel), true, rfl, ?_⟩
  refine ⟨_, rfl, _, _, _, _, _, rfl, .ty _, .base (.int i), kit_ty (b := "bool") (r := false) (by decide +kernel), _, rfl, q⟩
abbrev N_check_people : List Str := ["weights", "weight"]
theorem sc_check_people : FnScope N_check_people ["weights"] (C8.fnScope s_check_people) := C8.fnScope_by (by decide +kernel)
theorem ok_check_people (F : C8.Def K mg "check_people" s_check_people f fd) (b : Binds K fd ["weights"] []) (T : Txt K mg CH CB) (cis_whole : C8.Cal P w K mg base 1 "is_whole" spWhole []) : C8.Cal P w K mg base 2 "check_people" (spPeople K) [] := by
  refine C8.cal0 F b .nil sc_check_people (fun vs H Q E h => by obtain ⟨a, ws, rfl, _⟩ := h; rfl) (fun cdv A outer s H vs Q E hr h => ?_)
  obtain ⟨a, ws, rfl, hs, hp, q⟩ := h
  refine ⟨_, (pss_cons (ps_if (pt_not (pt_val (pe_callB call_isi (by rfl) T.isinstance (by decide +kernel) (pa_cons (pv 0) (pa_cons (pe_bltn (by rfl) T.list (by decide +kernel) (show RelV (.ty "list") (.type "list") from rfl)) pa_nil)))))
        (pss_one ps_never)
        pss_nil)
    (pss_one (ps_for PassesOwn.never rfl (pi_list (pv 0)) (pg_name (i := 1) sc_check_people.nd rfl (Or.inl rfl))
        (pss_one (ps_if (PW.pt (pw_or (pt_not (pt_val (C8.pe_c cis_whole hr (by decide) (by rfl) (pa_cons (pv 1) pa_nil))))
          (pw_or1 (pt_cmpR op_lt (pv 1) pe_int (nomark _)))))
            (pss_one ps_never)
            pss_nil))))), ?_⟩
  refine ⟨_, rfl, _, _, _, _, _, rfl, .ty _, tyx_list hs, kit_ty (b := "list") (r := true) (by decide +kernel), _, rfl, ?_⟩
  refine iteF ?_
  refine ⟨_, rfl, a, rfl, ⟨_, hs⟩, for_list (K := K) (a := a) (xs := ws.map V.int) (fun i σ H' => H' = H ∧ ∃ v, σ = [some (.ref a), v]) ⟨rfl, _, rfl⟩ (fun i σ H' _ ⟨e, _⟩ => by rw [e]; exact hs) ?_ ?_⟩
  · rintro i y σ H' hi ⟨rfl, v, rfl⟩
    obtain ⟨hl, rfl, hn⟩ := map_at hi
    have h1 := hp _ (List.mem_of_getElem? hn)
    refine ⟨_, rfl, _, rfl, _, rfl, ?_⟩
    refine iteF ?_
    refine ⟨_, rfl, _, _, rfl, rfl, _, rfl, ?_⟩
    rw [decide_eq_false (by omega)]
    exact iteF ⟨rfl, _, rfl⟩
  · rintro σ H' ⟨rfl, _⟩
    exact q
abbrev N_check_limit : List Str := ["limit"]
theorem sc_check_limit : FnScope N_check_limit ["limit"] (C8.fnScope s_check_limit) := C8.fnScope_by (by decide +kernel)
theorem ok_check_limit (F : C8.Def K mg "check_limit" s_check_limit f fd) (b : Binds K fd ["limit"] []) (T : Txt K mg CH CB) (cis_whole : C8.Cal P w K mg base 1 "is_whole" spWhole []) : C8.Cal P w K mg base 2 "check_limit" spLimit [] := by
  refine C8.cal0 F b .nil sc_check_limit (fun vs H Q E h => by obtain ⟨L, rfl, _⟩ := h; rfl) (fun cdv A outer s H vs Q E hr h => ?_)
  obtain ⟨L, rfl, h0, q⟩ := h
  refine ⟨_, (pss_one (ps_if (PW.pt (pw_or (pt_not (pt_val (C8.pe_c cis_whole hr (by decide) (by rfl) (pa_cons (pv 0) pa_nil))))
          (pw_or1 (pt_cmpR op_lt (pv 0) pe_int (nomark _)))))
        (pss_one ps_never)
        pss_nil)), ?_⟩
  refine ⟨_, rfl, _, rfl, _, rfl, ?_⟩
  refine iteF ?_
  refine ⟨_, rfl, _, _, rfl, rfl, _, rfl, ?_⟩
  rw [decide_eq_false (by omega)]
  exact iteF q
abbrev N_check_boats : List Str := ["boats", "people"]
theorem sc_check_boats : FnScope N_check_boats ["boats", "people"] (C8.fnScope s_check_boats) := C8.fnScope_by (by decide +kernel)
theorem ok_check_boats (F : C8.Def K mg "check_boats" s_check_boats f fd) (b : Binds K fd ["boats", "people"] []) (T : Txt K mg CH CB) (cis_whole : C8.Cal P w K mg base 1 "is_whole" spWhole []) : C8.Cal P w K mg base 2 "check_boats" spCount [] := by
  refine C8.cal0 F b .nil sc_check_boats (fun vs H Q E h => by obtain ⟨B, n, rfl, _⟩ := h; rfl) (fun cdv A outer s H vs Q E hr h => ?_)
  obtain ⟨B, n, rfl, h0, q⟩ := h
  refine ⟨_, (pss_one (ps_if (PW.pt (pw_or (pt_not (pt_val (C8.pe_c cis_whole hr (by decide) (by rfl) (pa_cons (pv 0) pa_nil))))
          (pw_or1 (pt_cmpR op_lt (pe_op op_mul pe_int (pv 0)) (pv 1) (nomark _)))))
        (pss_one ps_never)
        pss_nil)), ?_⟩
  refine ⟨_, rfl, _, rfl, _, rfl, ?_⟩
  refine iteF ?_
  refine ⟨_, rfl, _, _, rfl, rfl, .inl ⟨by decide, by decide⟩, _, rfl, _, _, rfl, rfl, _, rfl, ?_⟩
  rw [decide_eq_false (by omega)]
  exact iteF q

/-! ### Heavy -/
abbrev N_Heavy_init : List Str := ["self", "person"]
theorem sc_Heavy_init : FnScope N_Heavy_init ["self", "person"] (C8.fnScope s_Heavy_init) := C8.fnScope_by (by decide +kernel)
theorem ok_Heavy_init (F : C8.Fun K "__init__" "Heavy.__init__" s_Heavy_init f fd) (b : Binds K fd ["self", "person"] []) (T : Txt K mg CH CB) (M : Mk K CH f) (hm : mg "Heavy" = some (.ref CH)) : C8.Mak P w K mg base 1 "Heavy" CH (spHInit CH) [] := by
  refine C8.mak0 M hm F b .nil sc_Heavy_init (fun vs H Q E h => by obtain ⟨x, dx, p, rfl, _⟩ := h; rfl) (fun cdv A outer s H vs Q E hr h => ?_)
  obtain ⟨x, dx, p, rfl, hx, q⟩ := h
  refine ⟨_, (pss_one (ps_fld (pv 0) (pv 1) rfl)), ?_⟩
  exact ⟨_, rfl, _, rfl, x, CH, dx, [], rfl, hx, T.clH, T.nP, (by show 0 < 1000; decide), q⟩
theorem hv_person (p : Int) : (hvF p).lookup ("person" : Str) = some (.int p) := by
  unfold hvF
  rw [List.lookup_cons_self]
abbrev N_Heavy_shows : List Str := ["self", "weights", "limit"]
theorem sc_Heavy_shows : FnScope N_Heavy_shows ["self", "weights", "limit"] (C8.fnScope s_Heavy_shows) := C8.fnScope_by (by decide +kernel)
theorem ok_Heavy_shows (F : C8.Fun K "shows" "Heavy.shows" s_Heavy_shows f fd) (b : Binds K fd ["self", "weights", "limit"] []) (T : Txt K mg CH CB) (me : Meth K CH "shows" f) : C8.Met P w K mg base 1 CH "shows" (spHShows K CH) [] := by
  refine C8.met0 T.clH me F b sc_Heavy_shows (fun vs H Q E h => by obtain ⟨x, dx, a, p, L, ws, rfl, _⟩ := h; rfl) (fun cdv A outer s H vs Q E hr h => ?_)
  obtain ⟨x, dx, a, p, L, ws, rfl, hx, hs, q⟩ := h
  refine ⟨_, (pss_one (ps_ret (pe_and (pe_chain op_le op_lt pe_int (pe_fld (pv 0) rfl) (pe_callB call_len_seq (by rfl) T.len PySem.boot_len (pa_cons (pv 1) pa_nil)))
          (pe_one (pe_cmpR op_gt (pe_ix ix_list (pv 1) (pe_fld (pv 0) rfl) (fun _ _ => rfl)) (pv 2) (nomark _)))))), ?_⟩
  refine ⟨_, rfl, x, CH, dx, _, _, rfl, hx, T.clH, T.nP, hv_person p, _, _, rfl, rfl, _, rfl, ?_⟩
  refine ite2 (fun c1 => ?_) (fun c1 => ?_)
  · refine ⟨_, rfl, a, _, rfl, .inl hs, _, _, rfl, rfl, _, rfl, ?_⟩
    have h0 : 0 ≤ p := of_decide_eq_true c1
    refine ite2 (fun c2 => ?_) (fun c2 => ?_)
    · have h1 : p < ws.length := by
        have := of_decide_eq_true c2
        rw [List.length_map] at this
        exact this
      refine ⟨_, rfl, _, rfl, x, CH, dx, _, _, rfl, hx, T.clH, T.nP, hv_person p, a, _, p, _, rfl, rfl, hs, at_int h0 h1, _, rfl, _, _, rfl, rfl, ?_⟩
      exact q _ (by rw [decide_eq_true_eq]; exact ⟨fun z => ⟨h0, h1, z⟩, fun z => z.2.2⟩)
    · refine q _ ⟨fun z => (Bool.noConfusion z), fun z => ?_⟩
      exact absurd (decide_eq_true (by rw [List.length_map]; exact z.2.1)) c2
  · refine ⟨_, rfl, ?_⟩
    refine iteF (q _ ⟨fun z => Bool.noConfusion z, fun z => ?_⟩)
    exact absurd (decide_eq_true z.1) c1

/-! ### Boats -/
abbrev N_Boats_init : List Str := ["self", "boats", "mark"]
theorem sc_Boats_init : FnScope N_Boats_init ["self", "boats", "mark"] (C8.fnScope s_Boats_init) := C8.fnScope_by (by decide +kernel)
theorem bt_put (b : Addr) (m : Int) : putF "mark" (.int m) (putF "boats" (.ref b) []) = btF b m := by
  show (if ("boats" : Str) = "mark" then [(("boats" : Str), V.int m)] else (("boats" : Str), V.ref b) :: putF "mark" (V.int m) []) = btF b m
  rw [if_neg (by decide +kernel)]
  rfl
theorem bt_boats (b : Addr) (m : Int) : (btF b m).lookup ("boats" : Str) = some (.ref b) := by
  unfold btF
  rw [List.lookup_cons_self]
theorem bt_mark (b : Addr) (m : Int) : (btF b m).lookup ("mark" : Str) = some (.int m) := by
  unfold btF
  rw [List.lookup_cons, show (("mark" : Str) == "boats") = false by decide +kernel]
  exact List.lookup_cons_self
theorem ok_Boats_init (F : C8.Fun K "__init__" "Boats.__init__" s_Boats_init f fd) (b : Binds K fd ["self", "boats", "mark"] []) (T : Txt K mg CH CB) (M : Mk K CB f) (hm : mg "Boats" = some (.ref CB)) : C8.Mak P w K mg base 1 "Boats" CB (spBInit K CB) [] := by
  refine C8.mak0 M hm F b .nil sc_Boats_init (fun vs H Q E h => by obtain ⟨x, dx, a, xs, m, rfl, _⟩ := h; rfl) (fun cdv A outer s H vs Q E hr h => ?_)
  obtain ⟨x, dx, a, xs, m, rfl, hx, hs, q⟩ := h
  refine ⟨_, (pss_cons (ps_fld (pv 0) (pe_callTy call_list_of (by rfl) T.list (by decide +kernel) (pa_cons (pv 1) pa_nil)) rfl)
    (pss_one (ps_fld (pv 0) (pv 2) rfl))), ?_⟩
  refine ⟨_, rfl, a, _, rfl, .inl hs, fun l hl => ?_⟩
  have nx : x ≠ l := ne_of_none hx hl
  refine ⟨_, rfl, x, CB, dx, [], rfl, by rw [upd_ne nx]; exact hx, T.clB, T.nB, (by show 0 < 1000; decide), ?_⟩
  refine ⟨_, rfl, _, rfl, x, CB, dx, _, rfl, upd_same, T.clB, T.nM, (by show 1 < 1000; decide), ?_⟩
  rw [upd_upd, bt_put]
  exact q l hl
abbrev N_is_boat : List Str := ["boat", "weights", "limit"]
theorem sc_is_boat : FnScope N_is_boat ["boat", "weights", "limit"] (C8.fnScope s_is_boat) := C8.fnScope_by (by decide +kernel)
theorem ok_is_boat (F : C8.Def K mg "_is_boat" s_is_boat f fd) (b : Binds K fd ["boat", "weights", "limit"] []) (T : Txt K mg CH CB) : C8.Cal P w K mg base 1 "_is_boat" (spBoat K) [] := by
  refine C8.cal0 F b .nil sc_is_boat (fun vs H Q E h => by obtain ⟨t, a, ns, ws, L, rfl, _⟩ := h; rfl) (fun cdv A outer s H vs Q E hr h => ?_)
  obtain ⟨t, a, ns, ws, L, rfl, ht, hs, hp, q⟩ := h
  refine ⟨_, (pss_cons (ps_if (pt_cmpR op_eq (pe_callB call_len_seq (by rfl) T.len PySem.boot_len (pa_cons (pv 0) pa_nil)) pe_int (nomark _))
        (pss_one (ps_ret (pe_cmpR op_le (pe_ix ix_list (pv 1) (pe_ix ix_tup (pv 0) pe_int (fun _ _ => rfl)) (fun _ _ => rfl)) (pv 2) (nomark _))))
        pss_nil)
    (pss_one (ps_ret (pe_and (pe_cmpR op_eq (pe_callB call_len_seq (by rfl) T.len PySem.boot_len (pa_cons (pv 0) pa_nil)) pe_int (nomark _))
          (pe_and (pe_cmpR op_lt (pe_ix ix_tup (pv 0) pe_int (fun _ _ => rfl)) (pe_ix ix_tup (pv 0) pe_int (fun _ _ => rfl)) (nomark _))
          (pe_one (pe_cmpR op_le (pe_op op_add (pe_ix ix_list (pv 1) (pe_ix ix_tup (pv 0) pe_int (fun _ _ => rfl)) (fun _ _ => rfl)) (pe_ix ix_list (pv 1) (pe_ix ix_tup (pv 0) pe_int (fun _ _ => rfl)) (fun _ _ => rfl))) (pv 2) (nomark _)))))))), ?_⟩
  refine ⟨_, rfl, t, _, rfl, .inr ht, rfl, _, rfl, ?_⟩
  match ns, ht, hp, q with
  | [], ht, hp, q =>
    refine ite2 (fun c => absurd c (by decide)) (fun _ => ?_)
    refine ⟨_, rfl, t, _, rfl, .inr ht, rfl, _, rfl, iteF ?_⟩
    refine q _ ⟨fun z => Bool.noConfusion z, fun z => ?_⟩
    rcases z with ⟨i, e, _⟩ | ⟨i, j, e, _⟩ <;> cases e
  | [i], ht, hp, q =>
    refine ite2 (fun _ => ?_) (fun c => absurd (decide_eq_true rfl) c)
    have hi := hp i (by simp)
    refine ⟨_, rfl, _, rfl, t, _, 0, _, rfl, rfl, ht, at_int (i := 0) (by decide) (by simp), a, _, i, _, rfl, rfl, hs, at_int hi.1 hi.2, _, rfl, _, _, rfl, rfl, ?_⟩
    refine q _ ?_
    rw [decide_eq_true_eq]
    refine ⟨fun z => .inl ⟨i, rfl, z⟩, fun z => ?_⟩
    rcases z with ⟨i', e, z⟩ | ⟨i', j, e, _⟩
    · cases e; exact z
    · cases e
  | [i, j], ht, hp, q =>
    refine ite2 (fun c => absurd c (by simp)) (fun _ => ?_)
    have hi := hp i (by simp)
    have hj := hp j (by simp)
    refine ⟨_, rfl, t, _, rfl, .inr ht, rfl, _, rfl, iteT ?_⟩
    refine ⟨_, rfl, t, _, 0, _, rfl, rfl, ht, at_int (i := 0) (by decide) (by simp), _, rfl, t, _, 1, _, rfl, rfl, ht, at_int (i := 1) (by decide) (by simp), _, _, rfl, rfl, _, rfl, ?_⟩
    refine ite2 (fun c => ?_) (fun c => ?_)
    · have hij : i < j := of_decide_eq_true c
      refine ⟨_, rfl, _, rfl, t, _, 0, _, rfl, rfl, ht, at_int (i := 0) (by decide) (by simp), a, _, i, _, rfl, rfl, hs, at_int hi.1 hi.2,
        _, rfl, _, rfl, t, _, 1, _, rfl, rfl, ht, at_int (i := 1) (by decide) (by simp), a, _, j, _, rfl, rfl, hs, at_int hj.1 hj.2, _, _, rfl, rfl, _, rfl, _, _, rfl, rfl, ?_⟩
      refine q _ ?_
      rw [decide_eq_true_eq]
      refine ⟨fun z => .inr ⟨i, j, rfl, hij, z⟩, fun z => ?_⟩
      rcases z with ⟨i', e, z⟩ | ⟨i', j', e, _, z⟩
      · cases e
      · cases e; exact z
    · refine q _ ⟨fun z => Bool.noConfusion z, fun z => ?_⟩
      rcases z with ⟨i', e, z⟩ | ⟨i', j', e, hij, z⟩
      · cases e
      · cases e
        exact absurd (decide_eq_true hij) c
  | i :: j :: k :: r, ht, hp, q =>
    refine ite2 (fun c => ?_) (fun _ => ?_)
    · have := of_decide_eq_true c
      injection this with e
      simp only [List.length_map, List.length_cons] at e
      omega
    refine ⟨_, rfl, t, _, rfl, .inr ht, rfl, _, rfl, ite2 (fun c => ?_) (fun _ => ?_)⟩
    · have := of_decide_eq_true c
      injection this with e
      simp only [List.length_map, List.length_cons] at e
      omega
    · refine q _ ⟨fun z => Bool.noConfusion z, fun z => ?_⟩
      rcases z with ⟨i', e, _⟩ | ⟨i', j', e, _⟩ <;> cases e

abbrev N_asked_by : List Str := ["mark", "weights", "limit", "alone", "others", "weight"]
theorem sc_asked_by : FnScope N_asked_by ["mark", "weights", "limit"] (C8.fnScope s_asked_by) := C8.fnScope_by (by decide +kernel)
theorem ok_asked_by (F : C8.Def K mg "_asked_by" s_asked_by f fd) (b : Binds K fd ["mark", "weights", "limit"] []) (T : Txt K mg CH CB) : C8.Cal P w K mg base 1 "_asked_by" (spAsked K) [] := by
  refine C8.cal0 F b .nil sc_asked_by (fun vs H Q E h => by obtain ⟨m, L, a, ws, rfl, _⟩ := h; rfl) (fun cdv A outer s H vs Q E hr h => ?_)
  obtain ⟨m, L, a, ws, rfl, hs, hz, q⟩ := h
  have hz' : (ws.map V.int).length < sizeLine := by rw [List.length_map, sizeLine_eq]; omega
  refine ⟨_, (pss_cons (ps_set (i := 3) sc_asked_by.nd rfl (Or.inl rfl) (pe_callB call_len_seq (by rfl) T.len PySem.boot_len (pa_cons (pe_lc (own := [("weight", 5)]) rfl sc_asked_by.nd (pi_list (pv 1))
        (blkOk_by (own := [("weight", 5)]) (N := N_asked_by) (sc := C8.fnScope s_asked_by) (by decide +kernel))
        (fun _ _ _ _ _ => (pg_name (i := 5) sc_asked_by.nd rfl (Or.inl rfl))) (fun _ _ _ _ _ => (pts_one (pt_cmpR op_gt (pe_op op_add (pv 5) (pv 0)) (pv 2) (nomark _))))
        (fun _ _ _ _ _ => (pv 5))) pa_nil)))
    (pss_cons (ps_set (i := 4) sc_asked_by.nd rfl (Or.inl rfl) (pe_callB call_len_seq (by rfl) T.len PySem.boot_len (pa_cons (pe_lc (own := [("weight", 5)]) rfl sc_asked_by.nd (pi_list (pv 1))
        (blkOk_by (own := [("weight", 5)]) (N := N_asked_by) (sc := C8.fnScope s_asked_by) (by decide +kernel))
        (fun _ _ _ _ _ => (pg_name (i := 5) sc_asked_by.nd rfl (Or.inl rfl))) (fun _ _ _ _ _ => (pts_one (PW.pt (pw_and (pt_cmpR op_ge (pv 5) (pv 0) (nomark _))
          (pw_and1 (pt_cmpR op_le (pe_op op_add (pv 5) (pv 0)) (pv 2) (nomark _)))))))
        (fun _ _ _ _ _ => (pv 5))) pa_nil)))
    (pss_one (ps_ret (pe_op op_add (pv 3) (pe_op op_fdiv (pe_op op_add (pv 4) pe_int) pe_int)))))), ?_⟩
  refine ⟨_, rfl, a, rfl, ⟨_, hs⟩, fun D hD => lc_pure (K := K) (f := id) (p := onI (aloneP m L)) hD hs hz' (fun i x H' hx sm Q' q' => ?_) (fun i x H' hx sm hp Q' q' => ⟨_, rfl, q'⟩) ?_⟩
  · obtain ⟨_, rfl, _⟩ := map_at hx
    exact ⟨_, rfl, _, rfl, _, _, rfl, rfl, _, rfl, _, _, rfl, rfl, _, rfl, q'⟩
  rw [filter_ints, List.map_id]
  refine ⟨D, _, rfl, .inl (SqL.of upd_same), ?_⟩
  have s1 : Same H (upd H D (.lst ((ws.filter (aloneP m L)).map V.int))) := same_new hD
  refine ⟨_, rfl, a, rfl, ⟨_, s1.seq hs⟩, fun D2 hD2 => lc_pure (K := K) (f := id) (p := onI (betwP m L)) hD2 (s1.seq hs) hz' (fun i x H' hx sm Q' q' => ?_) (fun i x H' hx sm hp Q' q' => ⟨_, rfl, q'⟩) ?_⟩
  · obtain ⟨_, rfl, _⟩ := map_at hx
    refine ⟨_, rfl, _, rfl, _, _, rfl, rfl, _, rfl, ?_⟩
    by_cases c : m ≤ ws.getD i 0
    · refine ite2 (fun _ => ?_) (fun z => absurd (decide_eq_true c) z)
      refine ⟨_, rfl, _, rfl, _, _, rfl, rfl, _, rfl, _, _, rfl, rfl, _, rfl, ?_⟩
      have e : onI (betwP m L) (V.int (ws.getD i 0)) = decide (ws.getD i 0 + m ≤ L) := by
        show (decide (m ≤ ws.getD i 0) && decide (ws.getD i 0 + m ≤ L)) = _
        rw [decide_eq_true c, Bool.true_and]
      rw [e] at q'
      exact q'
    · refine ite2 (fun z => absurd (of_decide_eq_true z) c) (fun _ => ?_)
      have e : onI (betwP m L) (V.int (ws.getD i 0)) = false := by
        show (decide (m ≤ ws.getD i 0) && decide (ws.getD i 0 + m ≤ L)) = _
        rw [decide_eq_false c, Bool.false_and]
      rw [e] at q'
      exact q'
  rw [filter_ints, List.map_id]
  refine ⟨D2, _, rfl, .inl (SqL.of upd_same), ?_⟩
  refine ⟨_, rfl, _, rfl, _, _, rfl, rfl, _, _, rfl, rfl, ⟨by decide, by decide⟩, _, _, rfl, rfl, ?_⟩
  have e : (((ws.filter (aloneP m L)).map V.int).length : Int) + ((((ws.filter (betwP m L)).map V.int).length : Int) + 1) / 2 = ((asked m L ws : Nat) : Int) := by
    unfold asked
    rw [List.length_map, List.length_map, ← List.countP_eq_length_filter, ← List.countP_eq_length_filter]
    omega
  have k := fun H' (sm : Same H H') => q H' sm
  rw [← e] at k
  exact k _ (s1.trans (same_new hD2))
abbrev N_all_cross : List Str := ["boats", "weights", "limit", "persons", "boat", "person"]
theorem sc_all_cross : FnScope N_all_cross ["boats", "weights", "limit"] (C8.fnScope s_all_cross) := C8.fnScope_by (by decide +kernel)
theorem ok_all_cross (F : C8.Def K mg "_all_cross" s_all_cross f fd) (b : Binds K fd ["boats", "weights", "limit"] []) (T : Txt K mg CH CB) (c_is_boat : C8.Cal P w K mg base 1 "_is_boat" (spBoat K) []) : C8.Cal P w K mg base 2 "_all_cross" (spCross K) [] := by
  refine C8.cal0 F b .nil sc_all_cross (fun vs H Q E h => by obtain ⟨b, a, xs, bs, ws, L, rfl, _⟩ := h; rfl) (fun cdv A outer s H vs Q E hr h => ?_)
  obtain ⟨b, a, xs, bs, ws, L, rfl, hb, hrw, hs, hz1, hz2, hz3, q⟩ := h
  have hzl : (xs).length < sizeLine := by rw [Paired.length hrw, sizeLine_eq]; omega
  refine ⟨_, (pss_cons (ps_set (i := 3) sc_all_cross.nd rfl (Or.inl rfl) (pe_callB cr_sortedI (by rfl) T.sorted (by decide +kernel) (pa_cons (pe_lc2 (own := [("boat", 4), ("person", 5)]) (wi1 := iTup K (tVar 4)) (vs1 := [5]) rfl sc_all_cross.nd (pi_list (pv 0))
        (blkOk_by (own := [("boat", 4), ("person", 5)]) (N := N_all_cross) (sc := C8.fnScope s_all_cross) (by decide +kernel)) (by decide)
        (fun _ _ _ _ _ => (pg_name (i := 4) sc_all_cross.nd rfl (Or.inl rfl))) (fun _ _ _ _ _ => pts_nil)
        (fun _ _ _ _ _ => (pi_tup (pv 4))) (fun _ _ _ _ _ => (pg_name (i := 5) sc_all_cross.nd rfl (Or.inl rfl))) (fun _ _ _ _ _ => pts_nil)
        (fun _ _ _ _ _ => (pv 5))) pa_nil)))
    (pss_cons (ps_if (pt_cmpR (op_neD hr.units) (pv 3) (pe_listRg rfl (by rfl) T.list (prg_1 (by rfl) T.range (pe_callB call_len_seq (by rfl) T.len PySem.boot_len (pa_cons (pv 1) pa_nil)))) (nomark _))
        (pss_one (ps_ret pe_bl))
        pss_nil)
    (pss_one (ps_ret (pe_callB (cr_all rfl) (by rfl) T.all (by decide +kernel) (pa_cons (pe_lc (own := [("boat", 4)]) rfl sc_all_cross.nd (pi_list (pv 0))
        (blkOk_by (own := [("boat", 4)]) (N := N_all_cross) (sc := C8.fnScope s_all_cross) (by decide +kernel))
        (fun _ _ _ _ _ => (pg_name (i := 4) sc_all_cross.nd rfl (Or.inl rfl))) (fun _ _ _ _ _ => pts_nil)
        (fun _ _ _ _ _ => (C8.pe_c c_is_boat hr (by decide) (by rfl) (pa_cons (pv 4) (pa_cons (pv 1) (pa_cons (pv 2) pa_nil)))))) pa_nil)))))), ?_⟩
  refine ⟨_, rfl, b, rfl, ⟨_, hb⟩, fun D hD => lc2_flat (K := K) (σ := [some (.ref b), some (.ref a), some (.int L), none, none, none]) hD hb hrw (by rw [sizeLine_eq]; omega) (by show 4 < 6; decide) (by show 5 < 6; decide) (by decide) ?_⟩
  have s1 : Same H (upd H D (.lst (bs.flatten.map V.int))) := same_new hD
  refine ⟨D, _, rfl, SqL.of upd_same, fun ps p hp hup hpn => ?_⟩
  have s2 : Same H (upd (upd H D (.lst (bs.flatten.map V.int))) p (.lst (ps.map V.int))) := s1.trans (same_new hpn)
  refine ⟨_, rfl, _, rfl, a, _, rfl, .inl (s2.seq hs), ws.length, by rw [List.length_map], RgOk.of_le (by decide) (by omega) (by decide) (by omega), fun u hu => ?_⟩
  have s3 : Same H (upd (upd (upd H D (.lst (bs.flatten.map V.int))) p (.lst (ps.map V.int))) u (.lst (rgV 0 ws.length))) := s2.trans (same_new hu)
  have erg : rgV 0 (ws.length : Int) = (pers ws.length).map V.int := by
    unfold rgV pers
    rw [List.map_map, show ((ws.length : Int) - 0).toNat = ws.length by omega]
    refine List.map_congr_left fun i _ => ?_
    show V.int (0 + (i : Int)) = V.int (i : Int)
    rw [Int.zero_add]
  rw [erg] at s3 ⊢
  refine ⟨_, _, dp_ints (ns := ps) (SqL.of ?_), dp_ints (SqL.of upd_same), shaped_ints _, shaped_ints _, _, rfl, ?_⟩
  · rw [upd_ne (ne_of_none upd_same hu), upd_same]
  rw [eqv_ints]
  by_cases c : ps = pers ws.length
  · rw [decide_eq_true c]
    refine iteF ?_
    have hin : ∀ x ∈ bs.flatten, 0 ≤ x ∧ x < ws.length := fun x hx => mem_pers.mp (by rw [← c]; exact hp.mem_iff.mpr hx)
    have hperm : bs.flatten.Perm (pers ws.length) := by rw [← c]; exact hp.symm
    refine ⟨_, rfl, b, rfl, ⟨_, s3.seq hb⟩, fun D4 hD4 => ?_⟩
    -- what each boat is told
    have dec : ∀ c : List Int, ∃ r : Bool, (r = true ↔ BoatOk ws L c) := fun c => by
      rcases Classical.em (BoatOk ws L c) with y | y
      · exact ⟨true, fun _ => y, fun _ => rfl⟩
      · exact ⟨false, fun z => Bool.noConfusion z, fun z => absurd z y⟩
    refine lc_list (K := K) (a := b) (xs := xs) (fun i H' => ∃ acc : List Bool, H' = upd (upd (upd (upd H D (.lst (bs.flatten.map V.int))) p (.lst (ps.map V.int))) u (.lst ((pers ws.length).map V.int))) D4 (.lst (acc.map V.bl)) ∧ acc.length = i ∧ (acc.all id = true ↔ ∀ c ∈ bs.take i, BoatOk ws L c))
      ⟨[], rfl, rfl, by simp⟩ (fun i H' _ ⟨acc, e, _⟩ => by rw [e]; exact Same.seq (s3.trans (same_new hD4)) hb) ?_ ?_
    · rintro i x H' hx ⟨acc, rfl, hl, ha⟩
      obtain ⟨c1, hc1, t, rfl, ht⟩ := paired_get hrw hx
      have s4 : Same H (upd (upd (upd (upd H D (.lst (bs.flatten.map V.int))) p (.lst (ps.map V.int))) u (.lst ((pers ws.length).map V.int))) D4 (.lst (acc.map V.bl))) := s3.trans (same_new hD4)
      refine ⟨rfl, ?_⟩
      simp only [tYes, if_true]
      refine ⟨_, rfl, _, rfl, _, rfl, t, a, c1, ws, L, rfl, Same.sqt s4 _ _ ht, s4.seq hs, fun y hy => hin y (List.mem_flatten.mpr ⟨c1, List.mem_of_getElem? hc1, hy⟩), fun r hrr => ?_⟩
      refine ⟨_, upd_same, ?_, acc ++ [r], ?_, ?_, ?_⟩
      · have := (List.getElem?_eq_some_iff.mp hx).1
        rw [List.length_map]
        omega
      · rw [upd_upd, List.map_append]
        rfl
      · rw [List.length_append, hl]
        rfl
      · rw [take_next hc1, List.all_append, Bool.and_eq_true, ha]
        simp only [List.all_cons, List.all_nil, Bool.and_true, id, hrr, List.mem_append, List.mem_singleton]
        refine ⟨fun z c2 hc2 => ?_, fun z => ⟨fun c2 hc2 => z c2 (.inl hc2), z c1 (.inr rfl)⟩⟩
        rcases hc2 with hc2 | rfl
        · exact z.1 c2 hc2
        · exact z.2
    · rintro H' ⟨acc, rfl, hl, ha⟩
      refine ⟨D4, acc, rfl, SqL.of upd_same, ?_⟩
      refine q _ _ (s3.trans (same_new hD4)) ?_
      rw [ha, Paired.length hrw, List.take_of_length_le (Nat.le_refl _)]
      exact ⟨fun z => ⟨hperm, z⟩, fun z => z.2⟩
  · rw [decide_eq_false c]
    refine iteT ?_
    refine q _ false s3 ⟨fun z => Bool.noConfusion z, fun z => ?_⟩
    exact absurd (List.Perm.eq_of_pairwise (fun x y _ _ h1 h2 => by omega) hup (pers_up _) (hp.trans z.1)) c
abbrev N_Boats_shows : List Str := ["self", "weights", "limit"]
theorem sc_Boats_shows : FnScope N_Boats_shows ["self", "weights", "limit"] (C8.fnScope s_Boats_shows) := C8.fnScope_by (by decide +kernel)
theorem ok_Boats_shows (F : C8.Fun K "shows" "Boats.shows" s_Boats_shows f fd) (b : Binds K fd ["self", "weights", "limit"] []) (T : Txt K mg CH CB) (me : Meth K CB "shows" f) (c_all_cross : C8.Cal P w K mg base 2 "_all_cross" (spCross K) []) (c_asked_by : C8.Cal P w K mg base 1 "_asked_by" (spAsked K) []) :
    C8.Met P w K mg base 3 CB "shows" (spBShows K CB) [] := by
  refine C8.met0 T.clB me F b sc_Boats_shows (fun vs H Q E h => by obtain ⟨x, dx, b, a, xs, bs, ws, L, m, rfl, _⟩ := h; rfl) (fun cdv A outer s H vs Q E hr h => ?_)
  obtain ⟨x, dx, b, a, xs, bs, ws, L, m, rfl, hx, hb, hrw, hs, hz1, hz2, hz3, q⟩ := h
  refine ⟨_, (pss_one (ps_ret (pe_and (pe_chain op_le op_le pe_int (pe_op op_mul pe_int (pe_fld (pv 0) rfl)) (pe_op op_add (pv 2) pe_int))
          (pe_and (C8.pe_c c_all_cross hr (by decide) (by rfl) (pa_cons (pe_fld (pv 0) rfl) (pa_cons (pv 1) (pa_cons (pv 2) pa_nil))))
          (pe_one (pe_cmpR op_eq (pe_callB call_len_seq (by rfl) T.len PySem.boot_len (pa_cons (pe_fld (pv 0) rfl) pa_nil)) (C8.pe_c c_asked_by hr (by decide) (by rfl) (pa_cons (pe_fld (pv 0) rfl) (pa_cons (pv 1) (pa_cons (pv 2) pa_nil)))) (nomark _))))))), ?_⟩
  refine ⟨_, rfl, x, CB, dx, _, _, rfl, hx, T.clB, T.nM, bt_mark b m, _, _, rfl, rfl, .inl ⟨by decide, by decide⟩, _, _, rfl, rfl, _, rfl, ?_⟩
  have no : ∀ H', Same H H' → ¬ (0 ≤ 2 * m ∧ 2 * m ≤ L + 1) → Q (.bl false) H' := fun H' sm c => q H' false sm ⟨fun z => Bool.noConfusion z, fun z => absurd ⟨z.1, z.2.1⟩ c⟩
  refine ite2 (fun c1 => ?_) (fun c1 => ?_)
  · have d1 : 0 ≤ 2 * m := of_decide_eq_true c1
    refine ⟨_, rfl, _, _, rfl, rfl, _, _, rfl, rfl, _, rfl, ?_⟩
    refine ite2 (fun c2 => ?_) (fun c2 => no _ (Same.refl H) fun z => c2 (decide_eq_true z.2))
    have d2 : 2 * m ≤ L + 1 := of_decide_eq_true c2
    refine ⟨_, rfl, x, CB, dx, _, _, rfl, hx, T.clB, T.nB, bt_boats b m, _, rfl, _, rfl, b, a, xs, bs, ws, L, rfl, hb, hrw, hs, hz1, hz2, hz3, fun H1 r1 sm1 hr1 => ?_⟩
    refine ⟨r1, rfl, ?_⟩
    cases r1 with
    | false => exact iteF (q _ false sm1 ⟨fun z => Bool.noConfusion z, fun z => hr1.mpr z.2.2.1⟩)
    | true =>
      refine iteT ?_
      have hx1 := sm1 _ _ hx
      refine ⟨_, rfl, x, CB, dx, _, _, rfl, hx1, T.clB, T.nB, bt_boats b m, b, _, rfl, .inl (sm1.seq hb), ?_⟩
      refine ⟨_, rfl, x, CB, dx, _, _, rfl, hx1, T.clB, T.nM, bt_mark b m, _, rfl, _, rfl, m, L, a, ws, rfl, sm1.seq hs, hz1, fun H2 sm2 => ⟨rfl, ?_⟩⟩
      refine q _ _ (sm1.trans sm2) ?_
      rw [decide_eq_true_eq, Paired.length hrw]
      refine ⟨fun z => ⟨d1, d2, hr1.mp rfl, ?_⟩, fun z => by rw [z.2.2.2]⟩
      injection z with z
      exact Int.ofNat.inj z
  · refine ⟨_, rfl, iteF ?_⟩
    exact no _ (Same.refl H) fun z => c1 (decide_eq_true z.1)

/-! ### told -/
def IsHeavy (CH : Addr) (ws : List Int) (L : Int) (H' : Hp) (x : Addr) : Prop := ∃ (dx : Addr) (p : Int), H' x = some (.ins CH dx (hvF p)) ∧ 0 ≤ p ∧ p < ws.length ∧ L < wAt ws p
def IsBoats (K : PySem.W.Frag) (CB : Addr) (ws : List Int) (L : Int) (H H' : Hp) (x : Addr) : Prop := ∃ (dx b : Addr) (m : Int) (xs : List V) (bs : List (List Int)), H b = none ∧ H' x = some (.ins CB dx (btF b m)) ∧ H' b = some (.lst xs) ∧ RowsI K H' xs bs ∧ Shows ws L bs m
def spSent (K : PySem.W.Frag) (CB PT : Addr) : Sp := fun vs H Q _ => ∃ (a : Addr) (ws : List Int) (L : Int), vs = [.ref a, .int L] ∧ SqL K H a (ws.map V.int) ∧ ws.length ≤ 1000 ∧ (∀ w ∈ ws, 1 ≤ w) ∧ (∀ w ∈ ws, w ≤ L) ∧ 0 ≤ L ∧ Tabs (TabT PT) H ∧
  ∀ H' x, Grow (TabT PT) H H' → H x = none → IsBoats K CB ws L H H' x → Q (.ref x) H'
def spTold (K : PySem.W.Frag) (CH CB PT : Addr) : Sp := fun vs H Q _ => ∃ (a : Addr) (ws : List Int) (L : Int), vs = [.ref a, .int L] ∧ SqL K H a (ws.map V.int) ∧ ws.length ≤ 1000 ∧ (∀ w ∈ ws, 1 ≤ w) ∧ 0 ≤ L ∧ Tabs (TabT PT) H ∧
  ∀ H' x, Grow (TabT PT) H H' → H x = none → (IsHeavy CH ws L H' x ∨ ((∀ w ∈ ws, w ≤ L) ∧ IsBoats K CB ws L H H' x)) → Q (.ref x) H'
abbrev N_sent : List Str := ["weights", "limit", "order", "boats", "mark", "first", "last", "light", "heavy"]
theorem sc_sent : FnScope N_sent ["weights", "limit"] (C8.fnScope s_sent) := C8.fnScope_by (by decide +kernel)
theorem ok_sent {c PT : Addr} {oc kV doc pm ct : Value} {od an : Option Addr} {osl : Array (Option Value)} (lk : K.lookup f = some ⟨oc, od, .func (PySem.W.fnOf "_sent" "_sent" (C8.fnArgs s_sent) (C8.fnBody s_sent) (C8.fnScope s_sent) .none kV doc pm an (.ref c) ct), osl⟩)
    (hcd : PySem.W.codeIn K (.ref c) "_sent" = true) (hm : mg "_sent" = some (.ref f)) (kp : PySem.W.keepIn K (.ref f) = true) (b : L2.Binds K (PySem.W.fnOf "_sent" "_sent" (C8.fnArgs s_sent) (C8.fnBody s_sent) (C8.fnScope s_sent) .none kV doc pm an (.ref c) ct) ["weights", "limit"] [])
    (T : Txt K mg CH CB) (TB : TabB base mg c PT) (cBoats : C8.Mak P w K mg base 1 "Boats" CB (spBInit K CB) []) : C8.Cal P w K mg base 4 "_sent" (spSent K CB PT) [] := by
  refine calC lk hcd hm kp b sc_sent (fun vs H Q E h => by obtain ⟨a, ws, L, rfl, _⟩ := h; rfl) (fun A outer s H vs Q E hr h => ?_)
  obtain ⟨a, ws, L, rfl, hs, hz, hp, hli, hL, hT, q⟩ := h
  refine ⟨_, (pss_cons (ps_set (i := 2) sc_sent.nd rfl (Or.inl rfl) (pe_sortLam (T := TabT PT) (c := c) (P := PT) (qn := lamName) (xw := "weights") (xp := "person") (iw := 0) (k := 0) (by rfl) T.sorted (pa_cons (pe_callTy range1 (by rfl) T.range PyProof.Rows.boot_range (pa_cons (pe_callB call_len_seq (by rfl) T.len PySem.boot_len (pa_cons (pv 0) pa_nil)) pa_nil)) pa_nil) rfl hr TB rfl (show (("_sent" : Str) ++ ".<locals>." ++ "<lambda>") = lamName by decide +kernel)
        (List.mem_singleton.mpr rfl) (by intro x hx _; rw [List.mem_singleton.mp hx]) rfl rfl rfl rfl rfl rfl (by decide +kernel) (by decide +kernel) rfl rfl (by intros; rfl) (by intro cells; rfl)))
    (pss_cons (ps_set (i := 3) sc_sent.nd rfl (Or.inl rfl) (pe_lst pa_nil))
    (pss_cons (ps_set (i := 4) sc_sent.nd rfl (Or.inl rfl) pe_int)
    (pss_cons (ps_set (i := 5) sc_sent.nd rfl (Or.inl rfl) pe_int)
    (pss_cons (ps_set (i := 6) sc_sent.nd rfl (Or.inl rfl) (pe_op op_sub (pe_callB call_len_seq (by rfl) T.len PySem.boot_len (pa_cons (pv 2) pa_nil)) pe_int))
    (pss_cons (ps_while PassesOwn.never (pt_cmpR op_lt (pv 5) (pv 6) (nomark _))
        (pss_cons (ps_par (i := 7) (j := 8) rfl sc_sent.nd rfl rfl (by decide) rfl rfl (pa_cons (pe_ix ix_list (pv 2) (pv 5) (fun _ _ => rfl)) (pa_cons (pe_ix ix_list (pv 2) (pv 6) (fun _ _ => rfl)) pa_nil)) (by rfl))
        (pss_cons (ps_if (pt_cmpR op_le (pe_op op_add (pe_ix ix_list (pv 0) (pv 7) (fun _ _ => rfl)) (pe_ix ix_list (pv 0) (pv 8) (fun _ _ => rfl))) (pv 1) (nomark _))
            (pss_cons (ps_expr (pe_bm PySem.F.plainAttrs_list PySem.F.slot_list_append PySem.F.type_list_append mt_append (pv 3) (pa_cons (pe_tup (pa_cons (pe_callB (call_min2 rfl) (by rfl) T.min (by decide +kernel) (pa_cons (pv 7) (pa_cons (pv 8) pa_nil))) (pa_cons (pe_callB (call_max2 rfl) (by rfl) T.max (by decide +kernel) (pa_cons (pv 7) (pa_cons (pv 8) pa_nil))) pa_nil))) pa_nil)))
            (pss_one (ps_aug (i := 5) sc_sent.nd rfl (Or.inl rfl) pe_int ip_add)))
            (pss_cons (ps_expr (pe_bm PySem.F.plainAttrs_list PySem.F.slot_list_append PySem.F.type_list_append mt_append (pv 3) (pa_cons (pe_tup (pa_cons (pv 8) pa_nil)) pa_nil)))
            (pss_one (ps_set (i := 4) sc_sent.nd rfl (Or.inl rfl) (pe_callB (call_min2 rfl) (by rfl) T.min (by decide +kernel) (pa_cons (pe_ix ix_list (pv 0) (pv 7) (fun _ _ => rfl)) (pa_cons (pe_op op_fdiv (pe_op op_add (pv 1) pe_int) pe_int) pa_nil)))))))
        (pss_one (ps_aug (i := 6) sc_sent.nd rfl (Or.inl rfl) pe_int ip_sub)))))
    (pss_cons (ps_if (pt_cmpR op_eq (pv 5) (pv 6) (nomark _))
        (pss_one (ps_expr (pe_bm PySem.F.plainAttrs_list PySem.F.slot_list_append PySem.F.type_list_append mt_append (pv 3) (pa_cons (pe_tup (pa_cons (pe_ix ix_list (pv 2) (pv 5) (fun _ _ => rfl)) pa_nil)) pa_nil))))
        pss_nil)
    (pss_one (ps_ret (C8.pe_mk cBoats hr (by decide) (by rfl) (pa_cons (pe_callB (cr_sortedR (Nat.lt_of_le_of_lt (Nat.add_le_add_left (by decide : 3 ≤ 64) _) hr.units)) (by rfl) T.sorted (by decide +kernel) (pa_cons (pv 3) pa_nil)) (pa_cons (pv 4) pa_nil)))))))))))), ?_⟩
  -- order
  refine ⟨_, rfl, a, _, rfl, .inl hs, (ws.map V.int).length, rfl, fun r hr0 => ?_⟩
  have sr : Same H (upd H r (.rng 0 ((ws.map V.int).length : Nat))) := same_new hr0
  refine ⟨r, a, ws, rfl, ?_, rfl, sr.seq hs, by omega, Tabs.ext hT sr, fun os p H2 eN tb2 T2 hp2 hperm hup => ?_⟩
  · rw [upd_same, List.length_map]
  have O : Ord ws os L := ⟨hperm, hup, hp, hli, hL⟩
  have nn2 : ∀ b, H2 b = none → H b = none := fun b hb => by
    cases z : H b with
    | none => rfl
    | some o =>
      by_cases ht : ∃ ps, o = .tbl ps
      · obtain ⟨ps, rfl⟩ := ht
        obtain ⟨ps', e⟩ := tb2 b ps z
        rw [hb] at e
        cases e
      · have y := eN b o (sr b o z) fun ps e => ht ⟨ps, e⟩
        rw [hb] at y
        cases y
  have g2 : Grow (TabT PT) H H2 := ⟨fun b o e n => eN b o (sr b o e) n, nn2, T2⟩
  have g3 : Grow (TabT PT) H (upd H2 p (.lst (os.map V.int))) := g2.same (same_new hp2)
  generalize hHb : upd H2 p (.lst (os.map V.int)) = Hb at g3 ⊢
  have hpb : Hb p = some (.lst (os.map V.int)) := by rw [← hHb, upd_same]
  have hab : SqL K Hb a (ws.map V.int) := g3.seq hs
  -- boats, mark, first, last
  refine ⟨by decide, fun l hl => ?_⟩
  refine ⟨_, rfl, p, _, rfl, .inl (SqL.of (same_new hl _ _ hpb)), _, _, rfl, rfl, ?_⟩
  have osl : os.length = ws.length := O.len
  -- the walk
  have idx : ∀ {k : Nat}, k < os.length → atI (os.map V.int) (k : Int) = some (V.int (os.getD k 0)) := fun {k} hk => by
    rw [at_int (by omega) (by omega), wAt_nat]
  have widx : ∀ {k : Nat}, k < os.length → atI (ws.map V.int) (os.getD k 0) = some (V.int (ka ws os k)) := fun {k} hk => at_int (O.mem hk).1 (O.mem hk).2
  refine ⟨fun n σ H' => ∃ (i e : Nat) (m : Int) (bs : List (List Int)) (xs : List V) (v7 v8 : Option V), n = e - i ∧ σ = [some (.ref a), some (.int L), some (.ref p), some (.ref l), some (.int m), some (.int i), some (.int ((e : Int) - 1)), v7, v8] ∧
    Gr ws os L bs m i e ∧ Same Hb H' ∧ H' l = some (.lst xs) ∧ RowsI K H' xs bs, ⟨_, 0, os.length, 0, [], [], none, none, rfl, ?_, Gr.start O, same_new hl, upd_same, .nil⟩, ?_⟩
  · rw [List.length_map]
    rfl
  rintro n σ H' ⟨i, e, m, bs, xs, v7, v8, rfl, rfl, G, sm, hl', hrw⟩
  have ie := G.ie
  have en := G.en
  refine ⟨_, rfl, _, rfl, _, _, rfl, rfl, _, rfl, ?_⟩
  have hp' := sm _ _ hpb
  have ha' := sm.seq hab
  have glen := G.len
  refine ite2 (fun cc => ?_) (fun cc => ?_)
  · -- one more boat
    have hie : i + 1 < e := by have := of_decide_eq_true cc; omega
    have he1 : ((e : Int) - 1) = ((e - 1 : Nat) : Int) := by omega
    refine ⟨fun σ' H'' => ∃ (i' e' : Nat) (m' : Int) (bs' : List (List Int)) (xs' : List V) (v7 v8 : Option V), e' - i' < e - i ∧ σ' = [some (.ref a), some (.int L), some (.ref p), some (.ref l), some (.int m'), some (.int i'), some (.int ((e' : Int) - 1)), v7, v8] ∧
      Gr ws os L bs' m' i' e' ∧ Same Hb H'' ∧ H'' l = some (.lst xs') ∧ RowsI K H'' xs' bs', fun σ' H'' ⟨i', e', m', bs', xs', v7, v8, h1, h2⟩ => ⟨_, h1, i', e', m', bs', xs', v7, v8, rfl, h2⟩, ?_⟩
    refine ⟨_, rfl, _, rfl, p, _, (i : Int), _, rfl, rfl, SqL.of hp', idx (k := i) (by omega), _, rfl, _, rfl, p, _, ((e : Int) - 1), _, rfl, rfl, SqL.of hp', by rw [he1]; exact idx (k := e - 1) (by omega), _, _, rfl, ?_⟩
    refine ⟨_, rfl, _, rfl, a, _, os.getD i 0, _, rfl, rfl, ha', widx (k := i) (by omega), _, rfl, _, rfl, a, _, os.getD (e - 1) 0, _, rfl, rfl, ha', widx (k := e - 1) (by omega), _, _, rfl, rfl, _, rfl, _, _, rfl, rfl, _, rfl, ?_⟩
    have hne : os.getD i 0 ≠ os.getD (e - 1) 0 := O.inj (by omega) (by omega) (by omega)
    have nl : Hb l = none := hl
    refine ite2 (fun c2 => ?_) (fun c2 => ?_)
    · have hsum : ka ws os i + ka ws os (e - 1) ≤ L := of_decide_eq_true c2
      refine ⟨_, rfl, .inl ⟨rfl, _, SqL.of hl'⟩, _, rfl, _, rfl, _, _, rfl, _, rfl, _, rfl, _, _, rfl, (by show 2 ≤ sizeLine; rw [sizeLine_eq]; decide), fun t ht => ?_⟩
      have ntl : t ≠ l := fun z => by rw [z, hl'] at ht; cases ht
      refine ⟨l, xs, _, rfl, rfl, by rw [upd_ne ntl.symm]; exact hl', ?_, ?_⟩
      · have := Paired.length hrw
        rw [sizeLine_eq]
        omega
      refine ⟨_, rfl, _, _, rfl, rfl, ?_⟩
      refine ⟨_, rfl, _, _, rfl, rfl, ?_⟩
      refine ⟨i + 1, e - 1, m, _, _, _, _, by omega, by rw [he1]; rfl, G.pair O hie hsum ?_, same_mut (sm.trans (same_new ht)) nl, upd_same, rows_snoc (ns := [if os.getD (e - 1) 0 < os.getD i 0 then os.getD (e - 1) 0 else os.getD i 0, if os.getD (e - 1) 0 > os.getD i 0 then os.getD (e - 1) 0 else os.getD i 0]) hl' ht hrw⟩
      by_cases c3 : os.getD (e - 1) 0 < os.getD i 0
      · right
        rw [if_pos c3, if_neg (by omega)]
        exact ⟨rfl, c3⟩
      · left
        rw [if_neg c3, if_pos (by omega)]
        exact ⟨rfl, by omega⟩
    · have hsum : L < ka ws os i + ka ws os (e - 1) := by
        have : ¬ ka ws os i + ka ws os (e - 1) ≤ L := fun z => c2 (decide_eq_true z)
        omega
      refine ⟨_, rfl, .inl ⟨rfl, _, SqL.of hl'⟩, _, rfl, (by show 1 ≤ sizeLine; rw [sizeLine_eq]; decide), fun t ht => ?_⟩
      have ntl : t ≠ l := fun z => by rw [z, hl'] at ht; cases ht
      refine ⟨l, xs, _, rfl, rfl, by rw [upd_ne ntl.symm]; exact hl', ?_, ?_⟩
      · have := Paired.length hrw
        rw [sizeLine_eq]
        omega
      have sm2 := same_mut (o := .lst (xs ++ [.ref t])) (sm.trans (same_new (o := .tup ([os.getD (e - 1) 0].map V.int)) ht)) nl
      refine ⟨_, rfl, _, rfl, a, _, os.getD i 0, _, rfl, rfl, sm2.seq hab, widx (k := i) (by omega), _, rfl, _, _, rfl, rfl, _, _, rfl, rfl, ⟨by decide, by decide⟩, _, _, rfl, ?_⟩
      refine ⟨_, rfl, _, _, rfl, rfl, ?_⟩
      exact ⟨i, e - 1, _, _, _, _, _, by omega, by rw [he1]; rfl, G.alone O hie hsum, sm2, upd_same, rows_snoc (ns := [os.getD (e - 1) 0]) hl' ht hrw⟩
  · have hie : e ≤ i + 1 := by
      have : ¬ (i : Int) < (e : Int) - 1 := fun z => cc (decide_eq_true z)
      omega
    -- the end: bs' is what is shown, in H3
    have fin : ∀ (H3 : Hp) (bs' : List (List Int)) (xs' : List V) (v7 v8 : Option V), Same Hb H3 → H3 l = some (.lst xs') → RowsI K H3 xs' bs' → Shows ws L bs' m →
        tRet (tMake CB (spBInit K CB) [] C8.E0 (tCons (tCB (rSortedR K) (tCons (tVar 3) tNil)) (tCons (tVar 4) tNil))) { nx := fun _ H' => Q .non H', rt := Q }
          [some (.ref a), some (.int L), some (.ref p), some (.ref l), some (.int m), some (.int i), some (.int ((e : Int) - 1)), v7, v8] H3 := by
      intro H3 bs' xs' v7 v8 sm3 hl3 hr3 hsh
      refine ⟨_, rfl, l, xs', bs', rfl, SqL.of hl3, hr3, fun b hb z => ?_, fun ys cs p2 hry hpm hp3 => ?_⟩
      · rcases hsh.2.2.1.2 b hb with ⟨_, e, _⟩ | ⟨_, _, e, _⟩ <;> rw [e] at z <;> cases z
      refine ⟨_, rfl, fun x dx hx hdx hdxx => ?_⟩
      have n1 : x ≠ p2 := fun z => by rw [z, upd_same] at hx; cases hx
      have n2 : dx ≠ p2 := fun z => by rw [z, upd_same] at hdx; cases hdx
      have sG : Same (upd H3 p2 (.lst ys)) (upd (upd (upd H3 p2 (.lst ys)) dx (.own x)) x (.ins CB dx [])) := by
        refine (same_new hdx).trans (same_new ?_)
        rw [upd_ne (Ne.symm hdxx)]
        exact hx
      refine ⟨x, dx, p2, ys, m, rfl, upd_same, SqL.of (sG _ _ upd_same), fun b2 hb2 => ⟨rfl, ?_⟩⟩
      have nb : b2 ≠ x := fun z => by rw [z, upd_same] at hb2; cases hb2
      have sF : Same (upd H3 p2 (.lst ys)) (upd (upd (upd (upd (upd H3 p2 (.lst ys)) dx (.own x)) x (.ins CB dx [])) b2 (.lst ys)) x (.ins CB dx (btF b2 m))) := same_mut (sG.trans (same_new hb2)) hx
      have s3F := (same_new hp3).trans sF
      have hb2H3 : H3 b2 = none := ((same_new hp3).trans sG).free hb2
      have gF := g3.same (sm3.trans s3F)
      have free : ∀ y, H3 y = none → H y = none := fun y hy => g3.nn y (sm3.free hy)
      refine q _ x gF (free x ?_) ⟨dx, b2, m, ys, cs, free b2 hb2H3, upd_same, ?_, rows_same s3F hry, hsh.perm hpm⟩
      · exact (same_new hp3).free hx
      · rw [upd_ne nb, upd_same]
    refine ⟨_, rfl, _, rfl, rfl, _, rfl, ?_⟩
    refine ite2 (fun c2 => ?_) (fun c2 => ?_)
    · have hieq : i + 1 = e := by
        have := of_decide_eq_true c2
        injection this with z
        omega
      refine ⟨_, rfl, .inl ⟨rfl, _, SqL.of hl'⟩, _, rfl, _, rfl, p, _, (i : Int), _, rfl, rfl, SqL.of hp', idx (k := i) (by omega), (by show 1 ≤ sizeLine; rw [sizeLine_eq]; decide), fun t ht => ?_⟩
      have ntl : t ≠ l := fun z => by rw [z, hl'] at ht; cases ht
      refine ⟨l, xs, _, rfl, rfl, by rw [upd_ne ntl.symm]; exact hl', ?_, ?_⟩
      · have := Paired.length hrw
        rw [sizeLine_eq]
        omega
      exact fin _ _ _ _ _ (same_mut (sm.trans (same_new ht)) hl) upd_same (rows_snoc (ns := [os.getD i 0]) hl' ht hrw) (G.shows_last O hieq)
    · have hieq : i = e := by
        have : ¬ (i : Int) = (e : Int) - 1 := fun z => c2 (decide_eq_true (by rw [z]))
        omega
      exact fin _ _ _ _ _ sm hl' hrw (G.shows_none O hieq)
abbrev N_told : List Str := ["weights", "limit", "person", "weight"]
theorem sc_told : FnScope N_told ["weights", "limit"] (C8.fnScope s_told) := C8.fnScope_by (by decide +kernel)
theorem ok_told {PT : Addr} (F : C8.Def K mg "told" s_told f fd) (b : L2.Binds K fd ["weights", "limit"] []) (T : Txt K mg CH CB) (ccheck_people : C8.Cal P w K mg base 2 "check_people" (spPeople K) []) (ccheck_limit : C8.Cal P w K mg base 2 "check_limit" spLimit [])
    (cHeavy : C8.Mak P w K mg base 1 "Heavy" CH (spHInit CH) []) (c_sent : C8.Cal P w K mg base 4 "_sent" (spSent K CB PT) []) : C8.Cal P w K mg base 5 "told" (spTold K CH CB PT) [] := by
  refine C8.cal0 F b .nil sc_told (fun vs H Q E h => by obtain ⟨a, ws, L, rfl, _⟩ := h; rfl) (fun cdv A outer s H vs Q E hr h => ?_)
  obtain ⟨a, ws, L, rfl, hs, hz, hp, hL, hT, q⟩ := h
  refine ⟨_, (pss_cons (ps_expr (C8.pe_c ccheck_people hr (by decide) (by rfl) (pa_cons (pv 0) pa_nil)))
    (pss_cons (ps_expr (C8.pe_c ccheck_limit hr (by decide) (by rfl) (pa_cons (pv 1) pa_nil)))
    (pss_cons (ps_for PassesOwn.never rfl (pi_enum (by rfl) T.enumerate (pa_cons (pv 0) pa_nil)) (pg_tup rfl (pgs_cons (pg_name (i := 2) sc_told.nd rfl (Or.inl rfl)) (pgs_cons (pg_name (i := 3) sc_told.nd rfl (Or.inl rfl)) pgs_nil)))
        (pss_one (ps_if (pt_cmpR op_gt (pv 3) (pv 1) (nomark _))
            (pss_one (ps_ret (C8.pe_mk cHeavy hr (by decide) (by rfl) (pa_cons (pv 2) pa_nil))))
            pss_nil)))
    (pss_one (ps_ret (C8.pe_c c_sent hr (by decide) (by rfl) (pa_cons (pv 0) (pa_cons (pv 1) pa_nil)))))))), ?_⟩
  refine ⟨_, rfl, a, ws, rfl, hs, hp, ?_⟩
  refine ⟨_, rfl, L, rfl, hL, ?_⟩
  refine ⟨_, rfl, a, _, rfl, hs, for_enum (K := K) (xs := ws.map V.int) (fun i σ H' => Same H H' ∧ (∀ k, k < i → ws.getD k 0 ≤ L) ∧ ∃ v2 v3, σ = [some (.ref a), some (.int L), v2, v3]) ⟨Same.refl H, fun k hk => absurd hk (Nat.not_lt_zero _), _, _, rfl⟩ (fun i σ H' h => h.1.seq hs) ?_ ?_⟩
  · rintro i x T' σ H' hx ⟨sm, hle, v2, v3, rfl⟩ hT'
    obtain ⟨hil, rfl, hn⟩ := map_at hx
    have sm2 := sm.trans (same_new (o := .tup [.int (i : Nat), .int (ws.getD i 0)]) hT')
    refine ⟨T', _, rfl, SqT.of upd_same, rfl, _, _, rfl, _, _, rfl, rfl, ?_⟩
    refine ⟨_, rfl, _, rfl, _, _, rfl, rfl, _, rfl, ?_⟩
    refine ite2 (fun c => ?_) (fun c => ?_)
    · have hlt : L < ws.getD i 0 := of_decide_eq_true c
      refine ⟨_, rfl, fun x dx hx0 hdx ne => ?_⟩
      refine ⟨x, dx, i, rfl, upd_same, rfl, ?_⟩
      rw [upd_upd]
      have hxd : upd (upd H' T' (.tup [.int (i : Nat), .int (ws.getD i 0)])) dx (.own x) x = none := by rw [upd_ne (Ne.symm ne)]; exact hx0
      refine q _ x (.ofSame ((sm2.trans (same_new hdx)).trans (same_new hxd)) hT) (sm2.free hx0) (.inl ⟨dx, i, upd_same, Int.natCast_nonneg i, by omega, ?_⟩)
      rw [wAt_nat]
      exact hlt
    · refine ⟨sm2, fun k hk => ?_, _, _, rfl⟩
      rcases Nat.lt_or_eq_of_le (Nat.le_of_lt_succ hk) with hk | rfl
      · exact hle k hk
      · have : ¬ L < ws.getD k 0 := fun z => c (decide_eq_true z)
        omega
  · rintro σ H' ⟨sm, hle, v2, v3, rfl⟩
    have hli : ∀ w ∈ ws, w ≤ L := fun w hw => by
      obtain ⟨k, hk⟩ := List.mem_iff_getElem?.mp hw
      have := hle k (by rw [List.length_map]; exact (List.getElem?_eq_some_iff.mp hk).1)
      rw [List.getD_eq_getElem?_getD, hk] at this
      exact this
    have g := Grow.ofSame sm hT
    refine ⟨_, rfl, _, rfl, a, ws, L, rfl, sm.seq hs, hz, hp, hli, hL, g.tab, fun H2 x g2 hx hb => ?_⟩
    obtain ⟨dx, b2, m, xs, bs, hb0, h2⟩ := hb
    exact q _ x (g.trans g2) (g.nn _ hx) (.inr ⟨hli, dx, b2, m, xs, bs, g.nn _ hb0, h2⟩)
end
end Bp

end

section
set_option Elab.async false
set_option linter.all false
set_option maxRecDepth 100000
set_option maxHeartbeats 4000000
namespace Bp
open PySem PySem.Spec PyProof.Rows L2 LamX

/-! ### the law's own defs -/
theorem shows_sizes {ws : List Int} {L m : Int} {bs : List (List Int)} (h : Shows ws L bs m) : bs.length ≤ ws.length ∧ bs.flatten.length = ws.length := ⟨h.opt.half.2, by rw [h.2.2.1.1.length_eq, pers_len]⟩
theorem hv_shows (p : Int) : (hvF p).lookup ("shows" : Str) = none := by
  unfold hvF
  rw [List.lookup_cons, show (("shows" : Str) == "person") = false by decide +kernel]
  rfl
theorem bt_shows (b : Addr) (m : Int) : (btF b m).lookup ("shows" : Str) = none := by
  unfold btF
  rw [List.lookup_cons, show (("shows" : Str) == "boats") = false by decide +kernel, List.lookup_cons, show (("shows" : Str) == "mark") = false by decide +kernel]
  rfl
structure LTxt (K : PySem.W.Frag) (mg : Str → Option Value) (CH CB : Addr) : Prop extends Txt K mg CH CB where
  sum : mg "sum" = none
  kH : Kls K CH
  kB : Kls K CB
  mgHeavy : mg "Heavy" = some (.ref CH)
  mgBoats : mg "Boats" = some (.ref CB)
  hn : PySem.W.specialIn K (.builtin "object.__class__") "__get__" = some (some (.builtin "getset_descriptor.__get__"))
  htk : PySem.W.takesIn K (.builtin "object.__class__") = some true
  iHB : PySem.W.kitOne K (.ref CH) (.ref CB) = some false
  iBB : PySem.W.kitOne K (.ref CB) (.ref CB) = some true
/-! ### least_limit -/
def spLeast (K : PySem.W.Frag) : Sp := fun vs H Q _ => ∃ (a : Addr) (ws : List Int) (B : Int), vs = [.ref a, .int B] ∧ SqL K H a (ws.map V.int) ∧ H a = some (.lst (ws.map V.int)) ∧ ws.length ≤ 1000 ∧ (∀ w ∈ ws, 1 ≤ w) ∧ (ws.length : Int) ≤ 2 * B ∧
  ∀ H' v, Same H H' → Least ws B v → Q (.int v) H'
section
variable {P : Program} {w : World} {K : PySem.W.Frag} {mg : Str → Option Value} {base : Heap} {CH CB f : Addr} {fd : FuncData}
abbrev N_least_limit : List Str := ["weights", "boats", "rising", "pairs", "sums", "at"]
theorem sc_least_limit : FnScope N_least_limit ["weights", "boats"] (C8.fnScope s_least_limit) := C8.fnScope_by (by decide +kernel)
theorem ok_least_limit (F : C8.Def K mg "least_limit" s_least_limit f fd) (b : Binds K fd ["weights", "boats"] []) (T : LTxt K mg CH CB) (ccheck_people : C8.Cal P w K mg base 2 "check_people" (spPeople K) []) (ccheck_boats : C8.Cal P w K mg base 2 "check_boats" spCount []) : C8.Cal P w K mg base 3 "least_limit" (spLeast K) [] := by
  refine C8.cal0 F b .nil sc_least_limit (fun vs H Q E h => by obtain ⟨a, ws, B, rfl, _⟩ := h; rfl) (fun cdv A outer s H vs Q E hr h => ?_)
  obtain ⟨a, ws, B, rfl, hs, ha, hz, hp, hB, q⟩ := h
  refine ⟨_, (pss_cons (ps_expr (C8.pe_c ccheck_people hr (by decide) (by rfl) (pa_cons (pv 0) pa_nil)))
    (pss_cons (ps_expr (C8.pe_c ccheck_boats hr (by decide) (by rfl) (pa_cons (pv 1) (pa_cons (pe_callB call_len_seq (by rfl) T.len PySem.boot_len (pa_cons (pv 0) pa_nil)) pa_nil))))
    (pss_cons (ps_set (i := 2) sc_least_limit.nd rfl (Or.inr rfl) (pe_callB cr_sortedI (by rfl) T.sorted (by decide +kernel) (pa_cons (pv 0) pa_nil)))
    (pss_cons (ps_set (i := 3) sc_least_limit.nd rfl (Or.inr rfl) (pe_callB (call_max2 rfl) (by rfl) T.max (by decide +kernel) (pa_cons (pe_op op_sub (pe_callB call_len_seq (by rfl) T.len PySem.boot_len (pa_cons (pv 0) pa_nil)) (pv 1)) (pa_cons pe_int pa_nil))))
    (pss_cons (ps_setLc (i := 4) (own := [("at", 5)]) rfl sc_least_limit.nd rfl rfl (sw_true rfl rfl rfl (by decide +kernel)) (pi_range1 (by rfl) T.range (pa_cons (pv 3) pa_nil))
        (blkOk_by (own := [("at", 5)]) (N := N_least_limit) (sc := C8.fnScope s_least_limit) (by decide +kernel))
        (fun _ _ _ _ _ => (pg_name (i := 5) sc_least_limit.nd rfl (Or.inl rfl))) (fun _ _ _ _ _ => pts_nil)
        (fun _ _ _ _ _ => (pe_op op_add (pe_ix (show IxR _ (rIxL K) from ix_list) (pv 2) (pv 5) (fun _ _ => rfl)) (pe_ix (show IxR _ (rIxL K) from ix_list) (pv 2) (pe_op op_sub (pe_op op_sub (pe_op op_mul pe_int (pv 3)) pe_int) (pv 5)) (fun _ _ => rfl)))))
    (pss_one (ps_ret (pe_callBK (cr_maxD rfl (hu_of hr)) (by rfl) T.max (by decide +kernel) (pa_cons (pe_op op_cat (pv 0) (pv 4)) pa_nil) (pk_cons pe_int pk_nil))))))))), ?_⟩
  have lm : (ws.map V.int).length = ws.length := List.length_map ..
  refine ⟨_, rfl, a, ws, rfl, hs, hp, ?_⟩
  refine ⟨_, rfl, _, rfl, a, _, rfl, .inl hs, B, _, rfl, by rw [lm]; exact hB, ?_⟩
  refine ⟨_, rfl, a, ws, rfl, hs, fun rs p hpm hup hp0 => ?_⟩
  have s1 : Same H (upd H p (.lst (rs.map V.int))) := same_new hp0
  have hrp : SqL K (upd H p (.lst (rs.map V.int))) p (rs.map V.int) := SqL.of upd_same
  generalize upd H p (.lst (rs.map V.int)) = H1 at s1 hrp ⊢
  have rl : rs.length = ws.length := hpm.length_eq
  refine ⟨_, rfl, a, _, rfl, .inl (s1.seq hs), _, rfl, _, _, rfl, rfl, _, _, rfl, ?_⟩
  rw [lm]
  obtain ⟨n, hn⟩ : ∃ n : Nat, (if 0 > (ws.length : Int) - B then 0 else (ws.length : Int) - B) = (n : Int) := ⟨(if 0 > (ws.length : Int) - B then 0 else (ws.length : Int) - B).toNat, by split <;> omega⟩
  have hnl : 2 * n ≤ ws.length := by split at hn <;> omega
  have hk : ∀ k : Nat, k < n ↔ (k : Int) < ws.length - B := fun k => by split at hn <;> omega
  have hnB : ∀ k : Nat, k < n → (2 * ((ws.length : Int) - B) - 1 - k).toNat = 2 * n - 1 - k := fun k h => by split at hn <;> omega
  show tSeq _ _ _ ((_ : L2.St).set 3 (some (.int (if 0 > (ws.length : Int) - B then 0 else (ws.length : Int) - B)))) _
  rw [hn]
  refine ⟨_, rfl, _, rfl, by omega, by omega, fun D hD => lc_pureR (n := ((n : Nat) : Int).toNat) (lo := 0) (fun i => V.int (rs.getD i.toNat 0 + rs.getD (2 * n - 1 - i.toNat) 0)) hD (by rw [sizeLine_eq]; omega) (fun i H' hi sm Q' q' => ?_) (fun i H' hi sm Q' q' => ?_) ?_⟩
  · simp only [tYes, if_true]
    exact q'
  · have hi' : i < n := by omega
    rw [Int.zero_add] at q' ⊢
    have h1 : atI (rs.map V.int) (i : Int) = some (V.int (rs.getD i 0)) := by rw [at_int (by omega) (by omega), wAt_nat]
    have h2 : atI (rs.map V.int) (2 * (n : Int) - 1 - i) = some (V.int (rs.getD (2 * n - 1 - i) 0)) := by
      rw [show 2 * (n : Int) - 1 - i = ((2 * n - 1 - i : Nat) : Int) by omega, at_int (by omega) (by omega), wAt_nat]
    exact ⟨_, rfl, _, rfl, p, _, _, _, rfl, rfl, sm.seq hrp, h1, _, rfl, _, rfl, _, _, rfl, rfl, .inl ⟨by decide, by decide⟩, _, _, rfl, rfl, _, rfl, _, _, rfl, rfl, p, _, _, _, rfl, rfl, sm.seq hrp, h2, _, _, rfl, rfl, q'⟩
  have es : ((List.range ((n : Nat) : Int).toNat).map fun i : Nat => V.int (rs.getD (0 + (i : Int)).toNat 0 + rs.getD (2 * n - 1 - (0 + (i : Int)).toNat) 0)) = ((List.range n).map fun i : Nat => rs.getD i 0 + rs.getD (2 * n - 1 - i) 0).map V.int := by
    rw [List.map_map, Int.toNat_natCast]
    refine List.map_congr_left fun i _ => ?_
    rw [Int.zero_add, Int.toNat_natCast]
    rfl
  rw [es]
  generalize hss : ((List.range n).map fun i : Nat => rs.getD i 0 + rs.getD (2 * n - 1 - i) 0) = ss
  have hsl : ss.length = n := by rw [← hss]; simp
  have naD : a ≠ D := ne_of_none (s1 _ _ ha) hD
  refine ⟨_, rfl, _, rfl, a, D, _, _, rfl, rfl, by rw [upd_ne naD]; exact s1 _ _ ha, upd_same, by rw [lm, List.length_map, hsl]; exact le_size (by omega), fun p3 hp3 => ?_⟩
  rw [← List.map_append]
  have sm := s1.trans ((same_new (o := .lst (ss.map V.int)) hD).trans (same_new (o := .lst ((ws ++ ss).map V.int)) hp3))
  have sum_mem : ∀ k, k < n → rs.getD k 0 + rs.getD (2 * n - 1 - k) 0 ∈ ss := fun k hk => by
    rw [← hss]
    exact List.mem_map.mpr ⟨k, List.mem_range.mpr hk, rfl⟩
  have mem_sum : ∀ x ∈ ss, ∃ k, k < n ∧ x = rs.getD k 0 + rs.getD (2 * n - 1 - k) 0 := fun x hx => by
    rw [← hss] at hx
    obtain ⟨k, hk, rfl⟩ := List.mem_map.mp hx
    exact ⟨k, List.mem_range.mp hk, rfl⟩
  refine ⟨p3, ws ++ ss, 0, rfl, rfl, SqL.of upd_same, fun e => q _ 0 sm ?_, fun m hm hle => q _ m sm ?_⟩
  · have e1 : ws = [] := (List.append_eq_nil_iff.mp e).1
    have hn0 : n = 0 := by
      rw [e1, List.length_nil] at hnl
      omega
    refine ⟨rs, hpm, hup, fun w hw => absurd hw (by rw [e1]; exact List.not_mem_nil), fun k hk' => absurd ((hk k).mpr hk') (by omega), .inl ⟨e1, rfl⟩⟩
  · refine ⟨rs, hpm, hup, fun w hw => hle w (List.mem_append_left _ hw), fun k hk' => ?_, ?_⟩
    · have h := (hk k).mpr hk'
      rw [hnB k h]
      exact hle _ (List.mem_append_right _ (sum_mem k h))
    · rcases List.mem_append.mp hm with h | h
      · exact .inr (.inl h)
      · obtain ⟨k, hk', e⟩ := mem_sum m h
        exact .inr (.inr ⟨k, (hk k).mp hk', by rw [hnB k hk']; exact e⟩)
end
/-! ### ways -/
def spChoices (K : PySem.W.Frag) : Sp := fun vs H Q _ => ∃ (h l : Addr) (hs ls : List Int) (L : Int), vs = [.ref h, .ref l, .int L] ∧ SqL K H h (hs.map V.int) ∧ SqL K H l (ls.map V.int) ∧ hs.length ≤ 1000 ∧ ls.length ≤ 1000 ∧ hs.Pairwise (· ≥ ·) ∧ ls.Pairwise (· ≤ ·) ∧
  ∀ H' p, Same H H' → H p = none → H' p = some (.lst ((chs L ls hs 0).map V.int)) → Q (.ref p) H'
def spProduct (K : PySem.W.Frag) (d : Nat) : Sp := fun vs H Q _ => ∃ (a : Addr) (fs : List Int), vs = [.ref a] ∧ SqL K H a (fs.map V.int) ∧ fs.length ≤ 2 ^ d ∧ fs.length ≤ 2000 ∧ (∀ x ∈ fs, x.natAbs < 2 ^ 16) ∧ ∀ H', Same H H' → Q (.int (prodI fs)) H'
def spWays (K : PySem.W.Frag) : Sp := fun vs H Q _ => ∃ (a : Addr) (ws : List Int) (L : Int), vs = [.ref a, .int L] ∧ SqL K H a (ws.map V.int) ∧ ws.length ≤ 1000 ∧ (∀ w ∈ ws, 1 ≤ w) ∧ 0 ≤ L ∧ ∀ H', Same H H' → Q (.int (T L ws : Nat)) H'
section
variable {P : Program} {w : World} {K : PySem.W.Frag} {mg : Str → Option Value} {base : Heap} {CH CB f : Addr} {fd : FuncData}
abbrev N_choices : List Str := ["heavy", "light", "limit", "choices", "fitting", "taken", "weight"]
theorem sc_choices : FnScope N_choices ["heavy", "light", "limit"] (C8.fnScope s_choices) := C8.fnScope_by (by decide +kernel)
theorem ok_choices (F : C8.Def K mg "_choices" s_choices f fd) (b : Binds K fd ["heavy", "light", "limit"] []) (T : LTxt K mg CH CB) : C8.Cal P w K mg base 1 "_choices" (spChoices K) [] := by
  refine C8.cal0 F b .nil sc_choices (fun vs H Q E h => by obtain ⟨h, l, hs, ls, L, rfl, _⟩ := h; rfl) (fun cdv A outer s H vs Q E hr h => ?_)
  obtain ⟨h, l, hs, ls, L, rfl, hh, hl, hz1, hz2, hd, ha, q⟩ := h
  refine ⟨_, (pss_cons (ps_set (i := 3) sc_choices.nd rfl (Or.inl rfl) (pe_lst pa_nil))
    (pss_cons (ps_set (i := 4) sc_choices.nd rfl (Or.inl rfl) pe_int)
    (pss_cons (ps_for PassesOwn.never rfl (pi_enum (by rfl) T.enumerate (pa_cons (pv 0) pa_nil)) (pg_tup rfl (pgs_cons (pg_name (i := 5) sc_choices.nd rfl (Or.inl rfl)) (pgs_cons (pg_name (i := 6) sc_choices.nd rfl (Or.inl rfl)) pgs_nil)))
        (pss_cons (ps_while PassesOwn.never (PW.pt (pw_and (pt_cmpR op_lt (pv 4) (pe_callB call_len_seq (by rfl) T.len PySem.boot_len (pa_cons (pv 1) pa_nil)) (nomark _))
          (pw_and1 (pt_cmpR op_le (pe_op op_add (pe_ix ix_list (pv 1) (pv 4) (fun _ _ => rfl)) (pv 6)) (pv 2) (nomark _)))))
            (pss_one (ps_aug (i := 4) sc_choices.nd rfl (Or.inl rfl) pe_int ip_add)))
        (pss_one (ps_expr (pe_bm PySem.F.plainAttrs_list PySem.F.slot_list_append PySem.F.type_list_append mt_append (pv 3) (pa_cons (pe_op op_sub (pv 4) (pv 5)) pa_nil))))))
    (pss_one (ps_ret (pv 3)))))), ?_⟩
  have lml : (ls.map V.int).length = ls.length := List.length_map ..
  refine ⟨le_size (by decide), fun c hc => ?_⟩
  refine ⟨_, rfl, h, _, rfl, (same_new hc).seq hh, for_enum (K := K) (xs := hs.map V.int) (fun i σ H' => Same H H' ∧ H' c = some (.lst (((chs L ls hs 0).take i).map V.int)) ∧ ∃ (n : Nat) (v5 v6 : Option V), σ = [some (.ref h), some (.ref l), some (.int L), some (.ref c), some (.int n), v5, v6] ∧ n ≤ ls.length ∧
    ∀ j, j < n → ∀ t, i ≤ t → t < hs.length → ls.getD j 0 + hs.getD t 0 ≤ L) ⟨same_new hc, by rw [upd_same, List.take_zero]; rfl, 0, _, _, rfl, Nat.zero_le _, fun j hj => absurd hj (Nat.not_lt_zero _)⟩ (fun i σ H' g => g.1.seq hh) ?_ ?_⟩
  · rintro i x T' σ H' hx ⟨sm, hcl, n, v5, v6, rfl, hn, hfit⟩ hT'
    obtain ⟨hil, rfl, hnx⟩ := map_at hx
    have sT := same_new (o := .tup [.int (i : Nat), .int (hs.getD i 0)]) hT'
    have sm2 := sm.trans sT
    refine ⟨T', _, rfl, SqT.of upd_same, rfl, _, _, rfl, _, _, rfl, rfl, ?_⟩
    have hcl2 := sT _ _ hcl
    have hl2 := sm2.seq hl
    generalize upd H' T' (.tup [.int (i : Nat), .int (hs.getD i 0)]) = H2 at sm2 hcl2 hl2 ⊢
    -- while
    refine ⟨fun m σ' H'' => H'' = H2 ∧ ∃ n' : Nat, m = ls.length - n' ∧ σ' = [some (.ref h), some (.ref l), some (.int L), some (.ref c), some (.int n'), some (.int (i : Nat)), some (.int (hs.getD i 0))] ∧ n' ≤ ls.length ∧ ∀ j, j < n' → ls.getD j 0 + hs.getD i 0 ≤ L,
      ⟨_, rfl, n, rfl, rfl, hn, fun j hj => hfit j hj i (Nat.le_refl _) hil⟩, ?_⟩
    rintro m σ' H'' ⟨rfl, n', rfl, rfl, hn', hfit'⟩
    have idx : n' < ls.length → atI (ls.map V.int) (n' : Int) = some (V.int (ls.getD n' 0)) := fun k => by rw [at_int (by omega) (by omega), wAt_nat]
    refine ⟨_, rfl, _, rfl, l, _, rfl, .inl hl2, _, _, rfl, rfl, _, rfl, ite2 (fun c1 => ⟨_, rfl, _, rfl, l, _, _, _, rfl, rfl, hl2, idx (by have := of_decide_eq_true c1; rw [lml] at this; omega), _, rfl, _, _, rfl, rfl, _, rfl, _, _, rfl, rfl, _, rfl, ite2 (fun c2 => ?B) (fun c2 => ?E1)⟩) (fun c1 => iteF ?E2)⟩
    case B =>
      have h1 : n' < ls.length := by
        have := of_decide_eq_true c1
        rw [lml] at this
        omega
      have h2 : ls.getD n' 0 + hs.getD i 0 ≤ L := of_decide_eq_true c2
      refine ⟨fun σ'' H3 => H3 = H'' ∧ ∃ n2 : Nat, ls.length - n2 < ls.length - n' ∧ σ'' = [some (.ref h), some (.ref l), some (.int L), some (.ref c), some (.int n2), some (.int (i : Nat)), some (.int (hs.getD i 0))] ∧ n2 ≤ ls.length ∧ ∀ j, j < n2 → ls.getD j 0 + hs.getD i 0 ≤ L,
        fun σ'' H3 ⟨e, n2, g1, g2, g3, g4⟩ => ⟨_, g1, e, n2, rfl, g2, g3, g4⟩, ?_⟩
      refine ⟨_, rfl, _, _, rfl, rfl, rfl, n' + 1, by omega, rfl, h1, fun j hj => ?_⟩
      rcases Nat.lt_or_eq_of_le (Nat.le_of_lt_succ hj) with hj | rfl
      · exact hfit' j hj
      · exact h2
    all_goals
      have hfi : fit L ls (hs.getD i 0) = n' := fit_is ha hn' hfit' fun hlt => by
        first
        | exact fun z => c2 (decide_eq_true z)
        | exact absurd (decide_eq_true (by rw [lml]; omega)) c1
      refine ⟨_, rfl, .inl ⟨rfl, _, SqL.of hcl2⟩, _, rfl, _, rfl, _, _, rfl, rfl, ?_⟩
      refine ⟨c, _, _, rfl, rfl, hcl2, by rw [List.length_map, List.length_take, sizeLine_eq]; omega, ?_⟩
      have hch : (chs L ls hs 0)[i]? = some ((n' : Int) - (i : Int)) := by
        rw [chs, List.getElem?_map, List.getElem?_range hil]
        show some (fit L ls (hs.getD i 0) - (0 + (i : Int))) = _
        rw [hfi, Int.zero_add]
      refine ⟨same_mut sm2 hc, by rw [upd_same, take_next hch, List.map_append]; rfl, n', _, _, rfl, hn', fun j hj t ht htl => ?_⟩
      have g1 := hfit' j hj
      have g2 : hs.getD t 0 ≤ hs.getD i 0 := by
        rcases Nat.lt_or_eq_of_le (Nat.le_of_succ_le ht) with hlt | rfl
        · have := List.pairwise_iff_getElem.mp hd i t hil htl hlt
          rw [List.getD_eq_getElem?_getD, List.getD_eq_getElem?_getD, List.getElem?_eq_getElem hil, List.getElem?_eq_getElem htl]
          exact this
        · omega
      omega
  · rintro σ H' ⟨sm, hcl, n, v5, v6, rfl, _⟩
    rw [List.length_map, show (chs L ls hs 0).take hs.length = chs L ls hs 0 from List.take_of_length_le (by rw [chs_len]; exact Nat.le_refl _)] at hcl
    exact ⟨_, rfl, q _ c sm hc hcl⟩
abbrev N_product : List Str := ["factors", "middle"]
theorem sc_product : FnScope N_product ["factors"] (C8.fnScope s_product) := C8.fnScope_by (by decide +kernel)
theorem prod_step (F : C8.Def K mg "_product" s_product f fd) (b : Binds K fd ["factors"] []) (T : LTxt K mg CH CB) {k d : Nat} {sp : Sp}
    (hsp : ∀ vs H Q E, (1 ≤ d ∧ spProduct K (d - 1) vs H Q E) → sp vs H Q E) (c_product : C8.Cal P w K mg base (k + 1) "_product" sp []) : C8.Cal P w K mg base (k + 2) "_product" (spProduct K d) [] := by
  refine C8.cal0 F b .nil sc_product (fun vs H Q E h => by obtain ⟨a, fs, rfl, _⟩ := h; rfl) (fun cdv A outer s H vs Q E hr h => ?_)
  obtain ⟨a, fs, rfl, hs, hd, hz, hx, q⟩ := h
  refine ⟨_, (pss_cons (ps_if (pt_not (pt_truth (pv 0) (by intro _; rfl)))
        (pss_one (ps_ret pe_int))
        pss_nil)
    (pss_cons (ps_if (pt_cmpR op_eq (pe_callB call_len_seq (by rfl) T.len PySem.boot_len (pa_cons (pv 0) pa_nil)) pe_int (nomark _))
        (pss_one (ps_ret (pe_ix ix_list (pv 0) pe_int (fun _ _ => rfl))))
        pss_nil)
    (pss_cons (ps_set (i := 1) sc_product.nd rfl (Or.inl rfl) (pe_op op_fdiv (pe_callB call_len_seq (by rfl) T.len PySem.boot_len (pa_cons (pv 0) pa_nil)) pe_int))
    (pss_one (ps_ret (pe_op op_mulW (C8.pe_c c_product hr (Nat.le_refl _) (by rfl) (pa_cons (pe_slice sl_list (pv 0) po_none (po_some (pv 1))) pa_nil)) (C8.pe_c c_product hr (Nat.le_refl _) (by rfl) (pa_cons (pe_slice sl_list (pv 0) (po_some (pv 1)) po_none) pa_nil)))))))), ?_⟩
  have lm : (fs.map V.int).length = fs.length := List.length_map ..
  match fs, hs, hd, hz, hx, q, lm with
  | [], hs, hd, hz, hx, q, lm =>
    exact ⟨_, rfl, _, .inl ⟨_, hs, rfl⟩, iteT (q H (Same.refl H))⟩
  | [x], hs, hd, hz, hx, q, lm =>
    refine ⟨_, rfl, _, .inl ⟨_, hs, rfl⟩, iteF ?_⟩
    refine ⟨_, rfl, a, _, rfl, .inl hs, rfl, _, rfl, ite2 (fun _ => ?_) (fun z => absurd (decide_eq_true rfl) z)⟩
    refine ⟨_, rfl, a, _, 0, _, rfl, rfl, hs, rfl, ?_⟩
    have := q H (Same.refl H)
    rw [prodI_one] at this
    exact this
  | x :: y :: r, hs, hd, hz, hx, q, lm =>
    generalize hfs : x :: y :: r = fs at hs hd hz hx q lm ⊢
    have h2 : 2 ≤ fs.length := by rw [← hfs]; simp
    refine ⟨_, rfl, true, .inl ⟨_, hs, by rw [← hfs]; rfl⟩, iteF ?_⟩
    refine ⟨_, rfl, a, _, rfl, .inl hs, rfl, _, rfl, ite2 (fun z => ?_) (fun _ => ?_)⟩
    · exfalso
      have := of_decide_eq_true z
      injection this with z
      omega
    refine ⟨_, rfl, a, _, rfl, .inl hs, _, _, rfl, rfl, ⟨by decide, by decide⟩, ?_⟩
    have em : (((fs.map V.int).length : Nat) : Int) / 2 = ((fs.length / 2 : Nat) : Int) := by rw [lm]; omega
    have hd1 : 1 ≤ d := by
      rcases Nat.eq_zero_or_pos d with rfl | h
      · simp at hd
        omega
      · exact h
    have hpow : 2 ^ d = 2 * 2 ^ (d - 1) := by
      obtain ⟨e, rfl⟩ : ∃ e, d = e + 1 := ⟨d - 1, by omega⟩
      rw [Nat.add_sub_cancel, Nat.pow_succ, Nat.mul_comm]
    have c1 : cutV (fs.map V.int) none (some ((((fs.map V.int).length : Nat) : Int) / 2)) = (fs.take (fs.length / 2)).map V.int := by rw [em, cut_hi', ← List.map_take]
    have c2 : cutV (fs.map V.int) (some ((((fs.map V.int).length : Nat) : Int) / 2)) none = (fs.drop (fs.length / 2)).map V.int := by rw [em, cut_lo, ← List.map_drop]
    have l1 : (fs.take (fs.length / 2)).length = fs.length / 2 := by rw [List.length_take]; omega
    have l2 : (fs.drop (fs.length / 2)).length = fs.length - fs.length / 2 := List.length_drop ..
    refine ⟨_, rfl, _, rfl, _, rfl, a, _, rfl, hs, fun p1 hp1 => ?_⟩
    have s1 := same_new (o := .lst (cutV (fs.map V.int) none (some ((((fs.map V.int).length : Nat) : Int) / 2)))) hp1
    refine hsp _ _ _ _ ⟨hd1, p1, fs.take (fs.length / 2), rfl, SqL.of (by rw [upd_same, ← c1]), by omega, by omega, fun z hz => hx z (List.mem_of_mem_take hz), fun H2 sm2 => ?_⟩
    refine ⟨_, rfl, _, rfl, _, rfl, a, _, rfl, (s1.trans sm2).seq hs, fun p2 hp2 => ?_⟩
    have s2 := same_new (o := .lst (cutV (fs.map V.int) (some ((((fs.map V.int).length : Nat) : Int) / 2)) none)) hp2
    refine hsp _ _ _ _ ⟨hd1, p2, fs.drop (fs.length / 2), rfl, SqL.of (by rw [upd_same, ← c2]), by omega, by omega, fun z hz => hx z (List.mem_of_mem_drop hz), fun H3 sm3 => ?_⟩
    refine ⟨_, _, rfl, rfl, ?_, ?_⟩
    · exact wide_mul (prodI_size fun z hz => hx z (List.mem_of_mem_take hz)) (prodI_size fun z hz => hx z (List.mem_of_mem_drop hz)) (by omega) (by omega) (by omega)
    · have := q H3 ((s1.trans sm2).trans (s2.trans sm3))
      rw [← List.take_append_drop (fs.length / 2) fs, prodI_app] at this
      exact this
theorem prod_none (F : C8.Def K mg "_product" s_product f fd) (b : Binds K fd ["factors"] []) : C8.Cal P w K mg base 1 "_product" (fun _ _ _ _ => False) [] :=
  C8.cal0 F b .nil sc_product (fun vs H Q E h => h.elim) (fun cdv A outer s H vs Q E hr h => h.elim)
theorem ok_product (F : C8.Def K mg "_product" s_product f fd) (b : Binds K fd ["factors"] []) (T : LTxt K mg CH CB) : ∀ d, C8.Cal P w K mg base (d + 2) "_product" (spProduct K d) []
  | 0 => prod_step F b T (k := 0) (d := 0) (fun vs H Q E h => absurd h.1 (by decide)) (prod_none F b)
  | d + 1 => prod_step F b T (k := d + 1) (d := d + 1) (sp := spProduct K d) (fun vs H Q E h => h.2) (ok_product F b T d)
abbrev N_ways : List Str := ["weights", "limit", "light", "heavy", "left", "weight"]
theorem sc_ways : FnScope N_ways ["weights", "limit"] (C8.fnScope s_ways) := C8.fnScope_by (by decide +kernel)
theorem ok_ways (F : C8.Def K mg "ways" s_ways f fd) (b : Binds K fd ["weights", "limit"] []) (T : LTxt K mg CH CB) (ccheck_people : C8.Cal P w K mg base 2 "check_people" (spPeople K) []) (ccheck_limit : C8.Cal P w K mg base 2 "check_limit" spLimit [])
    (c_choices : C8.Cal P w K mg base 1 "_choices" (spChoices K) []) (c_product : C8.Cal P w K mg base 12 "_product" (spProduct K 10) []) : C8.Cal P w K mg base 13 "ways" (spWays K) [] := by
  refine C8.cal0 F b .nil sc_ways (fun vs H Q E h => by obtain ⟨a, ws, L, rfl, _⟩ := h; rfl) (fun cdv A outer s H vs Q E hr h => ?_)
  obtain ⟨a, ws, L, rfl, hs, hz, hp, hL, q⟩ := h
  refine ⟨_, (pss_cons (ps_expr (C8.pe_c ccheck_people hr (by decide) (by rfl) (pa_cons (pv 0) pa_nil)))
    (pss_cons (ps_expr (C8.pe_c ccheck_limit hr (by decide) (by rfl) (pa_cons (pv 1) pa_nil)))
    (pss_cons (ps_set (i := 2) sc_ways.nd rfl (Or.inl rfl) (pe_callB cr_sortedI (by rfl) T.sorted (by decide +kernel) (pa_cons (pe_lc (own := [("weight", 5)]) rfl sc_ways.nd (pi_list (pv 0))
        (blkOk_by (own := [("weight", 5)]) (N := N_ways) (sc := C8.fnScope s_ways) (by decide +kernel))
        (fun _ _ _ _ _ => (pg_name (i := 5) sc_ways.nd rfl (Or.inl rfl))) (fun _ _ _ _ _ => (pts_one (pt_cmpR op_le (pe_op op_mul pe_int (pv 5)) (pv 1) (nomark _))))
        (fun _ _ _ _ _ => (pv 5))) pa_nil)))
    (pss_cons (ps_set (i := 3) sc_ways.nd rfl (Or.inl rfl) (pe_callBK (cr_sortedRev (b := true)) (by rfl) T.sorted (by decide +kernel) (pa_cons (pe_lc (own := [("weight", 5)]) rfl sc_ways.nd (pi_list (pv 0))
        (blkOk_by (own := [("weight", 5)]) (N := N_ways) (sc := C8.fnScope s_ways) (by decide +kernel))
        (fun _ _ _ _ _ => (pg_name (i := 5) sc_ways.nd rfl (Or.inl rfl))) (fun _ _ _ _ _ => (pts_one (pt_cmpR op_gt (pe_op op_mul pe_int (pv 5)) (pv 1) (nomark _))))
        (fun _ _ _ _ _ => (pv 5))) pa_nil) (pk_cons pe_bl pk_nil)))
    (pss_cons (ps_set (i := 4) sc_ways.nd rfl (Or.inl rfl) (pe_op op_sub (pe_callB call_len_seq (by rfl) T.len PySem.boot_len (pa_cons (pv 2) pa_nil)) (pe_callB call_len_seq (by rfl) T.len PySem.boot_len (pa_cons (pv 3) pa_nil))))
    (pss_cons (ps_if (PW.pt (pw_or (pt_cmpR op_lt (pv 4) pe_int (nomark _))
          (pw_or1 (pt_cmpR op_eq (pe_op op_mod (pv 4) pe_int) pe_int (nomark _)))))
        (pss_one (ps_ret pe_int))
        pss_nil)
    (pss_one (ps_ret (C8.pe_c c_product hr (by decide) (by rfl) (pa_cons (pe_op op_cat (C8.pe_c c_choices hr (by decide) (by rfl) (pa_cons (pv 3) (pa_cons (pv 2) (pa_cons (pv 1) pa_nil)))) (pe_listRg3 rfl (by rfl) T.list (by rfl) T.range (pa_cons pe_int (pa_cons (pv 4) (pa_cons pe_int pa_nil))))) pa_nil)))))))))), ?_⟩
  refine ⟨_, rfl, a, ws, rfl, hs, hp, ?_⟩
  refine ⟨_, rfl, L, rfl, hL, ?_⟩
  refine ⟨_, rfl, a, rfl, ⟨_, hs⟩, fun D hD => lc_ints (K := K) (fun n => n) (lightP L) hD hs (by omega) (fun i n H' hx sm Q' q' => ?_) (fun i n H' hx sm _ Q' q' => ⟨_, rfl, q'⟩) ?_⟩
  · exact ⟨_, rfl, _, _, rfl, rfl, .inl ⟨by decide, by decide⟩, _, rfl, _, _, rfl, rfl, _, rfl, q'⟩
  rw [List.map_id']
  have s1 := same_new (o := .lst ((ws.filter (lightP L)).map V.int)) hD
  refine ⟨D, ws.filter (lightP L), rfl, SqL.of upd_same, fun ls p1 hlp hlo hp1 => ?_⟩
  have s2 := s1.trans (same_new (o := .lst (ls.map V.int)) hp1)
  have hls : upd (upd H D (.lst ((ws.filter (lightP L)).map V.int))) p1 (.lst (ls.map V.int)) p1 = some (.lst (ls.map V.int)) := upd_same
  generalize upd (upd H D (.lst ((ws.filter (lightP L)).map V.int))) p1 (.lst (ls.map V.int)) = H2 at s2 hls ⊢
  refine ⟨_, rfl, a, rfl, ⟨_, s2.seq hs⟩, fun D2 hD2 => lc_ints (K := K) (fun n => n) (heavyP L) hD2 (s2.seq hs) (by omega) (fun i n H' hx sm Q' q' => ?_) (fun i n H' hx sm _ Q' q' => ⟨_, rfl, q'⟩) ?_⟩
  · exact ⟨_, rfl, _, _, rfl, rfl, .inl ⟨by decide, by decide⟩, _, rfl, _, _, rfl, rfl, _, rfl, q'⟩
  rw [List.map_id']
  have s3 := same_new (o := .lst ((ws.filter (heavyP L)).map V.int)) hD2
  refine ⟨D2, ws.filter (heavyP L), rfl, rfl, SqL.of upd_same, fun hs' p2 hhp hho hp2 => ?_⟩
  have hdesc : hs'.Pairwise (· ≥ ·) := by
    have := hho
    unfold OrdB at this
    rw [if_pos rfl] at this
    exact this
  have s4 := s3.trans (same_new (o := .lst (hs'.map V.int)) hp2)
  have hhs : upd (upd H2 D2 (.lst ((ws.filter (heavyP L)).map V.int))) p2 (.lst (hs'.map V.int)) p2 = some (.lst (hs'.map V.int)) := upd_same
  have s24 := s2.trans s4
  have hls4 := s4 _ _ hls
  generalize upd (upd H2 D2 (.lst ((ws.filter (heavyP L)).map V.int))) p2 (.lst (hs'.map V.int)) = H4 at s24 hhs hls4 ⊢
  have ll : ls.length ≤ ws.length := by rw [hlp.length_eq]; exact List.length_filter_le _ _
  have hl' : hs'.length ≤ ws.length := by rw [hhp.length_eq]; exact List.length_filter_le _ _
  have hT := T_split hlp hhp hdesc
  refine ⟨_, rfl, p1, _, rfl, .inl (SqL.of hls4), _, rfl, p2, _, rfl, .inl (SqL.of hhs), _, _, rfl, rfl, ?_⟩
  rw [List.length_map, List.length_map]
  have zero : ((ls.length : Int) - hs'.length < 0 ∨ ((ls.length : Int) - hs'.length) % 2 = 1) → Q (.int 0) H4 := fun hc => by
    have := q H4 s24
    rw [hT, Ez_none hc, Int.mul_zero] at this
    exact this
  refine ⟨_, rfl, _, _, rfl, rfl, _, rfl, ite2 (fun c1 => iteT (zero (.inl (of_decide_eq_true c1)))) (fun c1 => ⟨_, rfl, _, _, rfl, rfl, (by show (0 : Int) < 2; decide), rfl, _, rfl, ite2 (fun c2 => zero (.inr ?O)) (fun c2 => ?R)⟩)⟩
  case O =>
    have := of_decide_eq_true c2
    injection this
  have n1 : ¬ (ls.length : Int) - hs'.length < 0 := fun z => c1 (decide_eq_true z)
  have n2 : ¬ ((ls.length : Int) - hs'.length) % 2 = 1 := fun z => c2 (decide_eq_true (show V.int (((ls.length : Int) - hs'.length) % 2) = V.int 1 by rw [z]))
  have hE := Ez_even n1 n2
  refine ⟨_, rfl, _, rfl, _, rfl, p2, p1, hs', ls, L, rfl, SqL.of hhs, SqL.of hls4, by omega, by omega, hdesc, hlo, fun H5 pc sm5 hpc hcl => ?_⟩
  refine ⟨_, rfl, 1, (ls.length : Int) - hs'.length, 2, (((ls.length : Int) - hs'.length) / 2).toNat, rfl, rgc_odds (by omega) (by omega), by omega, fun q1 hq1 => ?_⟩
  have nq : pc ≠ q1 := ne_of_none hcl hq1
  have eo : ((List.range (((ls.length : Int) - hs'.length) / 2).toNat).map fun k : Nat => V.int (1 + (k : Int) * 2)) = (odds (((ls.length : Int) - hs'.length) / 2).toNat).map V.int := by
    rw [odds, List.map_map]
    rfl
  rw [eo]
  have ol : (odds (((ls.length : Int) - hs'.length) / 2).toNat).length = (((ls.length : Int) - hs'.length) / 2).toNat := by simp [odds]
  have s5 := same_new (o := .lst ((odds (((ls.length : Int) - hs'.length) / 2).toNat).map V.int)) hq1
  refine ⟨pc, q1, _, _, rfl, rfl, by rw [upd_ne nq]; exact hcl, upd_same, by rw [List.length_map, List.length_map, chs_len, ol]; exact le_size (by omega), fun p3 hp3 => ?_⟩
  rw [← List.map_append]
  have s6 := same_new (o := .lst ((chs L ls hs' 0 ++ odds (((ls.length : Int) - hs'.length) / 2).toNat).map V.int)) hp3
  refine ⟨p3, chs L ls hs' 0 ++ odds (((ls.length : Int) - hs'.length) / 2).toNat, rfl, SqL.of upd_same, by rw [List.length_append, chs_len, ol]; omega, by rw [List.length_append, chs_len, ol]; omega, fun x hx => ?_, fun H6 sm6 => ?_⟩
  · rcases List.mem_append.mp hx with hx | hx
    · obtain ⟨t, ht, rfl⟩ := List.mem_map.mp hx
      have h1 := fit_le L ls (hs'.getD t 0)
      have h2 := List.mem_range.mp ht
      omega
    · obtain ⟨t, ht, rfl⟩ := List.mem_map.mp hx
      have h2 := List.mem_range.mp ht
      omega
  · have := q H6 (s24.trans (sm5.trans (s5.trans (s6.trans sm6))))
    rw [hT, hE, ← prodI_app] at this
    exact this
end
/-! ### k06: the errors -/
/-- an error class of the text, at C under the name x -/
structure Err (K : PySem.W.Frag) (mg : Str → Option Value) (x : Str) (C : Addr) : Prop where
  ex : PySem.W.excIn K C [.type "ValueError", .type "Exception", .type "BaseException", .type "object"] "ValueError.__new__" = true
  g : mg x = some (.ref C)
  k : PySem.W.keepIn K (.ref C) = true
  b : PySem.W.subIn K (.ref C) (.type "BaseException") = some true
  t : PySem.W.typeIn K (.ref C) = some (.type "type")
def spAny (K : PySem.W.Frag) : Sp := fun vs H Q _ => ∃ (v : V) (t : Value) (b1 b2 : Bool), vs = [v] ∧ TyX K H v t ∧ PySem.W.kitOne K t (.type "int") = some b1 ∧ PySem.W.kitOne K t (.type "bool") = some b2 ∧ Q (.bl (b1 && !b2)) H
/-- no whole number -/
def Odd (K : PySem.W.Frag) (H : Hp) (v : V) : Prop := ∃ (t : Value) (b1 b2 : Bool), TyX K H v t ∧ PySem.W.kitOne K t (.type "int") = some b1 ∧ PySem.W.kitOne K t (.type "bool") = some b2 ∧ (b1 && !b2) = false
def spBadLimit (K : PySem.W.Frag) (CL : Addr) : Sp := fun vs H _ E => ∃ v : V, vs = [v] ∧ (Odd K H v ∨ ∃ i : Int, v = .int i ∧ i < 0) ∧ E (.ref CL) none H
section
variable {P : Program} {w : World} {K : PySem.W.Frag} {mg : Str → Option Value} {base : Heap} {CH CB CP CL CO f : Addr} {fd : FuncData}
theorem ok_whole_any (F : C8.Def K mg "is_whole" s_is_whole f fd) (b : Binds K fd ["thing"] []) (T : Txt K mg CH CB) : C8.Cal P w K mg base 1 "is_whole" (spAny K) [] := by
  refine C8.cal0 F b .nil sc_is_whole (fun vs H Q E h => by obtain ⟨v, t, b1, b2, rfl, _⟩ := h; rfl) (fun cdv A outer s H vs Q E hr h => ?_)
  obtain ⟨v, t, b1, b2, rfl, ty, h1, h2, q⟩ := h
  refine ⟨_, (pss_one (ps_ret (pe_and (pe_callB call_isi (by rfl) T.isinstance (by decide +kernel) (pa_cons (pv 0) (pa_cons (pe_bltn (by rfl) T.int (by decide +kernel) (show RelV (.ty "int") (.type "int") from rfl)) pa_nil)))
          (pe_one (pe_not (pe_callB call_isi (by rfl) T.isinstance (by decide +kernel) (pa_cons (pv 0) (pa_cons (pe_bltn (by rfl) T.bool (by decide +kernel) (show RelV (.ty "bool") (.type "bool") from rfl)) pa_nil)))))))), ?_⟩
  refine ⟨_, rfl, _, _, _, _, _, rfl, .ty _, ty, h1, b1, rfl, ?_⟩
  cases b1 with
  | true => exact iteT ⟨_, rfl, _, _, _, _, _, rfl, .ty _, ty, h2, _, rfl, q⟩
  | false => exact iteF q
theorem bad_limit (F : C8.Def K mg "check_limit" s_check_limit f fd) (b : Binds K fd ["limit"] []) (T : Txt K mg CH CB) (L : Err K mg "BadLimit" CL) (cany : C8.Cal P w K mg base 1 "is_whole" (spAny K) []) : CalX P w K mg base 2 "check_limit" (spBadLimit K CL) := by
  refine calX0 F b sc_check_limit (fun vs H Q E h => by obtain ⟨v, rfl, _⟩ := h; rfl) (fun cdv A outer s H vs Q E hr h => ?_)
  obtain ⟨v, rfl, hv, q⟩ := h
  refine ⟨_, (pss_one (ps_if (PW.pt (pw_or (pt_not (pt_val (C8.pe_c cany hr (by decide) (by rfl) (pa_cons (pv 0) pa_nil)))) (pw_or1 (pt_cmpR op_lt (pv 0) pe_int (nomark _)))))
    (pss_one (ps_raise rfl (takes_of rfl rfl rfl rfl) (pmk_own PySem.F.excBase_ValueError L.ex L.g L.k (raises_own L.b L.t) rfl))) pss_nil)), ?_⟩
  rcases hv with ⟨t, b1, b2, ty, h1, h2, hb⟩ | ⟨i, rfl, hi⟩
  · refine ⟨_, rfl, v, t, b1, b2, rfl, ty, h1, h2, _, rfl, ?_⟩
    rw [hb]
    exact iteT (iteT q)
  · refine ⟨_, rfl, _, _, true, false, rfl, .base (.int i), kit_ty (by decide +kernel), kit_ty (by decide +kernel), _, rfl, iteF ?_⟩
    refine ⟨_, rfl, _, _, rfl, rfl, _, rfl, ite2 (fun _ => q) (fun z => absurd (decide_eq_true hi) z)⟩
def BadL (K : PySem.W.Frag) (H : Hp) (v : V) : Prop := Odd K H v ∨ ∃ i : Int, v = .int i ∧ i < 0
def BadP (K : PySem.W.Frag) (H : Hp) (v : V) : Prop := (∃ t : Value, TyX K H v t ∧ PySem.W.kitOne K t (.type "list") = some false) ∨
  ∃ (a : Addr) (xs : List V) (k : Nat) (u : V), v = .ref a ∧ SqL K H a xs ∧ xs[k]? = some u ∧ (∀ j, j < k → ∃ n : Int, xs[j]? = some (.int n) ∧ 1 ≤ n) ∧ (Odd K H u ∨ ∃ i : Int, u = .int i ∧ i < 1)
def BadB (K : PySem.W.Frag) (H : Hp) (v : V) (n : Int) : Prop := Odd K H v ∨ ∃ B : Int, v = .int B ∧ 2 * B < n
def GoodP (K : PySem.W.Frag) (H : Hp) (v : V) (ws : List Int) : Prop := ∃ a : Addr, v = .ref a ∧ SqL K H a (ws.map V.int) ∧ ∀ w ∈ ws, 1 ≤ w
def spBadBoats (K : PySem.W.Frag) (CO : Addr) : Sp := fun vs H _ E => ∃ (v : V) (n : Int), vs = [v, .int n] ∧ BadB K H v n ∧ E (.ref CO) none H
def spBadPeople (K : PySem.W.Frag) (CP : Addr) : Sp := fun vs H _ E => ∃ v : V, vs = [v] ∧ BadP K H v ∧ E (.ref CP) none H
/-- told, ways -/
def spBadTwo (K : PySem.W.Frag) (CP CL : Addr) : Sp := fun vs H _ E => ∃ v u : V, vs = [v, u] ∧ ((BadP K H v ∧ E (.ref CP) none H) ∨ ∃ ws, GoodP K H v ws ∧ BadL K H u ∧ E (.ref CL) none H)
def spBadLeast (K : PySem.W.Frag) (CP CO : Addr) : Sp := fun vs H _ E => ∃ v u : V, vs = [v, u] ∧ ((BadP K H v ∧ E (.ref CP) none H) ∨ ∃ ws, GoodP K H v ws ∧ BadB K H u (ws.length : Nat) ∧ E (.ref CO) none H)
theorem bad_boats (F : C8.Def K mg "check_boats" s_check_boats f fd) (b : Binds K fd ["boats", "people"] []) (T : Txt K mg CH CB) (L : Err K mg "BadBoats" CO) (cany : C8.Cal P w K mg base 1 "is_whole" (spAny K) []) : CalX P w K mg base 2 "check_boats" (spBadBoats K CO) := by
  refine calX0 F b sc_check_boats (fun vs H Q E h => by obtain ⟨v, n, rfl, _⟩ := h; rfl) (fun cdv A outer s H vs Q E hr h => ?_)
  obtain ⟨v, n, rfl, hv, q⟩ := h
  refine ⟨_, (pss_one (ps_if (PW.pt (pw_or (pt_not (pt_val (C8.pe_c cany hr (by decide) (by rfl) (pa_cons (pv 0) pa_nil)))) (pw_or1 (pt_cmpR op_lt (pe_op op_mul pe_int (pv 0)) (pv 1) (nomark _)))))
    (pss_one (ps_raise rfl (takes_of rfl rfl rfl rfl) (pmk_own PySem.F.excBase_ValueError L.ex L.g L.k (raises_own L.b L.t) rfl))) pss_nil)), ?_⟩
  rcases hv with ⟨t, b1, b2, ty, h1, h2, hb⟩ | ⟨i, rfl, hi⟩
  · refine ⟨_, rfl, v, t, b1, b2, rfl, ty, h1, h2, _, rfl, ?_⟩
    rw [hb]
    exact iteT (iteT q)
  · refine ⟨_, rfl, _, _, true, false, rfl, .base (.int i), kit_ty (by decide +kernel), kit_ty (by decide +kernel), _, rfl, iteF ?_⟩
    exact ⟨_, rfl, _, _, rfl, rfl, .inl ⟨by decide, by decide⟩, _, rfl, _, _, rfl, rfl, _, rfl, ite2 (fun _ => q) (fun z => absurd (decide_eq_true hi) z)⟩
theorem bad_people (F : C8.Def K mg "check_people" s_check_people f fd) (b : Binds K fd ["weights"] []) (T : Txt K mg CH CB) (L : Err K mg "BadPeople" CP) (cany : C8.Cal P w K mg base 1 "is_whole" (spAny K) []) : CalX P w K mg base 2 "check_people" (spBadPeople K CP) := by
  refine calX0 F b sc_check_people (fun vs H Q E h => by obtain ⟨v, rfl, _⟩ := h; rfl) (fun cdv A outer s H vs Q E hr h => ?_)
  obtain ⟨v, rfl, hv, q⟩ := h
  refine ⟨_, (pss_cons (ps_if (pt_not (pt_val (pe_callB call_isi (by rfl) T.isinstance (by decide +kernel) (pa_cons (pv 0) (pa_cons (pe_bltn (by rfl) T.list (by decide +kernel) (show RelV (.ty "list") (.type "list") from rfl)) pa_nil)))))
      (pss_one (ps_raise rfl (takes_of rfl rfl rfl rfl) (pmk_own PySem.F.excBase_ValueError L.ex L.g L.k (raises_own L.b L.t) rfl))) pss_nil)
    (pss_one (ps_for (passes_of rfl) rfl (pi_list (pv 0)) (pg_name (i := 1) sc_check_people.nd rfl (Or.inl rfl))
      (pss_one (ps_if (PW.pt (pw_or (pt_not (pt_val (C8.pe_c cany hr (by decide) (by rfl) (pa_cons (pv 1) pa_nil)))) (pw_or1 (pt_cmpR op_lt (pv 1) pe_int (nomark _)))))
        (pss_one (ps_raise rfl (takes_of rfl rfl rfl rfl) (pmk_own PySem.F.excBase_ValueError L.ex L.g L.k (raises_own L.b L.t) rfl))) pss_nil))))), ?_⟩
  rcases hv with ⟨t, ty, ht⟩ | ⟨a, xs, k, u, rfl, hs, hu, hj, hbad⟩
  · exact ⟨_, rfl, _, _, _, _, _, rfl, .ty _, ty, ht, _, rfl, iteT q⟩
  · refine ⟨_, rfl, _, _, _, _, _, rfl, .ty _, tyx_list hs, kit_ty (b := "list") (r := true) (by decide +kernel), _, rfl, iteF ?_⟩
    refine ⟨_, rfl, a, rfl, ⟨_, hs⟩, for_list (K := K) (a := a) (xs := xs) (fun i σ H' => H' = H ∧ i ≤ k ∧ ∃ v1, σ = [some (.ref a), v1]) ⟨rfl, Nat.zero_le _, _, rfl⟩ (fun i σ H' _ e => by rw [e.1]; exact hs) ?_ ?_⟩
    · rintro i y σ H' hi ⟨rfl, hik, v1, rfl⟩
      rcases Nat.lt_or_eq_of_le hik with hlt | rfl
      · obtain ⟨n, hn, h1⟩ := hj i hlt
        rw [hi] at hn
        cases hn
        refine ⟨_, rfl, _, _, true, false, rfl, .base (.int n), kit_ty (by decide +kernel), kit_ty (by decide +kernel), _, rfl, iteF ?_⟩
        exact ⟨_, rfl, _, _, rfl, rfl, _, rfl, ite2 (fun z => absurd (of_decide_eq_true z) (by omega)) (fun _ => ⟨rfl, hlt, _, rfl⟩)⟩
      · have e : y = u := by
          rw [hi] at hu
          exact Option.some.inj hu
        subst e
        rcases hbad with ⟨t, b1, b2, ty, h1, h2, hb⟩ | ⟨n, rfl, hn⟩
        · refine ⟨_, rfl, y, t, b1, b2, rfl, ty, h1, h2, _, rfl, ?_⟩
          rw [hb]
          exact iteT (iteT q)
        · refine ⟨_, rfl, _, _, true, false, rfl, .base (.int n), kit_ty (by decide +kernel), kit_ty (by decide +kernel), _, rfl, iteF ?_⟩
          exact ⟨_, rfl, _, _, rfl, rfl, _, rfl, ite2 (fun _ => q) (fun z => absurd (decide_eq_true hn) z)⟩
    · rintro σ H' ⟨rfl, hle, _⟩
      have := (List.getElem?_eq_some_iff.mp hu).1
      omega
theorem bad_told (F : C8.Def K mg "told" s_told f fd) (b : Binds K fd ["weights", "limit"] []) (T : Txt K mg CH CB) (cgood : C8.Cal P w K mg base 2 "check_people" (spPeople K) []) (cbp : CalX P w K mg base 2 "check_people" (spBadPeople K CP)) (cbl : CalX P w K mg base 2 "check_limit" (spBadLimit K CL)) : CalX P w K mg base 3 "told" (spBadTwo K CP CL) := by
  refine calX0 F b sc_told (fun vs H Q E h => by obtain ⟨v, u, rfl, _⟩ := h; rfl) (fun cdv A outer s H vs Q E hr h => ?_)
  obtain ⟨v, u, rfl, h⟩ := h
  rcases h with ⟨hb, q⟩ | ⟨ws, ⟨a, rfl, hs, hp⟩, hb, q⟩
  · exact ⟨_, (pss_cons (ps_expr (pe_cX cbp hr (by decide) (by rfl) (takes_of rfl rfl rfl rfl) (fun _ _ _ _ h => h) (pa_cons (pv 0) pa_nil))) pss_never), ⟨_, rfl, v, rfl, hb, q⟩⟩
  · exact ⟨_, (pss_cons (ps_expr (C8.pe_c cgood hr (by decide) (by rfl) (pa_cons (pv 0) pa_nil))) (pss_cons (ps_expr (pe_cX cbl hr (by decide) (by rfl) (takes_of rfl rfl rfl rfl) (fun _ _ _ _ h => h) (pa_cons (pv 1) pa_nil))) pss_never)), ⟨_, rfl, a, ws, rfl, hs, hp, ⟨_, rfl, u, rfl, hb, q⟩⟩⟩
theorem bad_ways (F : C8.Def K mg "ways" s_ways f fd) (b : Binds K fd ["weights", "limit"] []) (T : Txt K mg CH CB) (cgood : C8.Cal P w K mg base 2 "check_people" (spPeople K) []) (cbp : CalX P w K mg base 2 "check_people" (spBadPeople K CP)) (cbl : CalX P w K mg base 2 "check_limit" (spBadLimit K CL)) : CalX P w K mg base 3 "ways" (spBadTwo K CP CL) := by
  refine calX0 F b sc_ways (fun vs H Q E h => by obtain ⟨v, u, rfl, _⟩ := h; rfl) (fun cdv A outer s H vs Q E hr h => ?_)
  obtain ⟨v, u, rfl, h⟩ := h
  rcases h with ⟨hb, q⟩ | ⟨ws, ⟨a, rfl, hs, hp⟩, hb, q⟩
  · exact ⟨_, (pss_cons (ps_expr (pe_cX cbp hr (by decide) (by rfl) (takes_of rfl rfl rfl rfl) (fun _ _ _ _ h => h) (pa_cons (pv 0) pa_nil))) pss_never), ⟨_, rfl, v, rfl, hb, q⟩⟩
  · exact ⟨_, (pss_cons (ps_expr (C8.pe_c cgood hr (by decide) (by rfl) (pa_cons (pv 0) pa_nil))) (pss_cons (ps_expr (pe_cX cbl hr (by decide) (by rfl) (takes_of rfl rfl rfl rfl) (fun _ _ _ _ h => h) (pa_cons (pv 1) pa_nil))) pss_never)), ⟨_, rfl, a, ws, rfl, hs, hp, ⟨_, rfl, u, rfl, hb, q⟩⟩⟩
theorem bad_least (F : C8.Def K mg "least_limit" s_least_limit f fd) (b : Binds K fd ["weights", "boats"] []) (T : Txt K mg CH CB) (cgood : C8.Cal P w K mg base 2 "check_people" (spPeople K) []) (cbp : CalX P w K mg base 2 "check_people" (spBadPeople K CP)) (cbb : CalX P w K mg base 2 "check_boats" (spBadBoats K CO)) : CalX P w K mg base 3 "least_limit" (spBadLeast K CP CO) := by
  refine calX0 F b sc_least_limit (fun vs H Q E h => by obtain ⟨v, u, rfl, _⟩ := h; rfl) (fun cdv A outer s H vs Q E hr h => ?_)
  obtain ⟨v, u, rfl, h⟩ := h
  rcases h with ⟨hb, q⟩ | ⟨ws, ⟨a, rfl, hs, hp⟩, hb, q⟩
  · exact ⟨_, (pss_cons (ps_expr (pe_cX cbp hr (by decide) (by rfl) (takes_of rfl rfl rfl rfl) (fun _ _ _ _ h => h) (pa_cons (pv 0) pa_nil))) pss_never), ⟨_, rfl, v, rfl, hb, q⟩⟩
  · exact ⟨_, (pss_cons (ps_expr (C8.pe_c cgood hr (by decide) (by rfl) (pa_cons (pv 0) pa_nil))) (pss_cons (ps_expr (pe_cX cbb hr (by decide) (by rfl) (takes_of rfl rfl rfl rfl) (fun _ _ _ _ h => h) (pa_cons (pv 1) (pa_cons (pe_callB call_len_seq (by rfl) T.len PySem.boot_len (pa_cons (pv 0) pa_nil)) pa_nil)))) pss_never)), ⟨_, rfl, a, ws, rfl, hs, hp, ⟨_, rfl, _, rfl, a, _, rfl, .inl hs, u, _, rfl, (by rw [List.length_map]; exact hb), q⟩⟩⟩
def spAsk (K : PySem.W.Frag) (CP CL : Addr) : Sp := fun vs H _ E => ∃ (d : Int) (v u : V), vs = [.int d, v, u] ∧ ((BadP K H v ∧ E (.ref CP) none H) ∨ ∃ ws, GoodP K H v ws ∧ d ≠ 2 ∧ BadL K H u ∧ E (.ref CL) none H)
abbrev N_law_ask : List Str := ["_law_door", "_law_weights", "_law_other"]
theorem sc_law_ask : FnScope N_law_ask ["_law_door", "_law_weights", "_law_other"] (C8.fnScope s_law_ask) := C8.fnScope_by (by decide +kernel)
theorem ok_ask (F : C8.Def K mg "_law_ask" s_law_ask f fd) (b : Binds K fd ["_law_door", "_law_weights", "_law_other"] []) (T : Txt K mg CH CB) (xt : CalX P w K mg base 3 "told" (spBadTwo K CP CL)) (xw : CalX P w K mg base 3 "ways" (spBadTwo K CP CL)) (xl : CalX P w K mg base 3 "least_limit" (spBadLeast K CP CO)) :
    CalX P w K mg base 4 "_law_ask" (spAsk K CP CL) := by
  refine calX0 F b sc_law_ask (fun vs H Q E h => by obtain ⟨d, v, u, rfl, _⟩ := h; rfl) (fun cdv A outer s H vs Q E hr h => ?_)
  obtain ⟨d, v, u, rfl, h⟩ := h
  refine ⟨_, (pss_cons (ps_if (pt_cmpR op_eq (pv 0) pe_int (nomark _)) (pss_one (ps_ret (pe_cX xl hr (by decide) (by rfl) (takes_of rfl rfl rfl rfl) (fun _ _ _ _ h => h) (pa_cons (pv 1) (pa_cons (pv 2) pa_nil))))) pss_nil)
    (pss_one (ps_ret (pe_ifExp (pt_cmpR op_eq (pv 0) pe_int (nomark _)) (pe_cX xt hr (by decide) (by rfl) (takes_of rfl rfl rfl rfl) (fun _ _ _ _ h => h) (pa_cons (pv 1) (pa_cons (pv 2) pa_nil))) (pe_cX xw hr (by decide) (by rfl) (takes_of rfl rfl rfl rfl) (fun _ _ _ _ h => h) (pa_cons (pv 1) (pa_cons (pv 2) pa_nil))))))), ?_⟩
  refine ⟨_, rfl, rfl, _, rfl, ite2 (fun c => ?_) (fun c => ?_)⟩
  · rcases h with ⟨hb, q⟩ | ⟨ws, hg, hd, hb, q⟩
    · exact ⟨_, rfl, _, rfl, v, u, rfl, .inl ⟨hb, q⟩⟩
    · exfalso
      have := of_decide_eq_true c
      injection this with z
      exact hd z
  · have two : spBadTwo K CP CL [v, u] H Q E := by
      rcases h with ⟨hb, q⟩ | ⟨ws, hg, hd, hb, q⟩
      · exact ⟨v, u, rfl, .inl ⟨hb, q⟩⟩
      · exact ⟨v, u, rfl, .inr ⟨ws, hg, hb, q⟩⟩
    refine ⟨_, rfl, rfl, _, rfl, ite2 (fun _ => ⟨_, rfl, _, rfl, ?_⟩) (fun _ => ⟨_, rfl, _, rfl, ?_⟩)⟩ <;> exact two
end
/-! ### k06: what stands stays -/
theorem tyx_same {K : PySem.W.Frag} {H H' : Hp} (e : Same H H') {x : V} {t : Value} (h : TyX K H x t) : TyX K H' x t := by
  cases h with
  | base b =>
    cases b with
    | non => exact .base .non
    | bl x => exact .base (.bl x)
    | int i => exact .base (.int i)
    | str x => exact .base (.str x)
    | flt x => exact .base (.flt x)
    | lst h => exact .base (.lst (e _ _ h))
    | frz h => exact .base (.frz (e _ _ h))
    | tup h => exact .base (.tup (e _ _ h))
    | dK h => exact .base (.dK (e _ _ h))
    | dT h => exact .base (.dT (e _ _ h))
    | ins h cl ha hn htk hm => exact .base (.ins (e _ _ h) cl ha hn htk hm)
  | byt b => exact .byt b
  | set h => exact .set (e _ _ h)
  | kList h c => exact .kList h c
  | kTuple h c => exact .kTuple h c
  | kDict h c => exact .kDict h c
  | fTuple h => exact .fTuple (e _ _ h)
  | fDict h => exact .fDict (e _ _ h)
section
variable {K : PySem.W.Frag} {H H' : Hp} {v u : V}
theorem odd_same (e : Same H H') (h : Odd K H v) : Odd K H' v := by
  obtain ⟨t, b1, b2, ty, r⟩ := h
  exact ⟨t, b1, b2, tyx_same e ty, r⟩
theorem badL_same (e : Same H H') (h : BadL K H v) : BadL K H' v := h.imp (odd_same e) id
theorem badB_same {n : Int} (e : Same H H') (h : BadB K H v n) : BadB K H' v n := h.imp (odd_same e) id
theorem badP_same (e : Same H H') (h : BadP K H v) : BadP K H' v := by
  rcases h with ⟨t, ty, ht⟩ | ⟨a, xs, k, u, rfl, hs, hu, hj, hb⟩
  · exact .inl ⟨t, tyx_same e ty, ht⟩
  · exact .inr ⟨a, xs, k, u, rfl, e.seq hs, hu, hj, hb.imp (odd_same e) id⟩
/-- no list, or a list of one that is no weight -/
def BadE (K : PySem.W.Frag) (H : Hp) (v : V) : Prop := (∃ t : Value, TyX K H v t ∧ PySem.W.kitOne K t (.type "list") = some false) ∨ ∃ (a : Addr) (u : V), v = .ref a ∧ H a = some (.lst [u]) ∧ (Odd K H u ∨ ∃ i : Int, u = .int i ∧ i < 1)
theorem badE_same (e : Same H H') (h : BadE K H v) : BadE K H' v := by
  rcases h with ⟨t, ty, ht⟩ | ⟨a, u, rfl, ha, hu⟩
  · exact .inl ⟨t, tyx_same e ty, ht⟩
  · exact .inr ⟨a, u, rfl, e _ _ ha, hu.imp (odd_same e) id⟩
theorem badE_one {l : Addr} (hl : H l = some (.lst [u])) (h : Odd K H u ∨ ∃ i : Int, u = .int i ∧ i < 1) : BadE K H (.ref l) := .inr ⟨l, u, rfl, hl, h⟩
theorem badE_ty {s : String} (ty : TyX K H v (.type s)) (h : kitB s "list" = some false) : BadE K H v := .inl ⟨_, ty, kit_ty h⟩
theorem odd_ty {s : String} {b1 b2 : Bool} (ty : TyX K H v (.type s)) (h1 : kitB s "int" = some b1) (h2 : kitB s "bool" = some b2) (h : (b1 && !b2) = false) : Odd K H v := ⟨_, b1, b2, ty, kit_ty h1, kit_ty h2, h⟩
theorem odd_non : Odd K H .non := odd_ty (b1 := false) (b2 := false) (.base .non) (by decide +kernel) (by decide +kernel) rfl
theorem odd_str {x : Str} : Odd K H (.str x) := odd_ty (b1 := false) (b2 := false) (.base (.str x)) (by decide +kernel) (by decide +kernel) rfl
theorem odd_bl {b : Bool} : Odd K H (.bl b) := odd_ty (b1 := true) (b2 := true) (.base (.bl b)) (by decide +kernel) (by decide +kernel) rfl
theorem odd_lst {a : Addr} {xs : List V} (h : H a = some (.lst xs)) : Odd K H (.ref a) := odd_ty (b1 := false) (b2 := false) (.base (.lst h)) (by decide +kernel) (by decide +kernel) rfl
theorem odd_tup {a : Addr} {xs : List V} (h : H a = some (.tup xs)) : Odd K H (.ref a) := odd_ty (b1 := false) (b2 := false) (.base (.tup h)) (by decide +kernel) (by decide +kernel) rfl
theorem odd_dict {a : Addr} {kvs : List (Key × V)} (h : H a = some (.dK kvs)) : Odd K H (.ref a) := odd_ty (b1 := false) (b2 := false) (.base (.dK h)) (by decide +kernel) (by decide +kernel) rfl
/-- light ones ahead and behind -/
theorem badP_of {xs ys : List V} {a : Addr} (hs : SqL K H a (xs ++ [u] ++ ys)) (hx : ∀ x ∈ xs, ∃ n : Int, x = .int n ∧ 1 ≤ n) (h : Odd K H u ∨ ∃ i : Int, u = .int i ∧ i < 1) : BadP K H (.ref a) := by
  refine .inr ⟨a, _, xs.length, u, rfl, hs, ?_, fun j hj => ?_, h⟩
  · rw [List.append_assoc, List.getElem?_append_right (Nat.le_refl _), Nat.sub_self]
    rfl
  · obtain ⟨n, hn, h1⟩ := hx xs[j] (List.getElem_mem hj)
    exact ⟨n, by rw [List.append_assoc, List.getElem?_append_left hj, List.getElem?_eq_getElem hj, hn], h1⟩
end
/-! ### values typed out, by what each is -/
def Stays (S : Hp → V → Prop) : Prop := ∀ H H' v, Same H H' → S H v → S H' v
def tSat (p : L2.St → Prop) (S : Hp → V → Prop) : TE := fun σ H Q => p σ ∧ ∀ H' v, Same H H' → S H' v → Q v H'
def tSats (p : L2.St → Prop) (S : Hp → V → Prop) (n : Nat) : TA := fun σ H R => p σ ∧ ∀ H' vs, Same H H' → vs.length = n → (∀ v ∈ vs, S H' v) → R vs H'
def tSatL (p : L2.St → Prop) (S : Hp → V → Prop) (n : Nat) : TE := fun σ H Q => p σ ∧ ∀ H' a vs, Same H H' → H' a = some (.lst vs) → vs.length = n → (∀ v ∈ vs, S H' v) → Q (.ref a) H'
section
variable {X : Cx} {p : L2.St → Prop} {S : Hp → V → Prop}
theorem sat_of {e : Expr} {t : TE} (h : PE X e t) (k : ∀ σ H Q, p σ → (∀ H' v, Same H H' → S H' v → Q v H') → t σ H Q) : PE X e (tSat p S) := pe_weak h fun σ H Q q => k σ H Q q.1 q.2
theorem sa_nil : PA X [] (tSats p S 0) := pa_weak pa_nil fun σ H R q => q.2 H [] (Same.refl H) rfl fun v hv => nomatch hv
theorem sa_cons {e : Expr} {es : List Expr} {n : Nat} (kS : Stays S) (h : PE X e (tSat p S)) (k : PA X es (tSats p S n)) (hs : starEach (e :: es) X.env = (false, eval e X.env) :: starEach es X.env := by rfl) : PA X (e :: es) (tSats p S (n + 1)) :=
  pa_weak (pa_cons h k hs) fun σ H R q => ⟨q.1, fun H1 v s1 l1 => ⟨q.1, fun H2 vs s2 hl l2 => q.2 _ _ (s1.trans s2) (congrArg Nat.succ hl) fun u hu => by
    rcases List.mem_cons.mp hu with rfl | hu
    · exact kS _ _ _ s2 l1
    · exact l2 u hu⟩⟩
theorem sat_lst {es : List Expr} {n : Nat} {pos : Pos} (kS : Stays S) (h : PA X es (tSats p S n)) (hz : n ≤ 1000) : PE X (.List es pos) (tSatL p S n) :=
  pe_weak (pe_lst h) fun σ H Q q => ⟨q.1, fun H' vs s hl a => ⟨by rw [hl, sizeLine_eq]; omega, fun l hl' => q.2 _ l vs (s.trans (same_new hl')) upd_same hl fun v hv => kS _ _ _ (same_new hl') (a v hv)⟩⟩
end
theorem at_sat {vs : List V} {i : Int} (h0 : 0 ≤ i) (h1 : i < (vs.length : Int)) : ∃ v, v ∈ vs ∧ atI vs i = some v := by
  obtain ⟨k, rfl⟩ : ∃ k : Nat, i = (k : Int) := ⟨i.toNat, by omega⟩
  have hk : k < vs.length := by omega
  exact ⟨vs[k], List.getElem_mem hk, atI_nat (List.getElem?_eq_getElem hk)⟩
/-! ### the suite: of which classes the error is -/
def rIsA (K : PySem.W.Frag) (a : Addr) (cls : Value) (d : Option Addr) : List V → Hp → VK → Prop := fun xs H Q => ∃ D : Addr, cls = .ref D ∧ d = none ∧ ExcC K D ∧ rIsE K D a xs H Q
theorem call_isA {X : Cx} {a : Addr} {cls : Value} {d : Option Addr} {oe : Obj} {pn : List (Addr × Obj)} (hz : Zc cls d oe) (hf : ∃ vs, oe.data = .fields vs) : CallR (X.suite a ((a, oe) :: pn)) (.builtin "isinstance") (rIsA X.K a cls d) := by
  intro pins s σ H xs us Q I r h
  obtain ⟨D, rfl, rfl, C, h⟩ := h
  exact call_isE C hz hf pins s σ H xs us Q I r h
def tIsA (K : PySem.W.Frag) (a : Addr) (cls : Value) (d : Option Addr) (c : V) : TE := tCB (rIsA K a cls d) (tCons (tVar 4) (tCons (tC c) tNil))
def tSuite (K : PySem.W.Frag) (CP CL CO : Addr) : Addr → Value → Option Addr → TS := fun a cls d =>
  tSeq (tAsg (tLst (tCons (tIsA K a cls d (.ref CP)) (tCons (tIsA K a cls d (.ref CL)) (tCons (tIsA K a cls d (.ref CO)) tNil)))) (gName 5)) (tRet (tOp rCat (tVar 5) (tLst (tCons (tIsA K a cls d (.ty "ValueError")) tNil))))
/-- an error's class: what it is -/
structure KitD (K : PySem.W.Frag) (CE CP CL CO D : Addr) (b1 b2 b3 : Bool) : Prop where
  x : ExcC K D
  e : PySem.W.exmOne K (.ref D) (.ref CE) = some true
  p : PySem.W.kitOne K (.ref D) (.ref CP) = some b1
  l : PySem.W.kitOne K (.ref D) (.ref CL) = some b2
  o : PySem.W.kitOne K (.ref D) (.ref CO) = some b3
  v : PySem.W.kitOne K (.ref D) (.type "ValueError") = some true
theorem wish_ok {K : PySem.W.Frag} {CE CP CL CO D : Addr} {b1 b2 b3 : Bool} (k : KitD K CE CP CL CO D b1 b2 b3) {s0 s1 s2 s3 s4 s5 s6 : Option V} {H : Hp} {Dn : Ends}
    (q : ∀ H' p, Same H H' → H' p = some (.lst [.bl b1, .bl b2, .bl b3, .bl true]) → Dn.rt (.ref p) H') : wAs K (.ref CE) 4 (tSuite K CP CL CO) (fun _ _ _ _ => False) Dn (.ref D) none [s0, s1, s2, s3, s4, s5, s6] H := by
  refine ⟨true, k.e, fun _ a ha => ?_, fun z => nomatch z⟩
  refine ⟨_, rfl, D, rfl, rfl, k.x, _, _, _, rfl, fun _ h => h, k.p, _, rfl, D, rfl, rfl, k.x, _, _, _, rfl, fun _ h => h, k.l, _, rfl, D, rfl, rfl, k.x, _, _, _, rfl, fun _ h => h, k.o, le_size (by show 3 ≤ 16777216; decide), fun l hl => ?_⟩
  refine ⟨_, rfl, _, rfl, D, rfl, rfl, k.x, _, _, _, rfl, fun _ h => h, k.v, le_size (by show 1 ≤ 16777216; decide), fun l2 hl2 => ?_⟩
  have y1 := same_new (o := .lst [V.bl b1, V.bl b2, V.bl b3]) hl
  have y2 := same_new (o := .lst [V.bl true]) hl2
  exact ⟨l, l2, _, _, rfl, rfl, y2 _ _ upd_same, upd_same, le_size (by show 4 ≤ 16777216; decide), fun p hp => q _ p (y1.trans (y2.trans (same_new hp))) upd_same⟩
/-! ### k06: the try -/
def PMore : L2.St → Prop := fun σ => ∃ m : Int, 0 ≤ m ∧ σ[2]? = some (some (.int m))
structure Errs (K : PySem.W.Frag) (mg : Str → Option Value) (CE CP CL CO : Addr) : Prop where
  P : Err K mg "BadPeople" CP
  L : Err K mg "BadLimit" CL
  O : Err K mg "BadBoats" CO
  gE : mg "BoatError" = some (.ref CE)
  VE : mg "ValueError" = none
  kP : KitD K CE CP CL CO CP true false false
  kL : KitD K CE CP CL CO CL false true false
  kO : KitD K CE CP CL CO CO false false true
def spLTold : Sp := fun vs H Q _ => ∃ k n m : Int, vs = [.int k, .int n, .int m] ∧ (k = 0 ∨ k = 1 ∨ k = 2) ∧ 0 ≤ m ∧ ∀ H' p, Same H H' → H' p = some (.lst [.bl (decide (k = 0)), .bl (decide (k = 1)), .bl (decide (k = 2)), .bl true]) → Q (.ref p) H'
section
variable {P : Program} {w : World} {K : PySem.W.Frag} {mg : Str → Option Value} {base : Heap} {CH CB CE CP CL CO f : Addr} {fd : FuncData}
abbrev N_law_told : List Str := ["_law_kind", "_law_which", "_law_more", "_law_bad", "error", "_law_found", "_law_person"]
theorem sc_law_told : FnScope N_law_told ["_law_kind", "_law_which", "_law_more"] (C8.fnScope s_law_told) := C8.fnScope_by (by decide +kernel)
theorem ok_ltold (F : C8.Def K mg "_law_told" s_law_told f fd) (b : Binds K fd ["_law_kind", "_law_which", "_law_more"] []) (T : Txt K mg CH CB) (R : Errs K mg CE CP CL CO) (xa : CalX P w K mg base 4 "_law_ask" (spAsk K CP CL)) (xl : CalX P w K mg base 3 "least_limit" (spBadLeast K CP CO)) :
    C8.Cal P w K mg base 5 "_law_told" spLTold [] := by
  refine C8.cal0 F b .nil sc_law_told (fun vs H Q E h => by obtain ⟨k, n, m, rfl, _⟩ := h; rfl) (fun cdv A outer s H vs Q E hr h => ?_)
  obtain ⟨k, n, m, rfl, hk, hm, q⟩ := h
  have sE : Stays (BadE K) := fun _ _ _ => badE_same
  have sL : Stays (BadL K) := fun _ _ _ => badL_same
  have sB : Stays (fun H v => BadB K H v 5) := fun _ _ _ => badB_same
  refine ⟨_, (pss_cons (ps_try_as (i := 4) (ts := tSuite K CP CL CO) (Wout := fun _ _ _ _ => False) rfl rfl sc_law_told.nd rfl rfl ⟨rfl, by decide, Or.inl R.gE⟩ L2.takes0
      (fun W pn xe tk _ => (pss_one (ps_if (pt_cmpR op_eq (pv 0) pe_int (nomark _))
        (pss_cons (ps_set (i := 3) sc_law_told.nd rfl (Or.inl rfl) (pe_ix (show IxR _ (rIxL K) from ix_list) (sat_lst (p := PMore) sE
            (sa_cons sE (sat_of pe_non fun σ H Q hp q => q H _ (Same.refl H) (badE_ty (.base .non) (by decide +kernel)))
            (sa_cons sE (sat_of pe_int fun σ H Q hp q => q H _ (Same.refl H) (badE_ty (.base (.int _)) (by decide +kernel)))
            (sa_cons sE (sat_of pe_str fun σ H Q hp q => q H _ (Same.refl H) (badE_ty (.base (.str _)) (by decide +kernel)))
            (sa_cons sE (sat_of (pe_tup (pa_cons pe_int (pa_cons pe_int pa_nil))) fun σ H Q hp q => ⟨le_size (by show 2 ≤ 16777216; decide), fun t ht => q _ _ (same_new ht) (badE_ty (.base (.tup upd_same)) (by decide +kernel))⟩)
            (sa_cons sE (sat_of pe_dnewK fun σ H Q hp q d hd => q _ _ (same_new hd) (badE_ty (.base (.dK upd_same)) (by decide +kernel)))
            (sa_cons sE (sat_of (pe_lst (pa_cons pe_int pa_nil)) fun σ H Q hp q => ⟨le_size (by show 1 ≤ 16777216; decide), fun l hl => q _ _ (same_new hl) (badE_one upd_same (.inr ⟨_, rfl, by decide⟩))⟩)
            (sa_cons sE (sat_of (pe_lst (pa_cons (pe_op op_sub (pe_un un_neg pe_int) (pv 2)) pa_nil)) fun σ H Q hp q => by
              obtain ⟨m, h0, hp⟩ := hp
              exact ⟨_, rfl, _, hp, _, _, rfl, rfl, le_size (by show 1 ≤ 16777216; decide), fun l hl => q _ _ (same_new hl) (badE_one upd_same (.inr ⟨_, rfl, by show (-1 : Int) - m < 1; omega⟩))⟩)
            (sa_cons sE (sat_of (pe_lst (pa_cons pe_bl pa_nil)) fun σ H Q hp q => ⟨le_size (by show 1 ≤ 16777216; decide), fun l hl => q _ _ (same_new hl) (badE_one upd_same (.inl odd_bl))⟩)
            (sa_cons sE (sat_of (pe_lst (pa_cons pe_str pa_nil)) fun σ H Q hp q => ⟨le_size (by show 1 ≤ 16777216; decide), fun l hl => q _ _ (same_new hl) (badE_one upd_same (.inl odd_str))⟩)
            (sa_cons sE (sat_of (pe_lst (pa_cons pe_non pa_nil)) fun σ H Q hp q => ⟨le_size (by show 1 ≤ 16777216; decide), fun l hl => q _ _ (same_new hl) (badE_one upd_same (.inl odd_non))⟩)
            (sa_cons sE (sat_of (pe_lst (pa_cons (pe_lst (pa_cons pe_int pa_nil)) pa_nil)) fun σ H Q hp q => ⟨le_size (by show 1 ≤ 16777216; decide), fun l hl => ⟨le_size (by show 1 ≤ 16777216; decide), fun l2 hl2 => q _ _ ((same_new hl).trans (same_new hl2)) (badE_one upd_same (.inl (odd_lst ((same_new hl2) _ _ upd_same))))⟩⟩)
            (sa_cons sE (sat_of (pe_lst (pa_cons (pe_tup (pa_cons pe_int pa_nil)) pa_nil)) fun σ H Q hp q => ⟨le_size (by show 1 ≤ 16777216; decide), fun l hl => ⟨le_size (by show 1 ≤ 16777216; decide), fun l2 hl2 => q _ _ ((same_new hl).trans (same_new hl2)) (badE_one upd_same (.inl (odd_tup ((same_new hl2) _ _ upd_same))))⟩⟩)
            sa_nil)))))))))))) (by decide)) (pe_op op_mod (pv 1) pe_int) (fun _ _ => rfl)))
        (pss_cons (ps_join (ps_if (pt_val (pe_callB (show CallR _ (.builtin "isinstance") (rIsi K) from call_isi) (by rfl) T.isinstance (by decide +kernel) (pa_cons (pv 3) (pa_cons (pe_bltn (by rfl) T.list (by decide +kernel) (show RelV (.ty "list") (.type "list") from rfl)) pa_nil))))
            (pss_one (ps_set (i := 3) sc_law_told.nd rfl (Or.inl rfl) (pe_op op_cat (pe_op op_cat (pe_lc (own := [("_law_person", 6)]) rfl sc_law_told.nd (pi_range1 (by rfl) T.range (pa_cons (pe_op op_mod (pv 2) pe_int) pa_nil))
              (blkOk_by (own := [("_law_person", 6)]) (N := N_law_told) (sc := C8.fnScope s_law_told) (by decide +kernel))
              (fun _ _ _ _ _ => (pg_name (i := 6) sc_law_told.nd rfl (Or.inl rfl))) (fun _ _ _ _ _ => pts_nil)
              (fun _ _ _ _ _ => (pe_op op_add pe_int (pv 2)))) (pv 3)) (pe_op op_rep (pe_lst (pa_cons pe_int pa_nil)) (pe_op op_mod (pv 2) pe_int)))))
            pss_nil))
        (pss_one (ps_expr (pe_cS xa hr (by decide) (by rfl) tk (pa_cons (pe_op op_mod (pe_op op_fdiv (pv 1) pe_int) pe_int) (pa_cons (pv 3) (pa_cons (pe_ix (show IxR _ (rIxL K) from ix_list) (pe_lst (pa_cons pe_non (pa_cons (pe_un un_neg pe_int) pa_nil))) (pe_op op_mod (pe_op op_fdiv (pv 1) pe_int) pe_int) (fun _ _ => rfl)) pa_nil))))))))
        (pss_one (ps_if (pt_cmpR op_eq (pv 0) pe_int (nomark _))
            (pss_cons (ps_set (i := 3) sc_law_told.nd rfl (Or.inl rfl) (pe_ix (show IxR _ (rIxL K) from ix_list) (sat_lst (p := PMore) sL
            (sa_cons sL (sat_of pe_non fun σ H Q hp q => q H _ (Same.refl H) (.inl odd_non))
            (sa_cons sL (sat_of pe_str fun σ H Q hp q => q H _ (Same.refl H) (.inl odd_str))
            (sa_cons sL (sat_of pe_bl fun σ H Q hp q => q H _ (Same.refl H) (.inl odd_bl))
            (sa_cons sL (sat_of (pe_lst (pa_cons pe_int pa_nil)) fun σ H Q hp q => ⟨le_size (by show 1 ≤ 16777216; decide), fun l hl => q _ _ (same_new hl) (.inl (odd_lst upd_same))⟩)
            (sa_cons sL (sat_of (pe_tup (pa_cons pe_int pa_nil)) fun σ H Q hp q => ⟨le_size (by show 1 ≤ 16777216; decide), fun l hl => q _ _ (same_new hl) (.inl (odd_tup upd_same))⟩)
            (sa_cons sL (sat_of (pe_op op_sub (pe_un un_neg pe_int) (pv 2)) fun σ H Q hp q => by
              obtain ⟨m, h0, hp⟩ := hp
              exact ⟨_, rfl, _, hp, _, _, rfl, rfl, q _ _ (Same.refl H) (.inr ⟨_, rfl, by show (-1 : Int) - m < 0; omega⟩)⟩)
            (sa_cons sL (sat_of pe_dnewK fun σ H Q hp q d hd => q _ _ (same_new hd) (.inl (odd_dict upd_same)))
            (sa_cons sL (sat_of pe_str fun σ H Q hp q => q H _ (Same.refl H) (.inl odd_str))
            sa_nil)))))))) (by decide)) (pe_op op_mod (pv 1) pe_int) (fun _ _ => rfl)))
            (pss_one (ps_expr (pe_cS xa hr (by decide) (by rfl) tk (pa_cons (pe_op op_mod (pe_op op_fdiv (pv 1) pe_int) pe_int) (pa_cons (pe_lst (pa_cons pe_int (pa_cons pe_int (pa_cons pe_int pa_nil)))) (pa_cons (pv 3) pa_nil)))))))
            (pss_cons (ps_set (i := 3) sc_law_told.nd rfl (Or.inl rfl) (pe_ix (show IxR _ (rIxL K) from ix_list) (sat_lst (p := PMore) sB
            (sa_cons sB (sat_of pe_non fun σ H Q hp q => q H _ (Same.refl H) (.inl odd_non))
            (sa_cons sB (sat_of pe_str fun σ H Q hp q => q H _ (Same.refl H) (.inl odd_str))
            (sa_cons sB (sat_of pe_bl fun σ H Q hp q => q H _ (Same.refl H) (.inl odd_bl))
            (sa_cons sB (sat_of (pe_lst (pa_cons pe_int pa_nil)) fun σ H Q hp q => ⟨le_size (by show 1 ≤ 16777216; decide), fun l hl => q _ _ (same_new hl) (.inl (odd_lst upd_same))⟩)
            (sa_cons sB (sat_of (pe_op op_sub (pe_un un_neg pe_int) (pv 2)) fun σ H Q hp q => by
              obtain ⟨m, h0, hp⟩ := hp
              exact ⟨_, rfl, _, hp, _, _, rfl, rfl, q _ _ (Same.refl H) (.inr ⟨_, rfl, by show 2 * ((-1 : Int) - m) < 5; omega⟩)⟩)
            (sa_cons sB (sat_of pe_int fun σ H Q hp q => q H _ (Same.refl H) (.inr ⟨_, rfl, by decide⟩))
            (sa_cons sB (sat_of pe_int fun σ H Q hp q => q H _ (Same.refl H) (.inr ⟨_, rfl, by decide⟩))
            (sa_cons sB (sat_of (pe_op op_mod (pv 2) pe_int) fun σ H Q hp q => by
              obtain ⟨m, h0, hp⟩ := hp
              exact ⟨_, hp, _, _, rfl, rfl, (by show (0 : Int) < 3; decide), q _ _ (Same.refl H) (.inr ⟨_, rfl, by show 2 * (m % 3) < 5; omega⟩)⟩)
            (sa_cons sB (sat_of pe_dnewK fun σ H Q hp q d hd => q _ _ (same_new hd) (.inl (odd_dict upd_same)))
            sa_nil))))))))) (by decide)) (pe_op op_mod (pv 1) pe_int) (fun _ _ => rfl)))
            (pss_one (ps_expr (pe_cS xl hr (by decide) (by rfl) tk (pa_cons (pe_lst (pa_cons pe_int (pa_cons pe_int (pa_cons pe_int (pa_cons pe_int (pa_cons pe_int pa_nil)))))) (pa_cons (pv 3) pa_nil)))))))))))
      (fun a oe cls d pn hz hf => (pss_cons (ps_set (i := 5) sc_law_told.nd rfl (Or.inl rfl) (pe_lst (pa_cons (pe_callB (show CallR _ (.builtin "isinstance") (rIsA K a cls d) from call_isA hz hf) (by rfl) T.isinstance (by decide +kernel) (pa_cons (pv 4) (pa_cons (pe_glob (v := .ref CP) rfl R.P.g rfl) pa_nil)))
          (pa_cons (pe_callB (show CallR _ (.builtin "isinstance") (rIsA K a cls d) from call_isA hz hf) (by rfl) T.isinstance (by decide +kernel) (pa_cons (pv 4) (pa_cons (pe_glob (v := .ref CL) rfl R.L.g rfl) pa_nil)))
          (pa_cons (pe_callB (show CallR _ (.builtin "isinstance") (rIsA K a cls d) from call_isA hz hf) (by rfl) T.isinstance (by decide +kernel) (pa_cons (pv 4) (pa_cons (pe_glob (v := .ref CO) rfl R.O.g rfl) pa_nil))) pa_nil)))))
        (pss_one (ps_ret (pe_op op_cat (pv 5) (pe_lst (pa_cons (pe_callB (show CallR _ (.builtin "isinstance") (rIsA K a cls d) from call_isA hz hf) (by rfl) T.isinstance (by decide +kernel) (pa_cons (pv 4) (pa_cons (pe_bltn (by rfl) R.VE (by decide +kernel) (show RelV (.ty "ValueError") (.type "ValueError") from rfl)) pa_nil))) pa_nil))))))))
    (pss_one (ps_ret (pe_lst pa_nil)))), ?_⟩
  have size1 : 1 ≤ sizeLine := le_size (by show 1 ≤ 16777216; decide)
  refine ⟨_, rfl, rfl, _, rfl, ite2 (fun c => ?_) (fun c => ?_)⟩
  · -- no people
    have k0 : k = 0 := by
      have := of_decide_eq_true c
      injection this
    subst k0
    refine ⟨⟨m, hm, rfl⟩, fun H1 l vs s1 hl hn hv => ?_⟩
    obtain ⟨v, hvm, hat⟩ := at_sat (vs := vs) (i := n % 12) (by omega) (by omega)
    have hvE := hv v hvm
    refine ⟨_, rfl, _, _, rfl, rfl, (by show (0 : Int) < 12; decide), l, _, _, _, rfl, rfl, SqL.of hl, hat, ?_⟩
    refine ⟨fun σ' H2 => Same H H2 ∧ ∃ v, σ' = [some (.int 0), some (.int n), some (.int m), some v, none, none, none] ∧ BadP K H2 v, ?_, ?_⟩
    · rcases hvE with ⟨t, ty, ht⟩ | ⟨a, u, rfl, ha, hu⟩
      · exact ⟨_, rfl, _, _, _, _, _, rfl, .ty _, ty, ht, _, rfl, iteF ⟨s1, v, rfl, .inl ⟨t, ty, ht⟩⟩⟩
      · refine ⟨_, rfl, _, _, _, _, _, rfl, .ty _, tyx_list (SqL.of ha), kit_ty (b := "list") (r := true) (by decide +kernel), _, rfl, iteT ?_⟩
        refine ⟨_, rfl, _, _, rfl, rfl, (by show (0 : Int) < 6; decide), _, rfl, by omega, by omega, fun D hD => lc_pureR (lo := 0) (n := (m % 6).toNat) (j := 6) (fun _ => .int (1 + m)) hD (by rw [sizeLine_eq]; omega) (fun i H3 hi s3 Q3 q3 => ?_) (fun i H3 hi s3 Q3 q3 => ?_) ?_⟩
        · exact q3
        · exact ⟨_, rfl, _, _, rfl, rfl, q3⟩
        have m6 : (m % 6).toNat ≤ 5 := by omega
        have m3 : (m % 3).toNat ≤ 2 := by omega
        have y1 := same_new (o := .lst ((List.range (m % 6).toNat).map fun _ : Nat => V.int (1 + m))) hD
        have ha1 := y1 _ _ ha
        refine ⟨_, rfl, D, a, _, _, rfl, rfl, upd_same, ha1, le_size (by rw [List.length_map, List.length_range]; show _ + 1 ≤ _; omega), fun p hp => ?_⟩
        have y2 := same_new (o := .lst (((List.range (m % 6).toNat).map fun _ : Nat => V.int (1 + m)) ++ [u])) hp
        refine ⟨size1, fun l3 hl3 => ?_⟩
        have y3 := same_new (o := .lst [V.int 3]) hl3
        refine ⟨_, rfl, _, _, rfl, rfl, (by show (0 : Int) < 3; decide), l3, m % 3, _, rfl, rfl, upd_same, by omega, by omega, le_size (by show 1 * _ ≤ _; omega), fun r hr3 => ?_⟩
        have y4 := same_new (o := .lst (List.replicate (m % 3).toNat [V.int 3]).flatten) hr3
        refine ⟨p, r, _, _, rfl, rfl, (y3.trans y4) _ _ upd_same, upd_same, le_size ?_, fun p2 hp2 => ?_⟩
        · have e : (List.replicate (m % 3).toNat [V.int 3]).flatten.length ≤ 2 := by
            rw [List.length_flatten, List.map_replicate, List.sum_replicate_nat]
            show _ * 1 ≤ 2
            omega
          rw [List.length_append, List.length_map, List.length_range]
          show _ + 1 + _ ≤ _
          omega
        have Y := y1.trans (y2.trans (y3.trans (y4.trans (same_new (o := .lst (((List.range (m % 6).toNat).map fun _ : Nat => V.int (1 + m)) ++ [u] ++ (List.replicate (m % 3).toNat [V.int 3]).flatten)) hp2))))
        refine ⟨s1.trans Y, _, rfl, badP_of (SqL.of upd_same) (fun x hx => ?_) (hu.imp (odd_same Y) id)⟩
        obtain ⟨_, _, rfl⟩ := List.mem_map.mp hx
        exact ⟨1 + m, rfl, by omega⟩
    · rintro σ' H2 ⟨s2, v, rfl, hbad⟩
      refine ⟨_, rfl, _, _, rfl, rfl, ⟨by decide, by decide⟩, _, _, rfl, rfl, (by show (0 : Int) < 3; decide), _, rfl, _, rfl, le_size (by show 2 ≤ 16777216; decide), fun l hl => ?_⟩
      obtain ⟨u, _, hat⟩ := at_sat (vs := [V.non, V.int (-1)]) (i := n / 36 % 2) (by omega) (by show _ < (2 : Int); omega)
      refine ⟨_, rfl, _, _, rfl, rfl, ⟨by decide, by decide⟩, _, _, rfl, rfl, (by show (0 : Int) < 2; decide), l, _, _, _, rfl, rfl, SqL.of upd_same, hat, ?_⟩
      have y := same_new (o := .lst [V.non, V.int (-1)]) hl
      exact ⟨_, v, u, rfl, .inl ⟨badP_same y hbad, wish_ok R.kP fun H' p sm hp => q H' p (s2.trans (y.trans sm)) hp⟩⟩
  · refine ⟨_, rfl, rfl, _, rfl, ite2 (fun c1 => ?_) (fun c1 => ?_)⟩
    · -- no limit
      have k1 : k = 1 := by
        have := of_decide_eq_true c1
        injection this
      subst k1
      refine ⟨⟨m, hm, rfl⟩, fun H1 l vs s1 hl hn hv => ?_⟩
      obtain ⟨v, hvm, hat⟩ := at_sat (vs := vs) (i := n % 8) (by omega) (by omega)
      have hvE := hv v hvm
      refine ⟨_, rfl, _, _, rfl, rfl, (by show (0 : Int) < 8; decide), l, _, _, _, rfl, rfl, SqL.of hl, hat, ?_⟩
      refine ⟨_, rfl, _, _, rfl, rfl, ⟨by decide, by decide⟩, _, _, rfl, rfl, (by show (0 : Int) < 2; decide), le_size (by show 3 ≤ 16777216; decide), fun l2 hl2 => ?_⟩
      have y := same_new (o := .lst [V.int 1, V.int 2, V.int 4]) hl2
      exact ⟨_, rfl, _, _, _, rfl, .inr ⟨[1, 2, 4], ⟨l2, rfl, SqL.of upd_same, by decide⟩, (by show n / 8 % 2 ≠ 2; omega), badL_same y hvE, wish_ok R.kL fun H' p sm hp => q H' p (s1.trans (y.trans sm)) hp⟩⟩
    · -- no count of boats
      have k2 : k = 2 := by
        rcases hk with rfl | rfl | rfl
        · exact absurd (decide_eq_true rfl) c
        · exact absurd (decide_eq_true rfl) c1
        · rfl
      subst k2
      refine ⟨⟨m, hm, rfl⟩, fun H1 l vs s1 hl hn hv => ?_⟩
      obtain ⟨v, hvm, hat⟩ := at_sat (vs := vs) (i := n % 9) (by omega) (by omega)
      have hvE := hv v hvm
      refine ⟨_, rfl, _, _, rfl, rfl, (by show (0 : Int) < 9; decide), l, _, _, _, rfl, rfl, SqL.of hl, hat, ?_⟩
      refine ⟨le_size (by show 5 ≤ 16777216; decide), fun l2 hl2 => ?_⟩
      have y := same_new (o := .lst [V.int 1, V.int 2, V.int 4, V.int 4, V.int 5]) hl2
      exact ⟨_, rfl, _, _, rfl, .inr ⟨[1, 2, 4, 4, 5], ⟨l2, rfl, SqL.of upd_same, by decide⟩, badB_same y hvE, wish_ok R.kO fun H' p sm hp => q H' p (s1.trans (y.trans sm)) hp⟩⟩
end
/-! ### k06: the law -/
def spLaw (K : PySem.W.Frag) (PT : Addr) : Sp := fun vs H Q _ => ∃ (a : Addr) (ns : List Int), vs = [.ref a] ∧ SqL K H a (ns.map V.int) ∧ ns.length ≤ 63 ∧ H PT = some (.tbl #[]) ∧ ∀ H', Q (.bl true) H'
theorem shaped4 : ∀ a b c d : Bool, SeqAt.shaped (.list [.bool a, .bool b, .bool c, .bool d]) = true := by
  intro a b c d
  cases a <;> cases b <;> cases c <;> cases d <;> decide +kernel
theorem eqv4 : ∀ a b c d : Bool, PyData.eqv (.list [.bool a, .bool b, .bool c, .bool d]) (.list [.bool a, .bool b, .bool c, .bool d]) = true := by
  intro a b c d
  cases a <;> cases b <;> cases c <;> cases d <;> decide +kernel
theorem dec_int (k j : Int) : decide (V.int k = V.int j) = decide (k = j) := by
  by_cases h : k = j
  · rw [decide_eq_true h, decide_eq_true (congrArg V.int h)]
  · rw [decide_eq_false h, decide_eq_false fun z => h (V.int.inj z)]
theorem least_6 {v : Int} (l : Least [1, 2, 4, 4, 5] 3 v) : v = 6 := by
  have h : leastB [1, 2, 4, 4, 5] [1, 2, 4, 4, 5] 3 6 = true := by decide +kernel
  exact Int.le_antisymm ((leastB_ok h).anti l (by decide) (Int.le_refl _) (by decide)) (l.anti (leastB_ok h) (by decide) (Int.le_refl _) (by decide))
theorem alone_one {bs : List (List Int)} {L m : Int} (h : Shows [1] L bs m) : bs = [[0]] := by
  have hp : bs.flatten = [0] := List.perm_singleton.mp h.2.2.1.1
  have hb := h.2.2.1.2
  match bs, hp, hb with
  | [], hp, _ => cases hp
  | [c], hp, _ =>
    rw [List.flatten_cons, List.flatten_nil, List.append_nil] at hp
    rw [hp]
  | c :: d :: r, hp, hb =>
    exfalso
    have e := congrArg List.length hp
    rw [List.flatten_cons, List.flatten_cons, List.length_append, List.length_append] at e
    have pos : ∀ b : List Int, BoatOk [1] L b → 1 ≤ b.length := fun b hb => by
      rcases hb with ⟨_, rfl, _⟩ | ⟨_, _, rfl, _⟩
      · exact Nat.le_refl 1
      · exact Nat.le_succ 1
    have h1 := pos c (hb c (by simp))
    have h2 := pos d (hb d (by simp))
    rw [show ([0] : List Int).length = 1 from rfl] at e
    omega
section
variable {P : Program} {w : World} {K : PySem.W.Frag} {mg : Str → Option Value} {base : Heap} {CH CB f : Addr} {fd : FuncData}
abbrev N_law : List Str := ["_law_script", "_law_cell", "_law_kind", "_law_due"]
theorem sc_law : FnScope N_law ["_law_script"] (C8.fnScope s_law) := C8.fnScope_by (by decide +kernel)
theorem ok_law {PT : Addr} (F : C8.Fun K "law" "law" s_law f fd) (T' : LTxt K mg CH CB) (c_law_told : C8.Cal P w K mg base 5 "_law_told" spLTold []) (cleast_limit : C8.Cal P w K mg base 3 "least_limit" (spLeast K) []) (cways : C8.Cal P w K mg base 13 "ways" (spWays K) [])
    (ctold : C8.Cal P w K mg base 5 "told" (spTold K CH CB PT) []) : FnOk P w K mg base CX0 14 f fd ["_law_script"] (spLaw K PT) := by
  refine C8.fn0 F sc_law (fun vs H Q E h => by obtain ⟨a, ns, rfl, _⟩ := h; rfl) (fun cdv A outer s H vs Q E hr h => ?_)
  obtain ⟨a, ns, rfl, hs, hz, hT, q⟩ := h
  have T := T'
  refine ⟨_, (pss_cons (ps_for PassesOwn.never rfl (pi_list (pv 0)) (pg_name (i := 1) sc_law.nd rfl (Or.inl rfl))
        (pss_cons (ps_set (i := 2) sc_law.nd rfl (Or.inl rfl) (pe_op op_mod (pv 1) pe_int))
        (pss_cons (ps_set (i := 3) sc_law.nd rfl (Or.inl rfl) (pe_lst (pa_cons (pe_cmpR op_eq (pv 2) pe_int (nomark _)) (pa_cons (pe_cmpR op_eq (pv 2) pe_int (nomark _)) (pa_cons (pe_cmpR op_eq (pv 2) pe_int (nomark _)) (pa_cons pe_bl pa_nil))))))
        (pss_one (ps_if (pt_cmpR (op_neD hr.units) (C8.pe_c c_law_told hr (by decide) (by rfl) (pa_cons (pv 2) (pa_cons (pe_op op_mod (pe_op op_fdiv (pv 1) pe_int) pe_int) (pa_cons (pe_op op_mod (pe_op op_fdiv (pv 1) pe_int) pe_int) pa_nil)))) (pv 3) (nomark _))
            (pss_one (ps_ret pe_bl))
            pss_nil)))))
    (pss_one (ps_ret (pe_and (pe_cmpR op_eq (C8.pe_c cleast_limit hr (by decide) (by rfl) (pa_cons (pe_lst (pa_cons pe_int (pa_cons pe_int (pa_cons pe_int (pa_cons pe_int (pa_cons pe_int pa_nil)))))) (pa_cons pe_int pa_nil))) pe_int (nomark _))
          (pe_and (pe_cmpR op_eq (C8.pe_c cways hr (by decide) (by rfl) (pa_cons (pe_lst (pa_cons (pe_op op_pow pe_int pe_int) pa_nil)) (pa_cons (pe_op op_pow pe_int pe_int) pa_nil))) pe_int (nomark _))
          (pe_one (pe_cmpR (op_eqD hr.units) (pe_fld (C8.pe_c ctold hr (by decide) (by rfl) (pa_cons (pe_lst (pa_cons pe_int pa_nil)) (pa_cons pe_int pa_nil))) rfl) (pe_lst (pa_cons (pe_tup (pa_cons pe_int pa_nil)) pa_nil)) (nomark _)))))))), ?_⟩
  clear T
  have tab : Tabs (TabT PT) H := fun p hp => by
    rw [List.mem_singleton.mp hp]
    exact TabS.nil hT
  have size1 : 1 ≤ sizeLine := le_size (by show 1 ≤ 16777216; decide)
  refine ⟨_, rfl, a, rfl, ⟨_, hs⟩, for_list (K := K) (a := a) (xs := ns.map V.int) (fun i σ H' => Same H H' ∧ ∃ v1 v2 v3, σ = [some (.ref a), v1, v2, v3]) ⟨Same.refl H, _, _, _, rfl⟩ (fun i σ H' _ h => h.1.seq hs) ?_ ?_⟩
  · rintro i y σ H' hi ⟨sm, v1, v2, v3, rfl⟩
    obtain ⟨_, rfl, _⟩ := map_at hi
    generalize ns.getD i 0 = cell
    refine ⟨_, rfl, _, _, rfl, rfl, (by show (0 : Int) < 3; decide), ?_⟩
    have hk : cell % 3 = 0 ∨ cell % 3 = 1 ∨ cell % 3 = 2 := by omega
    refine ⟨_, rfl, rfl, _, rfl, rfl, _, rfl, rfl, le_size (by show 4 ≤ 16777216; decide), fun l hl => ?_⟩
    refine ⟨_, rfl, _, rfl, _, _, rfl, rfl, ⟨by decide, by decide⟩, _, _, rfl, rfl, (by show (0 : Int) < 100000; decide), _, rfl, _, _, rfl, rfl, ⟨by decide, by decide⟩, _, _, rfl, rfl, (by show (0 : Int) < 1000; decide), cell % 3, _, _, rfl, hk, (by show 0 ≤ cell / 300000 % 1000; omega), fun H2 p s2 hp => ?_⟩
    have hl2 := s2 _ _ upd_same
    refine ⟨_, rfl, _, _, .lst (SqL.of hp) (.cons (.bl _) (.cons (.bl _) (.cons (.bl _) (.cons (.bl _) .nil)))), .lst (SqL.of hl2) (.cons (.bl _) (.cons (.bl _) (.cons (.bl _) (.cons (.bl _) .nil)))), shaped4 _ _ _ _, shaped4 _ _ _ _, _, rfl, ?_⟩
    have e : ∀ j : Int, decide ((fun i j => V.int (i % j)) cell 3 = V.int j) = decide (cell % 3 = j) := dec_int (cell % 3)
    rw [e, e, e, eqv4]
    exact iteF ⟨sm.trans ((same_new hl).trans s2), _, _, _, rfl⟩
  rintro σ H' ⟨sm, v1, v2, v3, rfl⟩
  refine ⟨le_size (by show 5 ≤ 16777216; decide), fun l1 hl1 => ?_⟩
  have y1 := same_new (o := .lst [V.int 1, V.int 2, V.int 4, V.int 4, V.int 5]) hl1
  refine ⟨l1, [1, 2, 4, 4, 5], 3, rfl, SqL.of upd_same, upd_same, by decide, by decide, by decide, fun H2 u s2 hu => ?_⟩
  obtain rfl := least_6 hu
  refine ⟨rfl, _, rfl, iteT ?_⟩
  refine ⟨_, _, rfl, rfl, ⟨by decide, by decide, by decide⟩, size1, fun l2 hl2 => ?_⟩
  have y2 := same_new (o := .lst [V.int (10 ^ (60 : Int).toNat)]) hl2
  refine ⟨_, _, rfl, rfl, ⟨by decide, by decide, by decide⟩, l2, [10 ^ (60 : Int).toNat], 10 ^ (60 : Int).toNat, rfl, SqL.of upd_same, by decide, by decide +kernel, by decide +kernel, fun H3 s3 => ?_⟩
  refine ⟨rfl, _, rfl, iteT ?_⟩
  refine ⟨size1, fun l3 hl3 => ?_⟩
  have y3 := same_new (o := .lst [V.int 1]) hl3
  have g := (Grow.ofSame (sm.trans (y1.trans (s2.trans (y2.trans (s3.trans y3))))) tab)
  refine ⟨l3, [1], 1, rfl, SqL.of upd_same, by decide, by decide, by decide, g.tab, fun H4 x g4 hx hh => ?_⟩
  rcases hh with ⟨dx, pp, k1, k2, k3, k4⟩ | ⟨_, dx, b, m, xs, bs, hb0, k1, k2, k3, k4⟩
  · exfalso
    have := wAt_mem k2 k3
    rw [List.mem_singleton] at this
    omega
  obtain rfl := alone_one k4
  refine ⟨x, CB, dx, _, _, rfl, k1, T'.clB, T'.nB, bt_boats b m, size1, fun t ht => ⟨size1, fun l4 hl4 => ?_⟩⟩
  have z := (same_new (o := .tup [V.int 0]) ht).trans (same_new (o := .lst [V.ref t]) hl4)
  refine ⟨_, _, dp_rows (bs := [[0]]) (SqL.of (z _ _ k2)) (rows_same z k3), dp_rows (bs := [[0]]) (SqL.of upd_same) (.cons ⟨t, rfl, SqT.of ((same_new hl4) _ _ upd_same)⟩ .nil), shaped_rows _, shaped_rows _, ?_⟩
  rw [eqv_rows, decide_eq_true rfl]
  exact q _
end
end Bp

end

section
set_option Elab.async false
set_option linter.all false
set_option maxRecDepth 100000
set_option maxHeartbeats 4000000
namespace Bp
open PySem PySem.Spec PyProof.Rows L2 LamX
/-! ### what the top has written, and the row -/
section
set_option linter.unusedVariables false
theorem all_mk {l : PySem.W.OpenLaw} {w : World} {K : PySem.W.Frag} {h : Heap} {mg : Str → Option Value} {fa PT c : Addr} (hP : h.get? PT = some (PySem.W.tabObj #[])) (X : K.In h) (G : h.Ns mainGlobals mg) (hfa : mg "law" = some (.ref fa))
    (kP : K.lookup PT = none) (hCd : PySem.W.codeHdIn K c PT = true)
    {oc0 kV0 dc0 pm0 cd0 ct0 : Value} {od0 an0 : Option Addr} {sl0 : Array (Option Value)} {f0 : Addr}
    {oc1 kV1 dc1 pm1 cd1 ct1 : Value} {od1 an1 : Option Addr} {sl1 : Array (Option Value)} {f1 : Addr}
    {oc2 kV2 dc2 pm2 cd2 ct2 : Value} {od2 an2 : Option Addr} {sl2 : Array (Option Value)} {f2 : Addr}
    {oc3 kV3 dc3 pm3 cd3 ct3 : Value} {od3 an3 : Option Addr} {sl3 : Array (Option Value)} {f3 : Addr}
    {oc4 kV4 dc4 pm4  ct4 : Value} {od4 an4 : Option Addr} {sl4 : Array (Option Value)} {f4 : Addr}
    {oc5 kV5 dc5 pm5 cd5 ct5 : Value} {od5 an5 : Option Addr} {sl5 : Array (Option Value)} {f5 : Addr}
    {oc6 kV6 dc6 pm6 cd6 ct6 : Value} {od6 an6 : Option Addr} {sl6 : Array (Option Value)} {f6 : Addr}
    {oc7 kV7 dc7 pm7 cd7 ct7 : Value} {od7 an7 : Option Addr} {sl7 : Array (Option Value)} {f7 : Addr}
    {oc8 kV8 dc8 pm8 cd8 ct8 : Value} {od8 an8 : Option Addr} {sl8 : Array (Option Value)} {f8 : Addr}
    {oc9 kV9 dc9 pm9 cd9 ct9 : Value} {od9 an9 : Option Addr} {sl9 : Array (Option Value)} {f9 : Addr}
    {oc10 kV10 dc10 pm10 cd10 ct10 : Value} {od10 an10 : Option Addr} {sl10 : Array (Option Value)} {f10 : Addr}
    {oc11 kV11 dc11 pm11 cd11 ct11 : Value} {od11 an11 : Option Addr} {sl11 : Array (Option Value)} {f11 : Addr}
    {oc12 kV12 dc12 pm12 cd12 ct12 : Value} {od12 an12 : Option Addr} {sl12 : Array (Option Value)} {f12 : Addr}
    {CH : Addr}
    {ocHinit kVHinit dcHinit pmHinit cdHinit ctHinit : Value} {odHinit anHinit : Option Addr} {slHinit : Array (Option Value)} {fHinit : Addr}
    {CB : Addr}
    {ocBinit kVBinit dcBinit pmBinit cdBinit ctBinit : Value} {odBinit anBinit : Option Addr} {slBinit : Array (Option Value)} {fBinit : Addr}
    {CE : Addr}
    {CP : Addr}
    {CL : Addr}
    {CO : Addr}
    (a0 : PySem.W.nsIn K mainGlobals "is_whole" = some (some (.ref f0)))
    (l0 : K.lookup f0 = some ⟨oc0, od0, .func (PySem.W.fnOf "is_whole" "is_whole" (C8.fnArgs s_is_whole) (C8.fnBody s_is_whole) (C8.fnScope s_is_whole) .none kV0 dc0 pm0 an0 cd0 ct0), sl0⟩)
    (c0 : PySem.W.codeIn K cd0 "is_whole" = true)
    (k0 : PySem.W.keepIn K (.ref f0) = true)
    (a1 : PySem.W.nsIn K mainGlobals "check_people" = some (some (.ref f1)))
    (l1 : K.lookup f1 = some ⟨oc1, od1, .func (PySem.W.fnOf "check_people" "check_people" (C8.fnArgs s_check_people) (C8.fnBody s_check_people) (C8.fnScope s_check_people) .none kV1 dc1 pm1 an1 cd1 ct1), sl1⟩)
    (c1 : PySem.W.codeIn K cd1 "check_people" = true)
    (k1 : PySem.W.keepIn K (.ref f1) = true)
    (a2 : PySem.W.nsIn K mainGlobals "check_limit" = some (some (.ref f2)))
    (l2 : K.lookup f2 = some ⟨oc2, od2, .func (PySem.W.fnOf "check_limit" "check_limit" (C8.fnArgs s_check_limit) (C8.fnBody s_check_limit) (C8.fnScope s_check_limit) .none kV2 dc2 pm2 an2 cd2 ct2), sl2⟩)
    (c2 : PySem.W.codeIn K cd2 "check_limit" = true)
    (k2 : PySem.W.keepIn K (.ref f2) = true)
    (a3 : PySem.W.nsIn K mainGlobals "told" = some (some (.ref f3)))
    (l3 : K.lookup f3 = some ⟨oc3, od3, .func (PySem.W.fnOf "told" "told" (C8.fnArgs s_told) (C8.fnBody s_told) (C8.fnScope s_told) .none kV3 dc3 pm3 an3 cd3 ct3), sl3⟩)
    (c3 : PySem.W.codeIn K cd3 "told" = true)
    (k3 : PySem.W.keepIn K (.ref f3) = true)
    (a4 : PySem.W.nsIn K mainGlobals "_sent" = some (some (.ref f4)))
    (l4 : K.lookup f4 = some ⟨oc4, od4, .func (PySem.W.fnOf "_sent" "_sent" (C8.fnArgs s_sent) (C8.fnBody s_sent) (C8.fnScope s_sent) .none kV4 dc4 pm4 an4 (.ref c) ct4), sl4⟩)
    (c4 : PySem.W.codeIn K (.ref c) "_sent" = true)
    (k4 : PySem.W.keepIn K (.ref f4) = true)
    (a5 : PySem.W.nsIn K mainGlobals "least_limit" = some (some (.ref f5)))
    (l5 : K.lookup f5 = some ⟨oc5, od5, .func (PySem.W.fnOf "least_limit" "least_limit" (C8.fnArgs s_least_limit) (C8.fnBody s_least_limit) (C8.fnScope s_least_limit) .none kV5 dc5 pm5 an5 cd5 ct5), sl5⟩)
    (c5 : PySem.W.codeIn K cd5 "least_limit" = true)
    (k5 : PySem.W.keepIn K (.ref f5) = true)
    (a6 : PySem.W.nsIn K mainGlobals "check_boats" = some (some (.ref f6)))
    (l6 : K.lookup f6 = some ⟨oc6, od6, .func (PySem.W.fnOf "check_boats" "check_boats" (C8.fnArgs s_check_boats) (C8.fnBody s_check_boats) (C8.fnScope s_check_boats) .none kV6 dc6 pm6 an6 cd6 ct6), sl6⟩)
    (c6 : PySem.W.codeIn K cd6 "check_boats" = true)
    (k6 : PySem.W.keepIn K (.ref f6) = true)
    (a7 : PySem.W.nsIn K mainGlobals "ways" = some (some (.ref f7)))
    (l7 : K.lookup f7 = some ⟨oc7, od7, .func (PySem.W.fnOf "ways" "ways" (C8.fnArgs s_ways) (C8.fnBody s_ways) (C8.fnScope s_ways) .none kV7 dc7 pm7 an7 cd7 ct7), sl7⟩)
    (c7 : PySem.W.codeIn K cd7 "ways" = true)
    (k7 : PySem.W.keepIn K (.ref f7) = true)
    (a8 : PySem.W.nsIn K mainGlobals "_choices" = some (some (.ref f8)))
    (l8 : K.lookup f8 = some ⟨oc8, od8, .func (PySem.W.fnOf "_choices" "_choices" (C8.fnArgs s_choices) (C8.fnBody s_choices) (C8.fnScope s_choices) .none kV8 dc8 pm8 an8 cd8 ct8), sl8⟩)
    (c8 : PySem.W.codeIn K cd8 "_choices" = true)
    (k8 : PySem.W.keepIn K (.ref f8) = true)
    (a9 : PySem.W.nsIn K mainGlobals "_product" = some (some (.ref f9)))
    (l9 : K.lookup f9 = some ⟨oc9, od9, .func (PySem.W.fnOf "_product" "_product" (C8.fnArgs s_product) (C8.fnBody s_product) (C8.fnScope s_product) .none kV9 dc9 pm9 an9 cd9 ct9), sl9⟩)
    (c9 : PySem.W.codeIn K cd9 "_product" = true)
    (k9 : PySem.W.keepIn K (.ref f9) = true)
    (a10 : PySem.W.nsIn K mainGlobals "_law_ask" = some (some (.ref f10)))
    (l10 : K.lookup f10 = some ⟨oc10, od10, .func (PySem.W.fnOf "_law_ask" "_law_ask" (C8.fnArgs s_law_ask) (C8.fnBody s_law_ask) (C8.fnScope s_law_ask) .none kV10 dc10 pm10 an10 cd10 ct10), sl10⟩)
    (c10 : PySem.W.codeIn K cd10 "_law_ask" = true)
    (k10 : PySem.W.keepIn K (.ref f10) = true)
    (a11 : PySem.W.nsIn K mainGlobals "_law_told" = some (some (.ref f11)))
    (l11 : K.lookup f11 = some ⟨oc11, od11, .func (PySem.W.fnOf "_law_told" "_law_told" (C8.fnArgs s_law_told) (C8.fnBody s_law_told) (C8.fnScope s_law_told) .none kV11 dc11 pm11 an11 cd11 ct11), sl11⟩)
    (c11 : PySem.W.codeIn K cd11 "_law_told" = true)
    (k11 : PySem.W.keepIn K (.ref f11) = true)
    (a12 : PySem.W.nsIn K mainGlobals "law" = some (some (.ref f12)))
    (l12 : K.lookup f12 = some ⟨oc12, od12, .func (PySem.W.fnOf "law" "law" (C8.fnArgs s_law) (C8.fnBody s_law) (C8.fnScope s_law) .none kV12 dc12 pm12 an12 cd12 ct12), sl12⟩)
    (c12 : PySem.W.codeIn K cd12 "law" = true)
    (k12 : PySem.W.keepIn K (.ref f12) = true)
    (aCH : PySem.W.nsIn K mainGlobals "Heavy" = some (some (.ref CH)))
    (pgH : PySem.W.plainGet K CH Str.empty = true)
    (hdH : PySem.W.hasDictIn K CH = true)
    (poH : PySem.W.plainOver K CH = true)
    (saH : PySem.W.findIn K (.ref CH) "__setattr__" = some (some (.builtin "object.__setattr__")))
    (mkH : PySem.W.makesIn K CH = true)
    (kcH : PySem.W.keepIn K (.ref CH) = true)
    (atH : PySem.W.findIn K (.ref CH) "__class__" = some (some (.builtin "object.__class__")))
    (mrH : PySem.W.mroIn K CH (.type "object") = some true)
    (aHinit : PySem.W.findIn K (.ref CH) "__init__" = some (some (.ref fHinit)))
    (iHinit : PySem.W.isFn K (.ref fHinit) = true)
    (lHinit : K.lookup fHinit = some ⟨ocHinit, odHinit, .func (PySem.W.fnOf "__init__" "Heavy.__init__" (C8.fnArgs s_Heavy_init) (C8.fnBody s_Heavy_init) (C8.fnScope s_Heavy_init) .none kVHinit dcHinit pmHinit anHinit cdHinit ctHinit), slHinit⟩)
    (cHinit : PySem.W.codeIn K cdHinit "Heavy.__init__" = true)
    (kHinit : PySem.W.keepIn K (.ref fHinit) = true)
    (aCB : PySem.W.nsIn K mainGlobals "Boats" = some (some (.ref CB)))
    (pgB : PySem.W.plainGet K CB Str.empty = true)
    (hdB : PySem.W.hasDictIn K CB = true)
    (poB : PySem.W.plainOver K CB = true)
    (saB : PySem.W.findIn K (.ref CB) "__setattr__" = some (some (.builtin "object.__setattr__")))
    (mkB : PySem.W.makesIn K CB = true)
    (kcB : PySem.W.keepIn K (.ref CB) = true)
    (atB : PySem.W.findIn K (.ref CB) "__class__" = some (some (.builtin "object.__class__")))
    (mrB : PySem.W.mroIn K CB (.type "object") = some true)
    (aBinit : PySem.W.findIn K (.ref CB) "__init__" = some (some (.ref fBinit)))
    (iBinit : PySem.W.isFn K (.ref fBinit) = true)
    (lBinit : K.lookup fBinit = some ⟨ocBinit, odBinit, .func (PySem.W.fnOf "__init__" "Boats.__init__" (C8.fnArgs s_Boats_init) (C8.fnBody s_Boats_init) (C8.fnScope s_Boats_init) .none kVBinit dcBinit pmBinit anBinit cdBinit ctBinit), slBinit⟩)
    (cBinit : PySem.W.codeIn K cdBinit "Boats.__init__" = true)
    (kBinit : PySem.W.keepIn K (.ref fBinit) = true)
    (aCE : PySem.W.nsIn K mainGlobals "BoatError" = some (some (.ref CE)))
    (aCP : PySem.W.nsIn K mainGlobals "BadPeople" = some (some (.ref CP)))
    (aCL : PySem.W.nsIn K mainGlobals "BadLimit" = some (some (.ref CL)))
    (aCO : PySem.W.nsIn K mainGlobals "BadBoats" = some (some (.ref CO)))
    (nP : PySem.W.findIn K (.ref CH) "person" = some none)
    (nB : PySem.W.findIn K (.ref CB) "boats" = some none)
    (nM : PySem.W.findIn K (.ref CB) "mark" = some none)
    (hn : PySem.W.specialIn K (.builtin "object.__class__") "__get__" = some (some (.builtin "getset_descriptor.__get__")))
    (htk : PySem.W.takesIn K (.builtin "object.__class__") = some true)
    (iHB : PySem.W.kitOne K (.ref CH) (.ref CB) = some false)
    (iBB : PySem.W.kitOne K (.ref CB) (.ref CB) = some true)
    (exP : PySem.W.excIn K CP [.type "ValueError", .type "Exception", .type "BaseException", .type "object"] "ValueError.__new__" = true)
    (ekP : PySem.W.keepIn K (.ref CP) = true)
    (egP : PySem.W.findIn K (.ref CP) "__getattribute__" = some (some (.builtin "BaseException.__getattribute__")))
    (ehP : PySem.W.findIn K (.ref CP) "__getattr__" = some none)
    (eaP : PySem.W.findIn K (.ref CP) "__class__" = some (some (.builtin "object.__class__")))
    (emP : PySem.W.mroIn K CP (.type "object") = some true)
    (eeP : PySem.W.subIn K (.ref CP) (.ref CE) = some true)
    (ivP : PySem.W.kitOne K (.ref CP) (.type "ValueError") = some true)
    (ikPP : PySem.W.kitOne K (.ref CP) (.ref CP) = some true)
    (ikPL : PySem.W.kitOne K (.ref CP) (.ref CL) = some false)
    (ikPO : PySem.W.kitOne K (.ref CP) (.ref CO) = some false)
    (exL : PySem.W.excIn K CL [.type "ValueError", .type "Exception", .type "BaseException", .type "object"] "ValueError.__new__" = true)
    (ekL : PySem.W.keepIn K (.ref CL) = true)
    (egL : PySem.W.findIn K (.ref CL) "__getattribute__" = some (some (.builtin "BaseException.__getattribute__")))
    (ehL : PySem.W.findIn K (.ref CL) "__getattr__" = some none)
    (eaL : PySem.W.findIn K (.ref CL) "__class__" = some (some (.builtin "object.__class__")))
    (emL : PySem.W.mroIn K CL (.type "object") = some true)
    (eeL : PySem.W.subIn K (.ref CL) (.ref CE) = some true)
    (ivL : PySem.W.kitOne K (.ref CL) (.type "ValueError") = some true)
    (ikLP : PySem.W.kitOne K (.ref CL) (.ref CP) = some false)
    (ikLL : PySem.W.kitOne K (.ref CL) (.ref CL) = some true)
    (ikLO : PySem.W.kitOne K (.ref CL) (.ref CO) = some false)
    (exO : PySem.W.excIn K CO [.type "ValueError", .type "Exception", .type "BaseException", .type "object"] "ValueError.__new__" = true)
    (ekO : PySem.W.keepIn K (.ref CO) = true)
    (egO : PySem.W.findIn K (.ref CO) "__getattribute__" = some (some (.builtin "BaseException.__getattribute__")))
    (ehO : PySem.W.findIn K (.ref CO) "__getattr__" = some none)
    (eaO : PySem.W.findIn K (.ref CO) "__class__" = some (some (.builtin "object.__class__")))
    (emO : PySem.W.mroIn K CO (.type "object") = some true)
    (eeO : PySem.W.subIn K (.ref CO) (.ref CE) = some true)
    (ivO : PySem.W.kitOne K (.ref CO) (.type "ValueError") = some true)
    (ikOP : PySem.W.kitOne K (.ref CO) (.ref CP) = some false)
    (ikOL : PySem.W.kitOne K (.ref CO) (.ref CL) = some false)
    (ikOO : PySem.W.kitOne K (.ref CO) (.ref CO) = some true)
    (ebE : PySem.W.subIn K (.ref CE) (.type "BaseException") = some true)
    (etE : PySem.W.typeIn K (.ref CE) = some (.type "type"))
    (edE : PySem.W.hasDictIn K CE = true)
    (ebP : PySem.W.subIn K (.ref CP) (.type "BaseException") = some true)
    (etP : PySem.W.typeIn K (.ref CP) = some (.type "type"))
    (edP : PySem.W.hasDictIn K CP = true)
    (ebL : PySem.W.subIn K (.ref CL) (.type "BaseException") = some true)
    (etL : PySem.W.typeIn K (.ref CL) = some (.type "type"))
    (edL : PySem.W.hasDictIn K CL = true)
    (ebO : PySem.W.subIn K (.ref CO) (.type "BaseException") = some true)
    (etO : PySem.W.typeIn K (.ref CO) = some (.type "type"))
    (edO : PySem.W.hasDictIn K CO = true)
    (z_len : PySem.W.nsIn K mainGlobals "len" = some none)
    (z_sorted : PySem.W.nsIn K mainGlobals "sorted" = some none)
    (z_range : PySem.W.nsIn K mainGlobals "range" = some none)
    (z_min : PySem.W.nsIn K mainGlobals "min" = some none)
    (z_max : PySem.W.nsIn K mainGlobals "max" = some none)
    (z_list : PySem.W.nsIn K mainGlobals "list" = some none)
    (z_enumerate : PySem.W.nsIn K mainGlobals "enumerate" = some none)
    (z_all : PySem.W.nsIn K mainGlobals "all" = some none)
    (z_isinstance : PySem.W.nsIn K mainGlobals "isinstance" = some none)
    (z_int : PySem.W.nsIn K mainGlobals "int" = some none)
    (z_bool : PySem.W.nsIn K mainGlobals "bool" = some none)
    (z_sum : PySem.W.nsIn K mainGlobals "sum" = some none)
    (z_ValueError : PySem.W.nsIn K mainGlobals "ValueError" = some none)
    : LawAtS l w K CX0 14 63 "_law_script" mg fa h := by
  obtain rfl : f12 = fa := by
    have e := hfa.symm.trans (PySem.W.mg_of X G a12)
    cases e
    rfl
  have F0 : C8.Def K mg "is_whole" s_is_whole f0 _ := ⟨⟨_, _, _, _, _, _, _, _, _, _, rfl, l0, c0⟩, PySem.W.mg_of X G a0, k0⟩
  have b0 := F0.fn.binds rfl (ps := ["thing"]) fun _ _ _ _ _ _ us hl => match us, hl with | [_], _ => rfl
  have F1 : C8.Def K mg "check_people" s_check_people f1 _ := ⟨⟨_, _, _, _, _, _, _, _, _, _, rfl, l1, c1⟩, PySem.W.mg_of X G a1, k1⟩
  have b1 := F1.fn.binds rfl (ps := ["weights"]) fun _ _ _ _ _ _ us hl => match us, hl with | [_], _ => rfl
  have F2 : C8.Def K mg "check_limit" s_check_limit f2 _ := ⟨⟨_, _, _, _, _, _, _, _, _, _, rfl, l2, c2⟩, PySem.W.mg_of X G a2, k2⟩
  have b2 := F2.fn.binds rfl (ps := ["limit"]) fun _ _ _ _ _ _ us hl => match us, hl with | [_], _ => rfl
  have F3 : C8.Def K mg "told" s_told f3 _ := ⟨⟨_, _, _, _, _, _, _, _, _, _, rfl, l3, c3⟩, PySem.W.mg_of X G a3, k3⟩
  have b3 := F3.fn.binds rfl (ps := ["weights", "limit"]) fun _ _ _ _ _ _ us hl => match us, hl with | [_, _], _ => rfl
  have F4 : C8.Def K mg "_sent" s_sent f4 _ := ⟨⟨_, _, _, _, _, _, _, _, _, _, rfl, l4, c4⟩, PySem.W.mg_of X G a4, k4⟩
  have b4 := F4.fn.binds rfl (ps := ["weights", "limit"]) fun _ _ _ _ _ _ us hl => match us, hl with | [_, _], _ => rfl
  have F5 : C8.Def K mg "least_limit" s_least_limit f5 _ := ⟨⟨_, _, _, _, _, _, _, _, _, _, rfl, l5, c5⟩, PySem.W.mg_of X G a5, k5⟩
  have b5 := F5.fn.binds rfl (ps := ["weights", "boats"]) fun _ _ _ _ _ _ us hl => match us, hl with | [_, _], _ => rfl
  have F6 : C8.Def K mg "check_boats" s_check_boats f6 _ := ⟨⟨_, _, _, _, _, _, _, _, _, _, rfl, l6, c6⟩, PySem.W.mg_of X G a6, k6⟩
  have b6 := F6.fn.binds rfl (ps := ["boats", "people"]) fun _ _ _ _ _ _ us hl => match us, hl with | [_, _], _ => rfl
  have F7 : C8.Def K mg "ways" s_ways f7 _ := ⟨⟨_, _, _, _, _, _, _, _, _, _, rfl, l7, c7⟩, PySem.W.mg_of X G a7, k7⟩
  have b7 := F7.fn.binds rfl (ps := ["weights", "limit"]) fun _ _ _ _ _ _ us hl => match us, hl with | [_, _], _ => rfl
  have F8 : C8.Def K mg "_choices" s_choices f8 _ := ⟨⟨_, _, _, _, _, _, _, _, _, _, rfl, l8, c8⟩, PySem.W.mg_of X G a8, k8⟩
  have b8 := F8.fn.binds rfl (ps := ["heavy", "light", "limit"]) fun _ _ _ _ _ _ us hl => match us, hl with | [_, _, _], _ => rfl
  have F9 : C8.Def K mg "_product" s_product f9 _ := ⟨⟨_, _, _, _, _, _, _, _, _, _, rfl, l9, c9⟩, PySem.W.mg_of X G a9, k9⟩
  have b9 := F9.fn.binds rfl (ps := ["factors"]) fun _ _ _ _ _ _ us hl => match us, hl with | [_], _ => rfl
  have F10 : C8.Def K mg "_law_ask" s_law_ask f10 _ := ⟨⟨_, _, _, _, _, _, _, _, _, _, rfl, l10, c10⟩, PySem.W.mg_of X G a10, k10⟩
  have b10 := F10.fn.binds rfl (ps := ["_law_door", "_law_weights", "_law_other"]) fun _ _ _ _ _ _ us hl => match us, hl with | [_, _, _], _ => rfl
  have F11 : C8.Def K mg "_law_told" s_law_told f11 _ := ⟨⟨_, _, _, _, _, _, _, _, _, _, rfl, l11, c11⟩, PySem.W.mg_of X G a11, k11⟩
  have b11 := F11.fn.binds rfl (ps := ["_law_kind", "_law_which", "_law_more"]) fun _ _ _ _ _ _ us hl => match us, hl with | [_, _, _], _ => rfl
  have F12 : C8.Def K mg "law" s_law f12 _ := ⟨⟨_, _, _, _, _, _, _, _, _, _, rfl, l12, c12⟩, PySem.W.mg_of X G a12, k12⟩
  have b12 := F12.fn.binds rfl (ps := ["_law_script"]) fun _ _ _ _ _ _ us hl => match us, hl with | [_], _ => rfl
  have FHinit : C8.Fun K "__init__" "Heavy.__init__" s_Heavy_init fHinit _ := ⟨_, _, _, _, _, _, _, _, _, _, rfl, lHinit, cHinit⟩
  have bHinit := FHinit.binds rfl (ps := ["self", "person"]) fun _ _ _ _ _ _ us hl => match us, hl with | [_, _], _ => rfl
  have FBinit : C8.Fun K "__init__" "Boats.__init__" s_Boats_init fBinit _ := ⟨_, _, _, _, _, _, _, _, _, _, rfl, lBinit, cBinit⟩
  have bBinit := FBinit.binds rfl (ps := ["self", "boats", "mark"]) fun _ _ _ _ _ _ us hl => match us, hl with | [_, _, _], _ => rfl
  have T0 : Txt K mg CH CB := ⟨⟨pgH, hdH, poH, saH⟩, ⟨pgB, hdB, poB, saB⟩, nP, nB, nM, PySem.W.mg_none_of X G z_len, PySem.W.mg_none_of X G z_sorted, PySem.W.mg_none_of X G z_range, PySem.W.mg_none_of X G z_min, PySem.W.mg_none_of X G z_max, PySem.W.mg_none_of X G z_list, PySem.W.mg_none_of X G z_enumerate, PySem.W.mg_none_of X G z_all, PySem.W.mg_none_of X G z_isinstance, PySem.W.mg_none_of X G z_int, PySem.W.mg_none_of X G z_bool⟩
  have T : LTxt K mg CH CB := ⟨T0, PySem.W.mg_none_of X G z_sum, ⟨T0.clH, atH, mrH⟩, ⟨T0.clB, atB, mrB⟩, PySem.W.mg_of X G aCH, PySem.W.mg_of X G aCB, hn, htk, iHB, iBB⟩
  refine ⟨PySem.W.fnOf "law" "law" (C8.fnArgs s_law) (C8.fnBody s_law) (C8.fnScope s_law) .none kV12 dc12 pm12 an12 cd12 ct12, [(c, PT)], spLaw K PT, fun p hp => by rw [List.mem_singleton.mp hp]; exact hP, fun p hp => by rw [List.mem_singleton.mp hp]; exact kP, fun p hp => by rw [List.mem_singleton.mp hp]; exact PySem.W.codeHd_of_K X hCd, fun s v => .of_eq rfl,
    fun H a ns hl _ hT hS => ⟨a, ns, rfl, hS, hl, hT (c, PT) (List.mem_singleton.mpr rfl), fun _ => rfl⟩, fun base _ _ tb => ?_⟩
  have TB := tb (c, PT) (List.mem_singleton.mpr rfl)
  have cw := ok_is_whole (P := l.prog) (w := w) (base := base) F0 b0 T0
  have cp := ok_check_people F1 b1 T0 cw
  have cl := ok_check_limit F2 b2 T0 cw
  have hI := ok_Heavy_init (P := l.prog) (w := w) (base := base) FHinit bHinit T0 ⟨mkH, aHinit, iHinit, kcH⟩ (PySem.W.mg_of X G aCH)
  have bI := ok_Boats_init (P := l.prog) (w := w) (base := base) FBinit bBinit T0 ⟨mkB, aBinit, iBinit, kcB⟩ (PySem.W.mg_of X G aCB)
  have se := ok_sent l4 c4 (PySem.W.mg_of X G a4) k4 b4 T0 TB bI
  have tl := ok_told F3 b3 T0 cp cl hI se
  have KP : KitD K CE CP CL CO CP true false false := ⟨⟨egP, ehP, ebP, edP, eaP, hn, htk, emP⟩, PySem.W.exm_ref ebE edE etE eeP, ikPP, ikPL, ikPO, ivP⟩
  have KL : KitD K CE CP CL CO CL false true false := ⟨⟨egL, ehL, ebL, edL, eaL, hn, htk, emL⟩, PySem.W.exm_ref ebE edE etE eeL, ikLP, ikLL, ikLO, ivL⟩
  have KO : KitD K CE CP CL CO CO false false true := ⟨⟨egO, ehO, ebO, edO, eaO, hn, htk, emO⟩, PySem.W.exm_ref ebE edE etE eeO, ikOP, ikOL, ikOO, ivO⟩
  have R : Errs K mg CE CP CL CO := ⟨⟨exP, PySem.W.mg_of X G aCP, ekP, ebP, etP⟩, ⟨exL, PySem.W.mg_of X G aCL, ekL, ebL, etL⟩, ⟨exO, PySem.W.mg_of X G aCO, ekO, ebO, etO⟩, PySem.W.mg_of X G aCE, PySem.W.mg_none_of X G z_ValueError, KP, KL, KO⟩
  have cb := ok_check_boats F6 b6 T0 cw
  have ll := ok_least_limit F5 b5 T cp cb
  have wy := ok_ways F7 b7 T cp cl (ok_choices F8 b8 T) (ok_product F9 b9 T 10)
  have ca := ok_whole_any (P := l.prog) (w := w) (base := base) F0 b0 T0
  have bp := bad_people F1 b1 T0 R.P ca
  have bl := bad_limit F2 b2 T0 R.L ca
  have bb := bad_boats F6 b6 T0 R.O ca
  have bt := bad_told F3 b3 T0 cp bp bl
  have bw := bad_ways F7 b7 T0 cp bp bl
  have be := bad_least F5 b5 T0 cp bp bb
  have ak := ok_ask F10 b10 T0 bt bw be
  exact ok_law F12.fn T (ok_ltold F11 b11 T0 R ak be) ll wy tl
end
end Bp
open PySem PySem.W PyProof.Rows in
set_option maxRecDepth 100000 in
set_option maxHeartbeats 0 in
theorem PySem.Challenge.cw_boatpairs_k06_refused_holds : PySem.Challenge.rw_boatpairs_k06_refused.Holds := by
  w_on; o_law; k_head; (case hw => w_witness2)
  k_fill
  refine LamX.walk_ofTs (l := PySem.Challenge.rw_boatpairs_k06_refused) (n := 63) (k := 14) (CX := fun _ => L2.CX0) (x := "_law_script") rfl (Bp.le_size (by decide)) rfl ⟨rfl, by decide, by decide⟩ (fun w h Y => PySem.W.km_in_of Y) ?F (fun _ _ _ _ _ z => z)
  case F =>
    intro w mg fa h Y KX G hmg
    refine' Bp.all_mk (PySem.W.km_tabs_of Y _ (List.mem_singleton.mpr rfl)) KX G hmg ?kP ?hCd ?a0 ?l0 ?c0 ?k0 ?a1 ?l1 ?c1 ?k1 ?a2 ?l2 ?c2 ?k2 ?a3 ?l3 ?c3 ?k3 ?a4 ?l4 ?c4 ?k4 ?a5 ?l5 ?c5 ?k5 ?a6 ?l6 ?c6 ?k6 ?a7 ?l7 ?c7 ?k7 ?a8 ?l8 ?c8 ?k8 ?a9 ?l9 ?c9 ?k9 ?a10 ?l10 ?c10 ?k10 ?a11 ?l11 ?c11 ?k11 ?a12 ?l12 ?c12 ?k12 ?aCH ?pgH ?hdH ?poH ?saH ?mkH ?kcH ?atH ?mrH ?aHinit ?iHinit ?lHinit ?cHinit ?kHinit ?aCB ?pgB ?hdB ?poB ?saB ?mkB ?kcB ?atB ?mrB ?aBinit ?iBinit ?lBinit ?cBinit ?kBinit ?aCE ?aCP ?aCL ?aCO ?nP ?nB ?nM ?hn ?htk ?iHB ?iBB ?exP ?ekP ?egP ?ehP ?eaP ?emP ?eeP ?ivP ?ikPP ?ikPL ?ikPO ?exL ?ekL ?egL ?ehL ?eaL ?emL ?eeL ?ivL ?ikLP ?ikLL ?ikLO ?exO ?ekO ?egO ?ehO ?eaO ?emO ?eeO ?ivO ?ikOP ?ikOL ?ikOO ?ebE ?etE ?edE ?ebP ?etP ?edP ?ebL ?etL ?edL ?ebO ?etO ?edO ?z_len ?z_sorted ?z_range ?z_min ?z_max ?z_list ?z_enumerate ?z_all ?z_isinstance ?z_int ?z_bool ?z_sum ?z_ValueError
    (case a0 => k_is)
    (case l0 => k_is)
    (case c0 => k_is)
    (case k0 => k_is)
    (case a1 => k_is)
    (case l1 => k_is)
    (case c1 => k_is)
    (case k1 => k_is)
    (case a2 => k_is)
    (case l2 => k_is)
    (case c2 => k_is)
    (case k2 => k_is)
    (case a3 => k_is)
    (case l3 => k_is)
    (case c3 => k_is)
    (case k3 => k_is)
    (case a4 => k_is)
    (case l4 => k_is)
    (case c4 => k_is)
    (case k4 => k_is)
    (case a5 => k_is)
    (case l5 => k_is)
    (case c5 => k_is)
    (case k5 => k_is)
    (case a6 => k_is)
    (case l6 => k_is)
    (case c6 => k_is)
    (case k6 => k_is)
    (case a7 => k_is)
    (case l7 => k_is)
    (case c7 => k_is)
    (case k7 => k_is)
    (case a8 => k_is)
    (case l8 => k_is)
    (case c8 => k_is)
    (case k8 => k_is)
    (case a9 => k_is)
    (case l9 => k_is)
    (case c9 => k_is)
    (case k9 => k_is)
    (case a10 => k_is)
    (case l10 => k_is)
    (case c10 => k_is)
    (case k10 => k_is)
    (case a11 => k_is)
    (case l11 => k_is)
    (case c11 => k_is)
    (case k11 => k_is)
    (case a12 => k_is)
    (case l12 => k_is)
    (case c12 => k_is)
    (case k12 => k_is)
    (case aCH => k_is)
    (case pgH => k_is)
    (case hdH => k_is)
    (case poH => k_is)
    (case saH => k_is)
    (case mkH => k_is)
    (case kcH => k_is)
    (case atH => k_is)
    (case mrH => k_is)
    (case aHinit => k_is)
    (case iHinit => k_is)
    (case lHinit => k_is)
    (case cHinit => k_is)
    (case kHinit => k_is)
    (case aCB => k_is)
    (case pgB => k_is)
    (case hdB => k_is)
    (case poB => k_is)
    (case saB => k_is)
    (case mkB => k_is)
    (case kcB => k_is)
    (case atB => k_is)
    (case mrB => k_is)
    (case aBinit => k_is)
    (case iBinit => k_is)
    (case lBinit => k_is)
    (case cBinit => k_is)
    (case kBinit => k_is)
    (case aCE => k_is)
    (case aCP => k_is)
    (case aCL => k_is)
    (case aCO => k_is)
    (case nP => k_is)
    (case nB => k_is)
    (case nM => k_is)
    (case hn => k_is)
    (case htk => k_is)
    (case iHB => kit_is)
    (case iBB => kit_is)
    (case exP => kernel_rfl)
    (case ekP => k_is)
    (case egP => k_is)
    (case ehP => k_is)
    (case eaP => k_is)
    (case emP => k_is)
    (case eeP => k_is)
    (case ivP => kit_is)
    (case ikPP => kit_is)
    (case ikPL => kit_is)
    (case ikPO => kit_is)
    (case exL => kernel_rfl)
    (case ekL => k_is)
    (case egL => k_is)
    (case ehL => k_is)
    (case eaL => k_is)
    (case emL => k_is)
    (case eeL => k_is)
    (case ivL => kit_is)
    (case ikLP => kit_is)
    (case ikLL => kit_is)
    (case ikLO => kit_is)
    (case exO => kernel_rfl)
    (case ekO => k_is)
    (case egO => k_is)
    (case ehO => k_is)
    (case eaO => k_is)
    (case emO => k_is)
    (case eeO => k_is)
    (case ivO => kit_is)
    (case ikOP => kit_is)
    (case ikOL => kit_is)
    (case ikOO => kit_is)
    (case ebE => k_is)
    (case etE => k_is)
    (case edE => k_is)
    (case ebP => k_is)
    (case etP => k_is)
    (case edP => k_is)
    (case ebL => k_is)
    (case etL => k_is)
    (case edL => k_is)
    (case ebO => k_is)
    (case etO => k_is)
    (case edO => k_is)
    (case z_len => k_is)
    (case z_sorted => k_is)
    (case z_range => k_is)
    (case z_min => k_is)
    (case z_max => k_is)
    (case z_list => k_is)
    (case z_enumerate => k_is)
    (case z_all => k_is)
    (case z_isinstance => k_is)
    (case z_int => k_is)
    (case z_bool => k_is)
    (case z_sum => k_is)
    (case z_ValueError => k_is)
    (case hCd => kernel_rfl)
    (case kP => kernel_rfl)

end
