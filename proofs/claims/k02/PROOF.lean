import PyProof.Rows.All
import HandS.ForMost
import HandS.Flow
import HandS.SortInts
import HandS.TupAny
import HandS.EndTab
import HandS.AnyAll
import PyProof.TupleOfGen
import PySem.Challenge.RW_thronewalk_k02_born_and_children
section
set_option Elab.async false
set_option linter.all false
set_option maxRecDepth 100000
set_option maxHeartbeats 1000000
/-! Values without a heap, a memory of the things that change, and how both stand in the abstract heap. -/
namespace Pv
open PySem PySem.Spec PyProof.Rows L2

inductive D where
  | non | bl (b : Bool) | int (i : Int) | str (x : Str) | tup (xs : List D) | fl (xs : List D) | ref (n : Nat)
inductive MO where
  | lst (xs : List D)
  | dk (kvs : List (Key × D))
abbrev Mem := List MO
abbrev Env := List (Option D)
abbrev FRG := PySem.W.Frag

/-- a list that nobody changes -/
def Fz (K : FRG) (H : Hp) (a : Addr) (vs : List V) : Prop :=
  (∃ o, H a = some (.frz o (.lst vs))) ∨
    ∃ (o : Obj) (its : Array Value) (n : Nat), K.lookup a = some o ∧ o.cls = .type "list" ∧ o.dict = none ∧ o.data = .seq its n ∧ its.size ≤ sizeLine ∧ Vals vs its.toList
theorem Fz.sq {K : FRG} {H : Hp} {a : Addr} {vs : List V} (h : Fz K H a vs) : SqL K H a vs := by
  rcases h with ⟨o, h⟩ | h
  · exact .inl (.inr ⟨o, h⟩)
  · exact .inr h

mutual
inductive Rep (K : FRG) (φ : List Addr) (H : Hp) : D → V → Prop
  | non : Rep K φ H .non .non
  | bl (b : Bool) : Rep K φ H (.bl b) (.bl b)
  | int (i : Int) : Rep K φ H (.int i) (.int i)
  | str (x : Str) : Rep K φ H (.str x) (.str x)
  | tup {a : Addr} {vs : List V} {ds : List D} : SqT K H a vs → Reps K φ H ds vs → Rep K φ H (.tup ds) (.ref a)
  | fl {a : Addr} {vs : List V} {ds : List D} : Fz K H a vs → Reps K φ H ds vs → Rep K φ H (.fl ds) (.ref a)
  | ref {n : Nat} {a : Addr} : φ[n]? = some a → Rep K φ H (.ref n) (.ref a)
inductive Reps (K : FRG) (φ : List Addr) (H : Hp) : List D → List V → Prop
  | nil : Reps K φ H [] []
  | cons {d : D} {v : V} {ds : List D} {vs : List V} : Rep K φ H d v → Reps K φ H ds vs → Reps K φ H (d :: ds) (v :: vs)
end

def ObjR (K : FRG) (φ : List Addr) (H : Hp) (a : Addr) : MO → Prop
  | .lst ds => ∃ vs, H a = some (.lst vs) ∧ Reps K φ H ds vs
  | .dk kvs => ∃ vs : List (Key × V), H a = some (.dK vs) ∧ kvs.map (·.1) = vs.map (·.1) ∧ Reps K φ H (kvs.map (·.2)) (vs.map (·.2))

structure Rel (K : FRG) (tb : List Addr) (φ : List Addr) (H : Hp) (m : Mem) : Prop where
  len : φ.length = m.length
  nd : φ.Nodup
  obj : ∀ (n : Nat) (mo : MO) (a : Addr), m[n]? = some mo → φ[n]? = some a → ObjR K φ H a mo
  tab : ∀ p ∈ tb, GxR.TabG H p

structure Post (φ : List Addr) (H : Hp) (φ' : List Addr) (H' : Hp) : Prop where
  pre : φ <+: φ'
  new : ∀ a ∈ φ', a ∈ φ ∨ H a = none
  frm : ∀ b o, b ∉ φ → H b = some o → (∀ ps, o ≠ .tbl ps) → H' b = some o
  kp : ∀ b, H' b = none → H b = none

section
variable {K : FRG} {tb φ φ1 φ2 φ' : List Addr} {H H1 H2 H' : Hp} {m : Mem}

theorem Post.refl : Post φ H φ H := ⟨List.prefix_refl _, fun _ h => .inl h, fun _ _ _ h _ => h, fun _ h => h⟩
theorem Post.trans (p : Post φ H φ1 H1) (q : Post φ1 H1 φ2 H2) : Post φ H φ2 H2 := by
  refine ⟨p.pre.trans q.pre, fun a h => ?_, fun b o hb e ht => ?_, fun b h => p.kp b (q.kp b h)⟩
  · rcases q.new a h with z | z
    · exact p.new a z
    · exact .inr (p.kp a z)
  · refine q.frm b o (fun z => ?_) (p.frm b o hb e ht) ht
    rcases p.new b z with y | y
    · exact hb y
    · rw [y] at e; cases e

theorem Rel.mut {a : Addr} (R : Rel K tb φ H m) (h : a ∈ φ) : (∃ vs, H a = some (.lst vs)) ∨ ∃ vs, H a = some (.dK vs) := by
  obtain ⟨n, hn, e⟩ := List.getElem_of_mem h
  have e' : φ[n]? = some a := by rw [List.getElem?_eq_getElem hn, e]
  have hm : n < m.length := by rw [← R.len]; exact hn
  have q := R.obj n m[n] a (List.getElem?_eq_getElem hm) e'
  cases z : m[n] with
  | lst ds => rw [z] at q; obtain ⟨vs, q, _⟩ := q; exact .inl ⟨vs, q⟩
  | dk kvs => rw [z] at q; obtain ⟨vs, q, _⟩ := q; exact .inr ⟨vs, q⟩
theorem Rel.trk {a : Addr} (R : Rel K tb φ H m) (h : a ∈ φ) : H a ≠ none := by
  rcases R.mut h with ⟨vs, e⟩ | ⟨vs, e⟩ <;> (rw [e]; exact fun z => nomatch z)
theorem Rel.fresh {a : Addr} (R : Rel K tb φ H m) (h : H a = none) : a ∉ φ := fun z => R.trk z h
theorem Rel.ntup {a : Addr} {xs : List V} (R : Rel K tb φ H m) (h : H a = some (.tup xs)) : a ∉ φ := fun z => by
  rcases R.mut z with ⟨vs, e⟩ | ⟨vs, e⟩ <;> (rw [h] at e; cases e)
theorem Rel.nfrz {a : Addr} {o : Obj} {u : HO} (R : Rel K tb φ H m) (h : H a = some (.frz o u)) : a ∉ φ := fun z => by
  rcases R.mut z with ⟨vs, e⟩ | ⟨vs, e⟩ <;> (rw [h] at e; cases e)
theorem Rel.ntbl {a : Addr} {ps : Array Value} (R : Rel K tb φ H m) (h : H a = some (.tbl ps)) : a ∉ φ := fun z => by
  rcases R.mut z with ⟨vs, e⟩ | ⟨vs, e⟩ <;> (rw [h] at e; cases e)

theorem Post.sqT {a : Addr} {xs : List V} (p : Post φ H φ' H') (R : Rel K tb φ H m) (h : SqT K H a xs) : SqT K H' a xs := by
  rcases h with (h | ⟨o, h⟩) | h
  · exact .inl (.inl (p.frm _ _ (R.ntup h) h fun _ z => nomatch z))
  · exact .inl (.inr ⟨o, p.frm _ _ (R.nfrz h) h fun _ z => nomatch z⟩)
  · exact .inr h
theorem Post.fz {a : Addr} {xs : List V} (p : Post φ H φ' H') (R : Rel K tb φ H m) (h : Fz K H a xs) : Fz K H' a xs := by
  rcases h with ⟨o, h⟩ | h
  · exact .inl ⟨o, p.frm _ _ (R.nfrz h) h fun _ z => nomatch z⟩
  · exact .inr h
theorem pre_get {n : Nat} {a : Addr} (p : φ <+: φ') (h : φ[n]? = some a) : φ'[n]? = some a := by
  obtain ⟨t, rfl⟩ := p
  obtain ⟨hn, _⟩ := List.getElem?_eq_some_iff.mp h
  rw [List.getElem?_append_left hn]; exact h
mutual
theorem Rep.map (hp : φ <+: φ') (ht : ∀ a xs, SqT K H a xs → SqT K H' a xs) (hf : ∀ a xs, Fz K H a xs → Fz K H' a xs) : ∀ {d : D} {v : V}, Rep K φ H d v → Rep K φ' H' d v
  | _, _, .non => .non
  | _, _, .bl b => .bl b
  | _, _, .int i => .int i
  | _, _, .str x => .str x
  | _, _, .tup h r => .tup (ht _ _ h) (Reps.map hp ht hf r)
  | _, _, .fl h r => .fl (hf _ _ h) (Reps.map hp ht hf r)
  | _, _, .ref h => .ref (pre_get hp h)
theorem Reps.map (hp : φ <+: φ') (ht : ∀ a xs, SqT K H a xs → SqT K H' a xs) (hf : ∀ a xs, Fz K H a xs → Fz K H' a xs) : ∀ {ds : List D} {vs : List V}, Reps K φ H ds vs → Reps K φ' H' ds vs
  | _, _, .nil => .nil
  | _, _, .cons h r => .cons (Rep.map hp ht hf h) (Reps.map hp ht hf r)
end
theorem Rep.mono (p : Post φ H φ' H') (R : Rel K tb φ H m) {d : D} {v : V} (h : Rep K φ H d v) : Rep K φ' H' d v := h.map p.pre (fun _ _ => p.sqT R) fun _ _ => p.fz R
theorem Reps.mono (p : Post φ H φ' H') (R : Rel K tb φ H m) {ds : List D} {vs : List V} (h : Reps K φ H ds vs) : Reps K φ' H' ds vs := h.map p.pre (fun _ _ => p.sqT R) fun _ _ => p.fz R
theorem Reps.length : ∀ {ds : List D} {vs : List V}, Reps K φ H ds vs → ds.length = vs.length
  | _, _, .nil => rfl
  | _, _, .cons _ r => by simp [Reps.length r]
theorem Reps.get : ∀ {ds : List D} {vs : List V} {i : Nat} {d : D}, Reps K φ H ds vs → ds[i]? = some d → ∃ v, vs[i]? = some v ∧ Rep K φ H d v
  | _, _, _, _, .nil, e => by simp at e
  | _, _, 0, _, .cons h _, e => by simp at e; subst e; exact ⟨_, rfl, h⟩
  | _, _, i + 1, d, .cons _ r, e => by
    obtain ⟨v, h1, h2⟩ := Reps.get (i := i) (d := d) r (by simpa using e)
    exact ⟨v, by simpa using h1, h2⟩
theorem Reps.app : ∀ {ds es : List D} {vs ws : List V}, Reps K φ H ds vs → Reps K φ H es ws → Reps K φ H (ds ++ es) (vs ++ ws)
  | _, _, _, _, .nil, s => s
  | _, _, _, _, .cons h r, s => .cons h (Reps.app r s)
theorem Reps.set {d : D} {v : V} (h : Rep K φ H d v) : ∀ {ds : List D} {vs : List V} (i : Nat), Reps K φ H ds vs → Reps K φ H (ds.set i d) (vs.set i v)
  | _, _, _, .nil => .nil
  | _, _, 0, .cons _ r => .cons h r
  | _, _, i + 1, .cons q r => .cons q (Reps.set h i r)
theorem Reps.take : ∀ {ds : List D} {vs : List V} (n : Nat), Reps K φ H ds vs → Reps K φ H (ds.take n) (vs.take n)
  | _, _, 0, _ => .nil
  | _, _, _ + 1, .nil => .nil
  | _, _, n + 1, .cons h r => .cons h (Reps.take n r)
theorem Reps.drop : ∀ {ds : List D} {vs : List V} (n : Nat), Reps K φ H ds vs → Reps K φ H (ds.drop n) (vs.drop n)
  | _, _, 0, r => r
  | _, _, _ + 1, .nil => .nil
  | _, _, n + 1, .cons _ r => Reps.drop n r
theorem Reps.snoc {ds : List D} {vs : List V} {d : D} {v : V} (r : Reps K φ H ds vs) (h : Rep K φ H d v) : Reps K φ H (ds ++ [d]) (vs ++ [v]) := r.app (.cons h .nil)

/-! ### the changes -/
theorem ObjR.mono {a : Addr} {mo : MO} (p : Post φ H φ' H') (R : Rel K tb φ H m) (q : ObjR K φ H a mo) (e : H' a = H a) : ObjR K φ' H' a mo := by
  cases mo with
  | lst ds => obtain ⟨vs, q1, q2⟩ := q; exact ⟨vs, e.trans q1, q2.mono p R⟩
  | dk kvs => obtain ⟨vs, q1, q2, q3⟩ := q; exact ⟨vs, e.trans q1, q2, q3.mono p R⟩
theorem TabG.keep {p : Addr} (h : GxR.TabG H p) (e : H' p = H p) : GxR.TabG H' p := by
  obtain ⟨ps, q, r⟩ := h; exact ⟨ps, e.trans q, r⟩
theorem Rel.tsome {p : Addr} (R : Rel K tb φ H m) (h : p ∈ tb) : H p ≠ none := by
  obtain ⟨ps, q, _⟩ := R.tab p h; rw [q]; exact fun z => nomatch z
theorem Rel.tnot {p : Addr} (R : Rel K tb φ H m) (h : p ∈ tb) : p ∉ φ := by
  obtain ⟨ps, q, _⟩ := R.tab p h; exact R.ntbl q
/-- a new thing that never changes -/
theorem Post.lay {p : Addr} {o : HO} (h : H p = none) : Post φ H φ (upd H p o) :=
  ⟨List.prefix_refl _, fun _ z => .inl z, fun b u _ e _ => by rw [upd_ne (ne_of_none e h)]; exact e, fun b z => by
    by_cases hb : b = p
    · rw [hb]; exact h
    · rw [upd_ne hb] at z; exact z⟩
theorem Rel.lay {p : Addr} {o : HO} (R : Rel K tb φ H m) (h : H p = none) : Rel K tb φ (upd H p o) m := by
  refine ⟨R.len, R.nd, fun n mo a e1 e2 => ?_, fun q hq => TabG.keep (R.tab q hq) (upd_ne fun z => R.tsome hq (z ▸ h))⟩
  exact (R.obj n mo a e1 e2).mono (Post.lay h) R (upd_ne fun z => R.trk (List.mem_of_getElem? e2) (z ▸ h))
/-- a new thing that may change -/
theorem Post.newM {p : Addr} {o : HO} (h : H p = none) : Post φ H (φ ++ [p]) (upd H p o) :=
  ⟨List.prefix_append _ _, fun a z => by
    rcases List.mem_append.mp z with z | z
    · exact .inl z
    · rw [List.mem_singleton.mp z]; exact .inr h, fun b u _ e _ => by rw [upd_ne (ne_of_none e h)]; exact e, fun b z => by
    by_cases hb : b = p
    · rw [hb]; exact h
    · rw [upd_ne hb] at z; exact z⟩
theorem nodup_snoc {p : Addr} (nd : φ.Nodup) (h : p ∉ φ) : (φ ++ [p]).Nodup := by
  rw [List.nodup_append]
  exact ⟨nd, by simp, fun a ha b hb => by rw [List.mem_singleton.mp hb]; exact fun z => h (z ▸ ha)⟩
theorem Rel.newO {p : Addr} {o : HO} {mo : MO} (R : Rel K tb φ H m) (h : H p = none) (q : ObjR K (φ ++ [p]) (upd H p o) p mo) : Rel K tb (φ ++ [p]) (upd H p o) (m ++ [mo]) := by
  refine ⟨by simp [R.len], nodup_snoc R.nd (R.fresh h), fun n mo' a e1 e2 => ?_, fun q hq => TabG.keep (R.tab q hq) (upd_ne fun z => R.tsome hq (z ▸ h))⟩
  rcases Nat.lt_trichotomy n m.length with hn | hn | hn
  · rw [List.getElem?_append_left hn] at e1
    rw [List.getElem?_append_left (by rw [R.len]; exact hn)] at e2
    exact (R.obj n mo' a e1 e2).mono (Post.newM h) R (upd_ne fun z => R.trk (List.mem_of_getElem? e2) (z ▸ h))
  · subst hn
    rw [List.getElem?_append_right (Nat.le_refl _), Nat.sub_self] at e1
    rw [← R.len, List.getElem?_append_right (Nat.le_refl _), Nat.sub_self] at e2
    have e1' : mo = mo' := Option.some.inj e1
    have e2' : p = a := Option.some.inj e2
    rw [← e1', ← e2']; exact q
  · rw [List.getElem?_eq_none (by simp; omega)] at e1; cases e1
theorem Rel.newL {p : Addr} {ds : List D} {vs : List V} (R : Rel K tb φ H m) (h : H p = none) (r : Reps K φ H ds vs) : Rel K tb (φ ++ [p]) (upd H p (.lst vs)) (m ++ [.lst ds]) :=
  R.newO h ⟨vs, upd_same, r.mono (Post.newM h) R⟩
theorem rep_last {p : Addr} (R : Rel K tb φ H m) : Rep K (φ ++ [p]) H' (.ref m.length) (.ref p) := .ref (by rw [← R.len]; simp)
/-- a thing changes -/
theorem Post.wr {a : Addr} {o : HO} (h : a ∈ φ) (hs : H a ≠ none) : Post φ H φ (upd H a o) :=
  ⟨List.prefix_refl _, fun _ z => .inl z, fun b u hb e _ => by rw [upd_ne (fun z => hb (by rw [z]; exact h))]; exact e, fun b z => by
    by_cases hb : b = a
    · rw [hb, upd_same] at z; cases z
    · rw [upd_ne hb] at z; exact z⟩
theorem Rel.wr {a : Addr} {n : Nat} {o : HO} {mo : MO} (R : Rel K tb φ H m) (h : φ[n]? = some a) (q : ObjR K φ (upd H a o) a mo) : Rel K tb φ (upd H a o) (m.set n mo) := by
  have ha : a ∈ φ := List.mem_of_getElem? h
  have P := Post.wr (o := o) ha (R.trk ha)
  obtain ⟨hn, en⟩ := List.getElem?_eq_some_iff.mp h
  refine ⟨by simp [R.len], R.nd, fun k mo' b e1 e2 => ?_, fun q hq => TabG.keep (R.tab q hq) (upd_ne fun z => R.tnot hq (z ▸ ha))⟩
  by_cases hk : k = n
  · subst hk
    rw [h] at e2; cases e2
    rw [List.getElem?_set_self (by rw [← R.len]; exact hn)] at e1
    cases e1; exact q
  · rw [List.getElem?_set_ne (Ne.symm hk)] at e1
    refine (R.obj k mo' b e1 e2).mono P R (upd_ne fun z => hk ?_)
    obtain ⟨hk2, ek⟩ := List.getElem?_eq_some_iff.mp e2
    exact (List.getElem_inj R.nd).mp (ek.trans (z.trans en.symm))
theorem Rel.wrL {a : Addr} {n : Nat} {ds : List D} {vs : List V} (R : Rel K tb φ H m) (h : φ[n]? = some a) (r : Reps K φ H ds vs) : Rel K tb φ (upd H a (.lst vs)) (m.set n (.lst ds)) :=
  R.wr h ⟨vs, upd_same, r.mono (Post.wr (List.mem_of_getElem? h) (R.trk (List.mem_of_getElem? h))) R⟩

/-- a list beside the memory is changed -/
theorem side_sqT {p a : Addr} {vs ws xs : List V} (h : H p = some (.lst vs)) (q : SqT K H a xs) : SqT K (upd H p (.lst ws)) a xs := by
  rcases q with (q | ⟨o, q⟩) | q
  · exact .inl (.inl (by rw [upd_ne fun z => by rw [z, h] at q; cases q]; exact q))
  · exact .inl (.inr ⟨o, by rw [upd_ne fun z => by rw [z, h] at q; cases q]; exact q⟩)
  · exact .inr q
theorem side_fz {p a : Addr} {vs ws xs : List V} (h : H p = some (.lst vs)) (q : Fz K H a xs) : Fz K (upd H p (.lst ws)) a xs := by
  rcases q with ⟨o, q⟩ | q
  · exact .inl ⟨o, by rw [upd_ne fun z => by rw [z, h] at q; cases q]; exact q⟩
  · exact .inr q
theorem Reps.side {p : Addr} {vs ws : List V} (h : H p = some (.lst vs)) {ds : List D} {us : List V} (r : Reps K φ H ds us) : Reps K φ (upd H p (.lst ws)) ds us :=
  r.map (List.prefix_refl _) (fun _ _ => side_sqT h) fun _ _ => side_fz h
theorem Rep.side {p : Addr} {vs ws : List V} (h : H p = some (.lst vs)) {d : D} {u : V} (r : Rep K φ H d u) : Rep K φ (upd H p (.lst ws)) d u :=
  r.map (List.prefix_refl _) (fun _ _ => side_sqT h) fun _ _ => side_fz h
theorem Rel.side {p : Addr} {vs ws : List V} (R : Rel K tb φ H m) (hp : p ∉ φ) (h : H p = some (.lst vs)) : Rel K tb φ (upd H p (.lst ws)) m := by
  refine ⟨R.len, R.nd, fun n mo a e1 e2 => ?_, fun q hq => TabG.keep (R.tab q hq) (upd_ne fun z => by
    obtain ⟨ps, e, _⟩ := R.tab q hq
    rw [z, h] at e; cases e)⟩
  have ne : a ≠ p := fun z => hp (z ▸ List.mem_of_getElem? e2)
  have q := R.obj n mo a e1 e2
  cases mo with
  | lst ds => obtain ⟨vs', q1, q2⟩ := q; exact ⟨vs', by rw [upd_ne ne]; exact q1, q2.side h⟩
  | dk kvs => obtain ⟨vs', q1, q2, q3⟩ := q; exact ⟨vs', by rw [upd_ne ne]; exact q1, q2, q3.side h⟩
theorem Post.side {p : Addr} {o : HO} (P : Post φ H φ' H') (h : H p = none) : Post φ H φ' (upd H' p o) :=
  ⟨P.pre, P.new, fun b u hb e ht => by rw [upd_ne (ne_of_none e h)]; exact P.frm b u hb e ht, fun b z => by
    by_cases hb : b = p
    · rw [hb]; exact h
    · rw [upd_ne hb] at z; exact P.kp b z⟩
/-- a list beside the memory comes into it -/
theorem Rel.adopt {p : Addr} {ds : List D} {vs : List V} (R : Rel K tb φ H m) (hp : p ∉ φ) (h : H p = some (.lst vs)) (r : Reps K φ H ds vs) : Rel K tb (φ ++ [p]) H (m ++ [.lst ds]) := by
  have up : ∀ {xs : List D} {us : List V}, Reps K φ H xs us → Reps K (φ ++ [p]) H xs us := fun q => q.map (List.prefix_append _ _) (fun _ _ z => z) fun _ _ z => z
  refine ⟨by simp [R.len], nodup_snoc R.nd hp, fun n mo' a e1 e2 => ?_, R.tab⟩
  rcases Nat.lt_trichotomy n m.length with hn | hn | hn
  · rw [List.getElem?_append_left hn] at e1
    rw [List.getElem?_append_left (by rw [R.len]; exact hn)] at e2
    have q := R.obj n mo' a e1 e2
    cases mo' with
    | lst ds => obtain ⟨vs', q1, q2⟩ := q; exact ⟨vs', q1, up q2⟩
    | dk kvs => obtain ⟨vs', q1, q2, q3⟩ := q; exact ⟨vs', q1, q2, up q3⟩
  · subst hn
    rw [List.getElem?_append_right (Nat.le_refl _), Nat.sub_self] at e1
    rw [← R.len, List.getElem?_append_right (Nat.le_refl _), Nat.sub_self] at e2
    have e1' : MO.lst ds = mo' := Option.some.inj e1
    have e2' : p = a := Option.some.inj e2
    rw [← e1', ← e2']; exact ⟨vs, h, up r⟩
  · rw [List.getElem?_eq_none (by simp; omega)] at e1; cases e1
theorem Post.adopt {p : Addr} (P : Post φ H φ' H') (h : H p = none) : Post φ H (φ' ++ [p]) H' :=
  ⟨P.pre.trans (List.prefix_append _ _), fun a z => by
    rcases List.mem_append.mp z with z | z
    · exact P.new a z
    · rw [List.mem_singleton.mp z]; exact .inr h, P.frm, P.kp⟩
theorem Rep.adopt {p : Addr} {d : D} {v : V} (r : Rep K φ H d v) : Rep K (φ ++ [p]) H d v := r.map (List.prefix_append _ _) (fun _ _ z => z) fun _ _ z => z
end

/-! ### what a piece of the text means -/
abbrev Ex := Env → Mem → Option (D × Mem)
abbrev Tx := Env → Mem → Option (Bool × Mem)
abbrev Ax := Env → Mem → Option (List D × Mem)
inductive Out where
  | nx | ret (d : D) | bk | ct
abbrev Sx := Env → Mem → Option (Out × Env × Mem)

structure RE (K : FRG) (φ : List Addr) (H : Hp) (ρ : Env) (σ : L2.St) : Prop where
  val : ∀ (i : Nat) (d : D), ρ[i]? = some (some d) → ∃ v, σ[i]? = some (some v) ∧ Rep K φ H d v
  len : ρ.length = σ.length
theorem RE.mono {K : FRG} {tb φ φ' : List Addr} {H H' : Hp} {m : Mem} {ρ : Env} {σ : L2.St} (p : Post φ H φ' H') (R : Rel K tb φ H m) (e : RE K φ H ρ σ) : RE K φ' H' ρ σ :=
  ⟨fun i d h => let ⟨v, h1, h2⟩ := e.val i d h; ⟨v, h1, h2.mono p R⟩, e.len⟩
theorem RE.set {K : FRG} {φ : List Addr} {H : Hp} {ρ : Env} {σ : L2.St} {d : D} {v : V} (e : RE K φ H ρ σ) (i : Nat) (h : Rep K φ H d v) : RE K φ H (ρ.set i (some d)) (σ.set i (some v)) := by
  refine ⟨fun j x hj => ?_, by simp [e.len]⟩
  by_cases hij : i = j
  · subst hij
    have hl : i < (ρ.set i (some d)).length := (List.getElem?_eq_some_iff.mp hj).1
    rw [List.length_set] at hl
    rw [List.getElem?_set_self hl] at hj
    cases hj
    exact ⟨v, by rw [List.getElem?_set_self (by rw [← e.len]; exact hl)], h⟩
  · rw [List.getElem?_set_ne hij] at hj
    rw [List.getElem?_set_ne hij]
    exact e.val j x hj
theorem RE.wipe1 {K : FRG} {φ : List Addr} {H : Hp} {ρ : Env} {σ : L2.St} (e : RE K φ H ρ σ) (i : Nat) : RE K φ H (ρ.set i none) (σ.set i none) := by
  refine ⟨fun j x hj => ?_, by simp [e.len]⟩
  by_cases hij : i = j
  · subst hij
    have hl : i < (ρ.set i none).length := (List.getElem?_eq_some_iff.mp hj).1
    rw [List.length_set] at hl
    rw [List.getElem?_set_self hl] at hj
    cases hj
  · rw [List.getElem?_set_ne hij] at hj
    rw [List.getElem?_set_ne hij]
    exact e.val j x hj
def wipeD (ρ : Env) : List Nat → Env
  | [] => ρ
  | v :: vs => (wipeD ρ vs).set v none
theorem RE.wipe {K : FRG} {φ : List Addr} {H : Hp} {ρ : Env} {σ : L2.St} (e : RE K φ H ρ σ) : ∀ vs : List Nat, RE K φ H (wipeD ρ vs) (L2.wipe σ vs)
  | [] => e
  | v :: vs => (RE.wipe e vs).wipe1 v

section
variable (K : FRG) (tb : List Addr)
/-- what follows: from here on the memory m', the value d -/
abbrev Go (φ : List Addr) (H : Hp) (m' : Mem) (d : D) (Q : VK) : Prop := ∀ φ' H' v, Post φ H φ' H' → Rel K tb φ' H' m' → Rep K φ' H' d v → Q v H'
abbrev GoT (φ : List Addr) (H : Hp) (m' : Mem) (b : Bool) (Q : Bool → Hp → Prop) : Prop := ∀ φ' H', Post φ H φ' H' → Rel K tb φ' H' m' → Q b H'
abbrev GoA (φ : List Addr) (H : Hp) (m' : Mem) (ds : List D) (Q : List V → Hp → Prop) : Prop := ∀ φ' H' vs, Post φ H φ' H' → Rel K tb φ' H' m' → Reps K φ' H' ds vs → Q vs H'
def T (f : Ex) : TE := fun σ H Q => ∃ φ ρ m d m', Rel K tb φ H m ∧ RE K φ H ρ σ ∧ f ρ m = some (d, m') ∧ Go K tb φ H m' d Q
def Tt (f : Tx) : TT := fun σ H Q => ∃ φ ρ m b m', Rel K tb φ H m ∧ RE K φ H ρ σ ∧ f ρ m = some (b, m') ∧ GoT K tb φ H m' b Q
def Ta (f : Ax) : TA := fun σ H Q => ∃ φ ρ m ds m', Rel K tb φ H m ∧ RE K φ H ρ σ ∧ f ρ m = some (ds, m') ∧ GoA K tb φ H m' ds Q
def OutK (φ' : List Addr) (H' : Hp) (E : Ends) (ρ' : Env) : Out → Prop
  | .nx => ∀ σ', RE K φ' H' ρ' σ' → E.nx σ' H'
  | .bk => ∀ σ', RE K φ' H' ρ' σ' → E.bk σ' H'
  | .ct => ∀ σ', RE K φ' H' ρ' σ' → E.ct σ' H'
  | .ret d => ∀ v, Rep K φ' H' d v → E.rt v H'
def Ts (g : Sx) : TS := fun E σ H => ∃ φ ρ m o ρ' m', Rel K tb φ H m ∧ RE K φ H ρ σ ∧ g ρ m = some (o, ρ', m') ∧ ∀ φ' H', Post φ H φ' H' → Rel K tb φ' H' m' → OutK K φ' H' E ρ' o
end

theorem pe_mono {X : Cx} {e : Expr} {t t' : TE} (h : PE X e t) (i : ∀ σ H Q, t' σ H Q → t σ H Q) : PE X e t' := ⟨fun pins s σ H Q I q => h.run pins s σ H Q I (i σ H Q q)⟩
theorem pt_mono {X : Cx} {e : Expr} {t t' : TT} (h : PT X e t) (i : ∀ σ H Q, t' σ H Q → t σ H Q) : PT X e t' := ⟨fun pins s σ H Q I q => h.run pins s σ H Q I (i σ H Q q)⟩
theorem pa_mono {X : Cx} {e : List Expr} {t t' : TA} (h : PA X e t) (i : ∀ σ H Q, t' σ H Q → t σ H Q) : PA X e t' := ⟨fun pos pins s σ H Q I q => h.run pos pins s σ H Q I (i σ H Q q)⟩
theorem ps_mono {X : Cx} {e : Stmt} {t t' : TS} (h : PS X e t) (i : ∀ D σ H, t' D σ H → t D σ H) : PS X e t' := ⟨fun pins s σ H D I q => h.run pins s σ H D I (i D σ H q)⟩
theorem pss_mono {X : Cx} {e : List Stmt} {t t' : TS} (h : PSs X e t) (i : ∀ D σ H, t' D σ H → t D σ H) : PSs X e t' := ⟨fun pins s σ H D I q => h.run pins s σ H D I (i D σ H q)⟩
end Pv
end
section
set_option Elab.async false
set_option linter.all false
set_option maxRecDepth 100000
set_option maxHeartbeats 1000000
/-! Expressions and tests: what they mean, and that the text does so. -/
namespace Pv
open PySem PySem.Spec PyProof.Rows L2
theorem small {n : Nat} (h : n ≤ 1000000) : n ≤ sizeLine := Nat.le_trans h (by rw [sizeLine_eq]; decide)
theorem smallT {n : Nat} (h : n < 1000000) : n < sizeLine := Nat.lt_of_lt_of_le h (by rw [sizeLine_eq]; decide)

section
variable (K : FRG) (tb : List Addr)
def OpS (r : R2) (g : D → D → Mem → Option (D × Mem)) : Prop := ∀ φ H m x y dx dy d m' Q, Rel K tb φ H m → Rep K φ H dx x → Rep K φ H dy y → g dx dy m = some (d, m') → Go K tb φ H m' d Q → r x y H Q
def UnS (r : V → Hp → VK → Prop) (g : D → Mem → Option (D × Mem)) : Prop := ∀ φ H m x dx d m' Q, Rel K tb φ H m → Rep K φ H dx x → g dx m = some (d, m') → Go K tb φ H m' d Q → r x H Q
def CallS (r : List V → Hp → VK → Prop) (g : List D → Mem → Option (D × Mem)) : Prop := ∀ φ H m vs ds d m' Q, Rel K tb φ H m → Reps K φ H ds vs → g ds m = some (d, m') → Go K tb φ H m' d Q → r vs H Q
def MtS (r : V → List V → Hp → VK → Prop) (g : D → List D → Mem → Option (D × Mem)) : Prop := ∀ φ H m x vs dx ds d m' Q, Rel K tb φ H m → Rep K φ H dx x → Reps K φ H ds vs → g dx ds m = some (d, m') → Go K tb φ H m' d Q → r x vs H Q
end

/-! ### the forms -/
def eVar (i : Nat) : Ex := fun ρ m => match ρ[i]? with
  | some (some d) => some (d, m)
  | _ => none
def eC (d : D) : Ex := fun _ m => some (d, m)
def eOp (g : D → D → Mem → Option (D × Mem)) (a b : Ex) : Ex := fun ρ m => (a ρ m).bind fun p => (b ρ p.2).bind fun q => g p.1 q.1 q.2
def eUn (g : D → Mem → Option (D × Mem)) (a : Ex) : Ex := fun ρ m => (a ρ m).bind fun p => g p.1 p.2
def aNil : Ax := fun _ m => some ([], m)
def aCons (a : Ex) (b : Ax) : Ax := fun ρ m => (a ρ m).bind fun p => (b ρ p.2).bind fun q => some (p.1 :: q.1, q.2)
def eCB (g : List D → Mem → Option (D × Mem)) (a : Ax) : Ex := fun ρ m => (a ρ m).bind fun p => g p.1 p.2
def eMt (ck : D → Mem → Bool) (g : D → List D → Mem → Option (D × Mem)) (o : Ex) (a : Ax) : Ex := fun ρ m => (o ρ m).bind fun p => if ck p.1 p.2 = true then (a ρ p.2).bind fun q => g p.1 q.1 q.2 else none
def tupD : List D → Mem → Option (D × Mem) := fun ds m => if ds.length ≤ 1000000 then some (.tup ds, m) else none
def lstD : List D → Mem → Option (D × Mem) := fun ds m => if ds.length ≤ 1000000 then some (.ref m.length, m ++ [.lst ds]) else none
def tC' (b : Bool) : Tx := fun _ m => some (b, m)
def tVal (a : Ex) : Tx := fun ρ m => (a ρ m).bind fun p => match p.1 with
  | .bl b => some (b, p.2)
  | _ => none
def truD : D → Mem → Option Bool
  | .non, _ => some false
  | .bl b, _ => some b
  | .int i, _ => some (i != 0)
  | .tup ds, _ => some (!ds.isEmpty)
  | .fl ds, _ => some (!ds.isEmpty)
  | .ref n, m => match m[n]? with
    | some (.lst ds) => some (!ds.isEmpty)
    | some (.dk kvs) => some (!kvs.isEmpty)
    | _ => none
  | _, _ => none
def tTru (a : Ex) : Tx := fun ρ m => (a ρ m).bind fun p => (truD p.1 p.2).bind fun b => some (b, p.2)
def tAnd' (a b : Tx) : Tx := fun ρ m => (a ρ m).bind fun p => if p.1 = true then b ρ p.2 else some (false, p.2)
def tOr' (a b : Tx) : Tx := fun ρ m => (a ρ m).bind fun p => if p.1 = true then some (true, p.2) else b ρ p.2
def tNot' (a : Tx) : Tx := fun ρ m => (a ρ m).bind fun p => some (!p.1, p.2)
def eIf (t : Tx) (a b : Ex) : Ex := fun ρ m => (t ρ m).bind fun p => if p.1 = true then a ρ p.2 else b ρ p.2
/-- a op b op' c -/
def eChain (g g' : D → D → Mem → Option (D × Mem)) (a b c : Ex) : Ex := fun ρ m => (a ρ m).bind fun p => (b ρ p.2).bind fun q => (g p.1 q.1 q.2).bind fun z => match z.1 with
  | .bl true => (c ρ z.2).bind fun w => g' q.1 w.1 w.2
  | .bl false => some (.bl false, z.2)
  | _ => none

theorem bnd {α β : Type} {o : Option α} {f : α → Option β} {b : β} (h : o.bind f = some b) : ∃ a, o = some a ∧ f a = some b := Option.bind_eq_some_iff.mp h

section
variable {X : Cx} {tb : List Addr} {a b c : Expr} {fa fb fc : Ex} {ta : Tx} {tb' : Tx} {pos : Pos}

theorem ex_var (i : Nat) {x : Str} (hN : X.N[i]? = some x := by rfl) (hv : Vis X.env.scope x := by first | exact Or.inl rfl | exact Or.inr (Or.inl rfl) | exact Or.inr (Or.inr rfl)) (hd : (x == ("__debug__" : Str)) = false := by decide)
    (hcd : (x == ("__classdict__" : Str)) = false := by decide) : PE X (.Name x pos) (T X.K tb (eVar i)) := by
  refine pe_mono (pe_var hN hv hd hcd) fun σ H Q h => ?_
  obtain ⟨φ, ρ, m, d, m', R, E, e, k⟩ := h
  unfold eVar at e
  split at e
  · rename_i d' hd'
    cases e
    obtain ⟨v, h1, h2⟩ := E.val i _ hd'
    exact ⟨v, h1, k φ H v .refl R h2⟩
  · cases e
theorem ex_int {i : Int} {j : Nat} : PE X (.Constant (.int i) j pos) (T X.K tb (eC (.int i))) := pe_mono pe_int fun σ H Q ⟨φ, ρ, m, d, m', R, E, e, k⟩ => by
  cases e; exact k φ H _ .refl R (.int i)
theorem ex_bl {i : Bool} {j : Nat} : PE X (.Constant (.bool i) j pos) (T X.K tb (eC (.bl i))) := pe_mono pe_bl fun σ H Q ⟨φ, ρ, m, d, m', R, E, e, k⟩ => by
  cases e; exact k φ H _ .refl R (.bl i)
theorem ex_str {i : Str} {j : Nat} : PE X (.Constant (.str i) j pos) (T X.K tb (eC (.str i))) := pe_mono pe_str fun σ H Q ⟨φ, ρ, m, d, m', R, E, e, k⟩ => by
  cases e; exact k φ H _ .refl R (.str i)
theorem ex_non {j : Nat} : PE X (.Constant .none j pos) (T X.K tb (eC .non)) := pe_mono pe_non fun σ H Q ⟨φ, ρ, m, d, m', R, E, e, k⟩ => by
  cases e; exact k φ H _ .refl R .non

/-- two in a row, then an operation -/
theorem op_go {r : R2} {g : D → D → Mem → Option (D × Mem)} (hs : OpS X.K tb r g) {σ : L2.St} {H : Hp} {Q : VK} (h : T X.K tb (eOp g fa fb) σ H Q) : tOp r (T X.K tb fa) (T X.K tb fb) σ H Q := by
  obtain ⟨φ, ρ, m, d, m', R, E, e, k⟩ := h
  obtain ⟨⟨d1, m1⟩, e1, e⟩ := bnd e
  obtain ⟨⟨d2, m2⟩, e2, e⟩ := bnd e
  refine ⟨φ, ρ, m, d1, m1, R, E, e1, fun φ1 H1 x P1 R1 V1 => ⟨φ1, ρ, m1, d2, m2, R1, E.mono P1 R, e2, fun φ2 H2 y P2 R2 V2 => ?_⟩⟩
  exact hs φ2 H2 m2 x y d1 d2 d m' Q R2 (V1.mono P2 R1) V2 e fun φ3 H3 v P3 R3 V3 => k φ3 H3 v (P1.trans (P2.trans P3)) R3 V3
theorem ex_op {op : Operator} {r : R2} {g : D → D → Mem → Option (D × Mem)} (ho : OpR X (binaryOp op) r) (hs : OpS X.K tb r g) (ha : PE X a (T X.K tb fa)) (hb : PE X b (T X.K tb fb)) : PE X (.BinOp a op b pos) (T X.K tb (eOp g fa fb)) :=
  pe_mono (pe_op ho ha hb) fun _ _ _ h => op_go hs h
theorem ex_cmp {op : CmpOp} {r : R2} {g : D → D → Mem → Option (D × Mem)} (ho : OpR X (compareOp op) r) (hs : OpS X.K tb r g) (ha : PE X a (T X.K tb fa)) (hb : PE X b (T X.K tb fb)) (hm : behindInMarks op b = false) : PE X (.Compare a [op] [b] pos) (T X.K tb (eOp g fa fb)) :=
  pe_mono (pe_cmpR ho ha hb hm) fun _ _ _ h => op_go hs h
theorem val_go {f : Ex} {σ : L2.St} {H : Hp} {Q : Bool → Hp → Prop} (h : Tt X.K tb (tVal f) σ H Q) : T X.K tb f σ H fun x H' => ∃ k, x = .bl k ∧ Q k H' := by
  obtain ⟨φ, ρ, m, d, m', R, E, e, k⟩ := h
  obtain ⟨⟨d1, m1⟩, e1, e⟩ := bnd e
  refine ⟨φ, ρ, m, d1, m1, R, E, e1, fun φ1 H1 x P1 R1 V1 => ?_⟩
  split at e
  · rename_i b' hb'
    have hb2 : d1 = .bl b' := hb'
    subst hb2
    cases e
    cases V1
    exact ⟨_, rfl, k φ1 H1 P1 R1⟩
  · cases e
theorem tx_cmp {op : CmpOp} {r : R2} {g : D → D → Mem → Option (D × Mem)} (ho : OpR X (compareOp op) r) (hs : OpS X.K tb r g) (ha : PE X a (T X.K tb fa)) (hb : PE X b (T X.K tb fb)) (hm : behindInMarks op b = false) : PT X (.Compare a [op] [b] pos) (Tt X.K tb (tVal (eOp g fa fb))) :=
  pt_mono (pt_cmpR ho ha hb hm) fun _ _ _ h => op_go hs (val_go h)
theorem chain_go {r r' : R2} {g g' : D → D → Mem → Option (D × Mem)} (hs : OpS X.K tb r g) (hs' : OpS X.K tb r' g') {σ : L2.St} {H : Hp} {Q : VK} (h : T X.K tb (eChain g g' fa fb fc) σ H Q) : tChain r r' (T X.K tb fa) (T X.K tb fb) (T X.K tb fc) σ H Q := by
  obtain ⟨φ, ρ, m, d, m', R, E, e, k⟩ := h
  obtain ⟨⟨d1, m1⟩, e1, e⟩ := bnd e
  obtain ⟨⟨d2, m2⟩, e2, e⟩ := bnd e
  obtain ⟨⟨d3, m3⟩, e3, e⟩ := bnd e
  refine ⟨φ, ρ, m, d1, m1, R, E, e1, fun φ1 H1 x P1 R1 V1 => ⟨φ1, ρ, m1, d2, m2, R1, E.mono P1 R, e2, fun φ2 H2 y P2 R2 V2 => ?_⟩⟩
  refine hs φ2 H2 m2 x y d1 d2 d3 m3 _ R2 (V1.mono P2 R1) V2 e3 fun φ3 H3 v P3 R3 V3 => ?_
  split at e
  · rename_i hb'
    have hb2 : d3 = .bl true := hb'
    subst hb2
    cases V3
    obtain ⟨⟨d4, m4⟩, e4, e⟩ := bnd e
    refine ⟨true, rfl, iteT ⟨φ3, ρ, m3, d4, m4, R3, E.mono (P1.trans (P2.trans P3)) R, e4, fun φ4 H4 z P4 R4 V4 => ?_⟩⟩
    exact hs' φ4 H4 m4 y z d2 d4 d m' Q R4 (V2.mono (P3.trans P4) R2) V4 e fun φ5 H5 v P5 R5 V5 => k φ5 H5 v (P1.trans (P2.trans (P3.trans (P4.trans P5)))) R5 V5
  · rename_i hb'
    have hb2 : d3 = .bl false := hb'
    subst hb2
    cases V3
    cases e
    exact ⟨false, rfl, iteF (k φ3 H3 _ (P1.trans (P2.trans P3)) R3 (.bl false))⟩
  · cases e
theorem ex_chain {op op' : CmpOp} {r r' : R2} {g g' : D → D → Mem → Option (D × Mem)} (ho : OpR X (compareOp op) r) (ho' : OpR X (compareOp op') r') (hs : OpS X.K tb r g) (hs' : OpS X.K tb r' g') (ha : PE X a (T X.K tb fa)) (hb : PE X b (T X.K tb fb)) (hc : PE X c (T X.K tb fc))
    (hm : lastMarks [op, op'] [b, c] = false := by with_unfolding_all rfl) : PE X (.Compare a [op, op'] [b, c] pos) (T X.K tb (eChain g g' fa fb fc)) := pe_mono (pe_chain ho ho' ha hb hc hm) fun _ _ _ h => chain_go hs hs' h
theorem tx_chain {op op' : CmpOp} {r r' : R2} {g g' : D → D → Mem → Option (D × Mem)} (ho : OpR X (compareOp op) r) (ho' : OpR X (compareOp op') r') (hs : OpS X.K tb r g) (hs' : OpS X.K tb r' g') (ha : PE X a (T X.K tb fa)) (hb : PE X b (T X.K tb fb)) (hc : PE X c (T X.K tb fc))
    (hm : lastMarks [op, op'] [b, c] = false := by with_unfolding_all rfl) : PT X (.Compare a [op, op'] [b, c] pos) (Tt X.K tb (tVal (eChain g g' fa fb fc))) := pt_mono (pt_chain ho ho' ha hb hc hm) fun _ _ _ h => chain_go hs hs' (val_go h)

theorem un_go {r : V → Hp → VK → Prop} {g : D → Mem → Option (D × Mem)} (hs : UnS X.K tb r g) {σ : L2.St} {H : Hp} {Q : VK} (h : T X.K tb (eUn g fa) σ H Q) : tUn r (T X.K tb fa) σ H Q := by
  obtain ⟨φ, ρ, m, d, m', R, E, e, k⟩ := h
  obtain ⟨⟨d1, m1⟩, e1, e⟩ := bnd e
  exact ⟨φ, ρ, m, d1, m1, R, E, e1, fun φ1 H1 x P1 R1 V1 => hs φ1 H1 m1 x d1 d m' Q R1 V1 e fun φ3 H3 v P3 R3 V3 => k φ3 H3 v (P1.trans P3) R3 V3⟩
theorem ex_un {op : UnaryOp} {r : V → Hp → VK → Prop} {g : D → Mem → Option (D × Mem)} (ho : UnR X (unaryOp op) r) (hs : UnS X.K tb r g) (ha : PE X a (T X.K tb fa)) : PE X (.UnaryOp op a pos) (T X.K tb (eUn g fa)) := pe_mono (pe_un ho ha) fun _ _ _ h => un_go hs h

/-! ### arguments, displays, calls -/
theorem ax_nil : PA X [] (Ta X.K tb aNil) := pa_mono pa_nil fun σ H Q ⟨φ, ρ, m, ds, m', R, E, e, k⟩ => by
  cases e; exact k φ H [] .refl R .nil
theorem ax_cons {es : List Expr} {f : Ax} (ha : PE X a (T X.K tb fa)) (hr : PA X es (Ta X.K tb f)) (hs : starEach (a :: es) X.env = (false, eval a X.env) :: starEach es X.env := by rfl) : PA X (a :: es) (Ta X.K tb (aCons fa f)) := by
  refine pa_mono (pa_cons ha hr hs) fun σ H Q ⟨φ, ρ, m, ds, m', R, E, e, k⟩ => ?_
  obtain ⟨⟨d1, m1⟩, e1, e⟩ := bnd e
  obtain ⟨⟨d2, m2⟩, e2, e⟩ := bnd e
  cases e
  exact ⟨φ, ρ, m, d1, m1, R, E, e1, fun φ1 H1 x P1 R1 V1 => ⟨φ1, ρ, m1, d2, _, R1, E.mono P1 R, e2, fun φ2 H2 y P2 R2 V2 => k φ2 H2 _ (P1.trans P2) R2 (.cons (V1.mono P2 R1) V2)⟩⟩
theorem cb_go {f : Ax} {r : List V → Hp → VK → Prop} {g : List D → Mem → Option (D × Mem)} (hs : CallS X.K tb r g) {σ : L2.St} {H : Hp} {Q : VK} (h : T X.K tb (eCB g f) σ H Q) : tCB r (Ta X.K tb f) σ H Q := by
  obtain ⟨φ, ρ, m, d, m', R, E, e, k⟩ := h
  obtain ⟨⟨ds, m1⟩, e1, e⟩ := bnd e
  exact ⟨φ, ρ, m, ds, m1, R, E, e1, fun φ1 H1 vs P1 R1 V1 => hs φ1 H1 m1 vs ds d m' Q R1 V1 e fun φ3 H3 v P3 R3 V3 => k φ3 H3 v (P1.trans P3) R3 V3⟩
theorem ex_callB {x : Str} {p : Pos} {es : List Expr} {id : String} {f : Ax} {r : List V → Hp → VK → Prop} {g : List D → Mem → Option (D × Mem)} (hs : CallS X.K tb r g) (hc : CallR X (.builtin id) r) (hg : Gl X x) (hm : X.mg x = none) (hv : bootBuiltins x = some (.builtin id)) (ha : PA X (a :: es) (Ta X.K tb f))
    (hn : x ≠ "__name__" := by decide) (hdb : (x == ("__debug__" : Str)) = false := by decide) (he : starEach (a :: es) X.env = (false, eval a X.env) :: starEach es X.env := by rfl) (hpl : (backTo pos (starEach es X.env)).any (·.1) = false := by rfl) :
    PE X (.Call (.Name x p) (a :: es) [] pos) (T X.K tb (eCB g f)) := pe_mono (pe_callB hc hg hm hv ha hn hdb he hpl) fun _ _ _ h => cb_go hs h
theorem ex_callTy {x : Str} {p : Pos} {es : List Expr} {id : String} {f : Ax} {r : List V → Hp → VK → Prop} {g : List D → Mem → Option (D × Mem)} (hs : CallS X.K tb r g) (hc : CallR X (.type id) r) (hg : Gl X x) (hm : X.mg x = none) (hv : bootBuiltins x = some (.type id)) (ha : PA X (a :: es) (Ta X.K tb f))
    (hn : x ≠ "__name__" := by decide) (hdb : (x == ("__debug__" : Str)) = false := by decide) (he : starEach (a :: es) X.env = (false, eval a X.env) :: starEach es X.env := by rfl) (hpl : (backTo pos (starEach es X.env)).any (·.1) = false := by rfl) :
    PE X (.Call (.Name x p) (a :: es) [] pos) (T X.K tb (eCB g f)) := pe_mono (pe_callTy hc hg hm hv ha hn hdb he hpl) fun _ _ _ h => cb_go hs h
theorem ex_tup {es : List Expr} {f : Ax} {x1} (h : PA X es (Ta X.K tb f)) : PE X (.Tuple es x1 pos) (T X.K tb (eCB tupD f)) := by
  refine pe_mono (pe_tup h) fun σ H Q ⟨φ, ρ, m, d, m', R, E, e, k⟩ => ?_
  obtain ⟨⟨ds, m1⟩, e1, e⟩ := bnd e
  refine ⟨φ, ρ, m, ds, m1, R, E, e1, fun φ1 H1 vs P1 R1 V1 => ?_⟩
  unfold tupD at e
  split at e
  · rename_i hl
    cases e
    refine ⟨small (by rw [← V1.length]; exact hl), fun p hp => k φ1 _ _ (P1.trans (Post.lay hp)) (R1.lay hp) (.tup (SqT.of upd_same) (V1.mono (Post.lay hp) R1))⟩
  · cases e
theorem ex_lst {es : List Expr} {f : Ax} (h : PA X es (Ta X.K tb f)) : PE X (.List es pos) (T X.K tb (eCB lstD f)) := by
  refine pe_mono (pe_lst h) fun σ H Q ⟨φ, ρ, m, d, m', R, E, e, k⟩ => ?_
  obtain ⟨⟨ds, m1⟩, e1, e⟩ := bnd e
  refine ⟨φ, ρ, m, ds, m1, R, E, e1, fun φ1 H1 vs P1 R1 V1 => ?_⟩
  unfold lstD at e
  split at e
  · rename_i hl
    cases e
    refine ⟨small (by rw [← V1.length]; exact hl), fun p hp => k _ _ _ (P1.trans (Post.newM hp)) (R1.newL hp V1) (rep_last R1)⟩
  · cases e
theorem ex_mt {T' id : String} {name : Str} {apos cpos : Pos} {es : List Expr} {fo : Ex} {f : Ax} {r : V → List V → Hp → VK → Prop} {g : D → List D → Mem → Option (D × Mem)} {ck : D → Mem → Bool} {o : Expr}
    (hck : ∀ φ H m d v, Rel X.K tb φ H m → Rep X.K φ H d v → ck d m = true → tyV X.K T' v H) (hs : MtS X.K tb r g)
    (pa : PlainAttrs T') (slot : Slot T' name id) (hty : typeOf (.builtin id) = pure (.type "method_descriptor")) (hm : MtR X id r) (ho : PE X o (T X.K tb fo)) (ha : PA X (a :: es) (Ta X.K tb f))
    (hbase : attributeBase o name X.env (eval o X.env) = eval o X.env := by rfl)
    (hfew : ((backTo cpos (starEach (a :: es) X.env)).all (fun x => !x.1) && (backToKw cpos (keywordEach [] X.env)).all (fun x => x.1.isSome)
      && decide ((a :: es).length + ([] : List Keyword).length + (if ([] : List Keyword).isEmpty then 0 else 1) < 30)) = true := by rfl)
    (hline : (apos.endLine == cpos.line) = true := by rfl) (hst : starEach (a :: es) X.env = (false, eval a X.env) :: starEach es X.env := by rfl) (hplain : (backTo cpos (starEach es X.env)).any (·.1) = false := by rfl) :
    PE X (.Call (.Attribute o name apos) (a :: es) [] cpos) (T X.K tb (eMt ck g fo f)) := by
  refine pe_mono (pe_bm pa slot hty hm ho ha hbase hfew hline hst hplain) fun σ H Q ⟨φ, ρ, m, d, m', R, E, e, k⟩ => ?_
  obtain ⟨⟨d1, m1⟩, e1, e⟩ := bnd e
  split at e
  · rename_i hc
    obtain ⟨⟨ds, m2⟩, e2, e⟩ := bnd e
    refine ⟨φ, ρ, m, d1, m1, R, E, e1, fun φ1 H1 x P1 R1 V1 => ⟨hck φ1 H1 m1 d1 x R1 V1 hc, φ1, ρ, m1, ds, m2, R1, E.mono P1 R, e2, fun φ2 H2 vs P2 R2 V2 => ?_⟩⟩
    exact hs φ2 H2 m2 x vs d1 ds d m' Q R2 (V1.mono P2 R1) V2 e fun φ3 H3 v P3 R3 V3 => k φ3 H3 v (P1.trans (P2.trans P3)) R3 V3
  · cases e

/-! ### tests -/
theorem tx_val {e : Expr} {f : Ex} (h : PE X e (T X.K tb f)) (he : ∀ whole, isTrue e X.env whole = (do let v ← whole; standAt e.pos; holding [v] (truthy v)) := by intro _; rfl) : PT X e (Tt X.K tb (tVal f)) :=
  pt_mono (pt_val h he) fun _ _ _ h => val_go h
theorem tx_tru {e : Expr} {f : Ex} (h : PE X e (T X.K tb f)) (he : ∀ whole, isTrue e X.env whole = (do let v ← whole; standAt e.pos; holding [v] (truthy v)) := by intro _; rfl) : PT X e (Tt X.K tb (tTru f)) := by
  refine pt_mono (pt_truth h he) fun σ H Q ⟨φ, ρ, m, b, m', R, E, e, k⟩ => ?_
  obtain ⟨⟨d1, m1⟩, e1, e⟩ := bnd e
  obtain ⟨b1, e2, e⟩ := bnd e
  cases e
  refine ⟨φ, ρ, m, d1, m1, R, E, e1, fun φ1 H1 x P1 R1 V1 => ⟨b, ?_, k φ1 H1 P1 R1⟩⟩
  have e2' : truD d1 m1 = some b := e2
  cases V1 with
  | non => cases e2'; rfl
  | bl b => cases e2'; rfl
  | int i => cases e2'; rfl
  | str x => cases e2'
  | tup h r => cases e2'; exact .inr (.inl ⟨_, h, by cases r <;> rfl⟩)
  | fl h r => cases e2'; exact .inl ⟨_, h.sq, by cases r <;> rfl⟩
  | @ref n a h =>
    simp only [truD] at e2'
    split at e2'
    · rename_i ds hm
      cases e2'
      obtain ⟨vs, q, r⟩ := R1.obj n _ a hm h
      exact .inl ⟨vs, SqL.of q, by cases r <;> rfl⟩
    · rename_i kvs hm
      cases e2'
      obtain ⟨vs, q, r1, r2⟩ := R1.obj n _ a hm h
      refine .inr (.inr ⟨vs, q, ?_⟩)
      have : kvs.length = vs.length := by simpa using congrArg List.length r1
      cases kvs <;> cases vs <;> simp_all
    · cases e2'
def pwt {e : Expr} {t : TT} (h : PW X e t) : PT X e t := h.pt
theorem tw_and1 (ha : PT X a (Tt X.K tb ta)) : PW X (.BoolOp .And [a] pos) (Tt X.K tb ta) := pw_and1 ha
theorem tw_or1 (ha : PT X a (Tt X.K tb ta)) : PW X (.BoolOp .Or [a] pos) (Tt X.K tb ta) := pw_or1 ha
theorem pw_mono {e : Expr} {t t' : TT} (h : PW X e t) (i : ∀ σ H Q, t' σ H Q → t σ H Q) : PW X e t' := ⟨fun w pins s σ H Q I q => h.run w pins s σ H Q I (i σ H Q q)⟩
theorem tw_and {rest : List Expr} (ha : PT X a (Tt X.K tb ta)) (hb : PW X (.BoolOp .And (b :: rest) pos) (Tt X.K tb tb')) : PW X (.BoolOp .And (a :: b :: rest) pos) (Tt X.K tb (tAnd' ta tb')) := by
  refine pw_mono (pw_and ha hb) fun σ H Q ⟨φ, ρ, m, d, m', R, E, e, k⟩ => ?_
  obtain ⟨⟨b1, m1⟩, e1, e⟩ := bnd e
  refine ⟨φ, ρ, m, b1, m1, R, E, e1, fun φ1 H1 P1 R1 => ?_⟩
  cases b1 with
  | true => exact iteT ⟨φ1, ρ, m1, d, m', R1, E.mono P1 R, e, fun φ2 H2 P2 R2 => k φ2 H2 (P1.trans P2) R2⟩
  | false => cases e; exact iteF (k φ1 H1 P1 R1)
theorem tw_or {rest : List Expr} (ha : PT X a (Tt X.K tb ta)) (hb : PW X (.BoolOp .Or (b :: rest) pos) (Tt X.K tb tb')) : PW X (.BoolOp .Or (a :: b :: rest) pos) (Tt X.K tb (tOr' ta tb')) := by
  refine pw_mono (pw_or ha hb) fun σ H Q ⟨φ, ρ, m, d, m', R, E, e, k⟩ => ?_
  obtain ⟨⟨b1, m1⟩, e1, e⟩ := bnd e
  refine ⟨φ, ρ, m, b1, m1, R, E, e1, fun φ1 H1 P1 R1 => ?_⟩
  cases b1 with
  | false => exact iteF ⟨φ1, ρ, m1, d, m', R1, E.mono P1 R, e, fun φ2 H2 P2 R2 => k φ2 H2 (P1.trans P2) R2⟩
  | true => cases e; exact iteT (k φ1 H1 P1 R1)
theorem tx_not (ha : PT X a (Tt X.K tb ta)) : PT X (.UnaryOp .Not a pos) (Tt X.K tb (tNot' ta)) := by
  refine pt_mono (pt_not ha) fun σ H Q ⟨φ, ρ, m, d, m', R, E, e, k⟩ => ?_
  obtain ⟨⟨b1, m1⟩, e1, e⟩ := bnd e
  cases e
  exact ⟨φ, ρ, m, b1, _, R, E, e1, fun φ1 H1 P1 R1 => k φ1 H1 P1 R1⟩
theorem ex_if (hc : PT X c (Tt X.K tb ta)) (ha : PE X a (T X.K tb fa)) (hb : PE X b (T X.K tb fb)) : PE X (.IfExp c a b pos) (T X.K tb (eIf ta fa fb)) := by
  refine pe_mono (pe_ifExp hc ha hb) fun σ H Q ⟨φ, ρ, m, d, m', R, E, e, k⟩ => ?_
  obtain ⟨⟨b1, m1⟩, e1, e⟩ := bnd e
  refine ⟨φ, ρ, m, b1, m1, R, E, e1, fun φ1 H1 P1 R1 => ?_⟩
  cases b1 with
  | true => exact iteT ⟨φ1, ρ, m1, d, m', R1, E.mono P1 R, e, fun φ2 H2 v P2 R2 => k φ2 H2 v (P1.trans P2) R2⟩
  | false => exact iteF ⟨φ1, ρ, m1, d, m', R1, E.mono P1 R, e, fun φ2 H2 v P2 R2 => k φ2 H2 v (P1.trans P2) R2⟩
/-- and, or, not as values: all but the last are True or False -/
def eAnd (a b : Ex) : Ex := fun ρ m => (tVal a ρ m).bind fun p => if p.1 = true then b ρ p.2 else some (.bl false, p.2)
def eOr (a b : Ex) : Ex := fun ρ m => (tVal a ρ m).bind fun p => if p.1 = true then some (.bl true, p.2) else b ρ p.2
def eNot (a : Ex) : Ex := fun ρ m => (tVal a ρ m).bind fun p => some (.bl (!p.1), p.2)
theorem ex_one {op} {f : Ex} (h : PE X a (T X.K tb f)) : PE X (.BoolOp op [a] pos) (T X.K tb f) := pe_one h
theorem ex_and {rest : List Expr} (ha : PE X a (T X.K tb fa)) (hb : PE X (.BoolOp .And (b :: rest) pos) (T X.K tb fb)) : PE X (.BoolOp .And (a :: b :: rest) pos) (T X.K tb (eAnd fa fb)) := by
  refine pe_mono (pe_and ha hb) fun σ H Q ⟨φ, ρ, m, d, m', R, E, e, k⟩ => ?_
  obtain ⟨⟨b1, m1⟩, e1, e⟩ := bnd e
  refine val_go (X := X) (Q := fun c H1 => if c = true then T X.K tb fb σ H1 Q else Q (.bl false) H1) ⟨φ, ρ, m, b1, m1, R, E, e1, fun φ1 H1 P1 R1 => ?_⟩
  cases b1 with
  | true => exact iteT ⟨φ1, ρ, m1, d, m', R1, E.mono P1 R, e, fun φ2 H2 v P2 R2 => k φ2 H2 v (P1.trans P2) R2⟩
  | false => cases e; exact iteF (k φ1 H1 _ P1 R1 (.bl false))
theorem ex_or {rest : List Expr} (ha : PE X a (T X.K tb fa)) (hb : PE X (.BoolOp .Or (b :: rest) pos) (T X.K tb fb)) : PE X (.BoolOp .Or (a :: b :: rest) pos) (T X.K tb (eOr fa fb)) := by
  refine pe_mono (pe_or ha hb) fun σ H Q ⟨φ, ρ, m, d, m', R, E, e, k⟩ => ?_
  obtain ⟨⟨b1, m1⟩, e1, e⟩ := bnd e
  refine val_go (X := X) (Q := fun c H1 => if c = true then Q (.bl true) H1 else T X.K tb fb σ H1 Q) ⟨φ, ρ, m, b1, m1, R, E, e1, fun φ1 H1 P1 R1 => ?_⟩
  cases b1 with
  | false => exact iteF ⟨φ1, ρ, m1, d, m', R1, E.mono P1 R, e, fun φ2 H2 v P2 R2 => k φ2 H2 v (P1.trans P2) R2⟩
  | true => cases e; exact iteT (k φ1 H1 _ P1 R1 (.bl true))
theorem ex_not (ha : PE X a (T X.K tb fa)) : PE X (.UnaryOp .Not a pos) (T X.K tb (eNot fa)) := by
  refine pe_mono (pe_not ha) fun σ H Q ⟨φ, ρ, m, d, m', R, E, e, k⟩ => ?_
  obtain ⟨⟨b1, m1⟩, e1, e⟩ := bnd e
  cases e
  exact val_go (X := X) (Q := fun c H1 => Q (.bl (!c)) H1) ⟨φ, ρ, m, b1, _, R, E, e1, fun φ1 H1 P1 R1 => k φ1 H1 _ P1 R1 (.bl _)⟩
end
end Pv
end
section
set_option Elab.async false
set_option linter.all false
set_option maxRecDepth 100000
set_option maxHeartbeats 1000000
/-! Operations on values. -/
namespace Pv
open PySem PySem.Spec PyProof.Rows L2

/-! ### numbers -/
def subD : D → D → Mem → Option (D × Mem)
  | .int i, .int j, m => some (.int (i - j), m)
  | _, _, _ => none
def cmpD (p : Int → Int → Bool) : D → D → Mem → Option (D × Mem)
  | .int i, .int j, m => some (.bl (p i j), m)
  | _, _, _ => none
def ltI (i j : Int) : Bool := decide (i < j)
def leI (i j : Int) : Bool := decide (i ≤ j)
def gtI (i j : Int) : Bool := decide (j < i)
def geI (i j : Int) : Bool := decide (j ≤ i)
open Classical in
noncomputable def intC (C : Int → Int → Prop) (g : Int → Int → Int) : D → D → Mem → Option (D × Mem)
  | .int i, .int j, m => if C i j then some (.int (g i j), m) else none
  | _, _, _ => none
def negD : D → Mem → Option (D × Mem)
  | .int i, m => some (.int (-i), m)
  | _, _ => none
def addD : D → D → Mem → Option (D × Mem)
  | .int i, .int j, m => some (.int (i + j), m)
  | .str i, .str j, m => if i.length + j.length ≤ 1000000 then some (.str (i ++ j), m) else none
  | .tup a, .tup b, m => if a.length + b.length ≤ 1000000 then some (.tup (a ++ b), m) else none
  | .ref p, .ref q, m => match m[p]?, m[q]? with
    | some (.lst a), some (.lst b) => if a.length + b.length ≤ 1000000 then some (.ref m.length, m ++ [.lst (a ++ b)]) else none
    | _, _ => none
  | _, _, _ => none
open Classical in
noncomputable def mulD : D → D → Mem → Option (D × Mem)
  | .int i, .int j, m => if CMul i j then some (.int (i * j), m) else none
  | .ref p, .int k, m => match m[p]? with
    | some (.lst a) => if -(2 ^ 63) ≤ k ∧ k < 2 ^ 63 ∧ a.length * k.toNat ≤ 1000000 then some (.ref m.length, m ++ [.lst (List.replicate k.toNat a).flatten]) else none
    | _ => none
  | _, _, _ => none

section
variable {K : FRG} {tb : List Addr}
theorem sub_s : OpS K tb (rI0 fun i j => .int (i - j)) subD := fun φ H m x y dx dy d m' Q R hx hy e k => by
  unfold subD at e
  split at e
  · cases e; cases hx; cases hy
    exact ⟨_, _, rfl, rfl, k φ H _ .refl R (.int _)⟩
  · cases e
theorem cmp_s {p : Int → Int → Bool} : OpS K tb (rI0 fun i j => .bl (p i j)) (cmpD p) := fun φ H m x y dx dy d m' Q R hx hy e k => by
  unfold cmpD at e
  split at e
  · cases e; cases hx; cases hy
    exact ⟨_, _, rfl, rfl, k φ H _ .refl R (.bl _)⟩
  · cases e
theorem intC_s {C : Int → Int → Prop} {g : Int → Int → Int} : OpS K tb (rI C fun i j => .int (g i j)) (intC C g) := fun φ H m x y dx dy d m' Q R hx hy e k => by
  unfold intC at e
  split at e
  · split at e
    · rename_i hc
      cases e; cases hx; cases hy
      exact ⟨_, _, rfl, rfl, hc, k φ H _ .refl R (.int _)⟩
    · cases e
  · cases e
theorem neg_s : UnS K tb (rU fun i => .int (-i)) negD := fun φ H m x dx d m' Q R hx e k => by
  unfold negD at e
  split at e
  · cases e; cases hx
    exact ⟨_, rfl, k φ H _ .refl R (.int _)⟩
  · cases e
abbrev rAdd (K : FRG) : R2 := fun x y H Q => (rI0 (fun i j => .int (i + j)) x y H Q) ∨ ((∃ i j, x = .str i ∧ y = .str j ∧ i.length + j.length ≤ sizeLine ∧ Q (.str (i ++ j)) H) ∨ (rCatA K x y H Q ∨ rCat x y H Q))
theorem op_addA {X : Cx} : OpR X (binaryOp .Add) (rAdd X.K) := op_add.or (op_add_str.or (op_catA.or op_cat))
theorem rep_lst {φ : List Addr} {H : Hp} {m : Mem} {n : Nat} {ds : List D} {v : V} (R : Rel K tb φ H m) (h : Rep K φ H (.ref n) v) (e : m[n]? = some (.lst ds)) : ∃ a vs, v = .ref a ∧ φ[n]? = some a ∧ H a = some (.lst vs) ∧ Reps K φ H ds vs := by
  cases h with
  | ref h =>
    obtain ⟨vs, q, r⟩ := R.obj n _ _ e h
    exact ⟨_, vs, rfl, h, q, r⟩
theorem add_s : OpS K tb (rAdd K) addD := fun φ H m x y dx dy d m' Q R hx hy e k => by
  unfold addD at e
  split at e
  · cases e; cases hx; cases hy
    exact .inl ⟨_, _, rfl, rfl, k φ H _ .refl R (.int _)⟩
  · split at e
    · rename_i hl
      cases e; cases hx; cases hy
      exact .inr (.inl ⟨_, _, rfl, rfl, small hl, k φ H _ .refl R (.str _)⟩)
    · cases e
  · split at e
    · rename_i hl
      cases e
      cases hx with
      | tup h1 r1 =>
        cases hy with
        | tup h2 r2 =>
          refine .inr (.inr (.inl ⟨_, _, _, _, rfl, rfl, h1, h2, small (by rw [← r1.length, ← r2.length]; exact hl), fun z => ?_, fun z1 z2 => ?_, fun z1 z2 p hp => ?_⟩))
          · subst z; cases r1; exact k φ H _ .refl R (.tup h2 r2)
          · subst z2; cases r2; rw [List.append_nil] at k; exact k φ H _ .refl R (.tup h1 r1)
          · exact k φ _ _ (Post.lay hp) (R.lay hp) (.tup (SqT.of upd_same) ((r1.app r2).mono (Post.lay hp) R))
    · cases e
  · split at e
    · rename_i e1 e2
      split at e
      · rename_i hl
        cases e
        obtain ⟨a1, v1, rfl, h1, q1, r1⟩ := rep_lst R hx e1
        obtain ⟨a2, v2, rfl, h2, q2, r2⟩ := rep_lst R hy e2
        refine .inr (.inr (.inr ⟨_, _, _, _, rfl, rfl, q1, q2, small (by rw [← r1.length, ← r2.length]; exact hl), fun p hp => ?_⟩))
        exact k _ _ _ (Post.newM hp) (R.newL hp (r1.app r2)) (rep_last R)
      · cases e
    · cases e
  · cases e
theorem Reps.rep : ∀ (n : Nat) {φ : List Addr} {H : Hp} {ds : List D} {vs : List V}, Reps K φ H ds vs → Reps K φ H (List.replicate n ds).flatten (List.replicate n vs).flatten
  | 0, _, _, _, _, _ => .nil
  | n + 1, _, _, _, _, r => by
    rw [List.replicate_succ, List.replicate_succ, List.flatten_cons, List.flatten_cons]
    exact r.app (Reps.rep n r)
abbrev rMul : R2 := fun x y H Q => (rI CMul (fun i j => .int (i * j)) x y H Q) ∨ rRep x y H Q
theorem op_mulA {X : Cx} : OpR X (binaryOp .Mult) rMul := op_mul.or op_rep
theorem mul_s : OpS K tb rMul mulD := fun φ H m x y dx dy d m' Q R hx hy e k => by
  unfold mulD at e
  split at e
  · split at e
    · rename_i hc
      cases e; cases hx; cases hy
      exact .inl ⟨_, _, rfl, rfl, hc, k φ H _ .refl R (.int _)⟩
    · cases e
  · split at e
    · rename_i e1
      split at e
      · rename_i hl
        cases e
        obtain ⟨a1, v1, rfl, h1, q1, r1⟩ := rep_lst R hx e1
        cases hy
        refine .inr ⟨_, _, _, rfl, rfl, q1, hl.1, hl.2.1, small (by rw [← r1.length]; exact hl.2.2), fun p hp => ?_⟩
        exact k _ _ _ (Post.newM hp) (R.newL hp (Reps.rep _ r1)) (rep_last R)
      · cases e
    · cases e
  · cases e

/-! ### data as a whole -/
mutual
def toPy (m : Mem) : Nat → D → Option PyData
  | _, .non => some .none
  | _, .bl b => some (.bool b)
  | _, .int i => some (.int i)
  | _, .str x => some (.str x)
  | n, .tup ds => (toPys m n ds).map .tuple
  | n, .fl ds => (toPys m n ds).map .list
  | 0, .ref _ => none
  | n + 1, .ref k => match m[k]? with
    | some (.lst ds) => (toPys m n ds).map .list
    | _ => none
  termination_by n d => (n, sizeOf d)
def toPys (m : Mem) : Nat → List D → Option (List PyData)
  | _, [] => some []
  | n, d :: ds => (toPy m n d).bind fun x => (toPys m n ds).bind fun xs => some (x :: xs)
  termination_by n ds => (n, sizeOf ds)
end
mutual
theorem toPy_dp {φ : List Addr} {H : Hp} {m : Mem} (R : Rel K tb φ H m) : ∀ (n : Nat) (d : D) (v : V) (p : PyData), Rep K φ H d v → toPy m n d = some p → Dp K H v p
  | n, .non, v, p, h, e => by cases h; rw [toPy] at e; cases e; exact .non
  | n, .bl b, v, p, h, e => by cases h; rw [toPy] at e; cases e; exact .bl b
  | n, .int i, v, p, h, e => by cases h; rw [toPy] at e; cases e; exact .int i
  | n, .str x, v, p, h, e => by cases h; rw [toPy] at e; cases e; exact .str x
  | n, .tup ds, v, p, h, e => by
    rw [toPy] at e
    obtain ⟨ps, e1, rfl⟩ := Option.map_eq_some_iff.mp e
    cases h with
    | tup h r => exact .tup h (toPys_dp R n ds _ ps r e1)
  | n, .fl ds, v, p, h, e => by
    rw [toPy] at e
    obtain ⟨ps, e1, rfl⟩ := Option.map_eq_some_iff.mp e
    cases h with
    | fl h r => exact .lst h.sq (toPys_dp R n ds _ ps r e1)
  | 0, .ref k, v, p, h, e => by rw [toPy] at e; cases e
  | n + 1, .ref k, v, p, h, e => by
    rw [toPy] at e
    split at e
    · rename_i ds hm
      obtain ⟨ps, e1, rfl⟩ := Option.map_eq_some_iff.mp e
      obtain ⟨a, vs, rfl, h1, q, r⟩ := rep_lst R h hm
      exact .lst (SqL.of q) (toPys_dp R n ds _ ps r e1)
    · cases e
  termination_by n d => (n, sizeOf d)
theorem toPys_dp {φ : List Addr} {H : Hp} {m : Mem} (R : Rel K tb φ H m) : ∀ (n : Nat) (ds : List D) (vs : List V) (ps : List PyData), Reps K φ H ds vs → toPys m n ds = some ps → DpAll K H vs ps
  | n, [], vs, ps, h, e => by cases h; rw [toPys] at e; cases e; exact .nil
  | n, d :: ds, vs, ps, h, e => by
    rw [toPys] at e
    obtain ⟨p, e1, e⟩ := bnd e
    obtain ⟨qs, e2, e⟩ := bnd e
    cases e
    cases h with
    | cons h r => exact .cons (toPy_dp R n d _ p h e1) (toPys_dp R n ds _ qs r e2)
  termination_by n ds => (n, sizeOf ds)
end
def fuel : Nat := 20
/-- scalars as the operators know them -/
def sc : D → Option V
  | .non => some .non
  | .bl b => some (.bl b)
  | .int i => some (.int i)
  | .str x => some (.str x)
  | _ => none
theorem sc_rep {φ : List Addr} {H : Hp} {d : D} {v w : V} (h : Rep K φ H d v) (e : sc d = some w) : v = w := by
  cases h <;> first | (cases e; rfl) | (cases e)
def eqB (neg : Bool) (dx dy : D) (m : Mem) : Option Bool := match sc dx, sc dy with
  | some x, some y => if scal x y = true then some (decide (x = y) != neg) else none
  | _, _ => match toPy m fuel dx, toPy m fuel dy with
    | some p, some q => if SeqAt.shaped p = true ∧ SeqAt.shaped q = true then some (PyData.eqv p q != neg) else none
    | _, _ => none
def eqD (neg : Bool) : D → D → Mem → Option (D × Mem) := fun dx dy m => (eqB neg dx dy m).map fun b => (.bl b, m)
abbrev rEqA (K : FRG) : R2 := fun x y H Q => rEq x y H Q ∨ rEqD K x y H Q
abbrev rNeA (K : FRG) : R2 := fun x y H Q => rNe x y H Q ∨ rNeD K x y H Q
theorem op_eqA {X : Cx} (hu : X.A.units + 64 < cLine) : OpR X (compareOp .Eq) (rEqA X.K) := op_eq.or (op_eqD hu)
theorem op_neA {X : Cx} (hu : X.A.units + 64 < cLine) : OpR X (compareOp .NotEq) (rNeA X.K) := op_ne.or (op_neD hu)
theorem eq_s : OpS K tb (rEqA K) (eqD false) := fun φ H m x y dx dy d m' Q R hx hy e k => by
  obtain ⟨b, e1, e2⟩ := Option.map_eq_some_iff.mp e
  cases e2
  unfold eqB at e1
  split at e1
  · rename_i a c h1 h2
    split at e1
    · rename_i hs
      cases e1
      rw [sc_rep hx h1, sc_rep hy h2]
      exact .inl ⟨hs, k φ H _ .refl R (by rw [Bool.bne_false]; exact .bl _)⟩
    · cases e1
  · split at e1
    · rename_i p q h1 h2
      split at e1
      · rename_i hs
        cases e1
        exact .inr ⟨p, q, toPy_dp R _ _ _ _ hx h1, toPy_dp R _ _ _ _ hy h2, hs.1, hs.2, k φ H _ .refl R (by rw [Bool.bne_false]; exact .bl _)⟩
      · cases e1
    · cases e1
theorem ne_s : OpS K tb (rNeA K) (eqD true) := fun φ H m x y dx dy d m' Q R hx hy e k => by
  obtain ⟨b, e1, e2⟩ := Option.map_eq_some_iff.mp e
  cases e2
  unfold eqB at e1
  split at e1
  · rename_i a c h1 h2
    split at e1
    · rename_i hs
      cases e1
      rw [sc_rep hx h1, sc_rep hy h2]
      exact .inl ⟨hs, k φ H _ .refl R (by rw [Bool.bne_true]; exact .bl _)⟩
    · cases e1
  · split at e1
    · rename_i p q h1 h2
      split at e1
      · rename_i hs
        cases e1
        exact .inr ⟨p, q, toPy_dp R _ _ _ _ hx h1, toPy_dp R _ _ _ _ hy h2, hs.1, hs.2, k φ H _ .refl R (by rw [Bool.bne_true]; exact .bl _)⟩
      · cases e1
    · cases e1

/-! ### places -/
def itemD (ds : List D) (i : Int) : Option D := atI ds i
def ixD : D → D → Mem → Option (D × Mem)
  | .tup ds, .int i, m => (atI ds i).map fun d => (d, m)
  | .fl ds, .int i, m => (atI ds i).map fun d => (d, m)
  | .ref n, .int i, m => match m[n]? with
    | some (.lst ds) => (atI ds i).map fun d => (d, m)
    | _ => none
  | _, _, _ => none
theorem Reps.at {φ : List Addr} {H : Hp} {ds : List D} {vs : List V} {i : Int} {d : D} (r : Reps K φ H ds vs) (e : atI ds i = some d) : ∃ v, atI vs i = some v ∧ Rep K φ H d v := by
  unfold atI at e ⊢
  obtain ⟨j, e1, e2⟩ := bnd e
  obtain ⟨v, h1, h2⟩ := r.get e2
  exact ⟨v, by rw [← r.length, e1]; exact h1, h2⟩
abbrev rIxLT (K : FRG) : R2 := fun x y H Q => rIxL K x y H Q ∨ rIxT K x y H Q
theorem ix_lt {X : Cx} : IxR X (rIxLT X.K) := ix_list.or ix_tup
theorem ix_s : OpS K tb (rIxLT K) ixD := fun φ H m x y dx dy d m' Q R hx hy e k => by
  unfold ixD at e
  split at e
  · obtain ⟨z, e1, e2⟩ := Option.map_eq_some_iff.mp e
    cases e2
    cases hy
    cases hx with
    | tup h r =>
      obtain ⟨v, h1, h2⟩ := r.at e1
      exact .inr ⟨_, _, _, v, rfl, rfl, h, h1, k φ H _ .refl R h2⟩
  · obtain ⟨z, e1, e2⟩ := Option.map_eq_some_iff.mp e
    cases e2
    cases hy
    cases hx with
    | fl h r =>
      obtain ⟨v, h1, h2⟩ := r.at e1
      exact .inl ⟨_, _, _, v, rfl, rfl, h.sq, h1, k φ H _ .refl R h2⟩
  · split at e
    · rename_i hm
      obtain ⟨z, e1, e2⟩ := Option.map_eq_some_iff.mp e
      cases e2
      cases hy
      obtain ⟨a, vs, rfl, h1, q, r⟩ := rep_lst R hx hm
      obtain ⟨v, h1, h2⟩ := r.at e1
      exact .inl ⟨_, _, _, v, rfl, rfl, SqL.of q, h1, k φ H _ .refl R h2⟩
    · cases e
  · cases e
theorem ex_ix {X : Cx} {tb : List Addr} {a b : Expr} {fa fb : Ex} {pos : Pos} (ha : PE X a (T X.K tb fa)) (hb : PE X b (T X.K tb fb)) (hs : PlainIx b := by exact fun _ _ => rfl) : PE X (.Subscript a b pos) (T X.K tb (eOp ixD fa fb)) :=
  pe_mono (pe_ix ix_lt ha hb hs) fun _ _ _ h => op_go ix_s h
/-- slices -/
abbrev Ox := Env → Mem → Option (Option Int × Mem)
def To (K : FRG) (tb : List Addr) (f : Ox) : TO := fun σ H Q => ∃ φ ρ m o m', Rel K tb φ H m ∧ RE K φ H ρ σ ∧ f ρ m = some (o, m') ∧ ∀ φ' H', Post φ H φ' H' → Rel K tb φ' H' m' → Q o H'
def oNone : Ox := fun _ m => some (none, m)
def oSome (a : Ex) : Ox := fun ρ m => (a ρ m).bind fun p => match p.1 with
  | .int i => some (some i, p.2)
  | _ => none
theorem po_mono {X : Cx} {e : Option Expr} {t t' : TO} (h : PO X e t) (i : ∀ σ H Q, t' σ H Q → t σ H Q) : PO X e t' := ⟨fun pins s σ H Q I q => h.run pins s σ H Q I (i σ H Q q)⟩
theorem ox_none {X : Cx} {tb : List Addr} : PO X none (To X.K tb oNone) := po_mono po_none fun σ H Q ⟨φ, ρ, m, d, m', R, E, e, k⟩ => by
  cases e; exact k φ H .refl R
theorem ox_some {X : Cx} {tb : List Addr} {a : Expr} {fa : Ex} (ha : PE X a (T X.K tb fa)) : PO X (some a) (To X.K tb (oSome fa)) := by
  refine po_mono (po_some ha) fun σ H Q ⟨φ, ρ, m, d, m', R, E, e, k⟩ => ?_
  obtain ⟨⟨d1, m1⟩, e1, e⟩ := bnd e
  refine ⟨φ, ρ, m, d1, m1, R, E, e1, fun φ1 H1 x P1 R1 V1 => ?_⟩
  split at e
  · rename_i i hi
    have hi' : d1 = .int i := hi
    subst hi'
    cases e; cases V1
    exact ⟨_, rfl, k φ1 H1 P1 R1⟩
  · cases e
def cutD (ds : List D) (lo hi : Option Int) : List D := (ds.drop (HT.sIx ds.length 0 lo)).take (HT.sIx ds.length ds.length hi - HT.sIx ds.length 0 lo)
def slD : D → Option Int → Option Int → Mem → Option (D × Mem)
  | .ref n, lo, hi, m => match m[n]? with
    | some (.lst ds) => some (.ref m.length, m ++ [.lst (cutD ds lo hi)])
    | _ => none
  | .tup ds, lo, hi, m => if cutD ds lo hi = [] ∨ (cutD ds lo hi).length = ds.length then none else some (.tup (cutD ds lo hi), m)
  | _, _, _, _ => none
def eSl (a : Ex) (lo hi : Ox) : Ex := fun ρ m => (a ρ m).bind fun p => (lo ρ p.2).bind fun l => (hi ρ l.2).bind fun h => slD p.1 l.1 h.1 h.2
theorem Reps.cut {φ : List Addr} {H : Hp} {ds : List D} {vs : List V} (r : Reps K φ H ds vs) (lo hi : Option Int) : Reps K φ H (cutD ds lo hi) (cutV vs lo hi) := by
  unfold cutD cutV
  rw [r.length]
  exact (r.drop _).take _
end
end Pv
end
section
set_option Elab.async false
set_option linter.all false
set_option maxRecDepth 100000
set_option maxHeartbeats 1000000
/-! Statements, loops, comprehensions, defs. -/
namespace Pv
open PySem PySem.Spec PyProof.Rows L2

abbrev rSlLT (K : FRG) : V → Option Int → Option Int → Hp → VK → Prop := fun x lo hi H Q => rSlL K x lo hi H Q ∨ rSlA K x lo hi H Q
theorem sl_lt {X : Cx} : SlR X (rSlLT X.K) := sl_list.or sl_tupA
def slcD : D → Option Int → Option Int → Mem → Option (D × Mem)
  | .ref n, lo, hi, m => match m[n]? with
    | some (.lst ds) => some (.ref m.length, m ++ [.lst (cutD ds lo hi)])
    | _ => none
  | .fl ds, lo, hi, m => some (.ref m.length, m ++ [.lst (cutD ds lo hi)])
  | .tup ds, lo, hi, m => some (.tup (cutD ds lo hi), m)
  | _, _, _, _ => none
def eSlc (a : Ex) (lo hi : Ox) : Ex := fun ρ m => (a ρ m).bind fun p => (lo ρ p.2).bind fun l => (hi ρ l.2).bind fun h => slcD p.1 l.1 h.1 h.2
theorem cut_whole {ds : List D} {lo hi : Option Int} (h : HT.sIx ds.length 0 lo = 0 ∧ HT.sIx ds.length ds.length hi = ds.length) : cutD ds lo hi = ds := by
  unfold cutD
  rw [h.1, h.2]
  simp
theorem ex_sl {X : Cx} {tb : List Addr} {a : Expr} {lo hi : Option Expr} {fa : Ex} {fl fh : Ox} {pos p2 : Pos} (ha : PE X a (T X.K tb fa)) (hl : PO X lo (To X.K tb fl)) (hh : PO X hi (To X.K tb fh)) : PE X (.Subscript a (.Slice lo hi none p2) pos) (T X.K tb (eSlc fa fl fh)) := by
  refine pe_mono (pe_slice sl_lt ha hl hh) fun σ H Q ⟨φ, ρ, m, d, m', R, E, e, k⟩ => ?_
  obtain ⟨⟨d1, m1⟩, e1, e⟩ := bnd e
  obtain ⟨⟨o2, m2⟩, e2, e⟩ := bnd e
  obtain ⟨⟨o3, m3⟩, e3, e⟩ := bnd e
  refine ⟨φ, ρ, m, d1, m1, R, E, e1, fun φ1 H1 x P1 R1 V1 => ⟨φ1, ρ, m1, o2, m2, R1, E.mono P1 R, e2, fun φ2 H2 P2 R2 => ⟨φ2, ρ, m2, o3, m3, R2, E.mono (P1.trans P2) R, e3, fun φ3 H3 P3 R3 => ?_⟩⟩⟩
  have V3 := V1.mono (P2.trans P3) R1
  have P := P1.trans (P2.trans P3)
  have e' : slcD d1 o2 o3 m3 = some (d, m') := e
  unfold slcD at e'
  split at e'
  · split at e'
    · rename_i hm
      cases e'
      obtain ⟨q, vs, rfl, h1, hq, r⟩ := rep_lst R3 V3 hm
      exact .inl ⟨q, vs, rfl, SqL.of hq, fun p hp => k _ _ _ (P.trans (Post.newM hp)) (R3.newL hp (r.cut _ _)) (rep_last R3)⟩
    · cases e'
  · cases e'
    cases V3 with
    | fl h r => exact .inl ⟨_, _, rfl, h.sq, fun p hp => k _ _ _ (P.trans (Post.newM hp)) (R3.newL hp (r.cut _ _)) (rep_last R3)⟩
  · cases e'
    cases V3 with
    | tup h r =>
      refine .inr ⟨_, _, rfl, h, fun z => ?_, fun z p hp => ?_⟩
      · rw [← r.length] at z
        rw [cut_whole z] at k
        exact k _ _ _ P R3 (.tup h r)
      · exact k _ _ _ (P.trans (Post.lay hp)) (R3.lay hp) (.tup (SqT.of upd_same) ((r.cut _ _).mono (Post.lay hp) R3))
  · cases e'

/-! ### blocks -/
def sNil : Sx := fun ρ m => some (.nx, ρ, m)
def sSeq (a b : Sx) : Sx := fun ρ m => (a ρ m).bind fun r => match r.1 with
  | .nx => b r.2.1 r.2.2
  | o => some (o, r.2.1, r.2.2)
def sRet (a : Ex) : Sx := fun ρ m => (a ρ m).bind fun p => some (.ret p.1, ρ, p.2)
def sRetN : Sx := fun ρ m => some (.ret .non, ρ, m)
def sDrop (a : Ex) : Sx := fun ρ m => (a ρ m).bind fun p => some (.nx, ρ, p.2)
def sIf (t : Tx) (a b : Sx) : Sx := fun ρ m => (t ρ m).bind fun p => if p.1 = true then a ρ p.2 else b ρ p.2
def sSet (i : Nat) (a : Ex) : Sx := fun ρ m => (a ρ m).bind fun p => some (.nx, ρ.set i (some p.1), p.2)
/-- o[i] = e: e first -/
def putD : D → D → D → Mem → Option Mem
  | .ref n, .int i, d, m => match m[n]? with
    | some (.lst ds) => (ixN ds.length i).map fun j => m.set n (.lst (ds.set j d))
    | _ => none
  | _, _, _, _ => none
def sPut (o i a : Ex) : Sx := fun ρ m => (a ρ m).bind fun p => (o ρ p.2).bind fun q => (i ρ q.2).bind fun r => (putD q.1 r.1 p.1 r.2).bind fun m' => some (.nx, ρ, m')
section
variable {X : Cx} {tb : List Addr} {a b c : Expr} {fa fb fc : Ex} {ft : Tx} {st : Stmt} {rest rest' : List Stmt} {g h : Sx} {pos : Pos}
theorem OutK.post {K : FRG} {φ φ1 : List Addr} {H H1 : Hp} {m' : Mem} {o : Out} {ρ' : Env} {E : Ends} (P : Post φ H φ1 H1) (k : ∀ φ' H', Post φ H φ' H' → Rel K tb φ' H' m' → OutK K φ' H' E ρ' o) : ∀ φ' H', Post φ1 H1 φ' H' → Rel K tb φ' H' m' → OutK K φ' H' E ρ' o :=
  fun φ' H' Q R => k φ' H' (P.trans Q) R
theorem bs_nil : PSs X [] (Ts X.K tb sNil) := pss_mono pss_nil fun D σ H ⟨φ, ρ, m, o, ρ', m', R, E, e, k⟩ => by
  cases e; exact k φ H .refl R σ E
theorem bs_cons (h1 : PS X st (Ts X.K tb g)) (h2 : PSs X rest (Ts X.K tb h)) : PSs X (st :: rest) (Ts X.K tb (sSeq g h)) := by
  refine pss_mono (pss_cons h1 h2) fun D σ H ⟨φ, ρ, m, o, ρ', m', R, E, e, k⟩ => ?_
  obtain ⟨⟨o1, ρ1, m1⟩, e1, e⟩ := bnd e
  refine ⟨φ, ρ, m, o1, ρ1, m1, R, E, e1, fun φ1 H1 P1 R1 => ?_⟩
  cases o1 with
  | nx => exact fun σ1 E1 => ⟨φ1, ρ1, m1, o, ρ', m', R1, E1, e, OutK.post P1 k⟩
  | bk => cases e; exact k φ1 H1 P1 R1
  | ct => cases e; exact k φ1 H1 P1 R1
  | ret d => cases e; exact k φ1 H1 P1 R1
theorem bs_one (h1 : PS X st (Ts X.K tb g)) : PSs X [st] (Ts X.K tb g) := pss_one h1
theorem bs_ret (ha : PE X a (T X.K tb fa)) : PS X (.Return (some a) pos) (Ts X.K tb (sRet fa)) := by
  refine ps_mono (ps_ret ha) fun D σ H ⟨φ, ρ, m, o, ρ', m', R, E, e, k⟩ => ?_
  obtain ⟨⟨d1, m1⟩, e1, e⟩ := bnd e
  cases e
  exact ⟨φ, ρ, m, d1, _, R, E, e1, fun φ1 H1 v P1 R1 V1 => k φ1 H1 P1 R1 v V1⟩
theorem bs_retN : PS X (.Return none pos) (Ts X.K tb sRetN) := ps_mono ps_retN fun D σ H ⟨φ, ρ, m, o, ρ', m', R, E, e, k⟩ => by
  cases e; exact k φ H .refl R _ .non
theorem bs_drop (ha : PE X a (T X.K tb fa)) (hs : swapsWith a none pos.line X.env = pure false := by rfl) : PS X (.Expr a pos) (Ts X.K tb (sDrop fa)) := by
  refine ps_mono (ps_expr ha hs) fun D σ H ⟨φ, ρ, m, o, ρ', m', R, E, e, k⟩ => ?_
  obtain ⟨⟨d1, m1⟩, e1, e⟩ := bnd e
  cases e
  exact ⟨φ, ρ, m, d1, _, R, E, e1, fun φ1 H1 v P1 R1 V1 => k φ1 H1 P1 R1 σ (E.mono P1 R)⟩
theorem bs_if (hc : PT X c (Tt X.K tb ft)) (h1 : PSs X rest (Ts X.K tb g)) (h2 : PSs X rest' (Ts X.K tb h)) : PS X (.If c rest rest' pos) (Ts X.K tb (sIf ft g h)) := by
  refine ps_mono (ps_if hc h1 h2) fun D σ H ⟨φ, ρ, m, o, ρ', m', R, E, e, k⟩ => ?_
  obtain ⟨⟨b1, m1⟩, e1, e⟩ := bnd e
  refine ⟨φ, ρ, m, b1, m1, R, E, e1, fun φ1 H1 P1 R1 => ?_⟩
  cases b1 with
  | true => exact iteT ⟨φ1, ρ, m1, o, ρ', m', R1, E.mono P1 R, e, OutK.post P1 k⟩
  | false => exact iteF ⟨φ1, ρ, m1, o, ρ', m', R1, E.mono P1 R, e, OutK.post P1 k⟩
theorem set_go {i : Nat} {D : Ends} {σ : L2.St} {H : Hp} (h : Ts X.K tb (sSet i fa) D σ H) : tAsg (T X.K tb fa) (gName i) D σ H := by
  obtain ⟨φ, ρ, m, o, ρ', m', R, E, e, k⟩ := h
  obtain ⟨⟨d1, m1⟩, e1, e⟩ := bnd e
  cases e
  exact ⟨φ, ρ, m, d1, _, R, E, e1, fun φ1 H1 v P1 R1 V1 => k φ1 H1 P1 R1 _ ((E.mono P1 R).set i V1)⟩
theorem bs_set (i : Nat) {x : Str} {pos' : Pos} (hN : X.N.Nodup) (ha : PE X a (T X.K tb fa)) (hi : X.N[i]? = some x := by rfl) (hx : Loc X.env.scope x := by first | exact Or.inl rfl | exact Or.inr rfl) (hs : swapsWith a (some (.Name x pos')) pos.line X.env = pure false := by rfl)
    (hf : X.fn x = true ∨ X.env.scope.names.lookup x = some .local := by first | exact .inl rfl | exact .inr rfl | assumption) : PS X (.Assign [.Name x pos'] a pos) (Ts X.K tb (sSet i fa)) :=
  ps_mono (ps_set hN hi hx ha hs hf) fun _ _ _ h => set_go h
theorem bs_put {o i : Expr} {fo fi : Ex} {tpos : Pos} (ho : PE X o (T X.K tb fo)) (hi : PE X i (T X.K tb fi)) (ha : PE X a (T X.K tb fa))
    (hss : ∀ v, assign (.Subscript o i tpos) X.env v = (do
      let ov ← holding [v] (eval o X.env)
      let iv ← holding [v, ov] (eval i X.env)
      standAt tpos
      holding [v, ov, iv] (setItem ov iv v)
      release [v, ov, iv] []) := by intro _; rfl)
    (hs : swapsWithSole [.Subscript o i tpos] a pos.line X.env = pure false := by rfl) (hw : swappedStores [.Subscript o i tpos] a X.env = pure none := by rfl)
    (h1 : (assignEach [.Subscript o i tpos] X.env).map (·.2) = [assign (.Subscript o i tpos) X.env] := by rfl) : PS X (.Assign [.Subscript o i tpos] a pos) (Ts X.K tb (sPut fo fi fa)) := by
  refine ps_mono (ps_asg ha (pg_sub ho hi set_list hss) hs hw h1) fun D σ H ⟨φ, ρ, m, o', ρ', m', R, E, e, k⟩ => ?_
  obtain ⟨⟨d1, m1⟩, e1, e⟩ := bnd e
  obtain ⟨⟨d2, m2⟩, e2, e⟩ := bnd e
  obtain ⟨⟨d3, m3⟩, e3, e⟩ := bnd e
  obtain ⟨m4, e4, e⟩ := bnd e
  cases e
  refine ⟨φ, ρ, m, d1, m1, R, E, e1, fun φ1 H1 v P1 R1 V1 => ⟨φ1, ρ, m1, d2, m2, R1, E.mono P1 R, e2, fun φ2 H2 x P2 R2 V2 => ⟨φ2, ρ, m2, d3, m3, R2, E.mono (P1.trans P2) R, e3, fun φ3 H3 y P3 R3 V3 => ?_⟩⟩⟩
  have e4' : putD d2 d3 d1 m3 = some m' := e4
  unfold putD at e4'
  split at e4'
  · split at e4'
    · rename_i hm
      obtain ⟨j, hj, rfl⟩ := Option.map_eq_some_iff.mp e4'
      cases V3
      obtain ⟨q, vs, rfl, h1, hq, r⟩ := rep_lst R3 (V2.mono P3 R2) hm
      have V1' := V1.mono (P2.trans P3) R1
      have hmem := List.mem_of_getElem? h1
      have Pw := Post.wr (o := .lst (vs.set j v)) hmem (R3.trk hmem)
      refine ⟨q, vs, _, j, rfl, rfl, hq, by rw [← r.length]; exact hj, ?_⟩
      have P := P1.trans (P2.trans (P3.trans Pw))
      exact k φ3 _ P (R3.wrL h1 (r.set V1' j)) σ (E.mono P R)
    · cases e4'
  · cases e4'
end

/-! ### what a loop walks -/
inductive Itm where
  | seq (ds : List D)
  | lst (n : Nat)
def itemsAt : Itm → Mem → Option (List D)
  | .seq ds, _ => some ds
  | .lst n, m => match m[n]? with
    | some (.lst ds) => some ds
    | _ => none
abbrev Ix := Env → Mem → Option (Itm × Mem)
def ItR (K : FRG) (tb : List Addr) (φ' : List Addr) (H' : Hp) (J : It) (it : Itm) : Prop := ∀ φ2 H2 m2 xs, Post φ' H' φ2 H2 → Rel K tb φ2 H2 m2 → itemsAt it m2 = some xs →
  (∀ (i : Nat) (d : D), xs[i]? = some d → J.go i H2 ∧ ∀ x H3, J.yld i H2 x H3 → Post φ2 H2 φ2 H3 ∧ Rel K tb φ2 H3 m2 ∧ Rep K φ2 H3 d x ∧ (∀ b o, H2 b = some o → H3 b = some o)) ∧ ∀ i, xs.length ≤ i → J.stop i H2
def Ti (K : FRG) (tb : List Addr) (f : Ix) : TI := fun σ H Q => ∃ φ ρ m it m', Rel K tb φ H m ∧ RE K φ H ρ σ ∧ f ρ m = some (it, m') ∧ ∀ φ' H' J, Post φ H φ' H' → Rel K tb φ' H' m' → ItR K tb φ' H' J it → Q J H'
theorem pi_mono {X : Cx} {tg e : Expr} {t t' : TI} (h : PI X tg e t) (i : ∀ σ H Q, t' σ H Q → t σ H Q) : PI X tg e t' := ⟨fun pins s σ H Q I q => h.run pins s σ H Q I (i σ H Q q)⟩
theorem pi_or {X : Cx} {tg e : Expr} {t t' : TI} (h : PI X tg e t) (h' : PI X tg e t') : PI X tg e (fun σ H Q => t σ H Q ∨ t' σ H Q) := ⟨fun pins s σ H Q I q => q.elim (h.run pins s σ H Q I) (h'.run pins s σ H Q I)⟩
def srcD : D → Mem → Option Itm
  | .tup ds, _ => some (.seq ds)
  | .fl ds, _ => some (.seq ds)
  | .ref n, m => match m[n]? with
    | some (.lst _) => some (.lst n)
    | _ => none
  | _, _ => none
def iSeq (a : Ex) : Ix := fun ρ m => (a ρ m).bind fun p => (srcD p.1 p.2).bind fun it => some (it, p.2)
theorem Rep.is {K : FRG} {φ : List Addr} {H : Hp} {d : D} {v w : V} (h : Rep K φ H d v) (e : v = w) : Rep K φ H d w := e ▸ h
theorem ix_seq' {X : Cx} {tb : List Addr} {tg a : Expr} {fa : Ex} (ha : PE X a (T X.K tb fa)) : PI X tg a (Ti X.K tb (iSeq fa)) := by
  refine pi_mono (pi_or (pi_list ha) (pi_tup ha)) fun σ H Q ⟨φ, ρ, m, it, m', R, E, e, k⟩ => ?_
  obtain ⟨⟨d1, m1⟩, e1, e⟩ := bnd e
  obtain ⟨it', e2, e⟩ := bnd e
  obtain ⟨rfl, rfl⟩ : it' = it ∧ m1 = m' := by cases e; exact ⟨rfl, rfl⟩
  have e2' : srcD d1 m1 = some it' := e2
  unfold srcD at e2'
  split at e2'
  · cases e2'
    refine .inr ⟨φ, ρ, m, _, m1, R, E, e1, fun φ1 H1 v P1 R1 V1 => ?_⟩
    cases V1 with
    | tup h r =>
      refine ⟨_, rfl, ⟨_, h⟩, k φ1 H1 _ P1 R1 fun φ2 H2 m2 xs P2 R2 ex => ?_⟩
      cases ex
      have h2 := P2.sqT R1 h
      have r2 := r.mono P2 R1
      refine ⟨fun i d hd => ?_, fun i hi => ⟨_, h2, by rw [← r2.length]; exact hi⟩⟩
      obtain ⟨w, hw, rw⟩ := r2.get hd
      refine ⟨⟨_, w, h2, hw⟩, fun x H3 hy => ?_⟩
      obtain ⟨rfl, hy⟩ := hy
      exact ⟨.refl, R2, rw.is (Option.some.inj (hw.symm.trans (hy _ h2))), fun _ _ z => z⟩
  · cases e2'
    refine .inl ⟨φ, ρ, m, _, m1, R, E, e1, fun φ1 H1 v P1 R1 V1 => ?_⟩
    cases V1 with
    | fl h r =>
      refine ⟨_, rfl, ⟨_, h.sq⟩, k φ1 H1 _ P1 R1 fun φ2 H2 m2 xs P2 R2 ex => ?_⟩
      cases ex
      have h2 := (P2.fz R1 h).sq
      have r2 := r.mono P2 R1
      refine ⟨fun i d hd => ?_, fun i hi => ⟨_, h2, by rw [← r2.length]; exact hi⟩⟩
      obtain ⟨w, hw, rw⟩ := r2.get hd
      refine ⟨⟨_, w, h2, hw⟩, fun x H3 hy => ?_⟩
      obtain ⟨rfl, hy⟩ := hy
      exact ⟨.refl, R2, rw.is (Option.some.inj (hw.symm.trans (hy _ h2))), fun _ _ z => z⟩
  · rename_i n _
    split at e2'
    · rename_i ds0 hm
      cases e2'
      refine .inl ⟨φ, ρ, m, _, m1, R, E, e1, fun φ1 H1 v P1 R1 V1 => ?_⟩
      obtain ⟨q, vs, rfl, h1, hq, r⟩ := rep_lst R1 V1 hm
      refine ⟨q, rfl, ⟨_, SqL.of hq⟩, k φ1 H1 _ P1 R1 fun φ2 H2 m2 xs P2 R2 ex => ?_⟩
      have hm2 : m2[n]? = some (.lst xs) := by
        unfold itemsAt at ex
        split at ex
        · rename_i heq
          cases heq
        · rename_i heq
          cases heq
          split at ex
          · rename_i h9
            cases ex
            exact h9
          · cases ex
      obtain ⟨vs2, hq2, r2⟩ := R2.obj n _ q hm2 (pre_get P2.pre h1)
      have h2 : SqL X.K H2 q vs2 := SqL.of hq2
      refine ⟨fun i d hd => ?_, fun i hi => ⟨_, h2, by rw [← r2.length]; exact hi⟩⟩
      obtain ⟨w, hw, rw⟩ := r2.get hd
      refine ⟨⟨_, w, h2, hw⟩, fun x H3 hy => ?_⟩
      obtain ⟨rfl, hy⟩ := hy
      exact ⟨.refl, R2, rw.is (Option.some.inj (hw.symm.trans (hy _ h2))), fun _ _ z => z⟩
    · cases e2'
  · cases e2'
/-- range(n), range(a, b) -/
def rngD (lo : Int) (n : Nat) : List D := (List.range n).map fun (i : Nat) => D.int (lo + (i : Int))
def iRngA (a : Ax) : Ix := fun ρ m => (a ρ m).bind fun p => match p.1 with
  | [.int j] => if -1000000000 ≤ j ∧ j ≤ 1000000000 then some (.seq (rngD 0 j.toNat), p.2) else none
  | _ => none
def iRngB (a : Ax) : Ix := fun ρ m => (a ρ m).bind fun p => match p.1 with
  | [.int i, .int j] => if -1000000000 ≤ i ∧ i ≤ 1000000000 ∧ -1000000000 ≤ j ∧ j ≤ 1000000000 then some (.seq (rngD i (j - i).toNat), p.2) else none
  | _ => none
theorem itr_r {K : FRG} {tb φ : List Addr} {H : Hp} {lo : Int} {n : Nat} : ItR K tb φ H (Itr lo n) (.seq (rngD lo n)) := fun φ2 H2 m2 xs P2 R2 ex => by
  cases ex
  have hl : (rngD lo n).length = n := by simp [rngD]
  refine ⟨fun i d hd => ?_, fun i hi => by rw [hl] at hi; exact hi⟩
  have hi : i < n := by rw [← hl]; exact (List.getElem?_eq_some_iff.mp hd).1
  refine ⟨hi, fun x H3 hy => ?_⟩
  obtain ⟨rfl, rfl⟩ := hy
  have e : (rngD lo n)[i]? = some (.int (lo + i)) := by simp [rngD, hi]
  rw [e] at hd
  cases hd
  exact ⟨.refl, R2, .int _, fun _ _ z => z⟩
theorem ix_rng1 {X : Cx} {tb : List Addr} {tg a : Expr} {f : Ax} {p pos : Pos} (hg : Gl X "range") (hm : X.mg "range" = none) (ha : PA X [a] (Ta X.K tb f)) (hs : starEach [a] X.env = [(false, eval a X.env)] := by rfl) : PI X tg (.Call (.Name "range" p) [a] [] pos) (Ti X.K tb (iRngA f)) := by
  refine pi_mono (pi_range1 hg hm ha hs) fun σ H Q ⟨φ, ρ, m, it, m', R, E, e, k⟩ => ?_
  obtain ⟨⟨ds, m1⟩, e1, e⟩ := bnd e
  refine ⟨φ, ρ, m, ds, m1, R, E, e1, fun φ1 H1 vs P1 R1 V1 => ?_⟩
  split at e
  · rename_i j hj
    have hj' : ds = [.int j] := hj
    subst hj'
    split at e
    · rename_i hb
      cases e
      cases V1 with
      | cons h1 r1 =>
        cases r1
        cases h1
        exact ⟨j, rfl, by omega, by omega, k φ1 H1 _ P1 R1 itr_r⟩
    · cases e
  · cases e
theorem ix_rng2 {X : Cx} {tb : List Addr} {tg a b : Expr} {f : Ax} {p pos : Pos} (hg : Gl X "range") (hm : X.mg "range" = none) (ha : PA X [a, b] (Ta X.K tb f)) (hs : starEach [a, b] X.env = [(false, eval a X.env), (false, eval b X.env)] := by rfl) (hs2 : starEach [b] X.env = [(false, eval b X.env)] := by rfl) :
    PI X tg (.Call (.Name "range" p) [a, b] [] pos) (Ti X.K tb (iRngB f)) := by
  refine pi_mono (pi_range2 hg hm ha hs hs2) fun σ H Q ⟨φ, ρ, m, it, m', R, E, e, k⟩ => ?_
  obtain ⟨⟨ds, m1⟩, e1, e⟩ := bnd e
  refine ⟨φ, ρ, m, ds, m1, R, E, e1, fun φ1 H1 vs P1 R1 V1 => ?_⟩
  split at e
  · rename_i i j hj
    have hj' : ds = [.int i, .int j] := hj
    subst hj'
    split at e
    · rename_i hb
      cases e
      cases V1 with
      | cons h1 r1 =>
        cases r1 with
        | cons h2 r2 =>
          cases r2
          cases h1
          cases h2
          exact ⟨i, j, rfl, ⟨by omega, by omega, by omega, by omega⟩, k φ1 H1 _ P1 R1 itr_r⟩
    · cases e
  · cases e

/-! ### targets -/
abbrev Gx := D → Env → Option Env
def gN (i : Nat) : Gx := fun d ρ => some (ρ.set i (some d))
def gL : List Gx → List D → Env → Option Env
  | [], [], ρ => some ρ
  | g :: gs, d :: ds, ρ => (g d ρ).bind fun ρ1 => gL gs ds ρ1
  | _, _, _ => none
def gT (gs : List Gx) : Gx := fun d ρ => match d with
  | .tup ds => gL gs ds ρ
  | _ => none
def TgS (K : FRG) (tb : List Addr) (g : TG) (t : Gx) : Prop := ∀ φ H m ρ σ d v ρ' (Q : L2.St → Hp → Prop), Rel K tb φ H m → RE K φ H ρ σ → Rep K φ H d v → t d ρ = some ρ' → (∀ σ', RE K φ H ρ' σ' → Q σ' H) → g v σ H Q
def TgsS (K : FRG) (tb : List Addr) (g : TGs) (t : List Gx) : Prop := ∀ φ H m ρ σ ds vs ρ' (Q : L2.St → Hp → Prop), Rel K tb φ H m → RE K φ H ρ σ → Reps K φ H ds vs → gL t ds ρ = some ρ' → (∀ σ', RE K φ H ρ' σ' → Q σ' H) → g vs σ H Q
/-- the target's slots are among vs -/
def TgW (g : TG) (vs : List Nat) : Prop := ∀ v σ H (Q : L2.St → Hp → Prop), g v σ H Q → g v σ H fun σ2 H2 => wipe σ2 vs = wipe σ vs ∧ Q σ2 H2
def TgsW (g : TGs) (vs : List Nat) : Prop := ∀ v σ H (Q : L2.St → Hp → Prop), g v σ H Q → g v σ H fun σ2 H2 => wipe σ2 vs = wipe σ vs ∧ Q σ2 H2
theorem wipe_set {σ : L2.St} {x : Option V} : ∀ {vs : List Nat} {i : Nat}, i ∈ vs → wipe (σ.set i x) vs = wipe σ vs
  | [], i, h => by simp at h
  | w :: ws, i, h => by
    unfold wipe
    by_cases hi : i ∈ ws
    · rw [wipe_set hi]
    · have e : i = w := by
        rcases List.mem_cons.mp h with z | z
        · exact z
        · exact absurd z hi
      subst e
      have comm : ∀ (ws : List Nat) (τ : L2.St), i ∉ ws → wipe (τ.set i x) ws = (wipe τ ws).set i x := by
        intro ws
        induction ws with
        | nil => intro τ _; rfl
        | cons u us ih =>
          intro τ hn
          unfold wipe
          rw [ih τ fun z => hn (List.mem_cons_of_mem _ z), List.set_comm _ _ fun z => hn (by rw [z]; exact List.mem_cons_self)]
      rw [comm ws σ hi]
      simp
theorem wipe_wipe {σ : L2.St} (vs : List Nat) : wipe (wipe σ vs) vs = wipe σ vs := by
  have gen : ∀ (ws : List Nat), (∀ i ∈ ws, i ∈ vs) → wipe (wipe σ ws) vs = wipe σ vs := by
    intro ws
    induction ws with
    | nil => intro _; rfl
    | cons u us ih =>
      intro h
      show wipe ((wipe σ us).set u none) vs = _
      rw [wipe_set (h u List.mem_cons_self)]
      exact ih fun i hi => h i (List.mem_cons_of_mem _ hi)
  exact gen vs fun _ h => h
theorem tg_name {K : FRG} {tb : List Addr} (i : Nat) : TgS K tb (gName i) (gN i) := fun φ H m ρ σ d v ρ' Q R E V e k => by
  cases e; exact k _ (E.set i V)
theorem tw_name (i : Nat) {vs : List Nat} (h : i ∈ vs) : TgW (gName i) vs := fun v σ H Q q => ⟨wipe_set h, q⟩
theorem tgs_nil {K : FRG} {tb : List Addr} : TgsS K tb gNil [] := fun φ H m ρ σ ds vs ρ' Q R E V e k => by
  cases V with
  | nil => cases e; exact ⟨rfl, k _ E⟩
  | cons h r => cases e
theorem tgs_cons {K : FRG} {tb : List Addr} {g : TG} {gs : TGs} {t : Gx} {ts : List Gx} (h1 : TgS K tb g t) (h2 : TgsS K tb gs ts) : TgsS K tb (gCons g gs) (t :: ts) := fun φ H m ρ σ ds vs ρ' Q R E V e k => by
  cases V with
  | nil => cases e
  | cons h r =>
    obtain ⟨ρ1, e1, e2⟩ := bnd (show (t _ ρ).bind (fun ρ1 => gL ts _ ρ1) = some ρ' from e)
    refine ⟨_, _, rfl, h1 φ H m ρ σ _ _ ρ1 _ R E h e1 fun σ1 E1 => ?_⟩
    exact h2 φ H m ρ1 σ1 _ _ ρ' Q R E1 r e2 k
theorem tws_nil {vs : List Nat} : TgsW gNil vs := fun v σ H Q q => ⟨q.1, rfl, q.2⟩
theorem gname_mono {i : Nat} {v : V} {σ : L2.St} {H : Hp} {Q Q' : L2.St → Hp → Prop} (h : ∀ s h, Q s h → Q' s h) (q : gName i v σ H Q) : gName i v σ H Q' := h _ _ q
theorem tws_cons {i : Nat} {gs : TGs} {vs : List Nat} (h : i ∈ vs) (h2 : TgsW gs vs) : TgsW (gCons (gName i) gs) vs := fun v σ H Q q => by
  obtain ⟨x, r, rfl, q⟩ := q
  refine ⟨x, r, rfl, ?_⟩
  have q2 := h2 r _ H Q q
  show gs r (σ.set i (some x)) H _
  rw [wipe_set h] at q2
  exact q2
theorem gL_len : ∀ {ts : List Gx} {ds : List D} {ρ ρ' : Env}, gL ts ds ρ = some ρ' → ds.length = ts.length
  | [], [], _, _, _ => rfl
  | [], _ :: _, _, _, h => by cases h
  | _ :: _, [], _, _, h => by cases h
  | t :: ts, d :: ds, ρ, ρ', h => by
    obtain ⟨ρ1, e1, e2⟩ := bnd (show (t d ρ).bind (fun ρ1 => gL ts ds ρ1) = some ρ' from h)
    simp [gL_len e2]
theorem tg_tup {K : FRG} {tb : List Addr} {gs : TGs} {ts : List Gx} {n : Nat} (hn : ts.length = n) (h : TgsS K tb gs ts) : TgS K tb (gTup K n gs) (gT ts) := fun φ H m ρ σ d v ρ' Q R E V e k => by
  cases V with
  | tup hq r => exact ⟨_, _, rfl, hq, by rw [← r.length, gL_len e]; exact hn, h φ H m ρ σ _ _ ρ' Q R E r e k⟩
  | _ => cases e
theorem tw_tup {K : FRG} {gs : TGs} {n : Nat} {vs : List Nat} (h : TgsW gs vs) : TgW (gTup K n gs) vs := fun v σ H Q q => by
  obtain ⟨a, xs, e1, e2, e3, q⟩ := q
  exact ⟨a, xs, e1, e2, e3, h xs σ H Q q⟩
def sAsg (t : Gx) (a : Ex) : Sx := fun ρ m => (a ρ m).bind fun p => (t p.1 ρ).bind fun ρ' => some (.nx, ρ', p.2)
theorem bs_asg {X : Cx} {tb : List Addr} {tg a : Expr} {fa : Ex} {g : TG} {t : Gx} {pos : Pos} (ht : TgS X.K tb g t) (ha : PE X a (T X.K tb fa)) (hg : PG X tg g) (hs : swapsWithSole [tg] a pos.line X.env = pure false := by rfl) (hw : swappedStores [tg] a X.env = pure none := by rfl)
    (h1 : (assignEach [tg] X.env).map (·.2) = [assign tg X.env] := by rfl) : PS X (.Assign [tg] a pos) (Ts X.K tb (sAsg t fa)) := by
  refine ps_mono (ps_asg ha hg hs hw h1) fun D σ H ⟨φ, ρ, m, o, ρ', m', R, E, e, k⟩ => ?_
  obtain ⟨⟨d1, m1⟩, e1, e⟩ := bnd e
  obtain ⟨ρ1, e2, e⟩ := bnd e
  cases e
  exact ⟨φ, ρ, m, d1, _, R, E, e1, fun φ1 H1 v P1 R1 V1 => ht φ1 H1 _ ρ σ d1 v _ _ R1 (E.mono P1 R) V1 e2 fun σ' E' => k φ1 H1 P1 R1 σ' E'⟩

/-! ### for -/
open Classical in
noncomputable def forL (it : Itm) (xs : List D) (t : Gx) (b : Sx) : List D → Sx
  | [], ρ, m => if itemsAt it m = some xs then some (.nx, ρ, m) else none
  | d :: ds, ρ, m => if itemsAt it m = some xs then (t d ρ).bind fun ρ1 => (b ρ1 m).bind fun r => match r.1 with
      | .nx => forL it xs t b ds r.2.1 r.2.2
      | .ct => forL it xs t b ds r.2.1 r.2.2
      | .bk => some (.nx, r.2.1, r.2.2)
      | .ret d => some (.ret d, r.2.1, r.2.2)
    else none
noncomputable def sFor (src : Ix) (t : Gx) (b : Sx) : Sx := fun ρ m => (src ρ m).bind fun p => (itemsAt p.1 p.2).bind fun xs => forL p.1 xs t b xs ρ p.2
theorem bs_for {X : Cx} {tb : List Addr} {tg iter : Expr} {body : List Stmt} {src : Ix} {g : TG} {t : Gx} {b : Sx} {pos : Pos} (hc : X.calm = true) (ht : TgS X.K tb g t) (hp : PassesOwn (model X.prog X.w) X.A X.env X.xe) (hi : PI X tg iter (Ti X.K tb src)) (hg : PG X tg g) (hb : PSs X body (Ts X.K tb b))
    (hs : ∀ x, foldedSetIterable iter X.env x = pure x := by intro _; rfl) : PS X (.For tg iter body [] pos) (Ts X.K tb (sFor src t b)) := by
  refine ps_mono (ps_for hp hc hi hg hb hs) fun D σ H ⟨φ, ρ, m, o, ρF, mF, R, E, e, k⟩ => ?_
  obtain ⟨⟨it, m1⟩, e1, e⟩ := bnd e
  obtain ⟨xs, e2, e⟩ := bnd e
  refine ⟨φ, ρ, m, it, m1, R, E, e1, fun φ1 H1 J P1 R1 IR => ?_⟩
  refine ⟨fun i n σ2 H2 => n = xs.length - i ∧ i ≤ xs.length ∧ ∃ φ2 ρ2 m2, Post φ1 H1 φ2 H2 ∧ Rel X.K tb φ2 H2 m2 ∧ RE X.K φ2 H2 ρ2 σ2 ∧ forL it xs t b (xs.drop i) ρ2 m2 = some (o, ρF, mF),
    ⟨xs.length, by simp, Nat.zero_le _, φ1, ρ, m1, .refl, R1, E.mono P1 R, by simpa using e⟩, ?_⟩
  rintro i n σ2 H2 ⟨rfl, hi2, φ2, ρ2, m2, P2, R2, E2, ef⟩
  by_cases hlt : i < xs.length
  · rw [List.drop_eq_getElem_cons hlt] at ef
    unfold forL at ef
    split at ef
    · rename_i hx
      obtain ⟨ρ3, e3, ef⟩ := bnd ef
      obtain ⟨⟨o4, ρ4, m4⟩, e4, ef⟩ := bnd ef
      obtain ⟨hgo, hy⟩ := (IR φ2 H2 m2 xs P2 R2 hx).1 i xs[i] (List.getElem?_eq_getElem hlt)
      refine .inr ⟨hgo, fun σ' H' => i + 1 ≤ xs.length ∧ ∃ φ2 ρ2 m2, Post φ1 H1 φ2 H' ∧ Rel X.K tb φ2 H' m2 ∧ RE X.K φ2 H' ρ2 σ' ∧ forL it xs t b (xs.drop (i + 1)) ρ2 m2 = some (o, ρF, mF), fun σ' H' q => ⟨xs.length - (i + 1), by omega, rfl, q⟩, fun x H3 y => ?_⟩
      obtain ⟨P3, R3, V3, _⟩ := hy x H3 y
      refine ht φ2 H3 m2 ρ2 σ2 _ x ρ3 _ R3 (E2.mono P3 R2) V3 e3 fun σ3 E3 => ?_
      refine ⟨φ2, ρ3, m2, o4, ρ4, m4, R3, E3, e4, fun φ5 H5 P5 R5 => ?_⟩
      have P15 : Post φ1 H1 φ5 H5 := P2.trans (P3.trans P5)
      cases o4 with
      | nx => exact fun σ5 E5 => ⟨hlt, φ5, ρ4, m4, P15, R5, E5, ef⟩
      | ct => exact fun σ5 E5 => ⟨hlt, φ5, ρ4, m4, P15, R5, E5, ef⟩
      | bk => cases ef; exact k φ5 H5 (P1.trans P15) R5
      | ret d => cases ef; exact k φ5 H5 (P1.trans P15) R5
    · cases ef
  · rw [List.drop_of_length_le (by omega)] at ef
    unfold forL at ef
    split at ef
    · rename_i hx
      cases ef
      exact .inl ⟨(IR φ2 H2 _ xs P2 R2 hx).2 i (by omega), k φ2 H2 (P1.trans P2) R2 σ2 E2⟩
    · cases ef

/-! ### list comprehensions -/
open Classical in
noncomputable def lcL (it : Itm) (xs : List D) (t : Gx) (c : Tx) (f : Ex) (ρ : Env) : List D → List D → Mem → Option (List D × Mem)
  | [], acc, m => if itemsAt it m = some xs then some (acc, m) else none
  | d :: ds, acc, m => if itemsAt it m = some xs then (t d ρ).bind fun ρ1 => (c ρ1 m).bind fun p => if p.1 = true then (f ρ1 p.2).bind fun q => if acc.length < 1000000 then lcL it xs t c f ρ ds (acc ++ [q.1]) q.2 else none else lcL it xs t c f ρ ds acc p.2
    else none
noncomputable def eLc (src : Ix) (t : Gx) (c : Tx) (f : Ex) (vs : List Nat) : Ex := fun ρ m => (src ρ m).bind fun p => (itemsAt p.1 p.2).bind fun xs => (lcL p.1 xs t c f (wipeD ρ vs) xs [] p.2).bind fun q => some (.ref q.2.length, q.2 ++ [.lst q.1])
theorem lc_go {K : FRG} {tb : List Addr} {src : Ix} {g : TG} {t : Gx} {c : Tx} {f : Ex} {vs : List Nat} {σ : L2.St} {H : Hp} {Q : VK} (ht : TgS K tb g t) (hw : TgW g vs) (h : T K tb (eLc src t c f vs) σ H Q) :
    tLc (Ti K tb src) g (Tt K tb c) (T K tb f) vs σ H Q := by
  obtain ⟨φ, ρ, m, d, mF, R, E, e, k⟩ := h
  obtain ⟨⟨it, m1⟩, e1, e⟩ := bnd e
  obtain ⟨xs, e2, e⟩ := bnd e
  obtain ⟨⟨accF, m9⟩, e3, e⟩ := bnd e
  cases e
  refine ⟨φ, ρ, m, it, m1, R, E, e1, fun φ1 H1 J P1 R1 IR A hA => ?_⟩
  refine ⟨fun i n H2 => n = xs.length - i ∧ i ≤ xs.length ∧ ∃ φ2 m2 acc accV, Post φ1 H1 φ2 H2 ∧ Rel K tb φ2 H2 m2 ∧ A ∉ φ2 ∧ H2 A = some (.lst accV) ∧ Reps K φ2 H2 acc accV ∧ lcL it xs t c f (wipeD ρ vs) (xs.drop i) acc m2 = some (accF, m9),
    ⟨xs.length, by simp, Nat.zero_le _, φ1, m1, [], [], Post.lay hA, R1.lay hA, R1.fresh hA, upd_same, .nil, by simpa using e3⟩, ?_⟩
  rintro i n H2 ⟨rfl, hi2, φ2, m2, acc, accV, P2, R2, nA, hA2, rA, ef⟩
  by_cases hlt : i < xs.length
  · rw [List.drop_eq_getElem_cons hlt] at ef
    unfold lcL at ef
    split at ef
    · rename_i hx
      obtain ⟨ρ3, e3', ef⟩ := bnd ef
      obtain ⟨⟨b4, m4⟩, e4, ef⟩ := bnd ef
      obtain ⟨hgo, hy⟩ := (IR φ2 H2 m2 xs P2 R2 hx).1 i xs[i] (List.getElem?_eq_getElem hlt)
      refine .inr ⟨hgo, fun H' => i + 1 ≤ xs.length ∧ ∃ φ2 m2 acc accV, Post φ1 H1 φ2 H' ∧ Rel K tb φ2 H' m2 ∧ A ∉ φ2 ∧ H' A = some (.lst accV) ∧ Reps K φ2 H' acc accV ∧ lcL it xs t c f (wipeD ρ vs) (xs.drop (i + 1)) acc m2 = some (accF, m9), fun H' q => ⟨xs.length - (i + 1), by omega, rfl, q⟩, fun x H3 y => ?_⟩
      obtain ⟨P3, R3, V3, same⟩ := hy x H3 y
      have hA3 : H3 A = some (.lst accV) := same A _ hA2
      have rA3 := rA.mono P3 R2
      have E3 : RE K φ2 H3 (wipeD ρ vs) (wipe σ vs) := (E.mono (P1.trans (P2.trans P3)) R).wipe vs
      have st := ht φ2 H3 m2 (wipeD ρ vs) (wipe σ vs) _ x ρ3 (fun σ3 H3' => Tt K tb c σ3 H3' fun b H4 => if b = true then T K tb f σ3 H4 fun y H5 => ∃ acc, H5 A = some (.lst acc) ∧ acc.length < sizeLine ∧ (fun H' => i + 1 ≤ xs.length ∧ ∃ φ2 m2 acc accV, Post φ1 H1 φ2 H' ∧ Rel K tb φ2 H' m2 ∧ A ∉ φ2 ∧ H' A = some (.lst accV) ∧ Reps K φ2 H' acc accV ∧ lcL it xs t c f (wipeD ρ vs) (xs.drop (i + 1)) acc m2 = some (accF, m9)) (upd H5 A (.lst (acc ++ [y]))) else (fun H' => i + 1 ≤ xs.length ∧ ∃ φ2 m2 acc accV, Post φ1 H1 φ2 H' ∧ Rel K tb φ2 H' m2 ∧ A ∉ φ2 ∧ H' A = some (.lst accV) ∧ Reps K φ2 H' acc accV ∧ lcL it xs t c f (wipeD ρ vs) (xs.drop (i + 1)) acc m2 = some (accF, m9)) H4) R3 E3 V3 e3' fun σ3 E3' => ?_
      · have st2 := hw _ _ _ _ st
        simp only [wipe_wipe] at st2
        exact st2
      · refine ⟨φ2, ρ3, m2, b4, m4, R3, E3', e4, fun φ4 H4 P4 R4 => ?_⟩
        have nA4 : A ∉ φ4 := fun z => by
          rcases P4.new A z with z | z
          · exact nA z
          · rw [hA3] at z; cases z
        have hA4 : H4 A = some (.lst accV) := P4.frm A _ nA hA3 fun _ z => nomatch z
        have rA4 := rA3.mono P4 R3
        have P14 := P2.trans (P3.trans P4)
        cases b4 with
        | false => exact iteF ⟨hlt, φ4, m4, acc, accV, P14, R4, nA4, hA4, rA4, ef⟩
        | true =>
          obtain ⟨⟨y5, m5⟩, e5, ef⟩ := bnd ef
          split at ef
          · rename_i hl
            refine iteT ⟨φ4, ρ3, m4, y5, m5, R4, E3'.mono P4 R3, e5, fun φ5 H5 v P5 R5 V5 => ?_⟩
            have nA5 : A ∉ φ5 := fun z => by
              rcases P5.new A z with z | z
              · exact nA4 z
              · rw [hA4] at z; cases z
            have hA5 : H5 A = some (.lst accV) := P5.frm A _ nA4 hA4 fun _ z => nomatch z
            have rA5 := rA4.mono P5 R4
            exact ⟨accV, hA5, smallT (by rw [← rA5.length]; exact hl), hlt, φ5, m5, acc ++ [y5], accV ++ [v], (P14.trans P5).side hA, R5.side nA5 hA5, nA5, upd_same, (rA5.snoc V5).side hA5, ef⟩
          · cases ef
    · cases ef
  · rw [List.drop_of_length_le (by omega)] at ef
    unfold lcL at ef
    split at ef
    · rename_i hx
      cases ef
      refine .inl ⟨(IR φ2 H2 _ xs P2 R2 hx).2 i (by omega), ?_⟩
      exact k _ H2 _ (P1.trans (P2.adopt hA)) (R2.adopt nA hA2 rA) (rep_last R2)
    · cases ef
def tYes' : Tx := fun _ m => some (true, m)
theorem pts_mono {X : Cx} {e : List Expr} {t t' : TT} (h : PTs X e t) (i : ∀ σ H Q, t' σ H Q → t σ H Q) : PTs X e t' := ⟨fun pins s σ H Q I q => h.run pins s σ H Q I (i σ H Q q)⟩
theorem ts_nil {X : Cx} {tb : List Addr} : PTs X [] (Tt X.K tb tYes') := pts_mono pts_nil fun σ H Q ⟨φ, ρ, m, b, m', R, E, e, k⟩ => by
  cases e; exact k φ H .refl R
theorem ts_one {X : Cx} {tb : List Addr} {c : Expr} {ft : Tx} (h : PT X c (Tt X.K tb ft)) : PTs X [c] (Tt X.K tb ft) := pts_one h
end Pv
end
section
set_option Elab.async false
set_option linter.all false
set_option maxRecDepth 100000
set_option maxHeartbeats 1000000
/-! Comprehensions in the text, defs and their calls, built-ins. -/
namespace Pv
open PySem PySem.Spec PyProof.Rows L2

theorem ex_lc {X : Cx} {tb : List Addr} {elt tg iter : Expr} {ifs : List Expr} {scope : Scope} {own : List (Str × Nat)} {pos : Pos} {src : Ix} {g : TG} {t : Gx} {c : Tx} {f : Ex} (hc : X.calm = true) (hN : X.N.Nodup) (htg : TgS X.K tb g t) (hw : TgW g (own.map (·.2)))
    (hi : PI X tg iter (Ti X.K tb src)) (ok : BlkOk X.N X.env.scope scope own)
    (hg : ∀ (s : Shared) (H : Hp) (C : Addr) (cl : List (Str × Addr)) (fp : List Addr), PG (X.blk s H scope (compEnvC scope cl C X.env) fp) tg g) (ht : ∀ (s : Shared) (H : Hp) (C : Addr) (cl : List (Str × Addr)) (fp : List Addr), PTs (X.blk s H scope (compEnvC scope cl C X.env) fp) ifs (Tt X.K tb c))
    (he : ∀ (s : Shared) (H : Hp) (C : Addr) (cl : List (Str × Addr)) (fp : List Addr), PE (X.blk s H scope (compEnvC scope cl C X.env) fp) elt (T X.K tb f)) (hs : ∀ x, foldedSetIterable iter X.env x = pure x := by intro _; rfl) :
    PE X (.ListComp elt [⟨tg, iter, ifs, 0⟩] scope pos) (T X.K tb (eLc src t c f (own.map (·.2)))) :=
  pe_mono (pe_lc hc hN hi ok hg ht he hs) fun _ _ _ h => lc_go htg hw h
theorem bs_setLc {X : Cx} {tb : List Addr} (i : Nat) {y : Str} {py : Pos} {elt tg iter : Expr} {ifs : List Expr} {scope : Scope} {own : List (Str × Nat)} {pos spos : Pos} {src : Ix} {g : TG} {t : Gx} {c : Tx} {f : Ex} (hc : X.calm = true) (hN : X.N.Nodup) (htg : TgS X.K tb g t) (hw : TgW g (own.map (·.2)))
    (hi : PI X tg iter (Ti X.K tb src)) (ok : BlkOk X.N X.env.scope scope own)
    (hg : ∀ (s : Shared) (H : Hp) (C : Addr) (cl : List (Str × Addr)) (fp : List Addr), PG (X.blk s H scope (compEnvC scope cl C X.env) fp) tg g) (ht : ∀ (s : Shared) (H : Hp) (C : Addr) (cl : List (Str × Addr)) (fp : List Addr), PTs (X.blk s H scope (compEnvC scope cl C X.env) fp) ifs (Tt X.K tb c))
    (he : ∀ (s : Shared) (H : Hp) (C : Addr) (cl : List (Str × Addr)) (fp : List Addr), PE (X.blk s H scope (compEnvC scope cl C X.env) fp) elt (T X.K tb f))
    (hsw : swapsWith (.ListComp elt [⟨tg, iter, ifs, 0⟩] scope pos) (some (.Name y py)) spos.line X.env = pure true) (hy : X.N[i]? = some y := by rfl) (hyl : X.env.scope.names.lookup y = some .local := by rfl)
    (hs : ∀ x, foldedSetIterable iter X.env x = pure x := by intro _; rfl) :
    PS X (.Assign [.Name y py] (.ListComp elt [⟨tg, iter, ifs, 0⟩] scope pos) spos) (Ts X.K tb (sSet i (eLc src t c f (own.map (·.2))))) := by
  refine ps_mono (ps_setLc hc hN hy hyl hsw hi ok hg ht he hs) fun D σ H ⟨φ, ρ, m, o, ρ', m', R, E, e, k⟩ => ?_
  obtain ⟨⟨d1, m1⟩, e1, e⟩ := bnd e
  cases e
  exact lc_go htg hw ⟨φ, ρ, m, d1, _, R, E, e1, fun φ1 H1 v P1 R1 V1 => k φ1 H1 P1 R1 _ ((E.mono P1 R).set i V1)⟩

/-! ### defs -/
abbrev Fx := List D → Mem → Option (D × Mem)
def startD (n : Nat) (ds : List D) : Env := ds.map some ++ List.replicate (n - ds.length) none
/-- np parameters, n names, the body b -/
def runF (np n : Nat) (b : Sx) : Fx := fun ds m => if ds.length = np then (b (startD n ds) m).bind fun r => match r.1 with
  | .nx => some (.non, r.2.2)
  | .ret d => some (d, r.2.2)
  | _ => none
  else none
def spF (K : FRG) (tb : List Addr) (np : Nat) (F : Fx) : Sp := fun vs H Q _ => ∃ φ ds m d m', Rel K tb φ H m ∧ Reps K φ H ds vs ∧ ds.length = np ∧ F ds m = some (d, m') ∧ Go K tb φ H m' d Q
theorem re_start {K : FRG} {φ : List Addr} {H : Hp} {N : List Str} {ds : List D} {vs : List V} (r : Reps K φ H ds vs) : RE K φ H (startD N.length ds) (start N vs) := by
  refine ⟨fun i d h => ?_, by simp [startD, L2.start, r.length]⟩
  unfold startD at h
  by_cases hi : i < ds.length
  · rw [List.getElem?_append_left (by simpa using hi), List.getElem?_map] at h
    cases e : ds[i]? with
    | none => rw [e] at h; cases h
    | some x =>
      rw [e] at h
      cases h
      obtain ⟨v, h1, h2⟩ := r.get e
      refine ⟨v, ?_, h2⟩
      unfold L2.start
      rw [List.getElem?_append_left (by rw [List.length_map, ← r.length]; exact hi), List.getElem?_map, h1]
      rfl
  · rw [List.getElem?_append_right (by simpa using hi), List.getElem?_replicate] at h
    split at h <;> cases h
theorem body_go {K : FRG} {tb : List Addr} {np : Nat} {N : List Str} {b : Sx} {vs : List V} {H : Hp} {Q : VK} {E : XK} (h : spF K tb np (runF np N.length b) vs H Q E) : Ts K tb b { nx := fun _ H' => Q .non H', rt := Q } (start N vs) H := by
  obtain ⟨φ, ds, m, d, m', R, r, hl, e, k⟩ := h
  unfold runF at e
  rw [if_pos hl] at e
  obtain ⟨⟨o, ρ', m1⟩, e1, e⟩ := bnd e
  refine ⟨φ, _, m, o, ρ', m1, R, re_start r, e1, fun φ1 H1 P1 R1 => ?_⟩
  cases o with
  | nx => cases e; exact fun σ1 E1 => k φ1 H1 _ P1 R1 .non
  | ret x => cases e; exact fun v V => k φ1 H1 v P1 R1 V
  | bk => cases e
  | ct => cases e
theorem okD {P : Program} {w : World} {K : FRG} {mg : Str → Option Value} {base : Heap} {tb : List Addr} {x qual : Str} {st : Stmt} {f : Addr} {fd : FuncData} {N ps : List Str} {k : Nat} {b : Sx} (F : Fun K x qual st f fd) (S : FnScope N ps (defScope st))
    (hb : ∀ (cdv : Value) (A : Around) (outer : List PySem.Env) (s : Shared) (H : Hp) (E : XK), Room k (A.deeper (envOfC qual (defScope st) s.heap.objs.size f cdv)) → PSs (cxOf CX0 P w K mg base N qual (defScope st) f cdv A outer s H E).nox (defBody st) (Ts K tb b)) :
    FnOk P w K mg base CX0 (k + 1) f fd ps (spF K tb ps.length (runF ps.length N.length b)) := by
  refine F.ok S (fun vs H Q E h => ?_) fun cdv A outer s H vs Q E hr h => ⟨_, hb cdv A outer s H E hr, body_go h⟩
  obtain ⟨φ, ds, m, d, m', R, r, hl, e, k⟩ := h
  rw [← r.length]; exact hl
def eCall (F : Fx) (a : Ax) : Ex := eCB F a
theorem call_s {X : Cx} {tb : List Addr} {np : Nat} {F : Fx} {f : Ax} {σ : L2.St} {H : Hp} {Q : VK} (hn : ∀ ds m r, F ds m = some r → ds.length = np) (h : T X.K tb (eCall F f) σ H Q) : tCall (spF X.K tb np F) [] E0 (Ta X.K tb f) σ H Q := by
  obtain ⟨φ, ρ, m, d, m', R, E, e, k⟩ := h
  obtain ⟨⟨ds, m1⟩, e1, e⟩ := bnd e
  refine ⟨φ, ρ, m, ds, m1, R, E, e1, fun φ1 H1 vs P1 R1 V1 => ?_⟩
  show spF X.K tb np F (vs ++ []) H1 Q E0
  rw [List.append_nil]
  exact ⟨φ1, ds, m1, d, m', R1, V1, hn _ _ _ e, e, fun φ3 H3 v P3 R3 V3 => k φ3 H3 v (P1.trans P3) R3 V3⟩
theorem runF_len {np n : Nat} {b : Sx} {ds : List D} {m : Mem} {r : D × Mem} (h : runF np n b ds m = some r) : ds.length = np := by
  unfold runF at h
  split at h
  · assumption
  · cases h
theorem ex_call {X : Cx} {tb : List Addr} {k : Nat} {f : Addr} {fd : FuncData} {ps : List Str} {x : Str} {p pos : Pos} {e : Expr} {es : List Expr} {fa : Ax} {F : Fx} (hn : ∀ ds m r, F ds m = some r → ds.length = ps.length) (G : FnOk X.prog X.w X.K X.mg X.base CX0 k f fd ps (spF X.K tb ps.length F)) (hr : Room k X.A) (hg : Gl X x) (hm : X.mg x = some (.ref f)) (hk : PySem.W.keepIn X.K (.ref f) = true) (hb : Binds X.K fd ps [])
    (ha : PA X (e :: es) (Ta X.K tb fa)) (hdb : (x == ("__debug__" : Str)) = false := by decide) (he : starEach (e :: es) X.env = (false, eval e X.env) :: starEach es X.env := by rfl) (hpl : (backTo pos (starEach es X.env)).any (·.1) = false := by rfl) :
    PE X (.Call (.Name x p) (e :: es) [] pos) (T X.K tb (eCall F fa)) := pe_mono (pe_call G hr hg hm hk hb .nil pass0 ha hdb he hpl) fun _ _ _ h => call_s hn h

/-! ### built-ins -/
section
variable {X : Cx} {K : FRG} {tb : List Addr}
def lenD : List D → Mem → Option (D × Mem)
  | [.tup ds], m => some (.int ds.length, m)
  | [.fl ds], m => some (.int ds.length, m)
  | [.ref n], m => match m[n]? with
    | some (.lst ds) => some (.int ds.length, m)
    | some (.dk kvs) => some (.int kvs.length, m)
    | _ => none
  | _, _ => none
abbrev rLenA (K : FRG) : List V → Hp → VK → Prop := fun xs H Q => (∃ p ys, xs = [.ref p] ∧ (SqL K H p ys ∨ SqT K H p ys) ∧ Q (.int (ys.length : Nat)) H) ∨ ∃ a kvs, xs = [V.ref a] ∧ H a = some (.dK kvs) ∧ Q (.int (kvs.length : Nat)) H
theorem cr_lenA : CallR X (.builtin "len") (rLenA X.K) := call_len_seq.or call_lenD
theorem len_s : CallS K tb (rLenA K) lenD := fun φ H m vs ds d m' Q R r e k => by
  unfold lenD at e
  split at e
  · cases e
    cases r with
    | cons h r => cases r; cases h with
      | tup hq q => exact .inl ⟨_, _, rfl, .inr hq, k φ H _ .refl R (by rw [q.length]; exact .int _)⟩
  · cases e
    cases r with
    | cons h r => cases r; cases h with
      | fl hq q => exact .inl ⟨_, _, rfl, .inl hq.sq, k φ H _ .refl R (by rw [q.length]; exact .int _)⟩
  · split at e
    · rename_i hm
      cases e
      cases r with
      | cons h r =>
        cases r
        obtain ⟨q, vs, rfl, h1, hq, r⟩ := rep_lst R h hm
        exact .inl ⟨_, _, rfl, .inl (SqL.of hq), k φ H _ .refl R (by rw [r.length]; exact .int _)⟩
    · rename_i hm
      cases e
      cases r with
      | cons h r =>
        cases r
        cases h with
        | ref h =>
          obtain ⟨vs, q, r1, r2⟩ := R.obj _ _ _ hm h
          refine .inr ⟨_, _, rfl, q, k φ H _ .refl R ?_⟩
          have e9 := congrArg List.length r1
          rw [List.length_map, List.length_map] at e9
          rw [e9]; exact .int _
    · cases e
  · cases e
def maxI (i j : Int) : Int := if j > i then j else i
def minI (i j : Int) : Int := if j < i then j else i
def two (g : Int → Int → Int) : List D → Mem → Option (D × Mem)
  | [.int i, .int j], m => some (.int (g i j), m)
  | _, _ => none
theorem two_s {g : Int → Int → Int} : CallS K tb (fun xs H Q => ∃ i j, xs = [.int i, .int j] ∧ Q (.int (g i j)) H) (two g) := fun φ H m vs ds d m' Q R r e k => by
  unfold two at e
  split at e
  · cases e
    cases r with
    | cons h1 r => cases r with
      | cons h2 r => cases r; cases h1; cases h2; exact ⟨_, _, rfl, k φ H _ .refl R (.int _)⟩
  · cases e
theorem cr_max (hc : X.calm = true) : CallR X (.builtin "max") (fun xs H Q => ∃ i j, xs = [.int i, .int j] ∧ Q (.int (maxI i j)) H) := call_max2 hc
theorem cr_min (hc : X.calm = true) : CallR X (.builtin "min") (fun xs H Q => ∃ i j, xs = [.int i, .int j] ∧ Q (.int (minI i j)) H) := call_min2 hc
def intD : List D → Mem → Option (D × Mem)
  | [.int i], m => some (.int i, m)
  | [.bl b], m => some (.int (if b then 1 else 0), m)
  | _, _ => none
theorem int_s : CallS K tb (fun xs H Q => (∃ i, xs = [.int i] ∧ Q (.int i) H) ∨ ∃ k, xs = [.bl k] ∧ Q (.int (if k then 1 else 0)) H) intD := fun φ H m vs ds d m' Q R r e k => by
  unfold intD at e
  split at e
  · cases e
    cases r with
    | cons h1 r => cases r; cases h1; exact .inl ⟨_, rfl, k φ H _ .refl R (.int _)⟩
  · cases e
    cases r with
    | cons h1 r => cases r; cases h1; exact .inr ⟨_, rfl, k φ H _ .refl R (.int _)⟩
  · cases e
/-- tuple(x) -/
def tupleD : List D → Mem → Option (D × Mem)
  | [.tup ds], m => some (.tup ds, m)
  | [.fl ds], m => some (.tup ds, m)
  | [.ref n], m => match m[n]? with
    | some (.lst ds) => some (.tup ds, m)
    | _ => none
  | _, _ => none
theorem tuple_s : CallS K tb (fun xs H Q => ∃ p ys, xs = [.ref p] ∧ ((SqL K H p ys ∧ ∀ l, H l = none → Q (.ref l) (upd H l (.tup ys))) ∨ (SqT K H p ys ∧ Q (.ref p) H))) tupleD := fun φ H m vs ds d m' Q R r e k => by
  unfold tupleD at e
  split at e
  · cases e
    cases r with
    | cons h r => cases r; cases h with
      | tup hq q => exact ⟨_, _, rfl, .inr ⟨hq, k φ H _ .refl R (.tup hq q)⟩⟩
  · cases e
    cases r with
    | cons h r => cases r; cases h with
      | fl hq q => exact ⟨_, _, rfl, .inl ⟨hq.sq, fun p hp => k φ _ _ (Post.lay hp) (R.lay hp) (.tup (SqT.of upd_same) (q.mono (Post.lay hp) R))⟩⟩
  · split at e
    · rename_i hm
      cases e
      cases r with
      | cons h r =>
        cases r
        obtain ⟨q, vs, rfl, h1, hq, r⟩ := rep_lst R h hm
        exact ⟨_, _, rfl, .inl ⟨SqL.of hq, fun p hp => k φ _ _ (Post.lay hp) (R.lay hp) (.tup (SqT.of upd_same) (r.mono (Post.lay hp) R))⟩⟩
    · cases e
  · cases e
/-- list(x) -/
def listD : List D → Mem → Option (D × Mem)
  | [.tup ds], m => some (.ref m.length, m ++ [.lst ds])
  | [.fl ds], m => some (.ref m.length, m ++ [.lst ds])
  | [.ref n], m => match m[n]? with
    | some (.lst ds) => some (.ref m.length, m ++ [.lst ds])
    | _ => none
  | _, _ => none
theorem list_s : CallS K tb (fun xs H Q => ∃ p ys, xs = [.ref p] ∧ (SqL K H p ys ∨ SqT K H p ys) ∧ ∀ l, H l = none → Q (.ref l) (upd H l (.lst ys))) listD := fun φ H m vs ds d m' Q R r e k => by
  unfold listD at e
  split at e
  · cases e
    cases r with
    | cons h r => cases r; cases h with
      | tup hq q => exact ⟨_, _, rfl, .inr hq, fun p hp => k _ _ _ (Post.newM hp) (R.newL hp q) (rep_last R)⟩
  · cases e
    cases r with
    | cons h r => cases r; cases h with
      | fl hq q => exact ⟨_, _, rfl, .inl hq.sq, fun p hp => k _ _ _ (Post.newM hp) (R.newL hp q) (rep_last R)⟩
  · split at e
    · rename_i hm
      cases e
      cases r with
      | cons h r =>
        cases r
        obtain ⟨q, vs, rfl, h1, hq, r⟩ := rep_lst R h hm
        exact ⟨_, _, rfl, .inl (SqL.of hq), fun p hp => k _ _ _ (Post.newM hp) (R.newL hp r) (rep_last R)⟩
    · cases e
  · cases e
/-- numbers out of a list -/
def intsD : List D → Option (List Int)
  | [] => some []
  | .int i :: ds => (intsD ds).map (i :: ·)
  | _ :: _ => none
theorem intsD_v {φ : List Addr} {H : Hp} : ∀ {ds : List D} {vs : List V} {ns : List Int}, Reps K φ H ds vs → intsD ds = some ns → vs = ns.map V.int
  | [], _, _, .nil, e => by cases e; rfl
  | .int i :: ds, _, _, .cons h r, e => by
    cases h
    obtain ⟨ms, e1, rfl⟩ := Option.map_eq_some_iff.mp (show (intsD ds).map (i :: ·) = _ from e)
    rw [intsD_v r e1]; rfl
  | .non :: _, _, _, _, e => by cases e
  | .bl _ :: _, _, _, _, e => by cases e
  | .str _ :: _, _, _, _, e => by cases e
  | .tup _ :: _, _, _, _, e => by cases e
  | .fl _ :: _, _, _, _, e => by cases e
  | .ref _ :: _, _, _, _, e => by cases e
theorem intsD_map (ns : List Int) : intsD (ns.map .int) = some ns := by
  induction ns with
  | nil => rfl
  | cons n ns ih => show (intsD (ns.map .int)).map (n :: ·) = _; rw [ih]; rfl
def sumD : List D → Mem → Option (D × Mem)
  | [.ref n], m => match m[n]? with
    | some (.lst ds) => (intsD ds).map fun ns => (.int ns.sum, m)
    | _ => none
  | _, _ => none
theorem sum_s : CallS K tb (rSum K) sumD := fun φ H m vs ds d m' Q R r e k => by
  unfold sumD at e
  split at e
  · split at e
    · rename_i hm
      obtain ⟨ns, e1, e2⟩ := Option.map_eq_some_iff.mp e
      cases e2
      cases r with
      | cons h r =>
        cases r
        obtain ⟨q, vs, rfl, h1, hq, r⟩ := rep_lst R h hm
        rw [intsD_v r e1] at hq
        exact ⟨_, _, rfl, SqL.of hq, k φ H _ .refl R (.int _)⟩
    · cases e
  · cases e
/-- methods -/
def isLst : D → Mem → Bool
  | .ref n, m => match m[n]? with
    | some (.lst _) => true
    | _ => false
  | _, _ => false
theorem isLst_ty {φ : List Addr} {H : Hp} {m : Mem} {d : D} {v : V} (R : Rel K tb φ H m) (h : Rep K φ H d v) (e : isLst d m = true) : tyV K "list" v H := by
  unfold isLst at e
  split at e
  · split at e
    · rename_i hm
      obtain ⟨q, vs, rfl, h1, hq, r⟩ := rep_lst R h hm
      exact .inl ⟨rfl, _, SqL.of hq⟩
    · cases e
  · cases e
def appD : D → List D → Mem → Option (D × Mem)
  | .ref n, [d], m => match m[n]? with
    | some (.lst ds) => if ds.length < 1000000 then some (.non, m.set n (.lst (ds ++ [d]))) else none
    | _ => none
  | _, _, _ => none
theorem app_s : MtS K tb rAppend appD := fun φ H m x vs dx ds d m' Q R hx r e k => by
  unfold appD at e
  split at e
  · split at e
    · rename_i hm
      split at e
      · rename_i hl
        cases e
        cases r with
        | cons h r =>
          cases r
          obtain ⟨q, vs, rfl, h1, hq, rl⟩ := rep_lst R hx hm
          have hmem := List.mem_of_getElem? h1
          exact ⟨q, vs, _, rfl, rfl, hq, smallT (by rw [← rl.length]; exact hl), k φ _ _ (Post.wr hmem (R.trk hmem)) (R.wrL h1 (rl.snoc h)) .non⟩
      · cases e
    · cases e
  · cases e
theorem ex_append {o a : Expr} {fo : Ex} {f : Ax} {apos cpos : Pos} {es : List Expr} (ho : PE X o (T X.K tb fo)) (ha : PA X (a :: es) (Ta X.K tb f))
    (hbase : attributeBase o "append" X.env (eval o X.env) = eval o X.env := by rfl)
    (hfew : ((backTo cpos (starEach (a :: es) X.env)).all (fun x => !x.1) && (backToKw cpos (keywordEach [] X.env)).all (fun x => x.1.isSome)
      && decide ((a :: es).length + ([] : List Keyword).length + (if ([] : List Keyword).isEmpty then 0 else 1) < 30)) = true := by rfl)
    (hline : (apos.endLine == cpos.line) = true := by rfl) (hst : starEach (a :: es) X.env = (false, eval a X.env) :: starEach es X.env := by rfl) (hplain : (backTo cpos (starEach es X.env)).any (·.1) = false := by rfl) :
    PE X (.Call (.Attribute o "append" apos) (a :: es) [] cpos) (T X.K tb (eMt isLst appD fo f)) :=
  ex_mt (fun φ H m d v R h e => isLst_ty R h e) app_s PySem.F.plainAttrs_list PySem.F.slot_list_append PySem.F.type_list_append mt_append ho ha hbase hfew hline hst hplain
end
end Pv
end
section
set_option Elab.async false
set_option linter.all false
set_option maxRecDepth 100000
set_option maxHeartbeats 1000000
/-! A def's promise where no repr is under way; the law's own call. -/
namespace Pv
open PySem PySem.Spec PyProof.Rows L2

structure FnG (P : Program) (w : World) (K : FRG) (mg : Str → Option Value) (base : Heap) (k : Nat) (f : Addr) (fd : FuncData) (ps : List Str) (sp : Sp) : Prop where
  len : ∀ vs H Q E, sp vs H Q E → vs.length = ps.length
  run : ∀ (A : Around) (outer : List PySem.Env) (s : Shared) (H : Hp) (args : Args) (us : List Value) (vs : List V) (Q : VK) (E : XK), A.guards = some [] → Room k A → Env0 P w K mg base A outer s H → BindsTo s fd args (ps.zip us) → Vals vs us → sp vs H Q E →
    codeAny (model P w) A (.call (.ref f) args) (CR CX0 outer P w H s Q E) s
/-- a def of the text whose code object is known -/
structure FunC (K : FRG) (x qual : Str) (st : Stmt) (f : Addr) (fd : FuncData) (cdv : Value) : Prop where
  ex : ∃ (oc : Value) (od : Option Addr) (kV doc pm : Value) (an : Option Addr) (ct : Value) (osl : Array (Option Value)),
    fd = PySem.W.fnOf x qual (defArgs st) (defBody st) (defScope st) .none kV doc pm an cdv ct ∧ K.lookup f = some ⟨oc, od, .func fd, osl⟩ ∧ PySem.W.codeIn K cdv qual = true
  kp : PySem.W.keepIn K (.ref f) = true
theorem okG {P : Program} {w : World} {K : FRG} {mg : Str → Option Value} {base : Heap} {tb : List Addr} {x qual : Str} {st : Stmt} {f : Addr} {fd : FuncData} {cdv : Value} {N ps : List Str} {k : Nat} {b : Sx} (F : FunC K x qual st f fd cdv) (S : FnScope N ps (defScope st))
    (hb : ∀ (A : Around) (outer : List PySem.Env) (s : Shared) (H : Hp) (E : XK), A.guards = some [] → Room k (A.deeper (envOfC qual (defScope st) s.heap.objs.size f cdv)) → PSs (cxOf CX0 P w K mg base N qual (defScope st) f cdv A outer s H E).nox (defBody st) (Ts K tb b)) :
    FnG P w K mg base (k + 1) f fd ps (spF K tb ps.length (runF ps.length N.length b)) := by
  obtain ⟨oc, od, kV, doc, pm, an, ct, osl, rfl, known, isCode⟩ := F.ex
  have many : ∀ vs H Q E, spF K tb ps.length (runF ps.length N.length b) vs H Q E → vs.length = ps.length := fun vs H Q E q => by
    obtain ⟨φ, ds, m, d, m', R, r, hl, e, go⟩ := q
    rw [← r.length]; exact hl
  refine ⟨many, fun A outer s H args us vs Q E noG room entry bound rel want => ?_⟩
  have inK : K.In s.heap := entry.mod.kin.keeps fun c o e => (entry.bs c o e).1
  have free : s.heap.NoLimit := entry.mod.nolimit.keeps fun c o e => (entry.bs c o e).1
  have kinds : ∀ y ∈ ps.zip us, (defScope st).names.lookup y.1 = some .local ∨ ((defScope st).names.lookup y.1 = some .cell ∧ ((cellsFrom (s.heap.objs.size + 1) (defScope st).names []).lookup y.1).isSome = true) := by
    rintro ⟨nm, val⟩ mem
    rcases S.par nm (List.of_mem_zip mem).1 with z | z
    · exact Or.inl z
    · exact Or.inr ⟨z, PySem.W.cellsFrom_some _ _ _ (Or.inl z)⟩
  refine codeAny_call_function room.depth (inK _ _ known) rfl S.co S.gen rfl (PySem.W.codeRec_of inK isCode) (bound _ _ _ _ ?_)
  refine wpAny_newFunctionEnv_cells S.kind kinds fun here isHere t inCall => ?_
  subst isHere
  refine ⟨free.keeps inCall.toInCall.keep, codeAny_func ?_⟩
  have J : Inv (cxOf CX0 P w K mg base N qual (defScope st) f cdv A outer s H E) [] (L2.start N vs) H t := inv_start S room.hd entry (many _ _ _ _ want) rel inCall
  have body := (hb A outer s H E noG (room.deeper _)).nox
  refine wpAny_mono (body.run [] t (L2.start N vs) H _ J (body_go want)) (fun flow t' ends => ?_) fun _ _ z => z
  cases flow with
  | ret u =>
    obtain ⟨v, τ, H', J', rv, q⟩ := ends
    exact ⟨v, H', J'.os, J'.bare, J'.base, J'.hok, rv, q⟩
  | next =>
    obtain ⟨τ, H', J', q⟩ := ends
    exact ⟨.non, H', J'.os, J'.bare, J'.base, J'.hok, rfl, q⟩
  | brk => obtain ⟨_, _, _, z⟩ := ends; exact z.elim
  | cont => obtain ⟨_, _, _, z⟩ := ends; exact z.elim
theorem runG {X : Cx} {k : Nat} {f : Addr} {fd : FuncData} {ps : List Str} {sp : Sp} {pins : List (Addr × Obj)} {σ : L2.St} {H : Hp} {s : Shared} {Q : VK} {us : List Value} {vs : List V} (F : FnG X.prog X.w X.K X.mg X.base k f fd ps sp) (hg : X.A.guards = some []) (hr : Room k X.A) (hb : Binds X.K fd ps [])
    (I : Inv X pins σ H s) (r : Vals vs us) (h : sp vs H Q E0) : wpAny (model X.prog X.w) X.A (call (.ref f) us) (EP X pins σ Q) X.xe s := by
  have hl : us.length = ps.length := r.length.symm.trans (F.len _ _ _ _ h)
  have bound := hb s us I.kIn (by rw [List.append_nil]; exact hl)
  rw [List.append_nil] at bound
  refine wpAny_call (codeAny_mono (F.run X.A X.stack s H ⟨us, []⟩ us vs Q E0 hg hr I.env0 bound r h) fun res t ends => ?_)
  match res, ends with
  | .ok (.ret u), z => exact I.after z
theorem ex_callG {X : Cx} {tb : List Addr} {k : Nat} {f : Addr} {fd : FuncData} {ps : List Str} {x : Str} {p pos : Pos} {e : Expr} {es : List Expr} {fa : Ax} {F : Fx} (hn : ∀ ds m r, F ds m = some r → ds.length = ps.length) (G : FnG X.prog X.w X.K X.mg X.base k f fd ps (spF X.K tb ps.length F)) (hgd : X.A.guards = some []) (hr : Room k X.A) (hg : Gl X x) (hm : X.mg x = some (.ref f)) (hk : PySem.W.keepIn X.K (.ref f) = true) (hb : Binds X.K fd ps [])
    (ha : PA X (e :: es) (Ta X.K tb fa)) (hdb : (x == ("__debug__" : Str)) = false := by decide) (he : starEach (e :: es) X.env = (false, eval e X.env) :: starEach es X.env := by rfl) (hpl : (backTo pos (starEach es X.env)).any (·.1) = false := by rfl) :
    PE X (.Call (.Name x p) (e :: es) [] pos) (T X.K tb (eCall F fa)) := by
  constructor
  intro pins s σ H Q I want
  have h := call_s hn want
  refine wpAny_Call_Name_kw (ld_glob I hg hm ?_ hdb)
  refine PySem.W.callWith_K (h₀ := X.base) I.ok.mod.kin hk (thn (ha.run pos pins s σ H _ I h) fun us t ⟨vs, H1, I1, r, q⟩ => ⟨I1.kIn, ?_⟩) he hpl
  have q' : spF X.K tb ps.length F (vs ++ []) H1 Q E0 := q
  rw [List.append_nil] at q'
  exact runG G hgd hr hb I1 r q'
theorem FunC.binds {K : FRG} {x qual : Str} {st : Stmt} {f : Addr} {fd : FuncData} {cdv : Value} {ps : List Str} (F : FunC K x qual st f fd cdv)
    (h : ∀ (kV doc pm : Value) (an : Option Addr) (ct : Value) (us : List Value), us.length = ps.length → bindArgs (PySem.W.fnOf x qual (defArgs st) (defBody st) (defScope st) .none kV doc pm an cdv ct) ⟨us, []⟩ = pure (ps.zip us)) : Binds K fd ps [] := by
  obtain ⟨oc, od, kV, doc, pm, an, ct, osl, rfl, lk, hcd⟩ := F.ex
  exact .all (h kV doc pm an ct)

/-! ### repr -/
def shownOk (p : PyData) : Bool := p.showable && !p.hasDict && decide (p.depth ≤ 60) && decide (p.shown.length ≤ 16000000)
def reprD : List D → Mem → Option (D × Mem)
  | [d], m => (toPy m fuel d).bind fun p => if shownOk p = true then some (.str p.shown, m) else none
  | _, _ => none
theorem cr_repr {X : Cx} (hg : X.A.guards = some []) (hu : X.A.units + 100 < cLine) : CallR X (.builtin "repr") (fun xs H Q => ∃ x d, xs = [x] ∧ Dp X.K H x d ∧ shownOk d = true ∧ Q (.str d.shown) H) := by
  intro pins s σ H xs us Q I r h
  obtain ⟨x, d, rfl, dp, ok, q⟩ := h
  obtain ⟨u, rfl, rx⟩ := r.one
  unfold shownOk at ok
  simp only [Bool.and_eq_true, Bool.not_eq_true', decide_eq_true_eq] at ok
  obtain ⟨⟨⟨o1, o2⟩, o3⟩, o4⟩ := ok
  have o4' : d.shown.length ≤ sizeLine := Nat.le_trans o4 (by rw [sizeLine_eq]; decide)
  obtain ⟨as, rd⟩ := Dp.reads I d x u dp rx
  cases dp with
  | non => cases rx; exact PySem.P.repr_of_none ⟨.str "None", H, I.tok _, ⟨_, rfl⟩, q⟩
  | bl b => cases rx; exact PySem.P.repr_of_bool ⟨.str _, H, I.tok _, ⟨_, rfl⟩, q⟩
  | int i => obtain ⟨t, rfl⟩ := rx; exact PySem.P.repr_of_int (of_decide_eq_true o1) ⟨.str _, H, I.tok _, ⟨_, rfl⟩, q⟩
  | str z => obtain ⟨t, rfl⟩ := rx; exact PySem.P.repr_of_str ⟨.str _, H, I.tok _, ⟨_, rfl⟩, q⟩ o4'
  | lst hq ha =>
    cases rx
    exact repr_of_reads' rd o1 (PyData.noDict_hsm o2) hg (by omega) (fun _ _ z => z) (fun h' t tk kp => ⟨.str _, H, I.kept kp, ⟨_, rfl⟩, q⟩) o4'
  | tup hq ha =>
    cases rx
    exact repr_of_reads' rd o1 (PyData.noDict_hsm o2) hg (by omega) (fun _ _ z => z) (fun h' t tk kp => ⟨.str _, H, I.kept kp, ⟨_, rfl⟩, q⟩) o4'
theorem repr_s {K : FRG} {tb : List Addr} : CallS K tb (fun xs H Q => ∃ x d, xs = [x] ∧ Dp K H x d ∧ shownOk d = true ∧ Q (.str d.shown) H) reprD := fun φ H m vs ds d m' Q R r e k => by
  unfold reprD at e
  split at e
  · obtain ⟨p, e1, e⟩ := bnd e
    split at e
    · rename_i hs
      cases e
      cases r with
      | cons h r => cases r; exact ⟨_, p, rfl, toPy_dp R _ _ _ _ h e1, hs, k φ H _ .refl R (.str _)⟩
    · cases e
  · cases e
/-! ### in -/
def inB (neg : Bool) (dx : D) (ds : List D) : Option Bool := (sc dx).bind fun x => (ds.mapM sc).bind fun ys => some (inV x ys != neg)
def inD (neg : Bool) : D → D → Mem → Option (D × Mem)
  | x, .tup ds, m => (inB neg x ds).map fun b => (.bl b, m)
  | x, .fl ds, m => (inB neg x ds).map fun b => (.bl b, m)
  | x, .ref n, m => match m[n]? with
    | some (.lst ds) => (inB neg x ds).map fun b => (.bl b, m)
    | _ => none
  | _, _, _ => none
theorem sc_flat {d : D} {v : V} (h : sc d = some v) : flatV v = true := by
  cases d <;> first | (cases h; rfl) | (cases h)
theorem scs_rep {K : FRG} {φ : List Addr} {H : Hp} : ∀ {ds : List D} {vs ws : List V}, Reps K φ H ds vs → ds.mapM sc = some ws → vs = ws ∧ ws.all flatV = true
  | [], _, _, .nil, e => by cases e; exact ⟨rfl, rfl⟩
  | d :: ds, _, _, .cons h r, e => by
    simp only [List.mapM_cons, Option.bind_eq_bind, Option.pure_def] at e
    obtain ⟨v, e1, e⟩ := bnd e
    obtain ⟨ws, e2, e⟩ := bnd e
    cases e
    obtain ⟨rfl, hf⟩ := scs_rep r e2
    have hv := sc_rep h e1
    subst hv
    exact ⟨rfl, by rw [List.all_cons, sc_flat e1, hf]; rfl⟩
theorem in_go {K : FRG} {tb φ : List Addr} {H : Hp} {m : Mem} {neg : Bool} {dx : D} {ds : List D} {x : V} {a : Addr} {vs : List V} {d : D} {m' : Mem} {Q : VK} (R : Rel K tb φ H m) (hx : Rep K φ H dx x) (hs : SqL K H a vs ∨ SqT K H a vs) (r : Reps K φ H ds vs)
    (e : (inB neg dx ds).map (fun b => (D.bl b, m)) = some (d, m')) (k : Go K tb φ H m' d Q) : rIn K neg x (.ref a) H Q := by
  obtain ⟨b, e1, e2⟩ := Option.map_eq_some_iff.mp e
  cases e2
  unfold inB at e1
  obtain ⟨x', h1, e1⟩ := bnd e1
  obtain ⟨ys, h2, e1⟩ := bnd e1
  cases e1
  obtain ⟨rfl, hf⟩ := scs_rep r h2
  have := sc_rep hx h1
  subst this
  refine ⟨a, vs, rfl, hs, sc_flat h1, hf, k φ H _ .refl R ?_⟩
  cases neg with
  | true => rw [Bool.bne_true]; exact .bl _
  | false => rw [Bool.bne_false]; exact .bl _
theorem in_s {K : FRG} {tb : List Addr} {neg : Bool} : OpS K tb (rIn K neg) (inD neg) := fun φ H m x y dx dy d m' Q R hx hy e k => by
  unfold inD at e
  split at e
  · cases hy with
    | tup hq r => exact in_go R hx (.inr hq) r e k
  · cases hy with
    | fl hq r => exact in_go R hx (.inl hq.sq) r e k
  · split at e
    · rename_i hm
      obtain ⟨q, vs, rfl, h1, hq, r⟩ := rep_lst R hy hm
      exact in_go R hx (.inl (SqL.of hq)) r e k
    · cases e
  · cases e
end Pv
end
section
set_option Elab.async false
set_option linter.all false
set_option maxRecDepth 100000
set_option maxHeartbeats 1000000
/-! The law's own call, from what is kept of its def. -/
namespace Pv
open PySem PySem.Spec PyProof.Rows L2

/-- the abstract heap at the law's entry: the tables, and the script where it is no object of the module -/
def entryH (K : FRG) (tabs : List Addr) (a : Addr) (o : Obj) (vs : List V) : Hp := fun b =>
  if b ∈ tabs then some (.tbl #[]) else if b = a ∧ K.lookup a = none then some (.frz o (.lst vs)) else none
theorem entryH_cases {K : FRG} {tabs : List Addr} {a b : Addr} {o : Obj} {vs : List V} {u : HO} (h : entryH K tabs a o vs b = some u) :
    (b ∈ tabs ∧ u = .tbl #[]) ∨ (b ∉ tabs ∧ b = a ∧ K.lookup a = none ∧ u = .frz o (.lst vs)) := by
  unfold entryH at h
  by_cases hb : b ∈ tabs
  · rw [if_pos hb] at h; cases h; exact .inl ⟨hb, rfl⟩
  · rw [if_neg hb] at h
    by_cases hc : b = a ∧ K.lookup a = none
    · rw [if_pos hc] at h; cases h; exact .inr ⟨hb, hc.1, hc.2, rfl⟩
    · rw [if_neg hc] at h; cases h
theorem entryH_tab {K : FRG} {tabs : List Addr} {a b : Addr} {o : Obj} {vs : List V} (hb : b ∈ tabs) : entryH K tabs a o vs b = some (.tbl #[]) := if_pos hb

theorem law_callG {P : Program} {w : World} {K : FRG} {mg mb : Str → Option Value} {k : Nat} {fa a : Addr} {cs : List (Addr × Addr)} {fd : FuncData} {x : Str} {F : Fx} {t0 : Shared} {us : List Value} {ns : List Int}
    (inK : K.In t0.heap) (glob : t0.heap.Ns mainGlobals mg) (blt : t0.heap.Ns builtinsNs mb) (bltIs : ∀ x : Str, x ≠ "__name__" → mb x = bootBuiltins x) (lim : t0.heap.NoLimit) (gens : t0.gens = #[])
    (tabs : ∀ p ∈ cs, t0.heap.get? p.2 = some { cls := .none, data := .fields #[] }) (notK : ∀ p ∈ cs, K.lookup p.2 = none) (codes : ∀ p ∈ cs, PySem.W.CodeHd t0.heap p.1 p.2)
    (bmod : ∃ (bm : Addr) (ob : Obj), mg "__builtins__" = some (.ref bm) ∧ bm ≠ builtinsNs ∧ t0.heap.get? bm = some ob ∧ ob.cls = .type "module" ∧ ob.dict = some builtinsNs ∧ ob.data = .plain)
    (obj : t0.heap.get? a = some { cls := .type "list", data := .seq us.toArray }) (isI : IntsAre us ns) (few : ns.length ≤ sizeLine) (room : Room k callerA)
    (G : ∀ base : Heap, K.In base → base.Ns mainGlobals mg → (∀ p ∈ cs, GxR.TabB base mg p.1 p.2) → FnG P w K mg base k fa fd [x] (spF K (cs.map (·.2)) 1 F)) (binds : ∀ (s : Shared) (u : Value), BindsTo s fd ⟨[u], []⟩ [(x, u)])
    (holds : ∃ m', F [.fl (ns.map .int)] [] = some (.bl true, m')) :
    codeAny (model P w) callerA (.call (.ref fa) ⟨[.ref a], []⟩) (fun r s' => r = .ok (.ret (.bool true)) ∧ OldK t0.heap s'.heap ∧ s'.os = t0.os ∧ AllBare s'.gens) t0 := by
  obtain ⟨m', holds⟩ := holds
  have rel := vals_ints isI
  have lens := isI.length
  let ob : Obj := { cls := .type "list", data := .seq us.toArray }
  let TB := cs.map (·.2)
  let H := entryH K TB a ob (ns.map V.int)
  have tabAt : ∀ b, b ∈ TB → t0.heap.get? b = some { cls := .none, data := .fields #[] } := fun b hb => by
    obtain ⟨p, hp, rfl⟩ := List.mem_map.mp hb
    exact tabs p hp
  have ok : HOk P w H t0.heap := fun b u e => by
    rcases entryH_cases e with ⟨hb, rfl⟩ | ⟨_, rfl, _, rfl⟩
    · exact tabAt b hb
    · exact ⟨obj, by rw [List.length_map]; exact few, us, _, rel, obj⟩
  have offData : ∀ {b : Addr} {o : Obj}, t0.heap.get? b = some o → (∀ vs n, o.data ≠ .seq vs n) → o.data ≠ .fields #[] → H b = none := fun {b o} e h1 h2 => by
    cases q : H b with
    | none => rfl
    | some u =>
      exfalso
      rcases entryH_cases q with ⟨hb, _⟩ | ⟨_, rfl, _, _⟩
      · rw [tabAt b hb] at e; cases e; exact h2 rfl
      · rw [obj] at e; cases e; exact h1 _ _ rfl
  have down : ∀ {b : Addr} {o : Obj}, t0.heap.get? b = some o → H b = none → (hidT t0.heap H).get? b = some o := fun e n => hidT_get e n
  have nsDown : ∀ {b : Addr} {f : Str → Option Value}, t0.heap.Ns b f → (hidT t0.heap H).Ns b f := by
    rintro b f ⟨o, es, ep, e, d, r⟩
    exact ⟨o, es, ep, down e (offData e (fun vs n z => by rw [d] at z; cases z) fun z => by rw [d] at z; cases z), d, r⟩
  have kDown : K.In (hidT t0.heap H) := fun b o e => down (inK b o e) (by
    cases q : H b with
    | none => rfl
    | some u =>
      exfalso
      rcases entryH_cases q with ⟨hb, _⟩ | ⟨_, rfl, hk, _⟩
      · obtain ⟨p, hp, rfl⟩ := List.mem_map.mp hb
        rw [notK p hp] at e; cases e
      · rw [hk] at e; cases e)
  have modOk : L2.Mod K mg (hidT t0.heap H) := by
    obtain ⟨mc, l1, l2⟩ := lim
    exact ⟨kDown, nsDown glob, ⟨mb, nsDown blt, bltIs⟩, ⟨mc, nsDown l1, l2⟩⟩
  have tabsOk : ∀ p ∈ cs, GxR.TabB (hidT t0.heap H) mg p.1 p.2 := fun p hp => by
    constructor
    · obtain ⟨o, vs, file, tf, flags, tg, inF, text, tt, e1, rest⟩ := codes p hp
      refine ⟨o, vs, file, tf, flags, tg, inF, text, tt, down e1 (offData e1 (fun vs' n z => ?_) fun z => ?_), rest⟩
      · rw [rest.2.1] at z; cases z
      · rw [rest.2.1] at z
        have z' := Data.fields.inj z
        have h11 := rest.2.2.1
        rw [z'] at h11
        simp at h11
    · obtain ⟨bm, o, b1, b2, b3, b4, b5, b6⟩ := bmod
      refine ⟨bm, o, b1, b2, fun z => ?_, fun z => ?_, down b3 (offData b3 (fun vs n z => ?_) fun z => ?_), b4, b5, b6⟩
      · obtain ⟨o', es, ep, e, d, _⟩ := glob
        rw [z, e] at b3; cases b3
        rw [d] at b6; cases b6
      · rw [z, tabs p hp] at b3; cases b3; cases b6
      · rw [b6] at z; cases z
      · rw [b6] at z; cases z
    · intro z
      obtain ⟨o', es, ep, e, d, _⟩ := glob
      rw [z, tabs p hp] at e; cases e; cases d
  have entry : Env0 P w K mg (hidT t0.heap H) callerA [] t0 H := ⟨rfl, modOk, fun b o e => of_hidT e, Nat.le_of_eq (hidT_size _ _), trivial, fun b hb => absurd (show b ∈ ([] : List Addr) from hb) (by simp), ok, AllBare.of_eq gens⟩
  have RL : Rel K TB [] H [] := ⟨rfl, List.nodup_nil, fun n mo b e1 _ => by simp at e1, fun p hp => ⟨#[], entryH_tab hp, by trivial⟩⟩
  have rInts : ∀ l : List Int, Reps K [] H (l.map .int) (l.map V.int) := fun l => by
    induction l with
    | nil => exact .nil
    | cons i l ih => exact .cons (.int i) ih
  have nT : a ∉ TB := fun z => by
    have e := tabAt a z
    rw [obj] at e
    have e' := congrArg Obj.data (Option.some.inj e)
    cases e'
  have script : Rep K [] H (.fl (ns.map .int)) (.ref a) := by
    refine .fl ?_ (rInts ns)
    cases hk : K.lookup a with
    | none =>
      refine .inl ⟨ob, ?_⟩
      show entryH K TB a ob _ a = _
      unfold entryH
      rw [if_neg nT, if_pos ⟨rfl, hk⟩]
    | some o =>
      have e := inK a o hk
      rw [obj] at e
      cases e
      exact .inr ⟨_, us.toArray, _, hk, rfl, rfl, rfl, by rw [List.size_toArray, lens]; exact few, by simpa using rel⟩
  have want : spF K TB 1 F [.ref a] H (fun v _ => v = .bl true) E0 := ⟨[], [.fl (ns.map .int)], [], .bl true, m', RL, .cons script .nil, rfl, holds, fun φ' H' v _ _ r => by cases r; rfl⟩
  refine codeAny_mono ((G _ kDown (nsDown glob) tabsOk).run callerA [] t0 H ⟨[.ref a], []⟩ [.ref a] [.ref a] _ _ rfl room entry (binds t0 (.ref a)) (.cons rfl .nil) want) fun res t1 ends => ?_
  match res, ends with
  | .ok (.ret u), ⟨v, H', os, bare, un, ok', rv, isT⟩ =>
    have isT' : v = .bl true := isT
    subst isT'
    obtain rfl : u = Value.bool true := rv
    have kept : ∀ b o, b ∉ TB → t0.heap.get? b = some o → t1.heap.get? b = some o := fun b o nb e => by
      cases q : H b with
      | none => exact un.keep b o e q (fun z => absurd (show b ∈ ([] : List Addr) from z) (by simp)) (by simp)
      | some y =>
        rcases entryH_cases q with ⟨hb, _⟩ | ⟨_, rfl, _, rfl⟩
        · exact absurd hb nb
        · have q2 := un.frzs _ _ _ q
          obtain ⟨e1, _⟩ := ok' _ _ q2
          rw [obj] at e; cases e
          exact e1
    have grown : ∀ p ∈ cs, ∃ more : Array Value, t1.heap.get? p.2 = some { cls := .none, data := .fields more } := fun p hp => by
      obtain ⟨more, z⟩ := un.tbls p.2 #[] (entryH_tab (List.mem_map.mpr ⟨p, hp, rfl⟩))
      exact ⟨_, ok' p.2 _ z⟩
    refine ⟨rfl, ⟨fun b o e => ?_, fun b o e => ?_⟩, os, bare⟩
    · by_cases hb : b ∈ TB
      · obtain ⟨p, hp, rfl⟩ := List.mem_map.mp hb
        obtain ⟨more, hm⟩ := grown p hp
        rw [tabs p hp] at e
        cases e
        exact .inr (.inl ⟨((codes p hp).tab (tabs p hp)).isCodeTable, rfl, #[], more, rfl, by rw [Array.empty_append]; exact hm⟩)
      · exact .inl (kept b o hb e)
    · by_cases hb : b ∈ TB
      · obtain ⟨p, hp, rfl⟩ := List.mem_map.mp hb
        obtain ⟨more, hm⟩ := grown p hp
        exact ⟨_, hm⟩
      · exact ⟨o, kept b o hb e⟩
/-- the end: what is asked of the head is a fact a def -/
theorem walkG {l : PySem.W.OpenLaw} {n k : Nat} {q : Program} {loose : List Str} {XP : (Str → Option Value) → Heap → Prop} {YP : World → Heap → Prop} {d : DefRec} {K : Params → FRG} {x : Str} {F : Fx}
    (hn : l.most = some n) (hn2 : n ≤ sizeLine) (hdf : d.params.defaults = []) (room : Room k callerA) (hY : ∀ (w : World) (h : Heap), YP w h → (K w.params).In h)
    (G : ∀ (w : World) (mg : Str → Option Value) (fa : Addr) (h : Heap), (K w.params).In h → h.Ns mainGlobals mg → mg d.name = some (.ref fa) →
      (∀ (x : Str) (d : DefRec) (c P : Addr), (recsOf q).find? (fun e => e.name == x) = some d → PySem.W.tabIn (K w.params) x = some (c, P) → PySem.W.CodeHd h c P ∧ h.get? P = some { cls := .none, data := .fields #[] }) →
      ∃ (fd : FuncData) (cs : List (Addr × Addr)), (∀ p ∈ cs, h.get? p.2 = some { cls := .none, data := .fields #[] }) ∧ (∀ p ∈ cs, (K w.params).lookup p.2 = none) ∧ (∀ p ∈ cs, PySem.W.CodeHd h p.1 p.2) ∧ (∀ (s : Shared) (u : Value), BindsTo s fd ⟨[u], []⟩ [(x, u)]) ∧
        ∀ base : Heap, (K w.params).In base → base.Ns mainGlobals mg → (∀ p ∈ cs, GxR.TabB base mg p.1 p.2) → FnG l.prog w (K w.params) mg base k fa fd [x] (spF (K w.params) (cs.map (·.2)) 1 F))
    (holds : ∀ ns : List Int, ns.length ≤ n → ∃ m', F [.fl (ns.map .int)] [] = some (.bl true, m')) :
    PySem.W.WalkO q loose XP YP l.row.toRowW d [] (fun f vs => PySem.call f vs) := by
  refine Att.attach_callB hn hdf fun w s₀ t0 mg mb fa o pm cd doc a us ns Gr Y ho hd hcd hmg hobj hints hlen hbits hg => ?_
  have inK := hY w _ Y
  obtain ⟨fd, cs, tabs, notK, codes, binds, hG⟩ := G w mg fa _ inK Gr.T.g hmg fun x d c P h1 h2 => PySem.W.tab_of Gr.T inK h1 h2
  exact law_callG inK Gr.T.g Gr.T.b Gr.T.builtins Gr.T.nolimit hg tabs notK codes Gr.T.bmain hobj hints (Nat.le_trans hlen hn2) room hG binds (holds ns hlen)
end Pv
end
section
set_option Elab.async false
set_option linter.all false
set_option maxRecDepth 100000
set_option maxHeartbeats 2000000
/-! tuple(child for child in range(len(house)) if who in (house[child][1], house[child][2])) -/
namespace Pv
open PySem PySem.Spec PyProof.Rows L2

def parD : List D → Option (List (Int × Int))
  | [] => some []
  | .tup (_ :: .int f :: .int g :: _) :: ds => (parD ds).map ((f, g) :: ·)
  | _ => none
def isKid (ps : List (Int × Int)) (w : Int) (i : Nat) : Bool := match ps[i]? with
  | some p => (p.1 == w || p.2 == w)
  | none => false
def kidsN (ps : List (Int × Int)) (w : Int) : List Nat := (List.range ps.length).filter (isKid ps w)
def kidsD (ps : List (Int × Int)) (w : Int) : List D := (kidsN ps w).map fun i : Nat => D.int i
def eKids (ih iw : Nat) : Ex := fun ρ m => match ρ[ih]?, ρ[iw]? with
  | some (some (.tup fs)), some (some (.int w)) => (parD fs).bind fun ps => if fs.length ≤ 1000000 then some (.tup (kidsD ps w), m) else none
  | _, _ => none

def FolkRaw (h : Heap) (ah : Addr) (ps : List (Int × Int)) : Prop := ∃ its : Array Value, IsTup h ah its ∧ its.size = ps.length ∧
  ∀ (i : Nat) (p : Int × Int), ps[i]? = some p → ∃ ai itsi t u, its[i]? = some (.ref ai) ∧ IsTup h ai itsi ∧ 3 ≤ itsi.size ∧ itsi[1]? = some (.int p.1 t) ∧ itsi[2]? = some (.int p.2 u)
theorem FolkRaw.keeps {h h' : Heap} {ah : Addr} {ps : List (Int × Int)} (x : FolkRaw h ah ps) (k : ∀ b o, h.get? b = some o → h'.get? b = some o) : FolkRaw h' ah ps := by
  obtain ⟨its, a, b, c⟩ := x
  refine ⟨its, a.keeps k, b, fun i p e => ?_⟩
  obtain ⟨ai, itsi, t, u, e1, e2, e3⟩ := c i p e
  exact ⟨ai, itsi, t, u, e1, e2.keeps k, e3⟩
section
variable {X : Cx} {pins : List (Addr × Obj)} {σ : L2.St} {H : Hp} {s : Shared} {tb φ : List Addr} {m : Mem}
theorem par_len : ∀ {fs : List D} {ps : List (Int × Int)}, parD fs = some ps → fs.length = ps.length
  | [], ps, e => by cases e; rfl
  | .tup (_ :: .int f :: .int g :: _) :: ds, ps, e => by
    obtain ⟨qs, e1, rfl⟩ := Option.map_eq_some_iff.mp (show (parD ds).map ((f, g) :: ·) = some ps from e)
    simp [par_len e1]
theorem par_raw (I : Inv X pins σ H s) : ∀ {fs : List D} {ps : List (Int × Int)} {vs : List V} {us : List Value}, parD fs = some ps → Reps X.K φ H fs vs → Vals vs us →
    ∀ (i : Nat) (p : Int × Int), ps[i]? = some p → ∃ ai itsi t u, us[i]? = some (.ref ai) ∧ IsTup s.heap ai itsi ∧ 3 ≤ itsi.size ∧ itsi[1]? = some (.int p.1 t) ∧ itsi[2]? = some (.int p.2 u)
  | [], ps, _, _, e, _, _, i, p, h => by cases e; simp at h
  | .tup (d0 :: .int f :: .int g :: dr) :: ds, ps, _, _, e, .cons h1 r1, .cons v1 w1, i, p, h => by
    obtain ⟨qs, e1, rfl⟩ := Option.map_eq_some_iff.mp (show (parD ds).map ((f, g) :: ·) = some ps from e)
    cases i with
    | zero =>
      have hp : (f, g) = p := Option.some.inj (by simpa using h)
      subst hp
      cases h1 with
      | tup hq r =>
        cases v1
        obtain ⟨its, rv, it, _⟩ := I.tuple hq
        cases r with
        | cons a0 r => cases r with
          | cons a1 r => cases r with
            | cons a2 r =>
              cases a1
              cases a2
              cases rv with
              | cons b0 rv => cases rv with
                | cons b1 rv => cases rv with
                  | cons b2 rv =>
                    obtain ⟨t1, rfl⟩ := b1
                    obtain ⟨t2, rfl⟩ := b2
                    exact ⟨_, _, t1, t2, rfl, it, by simp, by simp, by simp⟩
    | succ i => exact par_raw I e1 r1 w1 i p (by simpa using h)
theorem raw_of (I : Inv X pins σ H s) {fs : List D} {ps : List (Int × Int)} {v : V} (hp : parD fs = some ps) (h : Rep X.K φ H (.tup fs) v) : ∃ ah, v = .ref ah ∧ FolkRaw s.heap ah ps ∧ ∃ vs, SqT X.K H ah vs ∧ vs.length = ps.length := by
  cases h with
  | tup hq r =>
    obtain ⟨its, rv, it, _⟩ := I.tuple hq
    have e1 := r.length
    have e2 := rv.length
    have e3 := par_len hp
    refine ⟨_, rfl, ⟨its.toArray, it, by rw [List.size_toArray]; omega, fun i p e => ?_⟩, _, hq, by omega⟩
    obtain ⟨ai, itsi, t, u, a1, a2⟩ := par_raw I hp r rv i p e
    exact ⟨ai, itsi, t, u, by simpa using a1, a2⟩
end
section
variable {prog : Program} {w : World} {A : Around} {E : Value → Shared → Prop} {s : Shared}
theorem tupItem {value slice : Expr} {t : Addr} {items : Array Value} {k : Int} {u : Tok} {x : Value} {Q : Value → Shared → Prop} (ht : IsTup s.heap t items) (h0 : 0 ≤ k) (h1 : k < 2 ^ 62) (hx : items[k.toNat]? = some x) (h : Q x s)
    (hs : subscripted slice false (.ref t) (.int k u) = operate [.ref t, .int k u] (getItem (.ref t) (.int k u))) : wpAny (model prog w) A (subscriptTail value slice (.ref t) (.int k u)) Q E s := by
  have hl : k.toNat < items.size := by
    rcases Nat.lt_or_ge k.toNat items.size with z | z
    · exact z
    · rw [Array.getElem?_eq_none z] at hx; cases hx
  exact subscriptTail_builtinR (x := x) ht.typeIs slot_tuple_getitem.lookup (getItem_tuple (j := k.toNat) (Q := fun r s' => r = x ∧ Q r s') ht (by omega) (by omega) (seqIndex_of h0 (by omega)) hx ⟨rfl, h⟩) hs
theorem kid_test {cenv : PySem.Env} {m₂ : Str → Option Value} {ch cw ah : Addr} {wh : Int} {tw tc : Tok} {i : Nat} {ps : List (Int × Int)} {p : Int × Int} {j1 j2 k1 : Nat} {q1 q2 q3 q4 q5 q6 r2 r3 r4 r5 r6 r7 r8 : Pos} {whole : Sem Value}
    (hk : cenv.scope.kind = .function) (hc : cenv.scope.names.lookup ("child" : Str) = some .local) (hh : cenv.scope.names.lookup ("house" : Str) = some .free) (hw : cenv.scope.names.lookup ("who" : Str) = some .free)
    (c1 : cenv.cells.lookup ("house" : Str) = some ch) (c2 : cenv.cells.lookup ("who" : Str) = some cw) (hn : s.heap.Ns cenv.locals m₂) (hm : m₂ "child" = some (.int (i : Nat) tc)) (b1 : s.heap.IsCell ch (some (.ref ah))) (b2 : s.heap.IsCell cw (some (.int wh tw)))
    (fr : FolkRaw s.heap ah ps) (hp : ps[i]? = some p) (hi : (i : Int) < 2 ^ 62) :
    wpAny (model prog w) A (isTrue (.Compare (.Name "who" q1) [.In] [.Tuple [.Subscript (.Subscript (.Name "house" q2) (.Name "child" q3) q4) (.Constant (.int 1) j1 q5) q6, .Subscript (.Subscript (.Name "house" r2) (.Name "child" r3) r4) (.Constant (.int 2) j2 r5) r6] k1 r7] r8) cenv whole)
      (fun ok s' => ok = (p.1 == wh || p.2 == wh) ∧ Keeps s s') E s := by
  obtain ⟨its, it, hsz, hf⟩ := fr
  obtain ⟨ai, itsi, t1, t2, e1, it1, hs3, e2, e3⟩ := hf i p hp
  refine wpAny_isTrue_Compare1 ?_ (by rfl)
  refine wpAny_Name (wpAny_loadName_free hk hw c2 b2 ?_)
  refine wpAny_Tuple_spliced ?_
  show wpAny _ _ (spliced ((false, eval (.Subscript (.Subscript (.Name "house" q2) (.Name "child" q3) q4) (.Constant (.int 1) j1 q5) q6) cenv) :: backTo r7 [(false, eval (.Subscript (.Subscript (.Name "house" r2) (.Name "child" r3) r4) (.Constant (.int 2) j2 r5) r6) cenv)])) _ _ s
  refine Calls.spliced_cons ?_
  have one : ∀ (t : Nat) (j : Nat) (c : Int) (pa pb pc pd pe : Pos) (x : Value) (Q : Value → Shared → Prop) (E : Value → Shared → Prop), 0 ≤ c → c < 10 → itsi[c.toNat]? = some x → (∀ t', Q x { s with toks := t' }) →
      wpAny (model prog w) A (eval (.Subscript (.Subscript (.Name "house" pa) (.Name "child" pb) pc) (.Constant (.int c) j pd) pe) cenv) Q E { s with toks := t } := by
    intro t j c pa pb pc pd pe x Q E c0 c9 hx hQ
    refine Subscript_ (Subscript_ ?_)
    refine wpAny_Name (wpAny_loadName_free hk hh c1 (s := { s with toks := t }) b1 ?_)
    refine wpAny_Name (wpAny_loadName_local hk hc (s := { s with toks := t }) hn hm ?_)
    refine tupItem (s := { s with toks := t }) it (by omega) hi (by simpa using e1) ?_ rfl
    refine wpAny_Constant_int ?_
    exact tupItem (s := { s with toks := t + 1 }) it1 c0 (by omega) hx (hQ _) rfl
  refine one s.toks j1 1 q2 q3 q4 q5 q6 _ _ _ (by omega) (by omega) e2 fun ta => ?_
  show wpAny _ _ (spliced ((false, eval (.Subscript (.Subscript (.Name "house" r2) (.Name "child" r3) r4) (.Constant (.int 2) j2 r5) r6) cenv) :: backTo r7 [])) _ _ { s with toks := ta }
  refine Calls.spliced_cons ?_
  refine one ta j2 2 r2 r3 r4 r5 r6 _ _ _ (by omega) (by omega) e3 fun tb => ?_
  refine Calls.spliced_nil ?_
  refine ⟨by show 2 ≤ sizeLine; rw [sizeLine_eq]; decide, ?_⟩
  have rr : Vals [V.int p.1, V.int p.2] [Value.int p.1 t1, Value.int p.2 t2] := .cons ⟨_, rfl⟩ (.cons ⟨_, rfl⟩ .nil)
  refine SeqAt.in_tupleAt (eqU (.int wh)) (IsTup.new _ _) (fun y hy => mem_eqAt (x := .int wh) (v := .int wh tw) ⟨tw, rfl⟩ rfl rr rfl y (by simpa using hy)) ?_
  refine wpAny_truthy_bool ⟨?_, _, _, rfl, fun b o e => Heap.get?_push_of_some _ e⟩
  rw [show ([Value.int p.1 t1, Value.int p.2 t2] : List Value).toArray.any (eqU (.int wh)) = [Value.int p.1 t1, Value.int p.2 t2].any (eqU (.int wh)) by simp, any_eqU rr rfl]
  simp [eqV]
end
end Pv
end
section
set_option Elab.async false
set_option linter.all false
set_option maxRecDepth 100000
set_option maxHeartbeats 4000000
/-! The generator expression of children_of, handed to tuple. -/
namespace Pv
open PySem PySem.Spec PyProof.Rows L2

/-- a table has grown -/
theorem Post.tbl {φ : List Addr} {H : Hp} {p : Addr} {ps ps' : Array Value} (h : H p = some (.tbl ps)) : Post φ H φ (upd H p (.tbl ps')) :=
  ⟨List.prefix_refl _, fun _ z => .inl z, fun b u _ e ht => by rw [upd_ne (fun z => by rw [z, h] at e; cases e; exact ht _ rfl)]; exact e, fun b z => by
    by_cases hb : b = p
    · rw [hb, upd_same] at z; cases z
    · rw [upd_ne hb] at z; exact z⟩
theorem Rel.tbl {K : FRG} {tb φ : List Addr} {H : Hp} {m : Mem} {p : Addr} {ps ps' : Array Value} (R : Rel K tb φ H m) (h : H p = some (.tbl ps)) (ht : TriplesOk ps'.toList) : Rel K tb φ (upd H p (.tbl ps')) m := by
  refine ⟨R.len, R.nd, fun n mo a e1 e2 => ?_, fun q hq => ?_⟩
  · exact (R.obj n mo a e1 e2).mono (Post.tbl h) R (upd_ne fun z => R.ntbl h (z ▸ List.mem_of_getElem? e2))
  · by_cases hb : q = p
    · rw [hb]; exact ⟨ps', upd_same, ht⟩
    · exact TabG.keep (R.tab q hq) (upd_ne hb)
theorem bounded {prog : Program} {w : World} {A : Around} {I : Addr} {fp wr : List Addr} {n : Nat} {P : Nat → Value → Prop} {St : Nat → Heap → Prop} (W : Walks prog w A I fp wr n P St) : Walks prog w A I fp wr n (fun i v => i < n ∧ P i v) St where
  sub := W.sub
  frame := W.frame
  item := fun i s Q E hi st hQ => W.item i s Q E hi st fun v h' tk hP => hQ v h' tk ⟨hi, hP⟩
  done := W.done
  self := W.self
theorem filt_range {n : Nat} {f : Nat → Bool} : passing f n 0 = (List.range n).filter f := by
  unfold passing
  rw [List.drop_zero]
theorem kids_acc {ps : List (Int × Int)} {wh : Int} {acc : Array Value} (h : ItemsOf (fun j y => ∃ i, ((List.range ps.length).filter (isKid ps wh))[j]? = some i ∧ ∃ t, y = Value.int (i : Nat) t) acc ((List.range ps.length).filter (isKid ps wh)).length) :
    Vals ((kidsN ps wh).map fun i : Nat => V.int i) acc.toList := by
  have gen : ∀ (l : List Nat) (us : List Value), us.length = l.length → (∀ (j : Nat) y, us[j]? = some y → ∃ i : Nat, l[j]? = some i ∧ ∃ t, y = Value.int (i : Nat) t) → Vals (l.map fun i : Nat => V.int i) us := by
    intro l
    induction l with
    | nil =>
      intro us hl _
      cases us with
      | nil => exact .nil
      | cons u us => simp at hl
    | cons i l ih =>
      intro us hl hu
      cases us with
      | nil => simp at hl
      | cons u us =>
        obtain ⟨i', e1, t, e2⟩ := hu 0 u (by simp)
        have e3 : i = i' := by simpa using e1
        subst e3
        exact .cons ⟨t, e2⟩ (ih us (by simpa using hl) fun j y hy => by
          obtain ⟨i2, q1, q2⟩ := hu (j + 1) y (by simpa using hy)
          exact ⟨i2, by simpa using q1, q2⟩)
  refine gen (kidsN ps wh) acc.toList (by rw [Array.length_toList, h.1]; rfl) fun j y hy => ?_
  exact h.2 j y (by simpa using hy)

section
variable {X : Cx} {tb : List Addr}
theorem ex_kids {k : Nat} {c P : Addr} {scope : Scope} {j1 j2 k1 : Nat} {p1 p2 p3 p4 p5 p6 p7 p8 q1 q2 q3 q4 q5 q6 r2 r3 r4 r5 r6 r7 r8 gpos pos : Pos} (ih iw : Nat)
    (hr : Room k X.A) (hgt : Gl X "tuple") (hmt : X.mg "tuple" = none) (hgr : Gl X "range") (hmr : X.mg "range" = none) (hgl : Gl X "len") (hml : X.mg "len" = none)
    (TB : GxR.TabB X.base X.mg c P) (hP : P ∈ tb) (hcode : X.env.code = .ref c) (S : GxR.GenS X.env scope "child")
    (hfh : scope.names.lookup ("house" : Str) = some .free) (hfw : scope.names.lookup ("who" : Str) = some .free)
    (hch : X.env.kindOf "house" = some .cell) (hcw : X.env.kindOf "who" = some .cell)
    (clh : (cloFrom X.env.cells scope.names []).lookup ("house" : Str) = X.env.cells.lookup ("house" : Str)) (clw : (cloFrom X.env.cells scope.names []).lookup ("who" : Str) = X.env.cells.lookup ("who" : Str))
    (n0 : X.N[ih]? = some "house") (n1 : X.N[iw]? = some "who")
    (he : starEach [.GeneratorExp (.Name "child" p2) [⟨.Name "child" p3, .Call (.Name "range" p4) [.Call (.Name "len" p5) [.Name "house" p6] [] p7] [] p8, [.Compare (.Name "who" q1) [.In] [.Tuple [.Subscript (.Subscript (.Name "house" q2) (.Name "child" q3) q4) (.Constant (.int 1) j1 q5) q6, .Subscript (.Subscript (.Name "house" r2) (.Name "child" r3) r4) (.Constant (.int 2) j2 r5) r6] k1 r7] r8], 0⟩] scope gpos] X.env =
      (false, eval (.GeneratorExp (.Name "child" p2) [⟨.Name "child" p3, .Call (.Name "range" p4) [.Call (.Name "len" p5) [.Name "house" p6] [] p7] [] p8, [.Compare (.Name "who" q1) [.In] [.Tuple [.Subscript (.Subscript (.Name "house" q2) (.Name "child" q3) q4) (.Constant (.int 1) j1 q5) q6, .Subscript (.Subscript (.Name "house" r2) (.Name "child" r3) r4) (.Constant (.int 2) j2 r5) r6] k1 r7] r8], 0⟩] scope gpos) X.env) :: starEach [] X.env := by rfl) :
    PE X (.Call (.Name "tuple" p1) [.GeneratorExp (.Name "child" p2) [⟨.Name "child" p3, .Call (.Name "range" p4) [.Call (.Name "len" p5) [.Name "house" p6] [] p7] [] p8, [.Compare (.Name "who" q1) [.In] [.Tuple [.Subscript (.Subscript (.Name "house" q2) (.Name "child" q3) q4) (.Constant (.int 1) j1 q5) q6, .Subscript (.Subscript (.Name "house" r2) (.Name "child" r3) r4) (.Constant (.int 2) j2 r5) r6] k1 r7] r8], 0⟩] scope gpos] [] pos)
      (T X.K tb (eKids ih iw)) := by
  constructor
  intro pins s σ H Q I want
  obtain ⟨φ, ρ, m, d, m', R, RV, e, go⟩ := want
  unfold eKids at e
  split at e
  rotate_left
  · cases e
  rename_i fs wh eh ew
  obtain ⟨ps, hps, e⟩ := bnd e
  split at e
  rotate_left
  · cases e
  rename_i hlen
  cases e
  have plen := par_len hps
  obtain ⟨vh, sh, rh⟩ := RV.val ih _ eh
  obtain ⟨vw, sw, rw'⟩ := RV.val iw _ ew
  cases rw'
  obtain ⟨ps0, hP0, htr0⟩ := R.tab P hP
  refine wpAny_Call_Name_kw (ld_blt I hgt hmt boot_tuple ?_)
  refine PyProof.Rows.callWith_type1 ?_ he (by rfl)
  rw [he]
  show wpAny _ _ (spliced ((false, eval _ X.env) :: backTo pos (starEach [] X.env))) _ _ s
  refine Calls.spliced_cons ?_
  refine wpAny_GeneratorExp_walksQ hr.hd S.co (closure_ok S.free) S.cell S.dot S.loc S.kind (by have := hr.dp; omega) ?_ (fun _ => rfl)
  -- range(len(house))
  refine Call_ (ld_blt I hgr hmr boot_range (PyProof.Rows.callWith_type1 ?_ rfl rfl))
  show wpAny _ _ (spliced ((false, eval (.Call (.Name "len" p5) [.Name "house" p6] [] p7) X.env) :: backTo p8 (starEach [] X.env))) _ _ s
  refine Calls.spliced_cons ?_
  obtain ⟨ah, rfl, fr, vs, hq, hvl⟩ := raw_of I hps rh
  have lenRule : PE X (.Call (.Name "len" p5) [.Name "house" p6] [] p7) _ := pe_callB call_len_seq hgl hml PySem.boot_len (pa_cons (pe_var n0 (.inr (.inl hch))) pa_nil)
  refine thn (lenRule.run pins s σ H (fun x H1 => H1 = H ∧ x = .int (ps.length : Nat)) I ⟨.ref ah, sh, ah, vs, rfl, .inr hq, rfl, by rw [hvl]⟩) fun lv s1 ⟨x, H1, I1, r1, q1⟩ => ?_
  obtain ⟨rfl, rfl⟩ := q1
  obtain ⟨lt, rfl⟩ := r1
  refine Calls.spliced_nil ?_
  refine call_range_1 ?_
  have nbig : ((ps.length : Nat) : Int) < 2 ^ 62 := by omega
  refine wpAny_pyIter_range (IsRange.new ..) (small_one (by omega) (by omega) (by omega) nbig) ?_
  -- what stands now
  let t1 : Shared := { s1 with heap := s1.heap.push { cls := .type "range", data := .fields #[.int 0 s1.toks, .int (ps.length : Nat) lt, .int 1 (s1.toks + 1)] }, toks := s1.toks + 1 + 1 }
  let it : Addr := t1.heap.objs.size
  let t2 : Shared := { t1 with heap := t1.heap.push { cls := .type "range_iterator", data := .fields #[rawInt 0, rawInt (Builtin.Range.rangeSize 0 (ps.length : Nat) 1), rawInt 1] } }
  have I2 : Inv X pins σ H1 t2 := (I1.kept (t' := s1.toks + 1 + 1) (fun b o e => Heap.get?_push_of_some _ e)).kept (t' := s1.toks + 1 + 1) fun b o e => Heap.get?_push_of_some _ e
  have up : ∀ b o, s1.heap.get? b = some o → t2.heap.get? b = some o := fun b o e => Heap.get?_push_of_some _ (Heap.get?_push_of_some _ e)
  have frames := raw_of I2 hps rh
  obtain ⟨ah', eah, fr2, _⟩ := frames
  have eah' : ah = ah' := V.ref.inj eah
  subst eah'
  -- the cells
  obtain ⟨mL, hnL, hlook⟩ := id I2.loc
  obtain ⟨uh, ruh, lh⟩ := hlook ih _ _ n0 sh (.inr (.inl hch))
  obtain ⟨uw, ruw, lw⟩ := hlook iw _ _ n1 sw (.inr (.inl hcw))
  cases ruh
  obtain ⟨tw, rfl⟩ := ruw
  have lh' : ∃ ch, X.env.cells.lookup ("house" : Str) = some ch ∧ t2.heap.IsCell ch (some (.ref ah)) := by
    rcases lh with ⟨z, _⟩ | ⟨_, ch, z1, z2⟩
    · rw [hch] at z; cases z
    · exact ⟨ch, z1, z2⟩
  have lw' : ∃ cw, X.env.cells.lookup ("who" : Str) = some cw ∧ t2.heap.IsCell cw (some (.int wh tw)) := by
    rcases lw with ⟨z, _⟩ | ⟨_, cw, z1, z2⟩
    · rw [hcw] at z; cases z
    · exact ⟨cw, z1, z2⟩
  obtain ⟨ch, eh1, eh2⟩ := lh'
  obtain ⟨cw, ew1, ew2⟩ := lw'
  have itIs : IsRangeIter t2.heap it (0 + ((0 : Nat) : Int) * 1) (((ps.length : Nat) : Int) - ((0 : Nat) : Int)) 1 := by
    have z1 : (0 : Int) + ((0 : Nat) : Int) * 1 = 0 := by simp
    have z2 : ((ps.length : Nat) : Int) - ((0 : Nat) : Int) = Builtin.Range.rangeSize 0 (ps.length : Nat) 1 := by
      rw [rangeSize_one]; split <;> omega
    rw [z1, z2]
    exact Heap.get?_push_size _ rfl
  have hPs : t2.heap.get? P = some { cls := .none, data := .fields ps0 } := I2.hok P _ hP0
  have hPlt : P < t2.heap.objs.size := Heap.lt_size hPs
  have hPit : P ≠ it := fun z => by
    have e0 : t1.heap.get? P = some { cls := .none, data := .fields ps0 } := (I1.kept (t' := s1.toks + 1 + 1) (h' := t1.heap) (fun b o e => Heap.get?_push_of_some _ e)).hok P _ hP0
    have := Heap.lt_size e0
    rw [z] at this
    exact Nat.lt_irrefl _ this
  have cd : PySem.W.CodeHd t2.heap c P := TB.code.keeps fun b u e => I2.bk b u e
  have cont : ∀ (code : Value) (h3 : Heap) (tk : Nat) (ps' : Array Value), Heap.ExtBut P t2.heap h3 → t2.heap.objs.size ≤ h3.objs.size → h3.get? P = some { cls := .none, data := .fields ps' } → (∃ more, ps' = ps0 ++ more) → TriplesOk ps'.toList →
      wpAny (model X.prog X.w) X.A (builtinsFor X.env.globals X.env.builtins) (fun bi s₄ =>
        ∃ Ia fp wr n₀ Pf St₀ pz F, Value.ref it = .ref Ia ∧ (∀ A' : Around, A'.handled = none → Walks X.prog X.w A' Ia fp wr n₀ Pf St₀) ∧ St₀ 0 s₄.heap ∧ (∀ b ∈ fp, b < s₄.heap.objs.size) ∧ s₄.heap.NoLimit ∧ cStatics ∉ wr ∧
          (∀ href : Heap, (∀ b o, s₄.heap.get? b = some o → href.get? b = some o) →
            QuietGen X.prog X.w (genEnv scope (cloFrom X.env.cells scope.names []) s₄.heap.objs.size code bi X.env) "child" [.Compare (.Name "who" q1) [.In] [.Tuple [.Subscript (.Subscript (.Name "house" q2) (.Name "child" q3) q4) (.Constant (.int 1) j1 q5) q6, .Subscript (.Subscript (.Name "house" r2) (.Name "child" r3) r4) (.Constant (.int 2) j2 r5) r6] k1 r7] r8] (.Name "child" p2) (List.range s₄.heap.objs.size) wr Pf pz F href) ∧
          (∀ a h₅ tk gs, gs.bare = true → s₄.heap.objs.size < a → h₅.objs.size = a + 1 → (∀ b o, s₄.heap.get? b = some o → h₅.get? b = some o) →
            WalksS X.prog X.w X.A.in4 a (a :: s₄.heap.objs.size :: List.range s₄.heap.objs.size) (s₄.heap.objs.size :: wr) (GenOnlyQ s₄.gens.size) (passing pz n₀ 0).length
              (fun j y => ∃ i, (passing pz n₀ 0)[j]? = some i ∧ F i y) (GenAt X.prog X.w X.A.in4 a s₄.gens.size s₄.heap.objs.size (List.range s₄.heap.objs.size) wr pz n₀ F) →
            GenAt X.prog X.w X.A.in4 a s₄.gens.size s₄.heap.objs.size (List.range s₄.heap.objs.size) wr pz n₀ F 0 { s₄ with gens := s₄.gens.push gs, toks := tk, heap := h₅ } →
            wpAny (model X.prog X.w) X.A (spliced (backTo pos (starEach [] X.env))) (fun vs s₂ => wpAny (model X.prog X.w) X.A (call (.type "tuple") (.ref a :: vs)) (EP X pins σ Q) X.xe s₂) X.xe { s₄ with gens := s₄.gens.push gs, toks := tk, heap := h₅ })) X.xe { t2 with heap := h3, toks := tk } := by
    intro code h3 tk ps' hx hsz hP3 hmore ht3
    obtain ⟨bm, ob, e1, e2, e3, e4, e5, e6, e7, e8⟩ := TB.bm
    have hcP : cStatics ≠ P := fun e => by
      obtain ⟨_, hns, _⟩ := I2.nolimit
      obtain ⟨o', es, ep, ho, hd, _⟩ := hns
      rw [e, hPs] at ho
      cases ho
      cases hd
    have hcl : cStatics < s1.heap.objs.size := let ⟨_, hns, _⟩ := I1.nolimit; hns.lt
    have sz1 : t1.heap.objs.size = s1.heap.objs.size + 1 := Heap.size_push ..
    have sz2 : t2.heap.objs.size = t1.heap.objs.size + 1 := Heap.size_push ..
    have keep3 : ∀ b u, b ≠ P → t2.heap.get? b = some u → h3.get? b = some u := fun b u hb e => hx b u hb e
    refine wpAny_builtinsFor (m := X.mg) (by rw [I2.ok.glob]; exact (I2.mod.glob.keeps I2.bk).extBut hx TB.gP) e1 e2 (keep3 _ _ e4 (I2.bk _ _ e5)) e6 e7 e8 ?_
    refine ⟨it, [it], [it], ps.length, (fun i v => i < ps.length ∧ ∃ t, v = .int (0 + i * 1) t), (fun i h => IsRangeIter h it (0 + (i : Nat) * 1) (((ps.length : Nat) : Int) - (i : Nat)) 1), isKid ps wh, (fun i y => ∃ t, y = Value.int (i : Nat) t), rfl, fun A' hA => bounded (Walks.range hA it 0 1 ps.length), ?_, ?_, I2.nolimit.extBut hx hcP, ?_, ?_, ?_⟩
    · exact keep3 it _ (Ne.symm hPit) itIs
    · intro b hb
      rw [List.mem_singleton.mp hb]
      exact Nat.lt_of_lt_of_le (show t1.heap.objs.size < t2.heap.objs.size by rw [sz2]; exact Nat.lt_succ_self _) hsz
    · intro z
      have z' : cStatics = t1.heap.objs.size := List.mem_singleton.mp z
      rw [sz1] at z'
      exact absurd (show cStatics < s1.heap.objs.size from hcl) (by rw [z']; exact Nat.not_lt.mpr (Nat.le_succ _))
    · intro href hhref
      have hcell : ∀ (cc : Addr) (v : Value), t2.heap.IsCell cc (some v) → (∀ (s₂ : Shared), (∀ b ∈ List.range h3.objs.size, b ∉ [it] → ∀ o, href.get? b = some o → s₂.heap.get? b = some o) → s₂.heap.IsCell cc (some v)) := by
        rintro cc v ⟨o, ho, hd⟩ s₂ hk
        have n1 : cc ≠ P := fun z => by rw [z, hPs] at ho; cases ho; cases hd
        have n2 : cc ≠ it := fun z => by
          have e0 : t2.heap.get? it = some _ := itIs
          rw [z, e0] at ho; cases ho; cases hd
        have h3o := keep3 cc o n1 ho
        exact ⟨o, hk cc (List.mem_range.mpr (Heap.lt_size h3o)) (fun z => n2 (List.mem_singleton.mp z)) o (hhref cc o h3o), hd⟩
      have hraw : ∀ (s₂ : Shared), (∀ b ∈ List.range h3.objs.size, b ∉ [it] → ∀ o, href.get? b = some o → s₂.heap.get? b = some o) → FolkRaw s₂.heap ah ps := by
        intro s₂ hk
        have tupUp : ∀ (b : Addr) (items : Array Value), IsTup t2.heap b items → IsTup s₂.heap b items := by
          rintro b items ⟨o, ho, hc, nn, hd⟩
          have n1 : b ≠ P := fun z => by rw [z, hPs] at ho; cases ho; cases hc
          have n2 : b ≠ it := fun z => by
            have e0 : t2.heap.get? it = some _ := itIs
            rw [z, e0] at ho; cases ho; cases hd
          have h3o := keep3 b o n1 ho
          exact ⟨o, hk b (List.mem_range.mpr (Heap.lt_size h3o)) (fun z => n2 (List.mem_singleton.mp z)) o (hhref b o h3o), hc, nn, hd⟩
        obtain ⟨its, a1, a2, a3⟩ := fr2
        refine ⟨its, tupUp _ _ a1, a2, fun i p hp => ?_⟩
        obtain ⟨ai, itsi, t, u, b1, b2, b3⟩ := a3 i p hp
        exact ⟨ai, itsi, t, u, b1, tupUp _ _ b2, b3⟩
      refine ⟨fun A' E' i v s₂ m₂ hA hPv hn hm hk => ?_, fun A' E' i v s₂ m₂ hA hPv hp hn hm hk => ?_⟩
      · obtain ⟨hin, t, rfl⟩ := hPv
        refine wpAny_tests_one ?_
        cases hpi : ps[i]? with
        | none => exact absurd hin (Nat.not_lt.mpr (List.getElem?_eq_none_iff.mp hpi))
        | some p =>
          have hm' : m₂ "child" = some (.int ((i : Nat) : Int) t) := by
            have z1 : (0 : Int) + (i : Int) * 1 = (i : Int) := by omega
            rw [z1] at hm; exact hm
          have hik : isKid ps wh i = (p.1 == wh || p.2 == wh) := by unfold isKid; rw [hpi]
          rw [hik]
          have hil : i < ps.length := (List.getElem?_eq_some_iff.mp hpi).1
          exact kid_test S.kind S.loc hfh hfw (clh.trans eh1) (clw.trans ew1) hn hm' (hcell ch _ eh2 s₂ hk) (hcell cw _ ew2 s₂ hk) (hraw s₂ hk) hpi (by omega)
      · obtain ⟨_, t, rfl⟩ := hPv
        refine wpAny_Name (wpAny_loadName_local S.kind S.loc hn hm ?_)
        exact ⟨⟨t, by rw [show (0 : Int) + (i : Int) * 1 = (i : Int) by omega]⟩, GxR.keeps_refl _⟩
    · intro g h5 tk5 gs hgb hag hsz5 hk5 W5 hat
      refine Calls.spliced_nil ?_
      rw [filt_range] at W5
      refine call_tuple_gen W5.in4_3 (fun i s' st => st.1.typeIs) hat (fun b hb => ?_) (by simp) (fun s' acc hm hacc => ?_) (Nat.le_trans (List.length_filter_le _ _) (by rw [List.length_range]; exact small (by omega)))
      · show b < h5.objs.size
        have hag' : h3.objs.size < g := hag
        have g5 : g < h5.objs.size := by rw [hsz5]; exact Nat.lt_succ_self _
        rcases List.mem_cons.mp hb with z | z
        · rw [z]; exact g5
        · rcases List.mem_cons.mp z with z | z
          · have z' : b = h3.objs.size := z
            rw [z']; exact Nat.lt_trans hag' g5
          · have z' : b < h3.objs.size := List.mem_range.mp z
            exact Nat.lt_trans z' (Nat.lt_trans hag' g5)
      · obtain ⟨more, em⟩ := hmore
        have nwr : ∀ b u, t2.heap.get? b = some u → b ≠ it → b ∉ h3.objs.size :: [it] := fun b u e hb hm2 => by
          have hl := Heap.lt_size e
          rcases List.mem_cons.mp hm2 with z | z
          · rw [z] at hl
            exact absurd (Nat.lt_of_lt_of_le hl hsz) (Nat.lt_irrefl _)
          · exact hb (List.mem_singleton.mp z)
        have itFree : FpOk X pins H1 it := (I1.kept (t' := s1.toks + 1 + 1) (h' := t1.heap) (fun b o e => Heap.get?_push_of_some _ e)).fpOk (Nat.le_refl _) (by
          exact (I1.kept (t' := s1.toks + 1 + 1) (h' := t1.heap) (fun b o e => Heap.get?_push_of_some _ e)).hok.fresh (Nat.le_refl _))
        -- over the state ahead of the iterator
        have I1' : Inv X pins σ H1 t1 := I1.kept (t' := s1.toks + 1 + 1) (h' := t1.heap) (fun b o e => Heap.get?_push_of_some _ e)
        have up2 : ∀ b o, b ≠ P → t1.heap.get? b = some o → s'.heap.get? b = some o := fun b o hb e => by
          have hbi : b ≠ it := Nat.ne_of_lt (Heap.lt_size e)
          have e2 : t2.heap.get? b = some o := Heap.get?_push_of_some _ e
          exact hm.heap b o (nwr b o e2 hbi) (hk5 b o (keep3 b o hb e2))
        have J := GxR.inv_tab (more := more) (h' := s'.heap) (g' := s'.gens) (d' := s'.drawn) (t' := s'.toks) I1' hP0 up2
          (by rw [← em]; exact hm.heap P _ (nwr P _ hPs hPit) (hk5 P _ hP3)) (AllBare.movedS (I2.bare.push hgb) hm)
        have eta := GxR.sh_eta t1 s' hm.os
        rw [eta] at J
        have vals := kids_acc hacc
        have sizeA : ((kidsN ps wh).map fun i : Nat => V.int i).length ≤ sizeLine := by
          rw [List.length_map]
          unfold kidsN
          exact Nat.le_trans (List.length_filter_le _ _) (by rw [List.length_range]; exact small (by omega))
        have JL := J.laid (a := s'.heap.objs.size) (o := .tup ((kidsN ps wh).map fun i : Nat => V.int i)) (t' := s'.toks) (h' := s'.heap.push { cls := .type "tuple", data := .seq acc }) (fun b u q => Heap.get?_push_of_some _ q) (Nat.le_refl _)
          ⟨sizeA, acc.toList, vals, ⟨_, Heap.get?_push_size _ rfl, rfl, 0, by simp⟩⟩
        have newT : upd H1 P (.tbl (ps0 ++ more)) s'.heap.objs.size = none := J.hok.fresh (Nat.le_refl _)
        have tripl : TriplesOk (ps0 ++ more).toList := by rw [← em]; exact ht3
        have R2 := R.tbl (ps' := ps0 ++ more) hP0 tripl
        refine ⟨.ref s'.heap.objs.size, _, JL, rfl, go φ _ _ ((Post.tbl hP0).trans (Post.lay newT)) (R2.lay newT) (.tup (SqT.of upd_same) ?_)⟩
        unfold kidsD
        have all : ∀ l : List Nat, Reps X.K φ (upd (upd H1 P (.tbl (ps0 ++ more))) s'.heap.objs.size (.tup ((kidsN ps wh).map fun i : Nat => V.int i))) (l.map fun i : Nat => D.int i) (l.map fun i : Nat => V.int i) := fun l => by
          induction l with
          | nil => exact .nil
          | cons i l ih => exact .cons (.int _) ih
        exact all _
  refine ⟨I2.nolimit, ?_⟩
  cases hf : codeAmong gpos ps0.toList with
  | none =>
    refine wpAny_genexprCodeX hcode (cd.code hPs htr0) (cd.tab hPs) hf fun c' h' tk hx hge hlt hco' _ htab' _ => ?_
    obtain ⟨o1, vs1, f1, tf, fl, tg, inF, tx, tt, op, _, _, _, _, _, _, _, _, _, htr, _⟩ := hco'
    exact cont _ h' tk _ hx (Nat.le_trans hge (Nat.le_of_lt hlt)) htab'.2 ⟨_, rfl⟩ htr
  | some cv =>
    refine wpAny_genexprCode_hit hcode (cd.code hPs htr0) hf ?_
    exact cont cv t2.heap t2.toks ps0 (Heap.ExtBut.refl _ _) (Nat.le_refl _) hPs ⟨#[], by simp⟩ htr0
end
end Pv
end
section
set_option Elab.async false
set_option linter.all false
set_option maxRecDepth 100000
set_option maxHeartbeats 1000000
namespace Pv
open PySem PySem.Spec PyProof.Rows L2
noncomputable def divD : D → D → Mem → Option (D × Mem) := intC CDiv fun i j => i / j
noncomputable def modD : D → D → Mem → Option (D × Mem) := intC (fun _ j => 0 < j) fun i j => i % j
noncomputable def powD : D → D → Mem → Option (D × Mem) := intC CPow fun i j => i ^ j.toNat
section
variable {K : FRG} {tb : List Addr}
theorem div_s : OpS K tb (rI CDiv fun i j => .int (i / j)) divD := intC_s
theorem mod_s : OpS K tb (rI (fun _ j => 0 < j) fun i j => .int (i % j)) modD := intC_s
theorem pow_s : OpS K tb (rI CPow fun i j => .int (i ^ j.toNat)) powD := intC_s
theorem lt_s : OpS K tb (rI0 fun i j => .bl (decide (i < j))) (cmpD ltI) := cmp_s
theorem le_s : OpS K tb (rI0 fun i j => .bl (decide (i ≤ j))) (cmpD leI) := cmp_s
theorem gt_s : OpS K tb (rI0 fun i j => .bl (decide (j < i))) (cmpD gtI) := cmp_s
theorem ge_s : OpS K tb (rI0 fun i j => .bl (decide (j ≤ i))) (cmpD geI) := cmp_s
end
theorem roomU {k : Nat} {A : Around} (r : Room k A) : A.units + 100 < cLine := by have := r.un; omega
def freeC (g d : Scope) : Bool := g.names.all fun y => match y.2 with
  | .free => (match d.names.lookup y.1 with | some .cell => true | _ => false)
  | _ => true
theorem gen_free {g d : Scope} {α : Type} {f : Str → Option α} (h : freeC g d = true) (hc : ∀ y : Str, d.names.lookup y = some .cell → ∃ c, f y = some c) : ∀ y ∈ g.names, y.2 = .free → ∃ c, f y.1 = some c := fun y hy e => by
  have q := List.all_eq_true.mp h y hy
  simp only [e] at q
  split at q
  · exact hc _ (by assumption)
  · cases q
theorem tab_in {K : FRG} {x q : Str} {f co tb : Addr} {oc e : Value} {od an dd : Option Addr} {st : Stmt} {kV dc pm cd ct : Value} {osl sl : Array (Option Value)} {vs : Array Value} (a : PySem.W.nsIn K mainGlobals x = some (some (.ref f)))
    (l : K.lookup f = some ⟨oc, od, .func (PySem.W.fnOf x q (defArgs st) (defBody st) (defScope st) .none kV dc pm an cd ct), osl⟩) (cc : cd = .ref co) (lc : K.lookup co = some ⟨e, dd, .fields vs, sl⟩) (hv : vs[11]? = some (.ref tb)) : PySem.W.tabIn K x = some (co, tb) := by
  subst cc
  unfold PySem.W.tabIn
  rw [a]
  simp only [l, PySem.W.fnOf, lc, hv]
end Pv
end
section
set_option Elab.async false
set_option linter.all false
set_option maxRecDepth 100000
set_option maxHeartbeats 1000000
/-! What the meanings are worth: loops, comprehensions, texts. -/
namespace Pv
open PySem L2

theorem lcL_pure {it : Itm} {xs : List D} {t : Gx} {c : Tx} {f : Ex} {ρ : Env} {m : Mem} {sel : D → Bool} {val : D → D} (hit : itemsAt it m = some xs) : ∀ (ds acc : List D),
    (∀ d ∈ ds, ∃ ρ1, t d ρ = some ρ1 ∧ c ρ1 m = some (sel d, m) ∧ (sel d = true → f ρ1 m = some (val d, m))) → acc.length + ds.length ≤ 1000000 → lcL it xs t c f ρ ds acc m = some (acc ++ (ds.filter sel).map val, m)
  | [], acc, _, _ => by simp [lcL, hit]
  | d :: ds, acc, h, hl => by
    obtain ⟨ρ1, e1, e2, e3⟩ := h d List.mem_cons_self
    have ih := fun acc' => lcL_pure (c := c) (f := f) (t := t) (ρ := ρ) (sel := sel) (val := val) hit ds acc' fun x hx => h x (List.mem_cons_of_mem _ hx)
    rw [List.length_cons] at hl
    unfold lcL
    rw [if_pos hit]
    simp only [e1, e2, Option.bind_some]
    cases hs : sel d with
    | true =>
      simp only [if_true, e3 hs, Option.bind_some]
      rw [if_pos (by omega), ih (acc ++ [val d]) (by simp; omega)]
      simp [List.filter_cons, hs]
    | false =>
      simp only [Bool.false_eq_true, if_false]
      rw [ih acc (by omega)]
      simp [List.filter_cons, hs]
theorem forL_seq {xs : List D} {t : Gx} {b : Sx} (Inv : Nat → Env → Mem → Prop)
    (step : ∀ i d ρ m, xs[i]? = some d → Inv i ρ m → ∃ ρ1 ρ2 m2, t d ρ = some ρ1 ∧ b ρ1 m = some (.nx, ρ2, m2) ∧ Inv (i + 1) ρ2 m2) : ∀ (ds : List D) (i : Nat) (ρ : Env) (m : Mem), xs.drop i = ds → i ≤ xs.length → Inv i ρ m →
    ∃ ρ' m', forL (.seq xs) xs t b ds ρ m = some (.nx, ρ', m') ∧ Inv xs.length ρ' m'
  | [], i, ρ, m, hd, hi, inv => by
    have : i = xs.length := by
      have := congrArg List.length hd
      simp at this
      omega
    subst this
    exact ⟨ρ, m, by simp [forL, itemsAt], inv⟩
  | d :: ds, i, ρ, m, hd, hi, inv => by
    have hlt : i < xs.length := by
      have := congrArg List.length hd
      simp at this
      omega
    have e := hd
    rw [List.drop_eq_getElem_cons hlt] at e
    injection e with e1 e2
    obtain ⟨ρ1, ρ2, m2, q1, q2, q3⟩ := step i d ρ m (by rw [List.getElem?_eq_getElem hlt, e1]) inv
    obtain ⟨ρ', m', r1, r2⟩ := forL_seq Inv step ds (i + 1) ρ2 m2 e2 hlt q3
    refine ⟨ρ', m', ?_, r2⟩
    unfold forL
    rw [if_pos (by rfl)]
    simp only [q1, q2, Option.bind_some]
    exact r1
theorem forL_lst {n : Nat} {xs : List D} {t : Gx} {b : Sx} (Inv : Nat → Env → Mem → Prop) (hold : ∀ i ρ m, Inv i ρ m → m[n]? = some (.lst xs))
    (step : ∀ i d ρ m, xs[i]? = some d → Inv i ρ m → ∃ ρ1 ρ2 m2, t d ρ = some ρ1 ∧ b ρ1 m = some (.nx, ρ2, m2) ∧ Inv (i + 1) ρ2 m2) : ∀ (ds : List D) (i : Nat) (ρ : Env) (m : Mem), xs.drop i = ds → i ≤ xs.length → Inv i ρ m →
    ∃ ρ' m', forL (.lst n) xs t b ds ρ m = some (.nx, ρ', m') ∧ Inv xs.length ρ' m'
  | [], i, ρ, m, hd, hi, inv => by
    have : i = xs.length := by
      have := congrArg List.length hd
      simp at this
      omega
    subst this
    exact ⟨ρ, m, by simp [forL, itemsAt, hold _ _ _ inv], inv⟩
  | d :: ds, i, ρ, m, hd, hi, inv => by
    have hlt : i < xs.length := by
      have := congrArg List.length hd
      simp at this
      omega
    have e := hd
    rw [List.drop_eq_getElem_cons hlt] at e
    injection e with e1 e2
    obtain ⟨ρ1, ρ2, m2, q1, q2, q3⟩ := step i d ρ m (by rw [List.getElem?_eq_getElem hlt, e1]) inv
    obtain ⟨ρ', m', r1, r2⟩ := forL_lst Inv hold step ds (i + 1) ρ2 m2 e2 hlt q3
    refine ⟨ρ', m', ?_, r2⟩
    unfold forL
    rw [if_pos (by simp [itemsAt, hold _ _ _ inv])]
    simp only [q1, q2, Option.bind_some]
    exact r1

/-! ### data without what changes -/
mutual
def pyD : D → PyData
  | .non => .none
  | .bl b => .bool b
  | .int i => .int i
  | .str x => .str x
  | .tup ds => .tuple (pyDs ds)
  | .fl ds => .list (pyDs ds)
  | .ref _ => .none
def pyDs : List D → List PyData
  | [] => []
  | d :: ds => pyD d :: pyDs ds
end
mutual
/-- numbers (not great), truths, None, and tuples of these, not deep -/
def okD' : Nat → D → Bool
  | _, .non => true
  | _, .bl _ => true
  | _, .int i => decide (i.natAbs < 10 ^ 30)
  | _, .str _ => false
  | 0, .tup _ => false
  | n + 1, .tup ds => okDs n ds
  | _, .fl _ => false
  | _, .ref _ => false
def okDs : Nat → List D → Bool
  | _, [] => true
  | n, d :: ds => okD' n d && okDs n ds
end
mutual
def szD : D → Nat
  | .tup ds => 3 + szDs ds
  | _ => 2000
def szDs : List D → Nat
  | [] => 0
  | d :: ds => szD d + 2 + szDs ds
end
mutual
theorem toPy_ok (m : Mem) : ∀ (n k : Nat) (d : D), okD' n d = true → toPy m k d = some (pyD d)
  | n, k, .non, h => by rw [toPy, pyD]
  | n, k, .bl b, h => by rw [toPy, pyD]
  | n, k, .int i, h => by rw [toPy, pyD]
  | n, k, .str x, h => by simp [okD'] at h
  | 0, k, .tup ds, h => by simp [okD'] at h
  | n + 1, k, .tup ds, h => by
    rw [okD'] at h
    rw [toPy, toPys_ok m n k ds h, pyD]; rfl
  | n, k, .fl ds, h => by simp [okD'] at h
  | n, k, .ref r, h => by simp [okD'] at h
theorem toPys_ok (m : Mem) : ∀ (n k : Nat) (ds : List D), okDs n ds = true → toPys m k ds = some (pyDs ds)
  | n, k, [], h => by rw [toPys, pyDs]
  | n, k, d :: ds, h => by
    rw [okDs, Bool.and_eq_true] at h
    rw [toPys, toPy_ok m n k d h.1, pyDs]
    simp only [Option.bind_some]
    rw [toPys_ok m n k ds h.2]; rfl
end
theorem tt_le (ts : List Str) : (tupleText ts).length ≤ 3 + piled ts := by
  have e : (tupleText ts).length = 1 + (Str.join ", " ts).length + (if ts.length == 1 then 2 else 1) := by
    unfold tupleText
    rw [Str.length_append, Str.length_append]
    split <;> rfl
  rw [e]
  cases ts with
  | nil => decide
  | cons t ts =>
    have := join_length_add (t :: ts) (by simp)
    split <;> omega
mutual
theorem ok_shown : ∀ (n : Nat) (d : D), okD' n d = true → (pyD d).showable = true ∧ (pyD d).hasDict = false ∧ (pyD d).depth ≤ n ∧ (pyD d).shown.length ≤ szD d
  | n, .non, h => by rw [pyD]; exact ⟨rfl, rfl, Nat.zero_le _, by decide⟩
  | n, .bl b, h => by rw [pyD]; exact ⟨rfl, rfl, Nat.zero_le _, by cases b <;> decide⟩
  | n, .int i, h => by
    rw [okD', decide_eq_true_eq] at h
    rw [pyD]
    refine ⟨?_, rfl, Nat.zero_le _, ?_⟩
    · rw [PyData.showable, decide_eq_true_eq]
      have h2 : i.natAbs < 2 ^ 200 := Nat.lt_of_lt_of_le h (by decide)
      by_cases hz : i.natAbs = 0
      · rw [hz]; decide
      · exact Nat.lt_of_lt_of_le ((Nat.log2_lt hz).mpr h2) (by decide)
    · rw [PyData.shown, szD]
      · refine Nat.le_trans (PyProof.Rows.int_text_len_1921 ?_) (by decide)
        have h2 : i.natAbs < 2 ^ 200 := Nat.lt_of_lt_of_le h (by decide)
        by_cases hz : i.natAbs = 0
        · rw [hz]; decide
        · exact Nat.lt_of_lt_of_le ((Nat.log2_lt hz).mpr h2) (by decide)
      · intro ds z; cases z
  | n, .str x, h => by simp [okD'] at h
  | 0, .tup ds, h => by simp [okD'] at h
  | n + 1, .tup ds, h => by
    rw [okD'] at h
    obtain ⟨a, b, c, e⟩ := oks_shown n ds h
    rw [pyD]
    refine ⟨by rw [PyData.showable]; exact a, by rw [PyData.hasDict]; exact b, by rw [PyData.depth]; omega, ?_⟩
    rw [PyData.shown, szD]
    exact Nat.le_trans (tt_le _) (by omega)
  | n, .fl ds, h => by simp [okD'] at h
  | n, .ref r, h => by simp [okD'] at h
theorem oks_shown : ∀ (n : Nat) (ds : List D), okDs n ds = true → PyData.showableAll (pyDs ds) = true ∧ PyData.hasDictAll (pyDs ds) = false ∧ PyData.depthAll (pyDs ds) ≤ n ∧ piled (PyData.shownAll (pyDs ds)) ≤ szDs ds
  | n, [], h => by rw [pyDs]; exact ⟨rfl, rfl, Nat.zero_le _, Nat.le_refl _⟩
  | n, d :: ds, h => by
    rw [okDs, Bool.and_eq_true] at h
    obtain ⟨a1, b1, c1, e1⟩ := ok_shown n d h.1
    obtain ⟨a2, b2, c2, e2⟩ := oks_shown n ds h.2
    rw [pyDs]
    refine ⟨by rw [PyData.showableAll, a1, a2]; rfl, by rw [PyData.hasDictAll, b1, b2]; rfl, by rw [PyData.depthAll]; omega, ?_⟩
    rw [PyData.shownAll, piled_cons, szDs]
    omega
end
/-- repr of such a thing -/
theorem repr_ok {m : Mem} {d : D} {n : Nat} (h : okD' n d = true) (hn : n ≤ 60) (hz : szD d ≤ 16000000) : reprD [d] m = some (.str (pyD d).shown, m) := by
  obtain ⟨a, b, c, e⟩ := ok_shown n d h
  show (toPy m fuel d).bind (fun p => if shownOk p = true then some (D.str p.shown, m) else none) = _
  rw [toPy_ok m n fuel d h]
  simp only [Option.bind_some]
  rw [if_pos]
  unfold shownOk
  rw [a, b, decide_eq_true (show (pyD d).depth ≤ 60 by omega), decide_eq_true (show (pyD d).shown.length ≤ 16000000 by omega)]
  rfl
/-- two texts -/
theorem eqB_str {neg : Bool} {m : Mem} {x y : Str} : eqD neg (.str x) (.str y) m = some (.bl (decide (x = y) != neg), m) := by
  have e : decide ((V.str x) = V.str y) = decide (x = y) := by
    by_cases h : x = y
    · simp [h]
    · simp [h]
  simp [eqD, eqB, sc, scal, e]
theorem eqB_int {neg : Bool} {m : Mem} {x y : Int} : eqD neg (.int x) (.int y) m = some (.bl (decide (x = y) != neg), m) := by
  have e : decide ((V.int x) = V.int y) = decide (x = y) := by
    by_cases h : x = y
    · simp [h]
    · simp [h]
  simp [eqD, eqB, sc, scal, e]
theorem toPys_ints {m : Mem} {k : Nat} (is : List Int) : toPys m k (is.map .int) = some (is.map .int) := by
  induction is with
  | nil => rw [List.map_nil, toPys, List.map_nil]
  | cons i is ih =>
    rw [List.map_cons, toPys, toPy]
    simp only [Option.bind_some]
    rw [ih]; rfl
theorem shaped_ints (is : List Int) : SeqAt.shaped (.list (is.map .int)) = true := by
  have h1 : PyData.canLayAll0 (is.map .int) = true := by
    induction is with
    | nil => rfl
    | cons i is ih => rw [List.map_cons, PyData.canLayAll0, PyData.canLay0, ih]; rfl
  have h2 : PyData.depthAll (is.map .int) = 0 := by
    induction is with
    | nil => rfl
    | cons i is ih => rw [List.map_cons, PyData.depthAll, PyData.depth, ih (by
        rw [List.map_cons, PyData.canLayAll0, Bool.and_eq_true] at h1
        exact h1.2)]; rfl
  unfold SeqAt.shaped
  rw [PyData.canLay0, h1, PyData.depth, h2]; rfl
/-- a list of numbers == [] -/
theorem eq_nil {m : Mem} {n k : Nat} {is : List Int} (h1 : m[n]? = some (.lst (is.map .int))) (h2 : m[k]? = some (.lst [])) : eqD false (.ref n) (.ref k) m = some (.bl is.isEmpty, m) := by
  have e1 : toPy m fuel (.ref n) = some (.list (is.map .int)) := by
    rw [show fuel = 19 + 1 from rfl, toPy, h1]
    simp only
    rw [toPys_ints]; rfl
  have e2 : toPy m fuel (.ref k) = some (.list []) := by
    rw [show fuel = 19 + 1 from rfl, toPy, h2]
    simp only
    rw [toPys]; rfl
  have e3 : PyData.eqv (.list (is.map .int)) (.list []) = is.isEmpty := by
    cases is <;> rfl
  unfold eqD eqB
  simp only [sc, e1, e2]
  rw [if_pos ⟨shaped_ints is, by rfl⟩, e3]
  simp
theorem rngA_ok {a : Ax} {ρ : Env} {m m' : Mem} {n : Nat} (h : a ρ m = some ([.int (n : Nat)], m')) (hn : n ≤ 1000000) : iRngA a ρ m = some (.seq (rngD 0 n), m') := by
  have hb : -1000000000 ≤ ((n : Nat) : Int) ∧ ((n : Nat) : Int) ≤ 1000000000 := by omega
  unfold iRngA
  rw [h]
  show (if -1000000000 ≤ ((n : Nat) : Int) ∧ ((n : Nat) : Int) ≤ 1000000000 then some (Itm.seq (rngD 0 ((n : Nat) : Int).toNat), m') else none) = _
  rw [if_pos hb, Int.toNat_natCast]
/-- a comprehension that changes nothing, over what stands still -/
theorem lc_ok {src : Ix} {t : Gx} {c : Tx} {f : Ex} {vs : List Nat} {ρ : Env} {m m1 : Mem} {it : Itm} {xs : List D} (sel : D → Bool) (val : D → D) (hs : src ρ m = some (it, m1)) (hit : itemsAt it m1 = some xs)
    (h : ∀ d ∈ xs, ∃ ρ1, t d (wipeD ρ vs) = some ρ1 ∧ c ρ1 m1 = some (sel d, m1) ∧ (sel d = true → f ρ1 m1 = some (val d, m1))) (hl : xs.length ≤ 1000000) : eLc src t c f vs ρ m = some (.ref m1.length, m1 ++ [.lst ((xs.filter sel).map val)]) := by
  unfold eLc
  rw [hs]
  simp only [Option.bind_some]
  rw [hit]
  simp only [Option.bind_some]
  rw [lcL_pure hit xs [] h (by simpa using hl)]
  simp
theorem rng_mem {n : Nat} {d : D} (h : d ∈ rngD 0 n) : ∃ k : Nat, k < n ∧ d = .int (k : Nat) := by
  obtain ⟨k, hk, rfl⟩ := List.mem_map.mp h
  exact ⟨k, List.mem_range.mp hk, by rw [Int.zero_add]⟩
def onI (p : Nat → Bool) : D → Bool
  | .int i => p i.toNat
  | _ => false
theorem onI_nat {p : Nat → Bool} {k : Nat} : onI p (.int (k : Nat)) = p k := by simp [onI]
theorem rng_filter {n : Nat} (p : Nat → Bool) : ((rngD 0 n).filter (onI p)).map id = (((List.range n).filter p).map fun i : Nat => (i : Int)).map D.int := by
  rw [List.map_id, List.map_map]
  unfold rngD
  rw [List.filter_map]
  have e1 : (onI p ∘ fun i : Nat => D.int (0 + (i : Int))) = p := by
    funext i
    show onI p (.int (0 + (i : Int))) = p i
    rw [Int.zero_add, onI_nat]
  rw [e1]
  congr 1
  funext i
  show D.int (0 + (i : Int)) = D.int (i : Int)
  rw [Int.zero_add]
end Pv
end
section
set_option Elab.async false
set_option linter.all false
set_option maxRecDepth 100000
set_option maxHeartbeats 4000000
namespace K02
open PySem PySem.Spec PyProof.Rows L2 Pv
def topS (i : Nat) : Stmt := PySem.Challenge.pw_thronewalk_k02_born_and_children.main.body.getD i (.Pass ⟨0, 0, 0, 0⟩)
abbrev s_born : Stmt := topS 7
abbrev N_born : List Str := ["_law_house_here", "_law_day", "_law_folk"]
abbrev P_born : List Str := ["_law_house_here", "_law_day"]
theorem sc_born : FnScope N_born P_born (defScope s_born) := ⟨rfl, rfl, rfl, by decide +kernel, rfl, by decide +kernel, by decide +kernel⟩
abbrev s_children : Stmt := topS 8
abbrev N_children : List Str := ["_law_house_here", "_law_who", "_law_found", "_law_child"]
abbrev P_children : List Str := ["_law_house_here", "_law_who"]
theorem sc_children : FnScope N_children P_children (defScope s_children) := ⟨rfl, rfl, rfl, by decide +kernel, rfl, by decide +kernel, by decide +kernel⟩
abbrev s_take : Stmt := topS 4
abbrev N_take : List Str := ["_law_state", "_law_below", "_law_cell", "_law_found"]
abbrev P_take : List Str := ["_law_state", "_law_below"]
theorem sc_take : FnScope N_take P_take (defScope s_take) := ⟨rfl, rfl, rfl, by decide +kernel, rfl, by decide +kernel, by decide +kernel⟩
abbrev s_days : Stmt := topS 9
abbrev N_days : List Str := ["_law_state", "_law_house_here", "_law_found", "_law_k", "_law_day"]
abbrev P_days : List Str := ["_law_state", "_law_house_here"]
theorem sc_days : FnScope N_days P_days (defScope s_days) := ⟨rfl, rfl, rfl, by decide +kernel, rfl, by decide +kernel, by decide +kernel⟩
abbrev s_parent : Stmt := topS 5
abbrev N_parent : List Str := ["_law_state", "_law_folk", "_law_day", "_law_man", "_law_some", "_law_k"]
abbrev P_parent : List Str := ["_law_state", "_law_folk", "_law_day", "_law_man"]
theorem sc_parent : FnScope N_parent P_parent (defScope s_parent) := ⟨rfl, rfl, rfl, by decide +kernel, rfl, by decide +kernel, by decide +kernel⟩
abbrev s_house : Stmt := topS 6
abbrev N_house : List Str := ["_law_state", "_law_most", "_law_many", "_law_day", "_law_folk", "_law_k", "_law_father", "_law_mother", "_law_man"]
abbrev P_house : List Str := ["_law_state", "_law_most"]
theorem sc_house : FnScope N_house P_house (defScope s_house) := ⟨rfl, rfl, rfl, by decide +kernel, rfl, by decide +kernel, by decide +kernel⟩
abbrev s_born_by : Stmt := topS 1
abbrev N_born_by : List Str := ["house", "day", "folk"]
abbrev P_born_by : List Str := ["house", "day"]
theorem sc_born_by : FnScope N_born_by P_born_by (defScope s_born_by) := ⟨rfl, rfl, rfl, by decide +kernel, rfl, by decide +kernel, by decide +kernel⟩
abbrev s_children_of : Stmt := topS 2
abbrev N_children_of : List Str := ["house", "who", "child"]
abbrev P_children_of : List Str := ["house", "who"]
theorem sc_children_of : FnScope N_children_of P_children_of (defScope s_children_of) := ⟨rfl, rfl, rfl, by decide +kernel, rfl, by decide +kernel, by decide +kernel⟩
abbrev s_law : Stmt := topS 10
abbrev N_law : List Str := ["_law_script", "_law_state", "_law_great", "_law_house_here", "_law_other", "_law_before", "_law_turn", "_law_day", "_law_who", "_law_one"]
abbrev P_law : List Str := ["_law_script"]
theorem sc_law : FnScope N_law P_law (defScope s_law) := ⟨rfl, rfl, rfl, by decide +kernel, rfl, by decide +kernel, by decide +kernel⟩
/-- where the defs stand, and that the built-ins are the built-ins -/
structure Ctx (K : FRG) (mg : Str → Option Value) (tb : List Addr) where
  f_born : Addr
  fd_born : FuncData
  cd_born : Value
  F_born : FunC K "_law_born" "_law_born" s_born f_born fd_born cd_born
  b_born : Binds K fd_born P_born []
  g_born : mg "_law_born" = some (.ref f_born)
  f_children : Addr
  fd_children : FuncData
  cd_children : Value
  F_children : FunC K "_law_children" "_law_children" s_children f_children fd_children cd_children
  b_children : Binds K fd_children P_children []
  g_children : mg "_law_children" = some (.ref f_children)
  f_take : Addr
  fd_take : FuncData
  cd_take : Value
  F_take : FunC K "_law_take" "_law_take" s_take f_take fd_take cd_take
  b_take : Binds K fd_take P_take []
  g_take : mg "_law_take" = some (.ref f_take)
  f_days : Addr
  fd_days : FuncData
  cd_days : Value
  F_days : FunC K "_law_days" "_law_days" s_days f_days fd_days cd_days
  b_days : Binds K fd_days P_days []
  g_days : mg "_law_days" = some (.ref f_days)
  f_parent : Addr
  fd_parent : FuncData
  cd_parent : Value
  F_parent : FunC K "_law_parent" "_law_parent" s_parent f_parent fd_parent cd_parent
  b_parent : Binds K fd_parent P_parent []
  g_parent : mg "_law_parent" = some (.ref f_parent)
  f_house : Addr
  fd_house : FuncData
  cd_house : Value
  F_house : FunC K "_law_house" "_law_house" s_house f_house fd_house cd_house
  b_house : Binds K fd_house P_house []
  g_house : mg "_law_house" = some (.ref f_house)
  f_born_by : Addr
  fd_born_by : FuncData
  cd_born_by : Value
  F_born_by : FunC K "born_by" "born_by" s_born_by f_born_by fd_born_by cd_born_by
  b_born_by : Binds K fd_born_by P_born_by []
  g_born_by : mg "born_by" = some (.ref f_born_by)
  f_children_of : Addr
  fd_children_of : FuncData
  cd_children_of : Value
  F_children_of : FunC K "children_of" "children_of" s_children_of f_children_of fd_children_of cd_children_of
  b_children_of : Binds K fd_children_of P_children_of []
  g_children_of : mg "children_of" = some (.ref f_children_of)
  co_children_of : Addr
  tb_children_of : Addr
  c_children_of : cd_children_of = .ref co_children_of
  m_children_of : tb_children_of ∈ tb
  f_law : Addr
  fd_law : FuncData
  cd_law : Value
  F_law : FunC K "law" "law" s_law f_law fd_law cd_law
  b_law : Binds K fd_law P_law []
  g_law : mg "law" = some (.ref f_law)
  z_int : mg "int" = none
  z_len : mg "len" = none
  z_max : mg "max" = none
  z_min : mg "min" = none
  z_range : mg "range" = none
  z_repr : mg "repr" = none
  z_sum : mg "sum" = none
  z_tuple : mg "tuple" = none
noncomputable def B_born : Sx := (sRet (eCB sumD (aCons (eLc (iSeq (eVar 0)) (gN 2) tYes' (eCB intD (aCons (eOp (cmpD leI) (eOp ixD (eVar 2) (eC (.int 0))) (eVar 1)) aNil)) [2]) aNil)))
noncomputable abbrev F_born : Fx := runF P_born.length N_born.length B_born
noncomputable def B_children : Sx := (sSeq (sSet 2 (eCB lstD aNil)) (sSeq (sFor (iRngA (aCons (eCB lenD (aCons (eVar 0) aNil)) aNil)) (gN 3) (sIf (tOr' (tVal (eOp (eqD false) (eOp ixD (eOp ixD (eVar 0) (eVar 3)) (eC (.int 1))) (eVar 1))) (tVal (eOp (eqD false) (eOp ixD (eOp ixD (eVar 0) (eVar 3)) (eC (.int 2))) (eVar 1)))) (sDrop (eMt isLst appD (eVar 2) (aCons (eVar 3) aNil))) sNil)) (sRet (eCB tupleD (aCons (eVar 2) aNil)))))
noncomputable abbrev F_children : Fx := runF P_children.length N_children.length B_children
noncomputable def B_take : Sx := (sSeq (sIf (tVal (eOp (cmpD gtI) (eOp ixD (eVar 0) (eC (.int 2))) (eC (.int 0)))) (sSeq (sSet 3 (eOp modD (eOp ixD (eVar 0) (eC (.int 2))) (eVar 1))) (sSeq (sPut (eVar 0) (eC (.int 2)) (eOp divD (eOp ixD (eVar 0) (eC (.int 2))) (eVar 1))) (sRet (eVar 3)))) sNil) (sSeq (sSet 2 (eC (.int 0))) (sSeq (sIf (tVal (eOp (cmpD ltI) (eOp ixD (eVar 0) (eC (.int 1))) (eCB lenD (aCons (eOp ixD (eVar 0) (eC (.int 0))) aNil)))) (sSet 2 (eOp ixD (eOp ixD (eVar 0) (eC (.int 0))) (eOp ixD (eVar 0) (eC (.int 1))))) sNil) (sSeq (sPut (eVar 0) (eC (.int 1)) (eOp addD (eOp ixD (eVar 0) (eC (.int 1))) (eC (.int 1)))) (sSeq (sIf (tVal (eOp (cmpD geI) (eVar 2) (eOp powD (eC (.int 10)) (eC (.int 18))))) (sSeq (sPut (eVar 0) (eC (.int 2)) (eOp divD (eVar 2) (eVar 1))) (sRet (eOp modD (eVar 2) (eVar 1)))) sNil) (sSeq (sPut (eVar 0) (eC (.int 3)) (eOp modD (eOp addD (eOp addD (eOp mulD (eOp ixD (eVar 0) (eC (.int 3))) (eC (.int 48271))) (eOp modD (eVar 2) (eC (.int 2147483629)))) (eOp mulD (eC (.int 7)) (eOp ixD (eVar 0) (eC (.int 1))))) (eC (.int 2147483647)))) (sRet (eOp modD (eOp divD (eOp modD (eOp powD (eOp ixD (eVar 0) (eC (.int 3))) (eC (.int 3))) (eC (.int 2147483629))) (eC (.int 64))) (eVar 1)))))))))
noncomputable abbrev F_take : Fx := runF P_take.length N_take.length B_take
noncomputable def B_days : Sx := (sSeq (sSet 2 (eCB lstD (aCons (eC (.int 0)) (aCons (eC (.int 99999)) aNil)))) (sSeq (sFor (iRngA (aCons (eC (.int 4)) aNil)) (gN 3) (sSeq (sSet 4 (eOp ixD (eOp ixD (eVar 1) (eCall F_take (aCons (eVar 0) (aCons (eCB lenD (aCons (eVar 1) aNil)) aNil)))) (eC (.int 0)))) (sSet 2 (eOp addD (eVar 2) (eCB lstD (aCons (eVar 4) (aCons (eOp addD (eVar 4) (eC (.int 1))) (aCons (eCB (two maxI) (aCons (eC (.int 0)) (aCons (eOp subD (eVar 4) (eC (.int 1))) aNil))) aNil)))))))) (sRet (eVar 2))))
noncomputable abbrev F_days : Fx := runF P_days.length N_days.length B_days
noncomputable def B_parent : Sx := (sSeq (sSet 4 (eLc (iRngA (aCons (eCB lenD (aCons (eVar 1) aNil)) aNil)) (gN 5) (tAnd' (tVal (eOp (eqD false) (eOp ixD (eOp ixD (eVar 1) (eVar 5)) (eC (.int 3))) (eVar 3))) (tVal (eOp (cmpD ltI) (eOp ixD (eOp ixD (eVar 1) (eVar 5)) (eC (.int 0))) (eVar 2)))) (eVar 5) [5])) (sSeq (sIf (tOr' (tVal (eOp (eqD false) (eVar 4) (eCB lstD aNil))) (tVal (eOp (eqD false) (eCall F_take (aCons (eVar 0) (aCons (eC (.int 5)) aNil))) (eC (.int 0))))) (sRet (eUn negD (eC (.int 1)))) sNil) (sSeq (sIf (tVal (eOp (eqD false) (eCall F_take (aCons (eVar 0) (aCons (eC (.int 2)) aNil))) (eC (.int 0)))) (sSet 4 (eSlc (eVar 4) (oSome (eUn negD (eC (.int 3)))) oNone)) sNil) (sRet (eOp ixD (eVar 4) (eCall F_take (aCons (eVar 0) (aCons (eCB lenD (aCons (eVar 4) aNil)) aNil))))))))
noncomputable abbrev F_parent : Fx := runF P_parent.length N_parent.length B_parent
noncomputable def B_house : Sx := (sSeq (sSet 2 (eOp addD (eC (.int 1)) (eCall F_take (aCons (eVar 0) (aCons (eVar 1) aNil))))) (sSeq (sSet 3 (eOp ixD (eCB lstD (aCons (eC (.int 0)) (aCons (eC (.int 7)) (aCons (eC (.int 30000)) aNil)))) (eCall F_take (aCons (eVar 0) (aCons (eC (.int 3)) aNil))))) (sSeq (sSet 4 (eCB lstD aNil)) (sSeq (sFor (iRngA (aCons (eVar 2) aNil)) (gN 5) (sSeq (sSet 3 (eCB (two minI) (aCons (eC (.int 99990)) (aCons (eOp addD (eVar 3) (eOp ixD (eCB lstD (aCons (eC (.int 1)) (aCons (eC (.int 0)) (aCons (eC (.int 1)) (aCons (eC (.int 30)) (aCons (eC (.int 299)) (aCons (eC (.int 300)) (aCons (eC (.int 301)) (aCons (eC (.int 6570)) (aCons (eC (.int 2)) (aCons (eC (.int 1)) aNil))))))))))) (eCall F_take (aCons (eVar 0) (aCons (eC (.int 10)) aNil))))) aNil)))) (sSeq (sSet 6 (eCall F_parent (aCons (eVar 0) (aCons (eVar 4) (aCons (eVar 3) (aCons (eC (.int 1)) aNil)))))) (sSeq (sSet 7 (eCall F_parent (aCons (eVar 0) (aCons (eVar 4) (aCons (eVar 3) (aCons (eC (.int 0)) aNil)))))) (sSeq (sSet 8 (eCall F_take (aCons (eVar 0) (aCons (eC (.int 2)) aNil)))) (sDrop (eMt isLst appD (eVar 4) (aCons (eCB tupD (aCons (eVar 3) (aCons (eVar 6) (aCons (eVar 7) (aCons (eVar 8) (aCons (eCB intD (aCons (eOp (cmpD gtI) (eCall F_take (aCons (eVar 0) (aCons (eC (.int 5)) aNil))) (eC (.int 0))) aNil)) aNil)))))) aNil)))))))) (sRet (eCB tupleD (aCons (eVar 4) aNil)))))))
noncomputable abbrev F_house : Fx := runF P_house.length N_house.length B_house
noncomputable def B_born_by : Sx := (sRet (eCB lenD (aCons (eLc (iSeq (eVar 0)) (gN 2) (tVal (eOp (cmpD leI) (eOp ixD (eVar 2) (eC (.int 0))) (eVar 1))) (eVar 2) [2]) aNil)))
noncomputable abbrev F_born_by : Fx := runF P_born_by.length N_born_by.length B_born_by
noncomputable def B_children_of : Sx := (sRet (eKids 0 1))
noncomputable abbrev F_children_of : Fx := runF P_children_of.length N_children_of.length B_children_of
noncomputable def B_law : Sx := (sSeq (sSet 1 (eCB lstD (aCons (eVar 0) (aCons (eC (.int 0)) (aCons (eC (.int 0)) (aCons (eC (.int 2)) aNil)))))) (sSeq (sSet 2 (eCB intD (aCons (eOp (eqD false) (eCall F_take (aCons (eVar 1) (aCons (eC (.int 8)) aNil))) (eC (.int 0))) aNil))) (sSeq (sSet 3 (eCall F_house (aCons (eVar 1) (aCons (eOp ixD (eCB lstD (aCons (eC (.int 14)) (aCons (eC (.int 60)) aNil))) (eVar 2)) aNil)))) (sSeq (sSet 4 (eCall F_house (aCons (eVar 1) (aCons (eC (.int 14)) aNil)))) (sSeq (sSet 5 (eCB reprD (aCons (eCB tupD (aCons (eVar 3) (aCons (eVar 4) aNil))) aNil))) (sSeq (sFor (iRngA (aCons (eC (.int 2)) aNil)) (gN 6) (sSeq (sFor (iSeq (eOp addD (eCall F_days (aCons (eVar 1) (aCons (eVar 3) aNil))) (eCall F_days (aCons (eVar 1) (aCons (eVar 4) aNil))))) (gN 7) (sFor (iSeq (eCB tupD (aCons (eVar 3) (aCons (eVar 4) aNil)))) (gN 9) (sIf (tVal (eOp (eqD true) (eCB reprD (aCons (eCall F_born_by (aCons (eVar 9) (aCons (eVar 7) aNil))) aNil)) (eCB reprD (aCons (eCall F_born (aCons (eVar 9) (aCons (eVar 7) aNil))) aNil)))) (sRet (eC (.bl false))) sNil))) (sFor (iRngA (aCons (eCB lenD (aCons (eVar 3) aNil)) aNil)) (gN 8) (sFor (iSeq (eCB tupD (aCons (eVar 3) (aCons (eVar 4) (aCons (eVar 3) aNil))))) (gN 9) (sIf (tAnd' (tVal (eOp (cmpD ltI) (eVar 8) (eCB lenD (aCons (eVar 9) aNil)))) (tVal (eOp (eqD true) (eCB reprD (aCons (eCall F_children_of (aCons (eVar 9) (aCons (eVar 8) aNil))) aNil)) (eCB reprD (aCons (eCall F_children (aCons (eVar 9) (aCons (eVar 8) aNil))) aNil))))) (sRet (eC (.bl false))) sNil))))) (sRet (eOp (eqD false) (eCB reprD (aCons (eCB tupD (aCons (eVar 3) (aCons (eVar 4) aNil))) aNil)) (eVar 5)))))))))
noncomputable abbrev F_law : Fx := runF P_law.length N_law.length B_law
section
variable {P : Program} {w : World} {K : FRG} {mg : Str → Option Value} {base : Heap} {tb : List Addr}
theorem ok_born (C : Ctx K mg tb) (TB_children_of : GxR.TabB base mg C.co_children_of C.tb_children_of) : FnG P w K mg base 1 C.f_born C.fd_born P_born (spF K tb P_born.length F_born) := by
  refine okG (k := 0) C.F_born sc_born fun A outer s H E hgd hr => ?_
  exact (bs_one (bs_ret (ex_callB sum_s (cr_sum rfl) (by rfl) C.z_sum (by decide +kernel) (ax_cons (ex_lc (own := [("_law_folk", 2)]) rfl sc_born.nd (tg_name 2) (tw_name 2 (by decide)) (ix_seq' (ex_var 0)) (blkOk_by (own := [("_law_folk", 2)]) (N := N_born) (sc := defScope s_born) (by decide +kernel)) (fun _ _ _ _ _ => (pg_name (i := 2) sc_born.nd rfl (by first | exact Or.inl rfl | exact Or.inr rfl))) (fun _ _ _ _ _ => ts_nil) (fun _ _ _ _ _ => (ex_callTy int_s call_int1 (by rfl) C.z_int (by decide +kernel) (ax_cons (ex_cmp op_le le_s (ex_ix (ex_var 2) ex_int) (ex_var 1) (nomark _)) ax_nil)))) ax_nil))))
theorem ok_children (C : Ctx K mg tb) (TB_children_of : GxR.TabB base mg C.co_children_of C.tb_children_of) : FnG P w K mg base 1 C.f_children C.fd_children P_children (spF K tb P_children.length F_children) := by
  refine okG (k := 0) C.F_children sc_children fun A outer s H E hgd hr => ?_
  exact (bs_cons (bs_set 2 sc_children.nd (ex_lst ax_nil))
      (bs_cons (bs_for rfl (tg_name 3) PassesOwn.never (ix_rng1 (by rfl) C.z_range (ax_cons (ex_callB len_s cr_lenA (by rfl) C.z_len PySem.boot_len (ax_cons (ex_var 0) ax_nil)) ax_nil)) (pg_name (i := 3) sc_children.nd rfl (by first | exact Or.inl rfl | exact Or.inr rfl)) (bs_one (bs_if (pwt (tw_or (tx_cmp (op_eqA hr.units) eq_s (ex_ix (ex_ix (ex_var 0) (ex_var 3)) ex_int) (ex_var 1) (nomark _)) (tw_or1 (tx_cmp (op_eqA hr.units) eq_s (ex_ix (ex_ix (ex_var 0) (ex_var 3)) ex_int) (ex_var 1) (nomark _))))) (bs_one (bs_drop (ex_append (ex_var 2) (ax_cons (ex_var 3) ax_nil)))) bs_nil)))
      (bs_one (bs_ret (ex_callTy tuple_s call_tuple_of (by rfl) C.z_tuple (by decide +kernel) (ax_cons (ex_var 2) ax_nil))))))
theorem ok_take (C : Ctx K mg tb) (TB_children_of : GxR.TabB base mg C.co_children_of C.tb_children_of) : FnG P w K mg base 1 C.f_take C.fd_take P_take (spF K tb P_take.length F_take) := by
  refine okG (k := 0) C.F_take sc_take fun A outer s H E hgd hr => ?_
  exact (bs_cons (bs_if (tx_cmp op_gt gt_s (ex_ix (ex_var 0) ex_int) ex_int (nomark _)) (bs_cons (bs_set 3 sc_take.nd (ex_op op_mod mod_s (ex_ix (ex_var 0) ex_int) (ex_var 1)))
      (bs_cons (bs_put (ex_var 0) ex_int (ex_op op_fdiv div_s (ex_ix (ex_var 0) ex_int) (ex_var 1)))
      (bs_one (bs_ret (ex_var 3))))) bs_nil)
      (bs_cons (bs_set 2 sc_take.nd ex_int)
      (bs_cons (bs_if (tx_cmp op_lt lt_s (ex_ix (ex_var 0) ex_int) (ex_callB len_s cr_lenA (by rfl) C.z_len PySem.boot_len (ax_cons (ex_ix (ex_var 0) ex_int) ax_nil)) (nomark _)) (bs_one (bs_set 2 sc_take.nd (ex_ix (ex_ix (ex_var 0) ex_int) (ex_ix (ex_var 0) ex_int)))) bs_nil)
      (bs_cons (bs_put (ex_var 0) ex_int (ex_op op_addA add_s (ex_ix (ex_var 0) ex_int) ex_int))
      (bs_cons (bs_if (tx_cmp op_ge ge_s (ex_var 2) (ex_op op_pow pow_s ex_int ex_int) (nomark _)) (bs_cons (bs_put (ex_var 0) ex_int (ex_op op_fdiv div_s (ex_var 2) (ex_var 1)))
      (bs_one (bs_ret (ex_op op_mod mod_s (ex_var 2) (ex_var 1))))) bs_nil)
      (bs_cons (bs_put (ex_var 0) ex_int (ex_op op_mod mod_s (ex_op op_addA add_s (ex_op op_addA add_s (ex_op op_mulA mul_s (ex_ix (ex_var 0) ex_int) ex_int) (ex_op op_mod mod_s (ex_var 2) ex_int)) (ex_op op_mulA mul_s ex_int (ex_ix (ex_var 0) ex_int))) ex_int))
      (bs_one (bs_ret (ex_op op_mod mod_s (ex_op op_fdiv div_s (ex_op op_mod mod_s (ex_op op_pow pow_s (ex_ix (ex_var 0) ex_int) ex_int) ex_int) ex_int) (ex_var 1))))))))))
theorem ok_days (C : Ctx K mg tb) (TB_children_of : GxR.TabB base mg C.co_children_of C.tb_children_of) : FnG P w K mg base 2 C.f_days C.fd_days P_days (spF K tb P_days.length F_days) := by
  have G_take : FnG P w K mg base 1 C.f_take C.fd_take P_take (spF K tb P_take.length F_take) := ok_take C TB_children_of
  refine okG (k := 1) C.F_days sc_days fun A outer s H E hgd hr => ?_
  exact (bs_cons (bs_set 2 sc_days.nd (ex_lst (ax_cons ex_int (ax_cons ex_int ax_nil))))
      (bs_cons (bs_for rfl (tg_name 3) PassesOwn.never (ix_rng1 (by rfl) C.z_range (ax_cons ex_int ax_nil)) (pg_name (i := 3) sc_days.nd rfl (by first | exact Or.inl rfl | exact Or.inr rfl)) (bs_cons (bs_set 4 sc_days.nd (ex_ix (ex_ix (ex_var 1) (ex_callG (fun _ _ _ h => runF_len h) G_take hgd (hr.mono (by decide)) (by rfl) C.g_take C.F_take.kp C.b_take (ax_cons (ex_var 0) (ax_cons (ex_callB len_s cr_lenA (by rfl) C.z_len PySem.boot_len (ax_cons (ex_var 1) ax_nil)) ax_nil)))) ex_int))
      (bs_one (bs_set 2 sc_days.nd (ex_op op_addA add_s (ex_var 2) (ex_lst (ax_cons (ex_var 4) (ax_cons (ex_op op_addA add_s (ex_var 4) ex_int) (ax_cons (ex_callB two_s (cr_max rfl) (by rfl) C.z_max (by decide +kernel) (ax_cons ex_int (ax_cons (ex_op op_sub sub_s (ex_var 4) ex_int) ax_nil))) ax_nil)))))))))
      (bs_one (bs_ret (ex_var 2)))))
theorem ok_parent (C : Ctx K mg tb) (TB_children_of : GxR.TabB base mg C.co_children_of C.tb_children_of) : FnG P w K mg base 2 C.f_parent C.fd_parent P_parent (spF K tb P_parent.length F_parent) := by
  have G_take : FnG P w K mg base 1 C.f_take C.fd_take P_take (spF K tb P_take.length F_take) := ok_take C TB_children_of
  refine okG (k := 1) C.F_parent sc_parent fun A outer s H E hgd hr => ?_
  exact (bs_cons (bs_setLc 4 (own := [("_law_k", 5)]) rfl sc_parent.nd (tg_name 5) (tw_name 5 (by decide)) (ix_rng1 (by rfl) C.z_range (ax_cons (ex_callB len_s cr_lenA (by rfl) C.z_len PySem.boot_len (ax_cons (ex_var 1) ax_nil)) ax_nil)) (blkOk_by (own := [("_law_k", 5)]) (N := N_parent) (sc := defScope s_parent) (by decide +kernel)) (fun _ _ _ _ _ => (pg_name (i := 5) sc_parent.nd rfl (by first | exact Or.inl rfl | exact Or.inr rfl))) (fun _ _ _ _ _ => (ts_one (pwt (tw_and (tx_cmp (op_eqA hr.units) eq_s (ex_ix (ex_ix (ex_var 1) (ex_var 5)) ex_int) (ex_var 3) (nomark _)) (tw_and1 (tx_cmp op_lt lt_s (ex_ix (ex_ix (ex_var 1) (ex_var 5)) ex_int) (ex_var 2) (nomark _))))))) (fun _ _ _ _ _ => (ex_var 5)) (sw_true rfl rfl rfl (by decide +kernel)))
      (bs_cons (bs_if (pwt (tw_or (tx_cmp (op_eqA hr.units) eq_s (ex_var 4) (ex_lst ax_nil) (nomark _)) (tw_or1 (tx_cmp (op_eqA hr.units) eq_s (ex_callG (fun _ _ _ h => runF_len h) G_take hgd (hr.mono (by decide)) (by rfl) C.g_take C.F_take.kp C.b_take (ax_cons (ex_var 0) (ax_cons ex_int ax_nil))) ex_int (nomark _))))) (bs_one (bs_ret (ex_un un_neg neg_s ex_int))) bs_nil)
      (bs_cons (bs_if (tx_cmp (op_eqA hr.units) eq_s (ex_callG (fun _ _ _ h => runF_len h) G_take hgd (hr.mono (by decide)) (by rfl) C.g_take C.F_take.kp C.b_take (ax_cons (ex_var 0) (ax_cons ex_int ax_nil))) ex_int (nomark _)) (bs_one (bs_set 4 sc_parent.nd (ex_sl (ex_var 4) (ox_some (ex_un un_neg neg_s ex_int)) ox_none))) bs_nil)
      (bs_one (bs_ret (ex_ix (ex_var 4) (ex_callG (fun _ _ _ h => runF_len h) G_take hgd (hr.mono (by decide)) (by rfl) C.g_take C.F_take.kp C.b_take (ax_cons (ex_var 0) (ax_cons (ex_callB len_s cr_lenA (by rfl) C.z_len PySem.boot_len (ax_cons (ex_var 4) ax_nil)) ax_nil)))))))))
theorem ok_house (C : Ctx K mg tb) (TB_children_of : GxR.TabB base mg C.co_children_of C.tb_children_of) : FnG P w K mg base 3 C.f_house C.fd_house P_house (spF K tb P_house.length F_house) := by
  have G_parent : FnG P w K mg base 2 C.f_parent C.fd_parent P_parent (spF K tb P_parent.length F_parent) := ok_parent C TB_children_of
  have G_take : FnG P w K mg base 1 C.f_take C.fd_take P_take (spF K tb P_take.length F_take) := ok_take C TB_children_of
  refine okG (k := 2) C.F_house sc_house fun A outer s H E hgd hr => ?_
  exact (bs_cons (bs_set 2 sc_house.nd (ex_op op_addA add_s ex_int (ex_callG (fun _ _ _ h => runF_len h) G_take hgd (hr.mono (by decide)) (by rfl) C.g_take C.F_take.kp C.b_take (ax_cons (ex_var 0) (ax_cons (ex_var 1) ax_nil)))))
      (bs_cons (bs_set 3 sc_house.nd (ex_ix (ex_lst (ax_cons ex_int (ax_cons ex_int (ax_cons ex_int ax_nil)))) (ex_callG (fun _ _ _ h => runF_len h) G_take hgd (hr.mono (by decide)) (by rfl) C.g_take C.F_take.kp C.b_take (ax_cons (ex_var 0) (ax_cons ex_int ax_nil)))))
      (bs_cons (bs_set 4 sc_house.nd (ex_lst ax_nil))
      (bs_cons (bs_for rfl (tg_name 5) PassesOwn.never (ix_rng1 (by rfl) C.z_range (ax_cons (ex_var 2) ax_nil)) (pg_name (i := 5) sc_house.nd rfl (by first | exact Or.inl rfl | exact Or.inr rfl)) (bs_cons (bs_set 3 sc_house.nd (ex_callB two_s (cr_min rfl) (by rfl) C.z_min (by decide +kernel) (ax_cons ex_int (ax_cons (ex_op op_addA add_s (ex_var 3) (ex_ix (ex_lst (ax_cons ex_int (ax_cons ex_int (ax_cons ex_int (ax_cons ex_int (ax_cons ex_int (ax_cons ex_int (ax_cons ex_int (ax_cons ex_int (ax_cons ex_int (ax_cons ex_int ax_nil))))))))))) (ex_callG (fun _ _ _ h => runF_len h) G_take hgd (hr.mono (by decide)) (by rfl) C.g_take C.F_take.kp C.b_take (ax_cons (ex_var 0) (ax_cons ex_int ax_nil))))) ax_nil))))
      (bs_cons (bs_set 6 sc_house.nd (ex_callG (fun _ _ _ h => runF_len h) G_parent hgd (hr.mono (by decide)) (by rfl) C.g_parent C.F_parent.kp C.b_parent (ax_cons (ex_var 0) (ax_cons (ex_var 4) (ax_cons (ex_var 3) (ax_cons ex_int ax_nil))))))
      (bs_cons (bs_set 7 sc_house.nd (ex_callG (fun _ _ _ h => runF_len h) G_parent hgd (hr.mono (by decide)) (by rfl) C.g_parent C.F_parent.kp C.b_parent (ax_cons (ex_var 0) (ax_cons (ex_var 4) (ax_cons (ex_var 3) (ax_cons ex_int ax_nil))))))
      (bs_cons (bs_set 8 sc_house.nd (ex_callG (fun _ _ _ h => runF_len h) G_take hgd (hr.mono (by decide)) (by rfl) C.g_take C.F_take.kp C.b_take (ax_cons (ex_var 0) (ax_cons ex_int ax_nil))))
      (bs_one (bs_drop (ex_append (ex_var 4) (ax_cons (ex_tup (ax_cons (ex_var 3) (ax_cons (ex_var 6) (ax_cons (ex_var 7) (ax_cons (ex_var 8) (ax_cons (ex_callTy int_s call_int1 (by rfl) C.z_int (by decide +kernel) (ax_cons (ex_cmp op_gt gt_s (ex_callG (fun _ _ _ h => runF_len h) G_take hgd (hr.mono (by decide)) (by rfl) C.g_take C.F_take.kp C.b_take (ax_cons (ex_var 0) (ax_cons ex_int ax_nil))) ex_int (nomark _)) ax_nil)) ax_nil)))))) ax_nil)))))))))
      (bs_one (bs_ret (ex_callTy tuple_s call_tuple_of (by rfl) C.z_tuple (by decide +kernel) (ax_cons (ex_var 4) ax_nil))))))))
theorem ok_born_by (C : Ctx K mg tb) (TB_children_of : GxR.TabB base mg C.co_children_of C.tb_children_of) : FnG P w K mg base 1 C.f_born_by C.fd_born_by P_born_by (spF K tb P_born_by.length F_born_by) := by
  refine okG (k := 0) C.F_born_by sc_born_by fun A outer s H E hgd hr => ?_
  exact (bs_one (bs_ret (ex_callB len_s cr_lenA (by rfl) C.z_len PySem.boot_len (ax_cons (ex_lc (own := [("folk", 2)]) rfl sc_born_by.nd (tg_name 2) (tw_name 2 (by decide)) (ix_seq' (ex_var 0)) (blkOk_by (own := [("folk", 2)]) (N := N_born_by) (sc := defScope s_born_by) (by decide +kernel)) (fun _ _ _ _ _ => (pg_name (i := 2) sc_born_by.nd rfl (by first | exact Or.inl rfl | exact Or.inr rfl))) (fun _ _ _ _ _ => (ts_one (tx_cmp op_le le_s (ex_ix (ex_var 2) ex_int) (ex_var 1) (nomark _)))) (fun _ _ _ _ _ => (ex_var 2))) ax_nil))))
theorem ok_children_of (C : Ctx K mg tb) (TB_children_of : GxR.TabB base mg C.co_children_of C.tb_children_of) : FnG P w K mg base 1 C.f_children_of C.fd_children_of P_children_of (spF K tb P_children_of.length F_children_of) := by
  refine okG (k := 0) C.F_children_of sc_children_of fun A outer s H E hgd hr => ?_
  exact (bs_one (bs_ret (ex_kids 0 1 hr (by rfl) C.z_tuple (by rfl) C.z_range (by rfl) C.z_len TB_children_of C.m_children_of (by first | exact C.c_children_of | rfl) ⟨rfl, rfl, by decide +kernel, rfl, rfl, gen_free (by decide +kernel) fun y hy => cell_has hy⟩ rfl rfl rfl rfl rfl rfl rfl rfl)))
theorem ok_law (C : Ctx K mg tb) (TB_children_of : GxR.TabB base mg C.co_children_of C.tb_children_of) : FnG P w K mg base 4 C.f_law C.fd_law P_law (spF K tb P_law.length F_law) := by
  have G_born : FnG P w K mg base 1 C.f_born C.fd_born P_born (spF K tb P_born.length F_born) := ok_born C TB_children_of
  have G_children : FnG P w K mg base 1 C.f_children C.fd_children P_children (spF K tb P_children.length F_children) := ok_children C TB_children_of
  have G_days : FnG P w K mg base 2 C.f_days C.fd_days P_days (spF K tb P_days.length F_days) := ok_days C TB_children_of
  have G_house : FnG P w K mg base 3 C.f_house C.fd_house P_house (spF K tb P_house.length F_house) := ok_house C TB_children_of
  have G_take : FnG P w K mg base 1 C.f_take C.fd_take P_take (spF K tb P_take.length F_take) := ok_take C TB_children_of
  have G_born_by : FnG P w K mg base 1 C.f_born_by C.fd_born_by P_born_by (spF K tb P_born_by.length F_born_by) := ok_born_by C TB_children_of
  have G_children_of : FnG P w K mg base 1 C.f_children_of C.fd_children_of P_children_of (spF K tb P_children_of.length F_children_of) := ok_children_of C TB_children_of
  refine okG (k := 3) C.F_law sc_law fun A outer s H E hgd hr => ?_
  exact (bs_cons (bs_set 1 sc_law.nd (ex_lst (ax_cons (ex_var 0) (ax_cons ex_int (ax_cons ex_int (ax_cons ex_int ax_nil))))))
      (bs_cons (bs_set 2 sc_law.nd (ex_callTy int_s call_int1 (by rfl) C.z_int (by decide +kernel) (ax_cons (ex_cmp (op_eqA hr.units) eq_s (ex_callG (fun _ _ _ h => runF_len h) G_take hgd (hr.mono (by decide)) (by rfl) C.g_take C.F_take.kp C.b_take (ax_cons (ex_var 1) (ax_cons ex_int ax_nil))) ex_int (nomark _)) ax_nil)))
      (bs_cons (bs_set 3 sc_law.nd (ex_callG (fun _ _ _ h => runF_len h) G_house hgd (hr.mono (by decide)) (by rfl) C.g_house C.F_house.kp C.b_house (ax_cons (ex_var 1) (ax_cons (ex_ix (ex_lst (ax_cons ex_int (ax_cons ex_int ax_nil))) (ex_var 2)) ax_nil))))
      (bs_cons (bs_set 4 sc_law.nd (ex_callG (fun _ _ _ h => runF_len h) G_house hgd (hr.mono (by decide)) (by rfl) C.g_house C.F_house.kp C.b_house (ax_cons (ex_var 1) (ax_cons ex_int ax_nil))))
      (bs_cons (bs_set 5 sc_law.nd (ex_callB repr_s (cr_repr hgd (roomU hr)) (by rfl) C.z_repr (by decide +kernel) (ax_cons (ex_tup (ax_cons (ex_var 3) (ax_cons (ex_var 4) ax_nil))) ax_nil)))
      (bs_cons (bs_for rfl (tg_name 6) PassesOwn.never (ix_rng1 (by rfl) C.z_range (ax_cons ex_int ax_nil)) (pg_name (i := 6) sc_law.nd rfl (by first | exact Or.inl rfl | exact Or.inr rfl)) (bs_cons (bs_for rfl (tg_name 7) PassesOwn.never (ix_seq' (ex_op op_addA add_s (ex_callG (fun _ _ _ h => runF_len h) G_days hgd (hr.mono (by decide)) (by rfl) C.g_days C.F_days.kp C.b_days (ax_cons (ex_var 1) (ax_cons (ex_var 3) ax_nil))) (ex_callG (fun _ _ _ h => runF_len h) G_days hgd (hr.mono (by decide)) (by rfl) C.g_days C.F_days.kp C.b_days (ax_cons (ex_var 1) (ax_cons (ex_var 4) ax_nil))))) (pg_name (i := 7) sc_law.nd rfl (by first | exact Or.inl rfl | exact Or.inr rfl)) (bs_one (bs_for rfl (tg_name 9) PassesOwn.never (ix_seq' (ex_tup (ax_cons (ex_var 3) (ax_cons (ex_var 4) ax_nil)))) (pg_name (i := 9) sc_law.nd rfl (by first | exact Or.inl rfl | exact Or.inr rfl)) (bs_one (bs_if (tx_cmp (op_neA hr.units) ne_s (ex_callB repr_s (cr_repr hgd (roomU hr)) (by rfl) C.z_repr (by decide +kernel) (ax_cons (ex_callG (fun _ _ _ h => runF_len h) G_born_by hgd (hr.mono (by decide)) (by rfl) C.g_born_by C.F_born_by.kp C.b_born_by (ax_cons (ex_var 9) (ax_cons (ex_var 7) ax_nil))) ax_nil)) (ex_callB repr_s (cr_repr hgd (roomU hr)) (by rfl) C.z_repr (by decide +kernel) (ax_cons (ex_callG (fun _ _ _ h => runF_len h) G_born hgd (hr.mono (by decide)) (by rfl) C.g_born C.F_born.kp C.b_born (ax_cons (ex_var 9) (ax_cons (ex_var 7) ax_nil))) ax_nil)) (nomark _)) (bs_one (bs_ret ex_bl)) bs_nil)))))
      (bs_one (bs_for rfl (tg_name 8) PassesOwn.never (ix_rng1 (by rfl) C.z_range (ax_cons (ex_callB len_s cr_lenA (by rfl) C.z_len PySem.boot_len (ax_cons (ex_var 3) ax_nil)) ax_nil)) (pg_name (i := 8) sc_law.nd rfl (by first | exact Or.inl rfl | exact Or.inr rfl)) (bs_one (bs_for rfl (tg_name 9) PassesOwn.never (ix_seq' (ex_tup (ax_cons (ex_var 3) (ax_cons (ex_var 4) (ax_cons (ex_var 3) ax_nil))))) (pg_name (i := 9) sc_law.nd rfl (by first | exact Or.inl rfl | exact Or.inr rfl)) (bs_one (bs_if (pwt (tw_and (tx_cmp op_lt lt_s (ex_var 8) (ex_callB len_s cr_lenA (by rfl) C.z_len PySem.boot_len (ax_cons (ex_var 9) ax_nil)) (nomark _)) (tw_and1 (tx_cmp (op_neA hr.units) ne_s (ex_callB repr_s (cr_repr hgd (roomU hr)) (by rfl) C.z_repr (by decide +kernel) (ax_cons (ex_callG (fun _ _ _ h => runF_len h) G_children_of hgd (hr.mono (by decide)) (by rfl) C.g_children_of C.F_children_of.kp C.b_children_of (ax_cons (ex_var 9) (ax_cons (ex_var 8) ax_nil))) ax_nil)) (ex_callB repr_s (cr_repr hgd (roomU hr)) (by rfl) C.z_repr (by decide +kernel) (ax_cons (ex_callG (fun _ _ _ h => runF_len h) G_children hgd (hr.mono (by decide)) (by rfl) C.g_children C.F_children.kp C.b_children (ax_cons (ex_var 9) (ax_cons (ex_var 8) ax_nil))) ax_nil)) (nomark _))))) (bs_one (bs_ret ex_bl)) bs_nil))))))))
      (bs_one (bs_ret (ex_cmp (op_eqA hr.units) eq_s (ex_callB repr_s (cr_repr hgd (roomU hr)) (by rfl) C.z_repr (by decide +kernel) (ax_cons (ex_tup (ax_cons (ex_var 3) (ax_cons (ex_var 4) ax_nil))) ax_nil)) (ex_var 5) (nomark _))))))))))
end
end K02
end
section
set_option Elab.async false
set_option linter.all false
set_option maxRecDepth 100000
set_option maxHeartbeats 4000000
namespace K02
open PySem L2 Pv
theorem seq_nx {a b : Sx} {ρ ρ' : Pv.Env} {m m' : Mem} (h : a ρ m = some (.nx, ρ', m')) : sSeq a b ρ m = b ρ' m' := by simp [sSeq, h]
theorem seq_ret {a b : Sx} {ρ ρ' : Pv.Env} {m m' : Mem} {d : D} (h : a ρ m = some (.ret d, ρ', m')) : sSeq a b ρ m = some (.ret d, ρ', m') := by simp [sSeq, h]
def StAt (sc : List D) (m : Mem) (st : Nat) : Prop := ∃ p c sd : Int, m[st]? = some (.lst [.fl sc, .int p, .int c, .int sd]) ∧ 0 ≤ p ∧ 0 ≤ c ∧ 0 ≤ sd ∧ sd < 2147483647
theorem set_get {m : Mem} {st : Nat} {a b : MO} (h : m[st]? = some a) : (m.set st b)[st]? = some b := by
  obtain ⟨hl, _⟩ := List.getElem?_eq_some_iff.mp h
  rw [List.getElem?_set_self hl]
theorem at_nat {α : Type} {xs : List α} {i : Nat} {x : α} (h : xs[i]? = some x) : atI xs (i : Int) = some x := by
  have hl : i < xs.length := (List.getElem?_eq_some_iff.mp h).1
  unfold atI ixN
  rw [if_pos (by omega), if_pos (by omega)]
  simpa using h
theorem at0 {α : Type} {a : α} {xs : List α} : atI (a :: xs) 0 = some a := by
  have h := @at_nat _ _ 0 _ (rfl : (a :: xs)[0]? = _)
  exact h
theorem at1 {α : Type} {a b : α} {xs : List α} : atI (a :: b :: xs) 1 = some b := by
  have h := @at_nat _ _ 1 _ (rfl : (a :: b :: xs)[1]? = _)
  exact h
theorem at2 {α : Type} {a b c : α} {xs : List α} : atI (a :: b :: c :: xs) 2 = some c := by
  have h := @at_nat _ _ 2 _ (rfl : (a :: b :: c :: xs)[2]? = _)
  exact h
theorem at3 {α : Type} {a b c d : α} {xs : List α} : atI (a :: b :: c :: d :: xs) 3 = some d := by
  have h := @at_nat _ _ 3 _ (rfl : (a :: b :: c :: d :: xs)[3]? = _)
  exact h
theorem at4 {α : Type} {a b c d e : α} {xs : List α} : atI (a :: b :: c :: d :: e :: xs) 4 = some e := by
  have h := @at_nat _ _ 4 _ (rfl : (a :: b :: c :: d :: e :: xs)[4]? = _)
  exact h
theorem ix4_1 : ixN 4 1 = some 1 := rfl
theorem ix4_2 : ixN 4 2 = some 2 := rfl
theorem ix4_3 : ixN 4 3 = some 3 := rfl
theorem take_spec {ns : List Int} {m : Mem} {st : Nat} (h : StAt (ns.map .int) m st) (b : Int) (hb : 0 < b) (hb2 : b < 1073741824) :
    ∃ v mo, F_take [.ref st, .int b] m = some (.int v, m.set st mo) ∧ 0 ≤ v ∧ v < b ∧ StAt (ns.map .int) (m.set st mo) st := by
  obtain ⟨p, c, sd, e, hp, hc, hs, hs2⟩ := h
  by_cases h0 : 0 < c
  · refine ⟨c % b, .lst [.fl (ns.map .int), .int p, .int (c / b), .int sd], ?_, Int.emod_nonneg _ (by omega), Int.emod_lt_of_pos _ hb, p, c / b, sd, set_get e, hp, Int.ediv_nonneg hc (by omega), hs, hs2⟩
    simp [runF, B_take, startD, sSeq, sIf, sSet, sRet, sPut, eVar, eC, eOp, tVal, ixD, at2, ix4_2, cmpD, gtI, modD, divD, intC, putD, CDiv, e, h0, hb, hb2]
  · have key : ∀ cell : Int, (if p < (ns.length : Int) then atI (ns.map D.int) p else some (D.int 0)) = some (.int cell) → ∃ v mo, F_take [.ref st, .int b] m = some (.int v, m.set st mo) ∧ 0 ≤ v ∧ v < b ∧ StAt (ns.map .int) (m.set st mo) st := by
      intro cell hcell
      by_cases hbig : (1000000000000000000 : Int) ≤ cell
      · refine ⟨cell % b, .lst [.fl (ns.map .int), .int (p + 1), .int (cell / b), .int sd], ?_, Int.emod_nonneg _ (by omega), Int.emod_lt_of_pos _ hb, p + 1, cell / b, sd, set_get e, by omega, Int.ediv_nonneg (by omega) (by omega), hs, hs2⟩
        by_cases h1 : p < (ns.length : Int)
        · rw [if_pos h1] at hcell
          simp [runF, B_take, startD, sSeq, sIf, sSet, sRet, sPut, sNil, eVar, eC, eOp, eCB, aCons, aNil, tVal, ixD, at0, at1, at2, ix4_1, ix4_2, cmpD, gtI, ltI, geI, modD, divD, powD, intC, putD, CDiv, CPow, addD, lenD, e, h0, h1, hb, hb2, hbig, hcell, set_get e]
        · rw [if_neg h1] at hcell
          have : (0 : Int) = cell := by injection hcell with z; injection z
          omega
      · have n2 : 0 ≤ (sd * 48271 + cell % 2147483629 + 7 * (p + 1)) % 2147483647 := Int.emod_nonneg _ (by omega)
        have n3 : (sd * 48271 + cell % 2147483629 + 7 * (p + 1)) % 2147483647 < 2147483647 := Int.emod_lt_of_pos _ (by omega)
        generalize hq : (sd * 48271 + cell % 2147483629 + 7 * (p + 1)) % 2147483647 = q at n2 n3
        have cm1 : CMul sd 48271 := .inl ⟨by omega, by omega⟩
        have cm2 : CMul 7 (p + 1) := .inl ⟨by omega, by omega⟩
        have cp : CPow q 3 := ⟨by omega, by omega, by omega⟩
        refine ⟨q ^ 3 % 2147483629 / 64 % b, .lst [.fl (ns.map .int), .int (p + 1), .int c, .int q], ?_, Int.emod_nonneg _ (by omega), Int.emod_lt_of_pos _ hb, p + 1, c, q, set_get e, by omega, hc, n2, n3⟩
        by_cases h1 : p < (ns.length : Int)
        · rw [if_pos h1] at hcell
          simp [runF, B_take, startD, sSeq, sIf, sSet, sRet, sPut, sNil, eVar, eC, eOp, eCB, aCons, aNil, tVal, ixD, at0, at1, at2, at3, ix4_1, ix4_2, ix4_3, cmpD, gtI, ltI, geI, modD, divD, powD, mulD, intC, putD, CDiv, addD, lenD, e, h0, h1, hb, hb2, hbig, hcell, set_get e, cm1, cm2, cp, hq, show CPow 10 18 from ⟨by omega, by omega, by decide⟩]
        · rw [if_neg h1] at hcell
          have : (0 : Int) = cell := by injection hcell with z; injection z
          subst this
          simp at hq
          simp [runF, B_take, startD, sSeq, sIf, sSet, sRet, sPut, sNil, eVar, eC, eOp, eCB, aCons, aNil, tVal, ixD, at0, at1, at2, at3, ix4_1, ix4_2, ix4_3, cmpD, gtI, ltI, geI, modD, divD, powD, mulD, intC, putD, CDiv, addD, lenD, e, h0, h1, hb, hb2, set_get e, cm1, cm2, cp, hq, show CPow 10 18 from ⟨by omega, by omega, by decide⟩]
    by_cases h1 : p < (ns.length : Int)
    · have hl : p.toNat < ns.length := by omega
      exact key ns[p.toNat] (by rw [if_pos h1]; simp [atI, ixN, hp, h1, hl])
    · exact key 0 (by rw [if_neg h1])
end K02
end
section
set_option Elab.async false
set_option linter.all false
set_option maxRecDepth 100000
set_option maxHeartbeats 4000000
namespace K02
open PySem L2 Pv
structure Grow (sc : List D) (st : Nat) (m m' : Mem) : Prop where
  len : m.length ≤ m'.length
  same : ∀ i : Nat, i ≠ st → i < m.length → m'[i]? = m[i]?
  ok : StAt sc m' st
theorem Grow.trans {sc : List D} {st : Nat} {m m1 m2 : Mem} (a : Grow sc st m m1) (b : Grow sc st m1 m2) : Grow sc st m m2 :=
  ⟨Nat.le_trans a.len b.len, fun i h1 h2 => (b.same i h1 (Nat.lt_of_lt_of_le h2 a.len)).trans (a.same i h1 h2), b.ok⟩
theorem Grow.refl {sc : List D} {st : Nat} {m : Mem} (h : StAt sc m st) : Grow sc st m m := ⟨Nat.le_refl _, fun _ _ _ => rfl, h⟩
theorem get_app {m l : Mem} {i : Nat} {a : MO} (h : m[i]? = some a) : (m ++ l)[i]? = some a := by
  rw [List.getElem?_append_left (List.getElem?_eq_some_iff.mp h).1]; exact h
theorem get_last {m : Mem} {a : MO} : (m ++ [a])[m.length]? = some a := by simp
theorem Grow.app {sc : List D} {st : Nat} {m l : Mem} (h : StAt sc m st) : Grow sc st m (m ++ l) := by
  obtain ⟨p, c, sd, e, r⟩ := h
  exact ⟨by simp, fun i _ hi => by rw [List.getElem?_append_left hi], p, c, sd, get_app e, r⟩
theorem Grow.set {sc : List D} {st : Nat} {m : Mem} {mo : MO} (h : StAt sc (m.set st mo) st) : Grow sc st m (m.set st mo) :=
  ⟨by simp, fun i hi _ => by rw [List.getElem?_set_ne (Ne.symm hi)], h⟩
theorem Grow.at {sc : List D} {st : Nat} {m m' : Mem} {i : Nat} {a : MO} (g : Grow sc st m m') (h : m[i]? = some a) (hi : i ≠ st) : m'[i]? = some a := by
  rw [g.same i hi (List.getElem?_eq_some_iff.mp h).1]; exact h
theorem StAt.lt {sc : List D} {st : Nat} {m : Mem} (h : StAt sc m st) : st < m.length := by
  obtain ⟨p, c, sd, e, _⟩ := h
  exact (List.getElem?_eq_some_iff.mp e).1
/-- a draw, and what it leaves -/
theorem take_g {ns : List Int} {m : Mem} {st : Nat} (h : StAt (ns.map .int) m st) (b : Int) (hb : 0 < b) (hb2 : b < 1073741824) :
    ∃ v m', F_take [.ref st, .int b] m = some (.int v, m') ∧ 0 ≤ v ∧ v < b ∧ Grow (ns.map .int) st m m' ∧ m'.length = m.length := by
  obtain ⟨v, mo, e, h1, h2, h3⟩ := take_spec h b hb hb2
  exact ⟨v, _, e, h1, h2, Grow.set h3, by simp⟩
def fits (i : Int) : Prop := -200000 ≤ i ∧ i ≤ 200000
def isFolk (d : D) : Prop := ∃ a b c e f : Int, d = .tup [.int a, .int b, .int c, .int e, .int f] ∧ fits a ∧ fits b ∧ fits c ∧ fits e ∧ fits f ∧ 0 ≤ a
def parSel (fs : List D) (day man : Int) (i : Nat) : Bool := match fs[i]? with
  | some (.tup [.int a, _, _, .int e, _]) => decide (e = man) && decide (a < day)
  | _ => false
def parIs (fs : List D) (day man : Int) : List Int := ((List.range fs.length).filter (parSel fs day man)).map fun i : Nat => (i : Int)
theorem parIs_mem {fs : List D} {day man i : Int} (h : i ∈ parIs fs day man) : 0 ≤ i ∧ i < fs.length := by
  unfold parIs at h
  obtain ⟨k, hk, rfl⟩ := List.mem_map.mp h
  have := List.mem_range.mp (List.mem_filter.mp hk).1
  omega
theorem cut3 (ds : List D) : ∃ k, cutD ds (some (-3)) none = ds.drop k ∧ (ds ≠ [] → k < ds.length) := by
  refine ⟨ds.length - 3, ?_, fun h => ?_⟩
  · unfold cutD
    have e : HT.sIx ds.length 0 (some (-3)) = ds.length - 3 := by
      show (if (-3 : Int) < 0 then ((-3 : Int) + (ds.length : Int)).toNat else min (-3 : Int).toNat ds.length) = _
      rw [if_pos (by omega)]
      omega
    rw [e, HT.sIx_none]
    rw [List.take_of_length_le]
    simp
  · have : 0 < ds.length := List.length_pos_iff.mpr h
    omega
theorem par_lc {m : Mem} {st fo : Nat} {fs : List D} (hfo : m[fo]? = some (.lst fs)) (hf : ∀ d ∈ fs, isFolk d) (hl : fs.length ≤ 60) (day man : Int) :
    (eLc (iRngA (aCons (eCB lenD (aCons (eVar 1) aNil)) aNil)) (gN 5) (tAnd' (tVal (eOp (eqD false) (eOp ixD (eOp ixD (eVar 1) (eVar 5)) (eC (.int 3))) (eVar 3))) (tVal (eOp (cmpD ltI) (eOp ixD (eOp ixD (eVar 1) (eVar 5)) (eC (.int 0))) (eVar 2)))) (eVar 5) [5])
      [some (.ref st), some (.ref fo), some (.int day), some (.int man), none, none] m = some (.ref m.length, m ++ [.lst ((parIs fs day man).map .int)]) := by
  have src : iRngA (aCons (eCB lenD (aCons (eVar 1) aNil)) aNil) [some (.ref st), some (.ref fo), some (.int day), some (.int man), none, none] m = some (.seq (rngD 0 fs.length), m) :=
    rngA_ok (by simp [aCons, aNil, eCB, eVar, lenD, hfo]) (by omega)
  have go := lc_ok (t := gN 5) (c := (tAnd' (tVal (eOp (eqD false) (eOp ixD (eOp ixD (eVar 1) (eVar 5)) (eC (.int 3))) (eVar 3))) (tVal (eOp (cmpD ltI) (eOp ixD (eOp ixD (eVar 1) (eVar 5)) (eC (.int 0))) (eVar 2))))) (f := eVar 5) (vs := [5]) (onI (parSel fs day man)) id src rfl ?_ (by simp [rngD]; omega)
  · rw [go, rng_filter]
    rfl
  · intro d hd
    obtain ⟨k, hk, rfl⟩ := rng_mem hd
    refine ⟨_, rfl, ?_, fun _ => by simp [wipeD, eVar]⟩
    obtain ⟨a, b, c, e, f, ed, _⟩ := hf fs[k] (List.getElem_mem hk)
    have ek : fs[k]? = some (.tup [.int a, .int b, .int c, .int e, .int f]) := by rw [List.getElem?_eq_getElem hk, ed]
    have at' : atI fs (k : Int) = some (.tup [.int a, .int b, .int c, .int e, .int f]) := at_nat ek
    have sel' : parSel fs day man k = (decide (e = man) && decide (a < day)) := by unfold parSel; rw [ek]
    rw [onI_nat, sel']
    simp only [wipeD, List.set, tAnd', tVal, eOp, eVar, eC, List.getElem?_cons_zero, List.getElem?_cons_succ, Option.bind_some, ixD, hfo, at', Option.map_some, at3, at0, eqB_int, Bool.bne_false, cmpD, ltI]
    by_cases h1 : e = man <;> simp [h1]
end K02
end
section
set_option Elab.async false
set_option linter.all false
set_option maxRecDepth 100000
set_option maxHeartbeats 4000000
namespace K02
open PySem L2 Pv
theorem if_t {t : Tx} {a b : Sx} {ρ : Pv.Env} {m m' : Mem} (h : t ρ m = some (true, m')) : sIf t a b ρ m = a ρ m' := by simp [sIf, h]
theorem if_f {t : Tx} {a b : Sx} {ρ : Pv.Env} {m m' : Mem} (h : t ρ m = some (false, m')) : sIf t a b ρ m = b ρ m' := by simp [sIf, h]
theorem run_ret {b : Sx} {np n : Nat} {ds : List D} {m m' : Mem} {ρ' : Pv.Env} {d : D} (hl : ds.length = np) (h : b (startD n ds) m = some (.ret d, ρ', m')) : runF np n b ds m = some (d, m') := by
  unfold runF
  rw [if_pos hl, h]; rfl
theorem parent_spec {ns : List Int} {m : Mem} {st fo : Nat} {fs : List D} (hst : StAt (ns.map .int) m st) (hfo : m[fo]? = some (.lst fs)) (hne : fo ≠ st) (hf : ∀ d ∈ fs, isFolk d) (hl : fs.length ≤ 60) (day man : Int) :
    ∃ v m', F_parent [.ref st, .ref fo, .int day, .int man] m = some (.int v, m') ∧ -1 ≤ v ∧ v ≤ 60 ∧ Grow (ns.map .int) st m m' := by
  have lc := par_lc (st := st) hfo hf hl day man
  generalize hL : parIs fs day man = L at lc
  have hmem : ∀ i ∈ L, 0 ≤ i ∧ i ≤ 60 := fun i hi => by
    rw [← hL] at hi
    have := parIs_mem hi
    omega
  have stl := hst.lt
  let m1 : Mem := m ++ [.lst (L.map .int)]
  let m2 : Mem := m1 ++ [.lst []]
  have g1 : Grow (ns.map .int) st m m1 := Grow.app hst
  have g2 : Grow (ns.map .int) st m m2 := g1.trans (Grow.app g1.ok)
  let ρ1 : Pv.Env := [some (.ref st), some (.ref fo), some (.int day), some (.int man), some (.ref m.length), none]
  have s1 : (sSet 4 (eLc (iRngA (aCons (eCB lenD (aCons (eVar 1) aNil)) aNil)) (gN 5) (tAnd' (tVal (eOp (eqD false) (eOp ixD (eOp ixD (eVar 1) (eVar 5)) (eC (.int 3))) (eVar 3))) (tVal (eOp (cmpD ltI) (eOp ixD (eOp ixD (eVar 1) (eVar 5)) (eC (.int 0))) (eVar 2)))) (eVar 5) [5]))
      [some (.ref st), some (.ref fo), some (.int day), some (.int man), none, none] m = some (.nx, ρ1, m1) := by
    unfold sSet
    rw [lc]; rfl
  have a1 : m2[m.length]? = some (.lst (L.map .int)) := get_app get_last
  have a2 : m2[m1.length]? = some (.lst []) := get_last
  have e1 : (tVal (eOp (eqD false) (eVar 4) (eCB lstD aNil))) ρ1 m1 = some (L.isEmpty, m2) := by
    have z : (eOp (eqD false) (eVar 4) (eCB lstD aNil)) ρ1 m1 = eqD false (.ref m.length) (.ref m1.length) m2 := by
      simp [eOp, eVar, eCB, aNil, lstD, ρ1, m2]
    unfold tVal
    rw [z, eq_nil a1 a2]; rfl
  -- the end: an item of a list of such numbers
  have fin : ∀ (m3 : Mem) (n : Nat) (K : List Int), Grow (ns.map .int) st m m3 → n ≠ st → m3[n]? = some (.lst (K.map .int)) → K ≠ [] → (∀ i ∈ K, 0 ≤ i ∧ i ≤ 60) → K.length ≤ 1000 →
      ∃ v m', (sRet (eOp ixD (eVar 4) (eCall F_take (aCons (eVar 0) (aCons (eCB lenD (aCons (eVar 4) aNil)) aNil))))) [some (.ref st), some (.ref fo), some (.int day), some (.int man), some (.ref n), none] m3 =
        some (.ret (.int v), [some (.ref st), some (.ref fo), some (.int day), some (.int man), some (.ref n), none], m') ∧ -1 ≤ v ∧ v ≤ 60 ∧ Grow (ns.map .int) st m m' := by
    intro m3 n K g hn hK hne' hb hk
    have kp : 0 < K.length := List.length_pos_iff.mpr hne'
    obtain ⟨v, m4, t1, t2, t3, t4, _⟩ := take_g g.ok (K.length : Int) (by omega) (by omega)
    have at4 := t4.at hK hn
    have hv : v.toNat < K.length := by omega
    refine ⟨K[v.toNat], m4, ?_, ?_, ?_, g.trans t4⟩
    · have hx : atI (K.map D.int) v = some (.int K[v.toNat]) := by
        have := at_nat (xs := K.map D.int) (i := v.toNat) (x := .int K[v.toNat]) (by simp [hv])
        rw [Int.toNat_of_nonneg t2] at this
        exact this
      have z : (eOp ixD (eVar 4) (eCall F_take (aCons (eVar 0) (aCons (eCB lenD (aCons (eVar 4) aNil)) aNil)))) [some (.ref st), some (.ref fo), some (.int day), some (.int man), some (.ref n), none] m3 = some (.int K[v.toNat], m4) := by
        simp only [eOp, eVar, eCall, eCB, aCons, aNil, lenD, List.getElem?_cons_zero, List.getElem?_cons_succ, Option.bind_some, hK, List.length_map]
        rw [t1]
        simp only [Option.bind_some, ixD, at4, hx, Option.map_some]
      unfold sRet
      rw [z]; rfl
    · have := (hb _ (List.getElem_mem hv)).1; omega
    · exact (hb _ (List.getElem_mem hv)).2
  have lenL : L.length ≤ 1000 := by
    rw [← hL]; unfold parIs
    rw [List.length_map]
    exact Nat.le_trans (List.length_filter_le _ _) (by rw [List.length_range]; omega)
  unfold F_parent
  cases hE : L.isEmpty with
  | true =>
    refine ⟨-1, m2, run_ret rfl (ρ' := ρ1) ?_, by omega, by omega, g2⟩
    show B_parent [some (.ref st), some (.ref fo), some (.int day), some (.int man), none, none] m = _
    unfold B_parent
    rw [seq_nx s1]
    refine seq_ret ?_
    rw [if_t (m' := m2) (by unfold tOr'; rw [e1, hE]; rfl)]
    simp [sRet, eUn, eC, negD]
  | false =>
    have hne2 : L ≠ [] := fun z => by rw [z] at hE; cases hE
    obtain ⟨v5, m3, t1, t2, t3, t4, _⟩ := take_g g2.ok 5 (by omega) (by omega)
    have g3 := g2.trans t4
    have e2 : (tVal (eOp (eqD false) (eCall F_take (aCons (eVar 0) (aCons (eC (.int 5)) aNil))) (eC (.int 0)))) ρ1 m2 = some (decide (v5 = 0), m3) := by
      simp only [tVal, eOp, eCall, eCB, aCons, aNil, eVar, eC, ρ1, List.getElem?_cons_zero, Option.bind_some]
      rw [t1]
      simp only [Option.bind_some, eqB_int, Bool.bne_false]
    have test : (tOr' (tVal (eOp (eqD false) (eVar 4) (eCB lstD aNil))) (tVal (eOp (eqD false) (eCall F_take (aCons (eVar 0) (aCons (eC (.int 5)) aNil))) (eC (.int 0))))) ρ1 m1 = some (decide (v5 = 0), m3) := by
      unfold tOr'
      rw [e1, hE]
      simp only [Option.bind_some, Bool.false_eq_true, if_false]
      exact e2
    by_cases h5 : v5 = 0
    · refine ⟨-1, m3, run_ret rfl (ρ' := ρ1) ?_, by omega, by omega, g3⟩
      show B_parent [some (.ref st), some (.ref fo), some (.int day), some (.int man), none, none] m = _
      unfold B_parent
      rw [seq_nx s1]
      refine seq_ret ?_
      rw [if_t (m' := m3) (by rw [test, decide_eq_true h5])]
      simp [sRet, eUn, eC, negD]
    · obtain ⟨v2, m4, u1, u2, u3, u4, _⟩ := take_g g3.ok 2 (by omega) (by omega)
      have g4 := g3.trans u4
      have e3 : (tVal (eOp (eqD false) (eCall F_take (aCons (eVar 0) (aCons (eC (.int 2)) aNil))) (eC (.int 0)))) ρ1 m3 = some (decide (v2 = 0), m4) := by
        simp only [tVal, eOp, eCall, eCB, aCons, aNil, eVar, eC, ρ1, List.getElem?_cons_zero, Option.bind_some]
        rw [u1]
        simp only [Option.bind_some, eqB_int, Bool.bne_false]
      have nne : m.length ≠ st := Nat.ne_of_gt stl
      have a4 : m4[m.length]? = some (.lst (L.map .int)) := u4.at (t4.at a1 nne) nne
      have first : (sIf (tOr' (tVal (eOp (eqD false) (eVar 4) (eCB lstD aNil))) (tVal (eOp (eqD false) (eCall F_take (aCons (eVar 0) (aCons (eC (.int 5)) aNil))) (eC (.int 0))))) (sRet (eUn negD (eC (.int 1)))) sNil) ρ1 m1 = some (.nx, ρ1, m3) := by
        rw [if_f (m' := m3) (by rw [test, decide_eq_false h5])]; rfl
      by_cases h2 : v2 = 0
      · obtain ⟨k, ck, kl⟩ := cut3 (L.map .int)
        let m5 : Mem := m4 ++ [.lst ((L.drop k).map .int)]
        have g5 : Grow (ns.map .int) st m m5 := g4.trans (Grow.app g4.ok)
        have kl' : k < L.length := by
          have := kl (by simpa using hne2)
          simpa using this
        obtain ⟨v, m6, w1, w2, w3, w4⟩ := fin m5 m4.length (L.drop k) g5 (Nat.ne_of_gt (Nat.lt_of_lt_of_le stl g4.len)) get_last (fun z => by have := congrArg List.length z; simp at this; omega) (fun i hi => hmem i (List.mem_of_mem_drop hi)) (by rw [List.length_drop]; omega)
        refine ⟨v, m6, run_ret rfl (ρ' := [some (.ref st), some (.ref fo), some (.int day), some (.int man), some (.ref m4.length), none]) ?_, w2, w3, w4⟩
        show B_parent [some (.ref st), some (.ref fo), some (.int day), some (.int man), none, none] m = _
        unfold B_parent
        rw [seq_nx s1, seq_nx first, seq_nx (ρ' := [some (.ref st), some (.ref fo), some (.int day), some (.int man), some (.ref m4.length), none]) (m' := m5)]
        · exact w1
        · rw [if_t (m' := m4) (by rw [e3, decide_eq_true h2])]
          simp only [sSet, eSlc, eVar, oSome, oNone, eUn, eC, negD, ρ1, List.getElem?_cons_zero, List.getElem?_cons_succ, Option.bind_some, slcD, a4]
          rw [ck, ← List.map_drop]; rfl
      · obtain ⟨v, m6, w1, w2, w3, w4⟩ := fin m4 m.length L g4 nne a4 hne2 hmem lenL
        refine ⟨v, m6, run_ret rfl (ρ' := ρ1) ?_, w2, w3, w4⟩
        show B_parent [some (.ref st), some (.ref fo), some (.int day), some (.int man), none, none] m = _
        unfold B_parent
        rw [seq_nx s1, seq_nx first, seq_nx (ρ' := ρ1) (m' := m4)]
        · exact w1
        · rw [if_f (m' := m4) (by rw [e3, decide_eq_false h2])]; rfl
end K02
end
section
set_option Elab.async false
set_option linter.all false
set_option maxRecDepth 100000
set_option maxHeartbeats 4000000
namespace K02
open PySem L2 Pv
theorem set_ok {i : Nat} {a : Ex} {ρ : Pv.Env} {m m' : Mem} {d : D} (h : a ρ m = some (d, m')) : sSet i a ρ m = some (.nx, ρ.set i (some d), m') := by unfold sSet; rw [h]; rfl
theorem cb_ok {g : List D → Mem → Option (D × Mem)} {a : Ax} {ρ : Pv.Env} {m m1 : Mem} {ds : List D} {r : D × Mem} (h : a ρ m = some (ds, m1)) (hg : g ds m1 = some r) : eCB g a ρ m = some r := by unfold eCB; rw [h]; exact hg
theorem cons_ok {a : Ex} {b : Ax} {ρ : Pv.Env} {m m1 m2 : Mem} {d : D} {ds : List D} (h : a ρ m = some (d, m1)) (h2 : b ρ m1 = some (ds, m2)) : aCons a b ρ m = some (d :: ds, m2) := by unfold aCons; rw [h]; simp only [Option.bind_some]; rw [h2]; rfl
theorem op_ok {g : D → D → Mem → Option (D × Mem)} {a b : Ex} {ρ : Pv.Env} {m m1 m2 : Mem} {x y : D} {r : D × Mem} (h : a ρ m = some (x, m1)) (h2 : b ρ m1 = some (y, m2)) (hg : g x y m2 = some r) : eOp g a b ρ m = some r := by unfold eOp; rw [h]; simp only [Option.bind_some]; rw [h2]; exact hg
theorem Grow.push {sc : List D} {st fo : Nat} {m0 m : Mem} {x : MO} (g : Grow sc st m0 m) (h1 : m0.length ≤ fo) (h2 : fo ≠ st) : Grow sc st m0 (m.set fo x) := by
  obtain ⟨p, c, sd, e, r⟩ := g.ok
  refine ⟨by simpa using g.len, fun i hi hl => ?_, p, c, sd, ?_, r⟩
  · rw [List.getElem?_set_ne (by omega)]; exact g.same i hi hl
  · rw [List.getElem?_set_ne h2]; exact e
/-- a draw of a written list -/
theorem pick {ns : List Int} {m0 m : Mem} {st : Nat} {ρ : Pv.Env} {a : Ax} {K : List Int} {b : Int} (g : Grow (ns.map .int) st m0 m) (h0 : ρ[0]? = some (some (.ref st))) (ha : ∀ m, a ρ m = some (K.map .int, m)) (hb : b = K.length) (hk : 0 < K.length) (hk2 : K.length ≤ 1000) :
    ∃ x m', (eOp ixD (eCB lstD a) (eCall F_take (aCons (eVar 0) (aCons (eC (.int b)) aNil)))) ρ m = some (.int x, m') ∧ x ∈ K ∧ Grow (ns.map .int) st m0 m' ∧ m.length ≤ m'.length ∧ (∀ i : Nat, i ≠ st → i < m.length → m'[i]? = m[i]?) := by
  subst hb
  let m1 : Mem := m ++ [.lst (K.map .int)]
  have g1 : Grow (ns.map .int) st m m1 := Grow.app g.ok
  obtain ⟨v, m2, t1, t2, t3, t4, t5⟩ := take_g g1.ok (K.length : Int) (by omega) (by omega)
  have n1 : m.length ≠ st := Nat.ne_of_gt g.ok.lt
  have a1 : m2[m.length]? = some (.lst (K.map .int)) := t4.at get_last n1
  have hv : v.toNat < K.length := by omega
  have hx : atI (K.map D.int) v = some (.int K[v.toNat]) := by
    have := at_nat (xs := K.map D.int) (i := v.toNat) (x := .int K[v.toNat]) (by simp [hv])
    rw [Int.toNat_of_nonneg t2] at this
    exact this
  refine ⟨K[v.toNat], m2, ?_, List.getElem_mem hv, g.trans (g1.trans t4), (g1.trans t4).len, (g1.trans t4).same⟩
  have el : (eCB lstD a) ρ m = some (.ref m.length, m1) := by
    unfold eCB
    rw [ha]
    simp only [Option.bind_some, lstD, List.length_map]
    rw [if_pos (by omega)]
  have et : (eCall F_take (aCons (eVar 0) (aCons (eC (.int (K.length : Int))) aNil))) ρ m1 = some (.int v, m2) := by
    simp only [eCall, eCB, aCons, aNil, eVar, eC, h0, Option.bind_some]
    exact t1
  unfold eOp
  rw [el]
  simp only [Option.bind_some]
  rw [et]
  simp only [Option.bind_some, ixD, a1, hx, Option.map_some]
theorem draw {ns : List Int} {m0 m : Mem} {st : Nat} {ρ : Pv.Env} (g : Grow (ns.map .int) st m0 m) (h0 : ρ[0]? = some (some (.ref st))) {a : Ax} {b : Int} (ha : ∀ m, a ρ m = some ([.int b], m)) (hb : 0 < b) (hb2 : b < 1073741824) :
    ∃ v m', (eCall F_take (aCons (eVar 0) a)) ρ m = some (.int v, m') ∧ 0 ≤ v ∧ v < b ∧ Grow (ns.map .int) st m0 m' ∧ m'.length = m.length ∧ (∀ i : Nat, i ≠ st → i < m.length → m'[i]? = m[i]?) := by
  obtain ⟨v, m2, t1, t2, t3, t4, t5⟩ := take_g g.ok b hb hb2
  refine ⟨v, m2, ?_, t2, t3, g.trans t4, t5, t4.same⟩
  simp only [eCall, eCB, aCons, eVar, h0, Option.bind_some]
  rw [ha]
  exact t1
noncomputable abbrev body_house : Sx := (sSeq (sSet 3 (eCB (two minI) (aCons (eC (.int 99990)) (aCons (eOp addD (eVar 3) (eOp ixD (eCB lstD (aCons (eC (.int 1)) (aCons (eC (.int 0)) (aCons (eC (.int 1)) (aCons (eC (.int 30)) (aCons (eC (.int 299)) (aCons (eC (.int 300)) (aCons (eC (.int 301)) (aCons (eC (.int 6570)) (aCons (eC (.int 2)) (aCons (eC (.int 1)) aNil))))))))))) (eCall F_take (aCons (eVar 0) (aCons (eC (.int 10)) aNil))))) aNil)))) (sSeq (sSet 6 (eCall F_parent (aCons (eVar 0) (aCons (eVar 4) (aCons (eVar 3) (aCons (eC (.int 1)) aNil)))))) (sSeq (sSet 7 (eCall F_parent (aCons (eVar 0) (aCons (eVar 4) (aCons (eVar 3) (aCons (eC (.int 0)) aNil)))))) (sSeq (sSet 8 (eCall F_take (aCons (eVar 0) (aCons (eC (.int 2)) aNil)))) (sDrop (eMt isLst appD (eVar 4) (aCons (eCB tupD (aCons (eVar 3) (aCons (eVar 6) (aCons (eVar 7) (aCons (eVar 8) (aCons (eCB intD (aCons (eOp (cmpD gtI) (eCall F_take (aCons (eVar 0) (aCons (eC (.int 5)) aNil))) (eC (.int 0))) aNil)) aNil)))))) aNil)))))))
theorem house_turn {ns : List Int} {m0 m : Mem} {st fo : Nat} {fs : List D} {day most many : Int} {x5 x6 x7 x8 : Option D} (g : Grow (ns.map .int) st m0 m) (hfo : m[fo]? = some (.lst fs)) (h1 : m0.length ≤ fo) (h2 : fo ≠ st) (hf : ∀ d ∈ fs, isFolk d) (hl : fs.length < 60) (hd : 0 ≤ day) (hd2 : day ≤ 99990) :
    ∃ (day' : Int) (d : D) (m' : Mem) (y6 y7 y8 : Option D), body_house [some (.ref st), some (.int most), some (.int many), some (.int day), some (.ref fo), x5, x6, x7, x8] m =
        some (.nx, [some (.ref st), some (.int most), some (.int many), some (.int day'), some (.ref fo), x5, y6, y7, y8], m') ∧ 0 ≤ day' ∧ day' ≤ 99990 ∧ isFolk d ∧ m'[fo]? = some (.lst (fs ++ [d])) ∧ Grow (ns.map .int) st m0 m' := by
  -- the day
  obtain ⟨x, m1, p1, p2, g1, l1, s1⟩ := pick (ρ := [some (.ref st), some (.int most), some (.int many), some (.int day), some (.ref fo), x5, x6, x7, x8]) (K := [1, 0, 1, 30, 299, 300, 301, 6570, 2, 1]) (b := 10)
    (a := (aCons (eC (.int 1)) (aCons (eC (.int 0)) (aCons (eC (.int 1)) (aCons (eC (.int 30)) (aCons (eC (.int 299)) (aCons (eC (.int 300)) (aCons (eC (.int 301)) (aCons (eC (.int 6570)) (aCons (eC (.int 2)) (aCons (eC (.int 1)) aNil))))))))))) g rfl (fun m => rfl) rfl (by decide) (by decide)
  have hx : 0 ≤ x ∧ x ≤ 6570 := by
    simp only [List.mem_cons, List.not_mem_nil, or_false] at p2
    omega
  let day' : Int := minI 99990 (day + x)
  have hday : 0 ≤ day' ∧ day' ≤ 99990 := by
    show 0 ≤ minI 99990 (day + x) ∧ minI 99990 (day + x) ≤ 99990
    unfold minI
    split <;> omega
  have lfo : fo < m.length := (List.getElem?_eq_some_iff.mp hfo).1
  have f1 : m1[fo]? = some (.lst fs) := by rw [s1 fo h2 lfo]; exact hfo
  let ρ1 : Pv.Env := [some (.ref st), some (.int most), some (.int many), some (.int day'), some (.ref fo), x5, x6, x7, x8]
  have b1 : (sSet 3 (eCB (two minI) (aCons (eC (.int 99990)) (aCons (eOp addD (eVar 3) (eOp ixD (eCB lstD (aCons (eC (.int 1)) (aCons (eC (.int 0)) (aCons (eC (.int 1)) (aCons (eC (.int 30)) (aCons (eC (.int 299)) (aCons (eC (.int 300)) (aCons (eC (.int 301)) (aCons (eC (.int 6570)) (aCons (eC (.int 2)) (aCons (eC (.int 1)) aNil))))))))))) (eCall F_take (aCons (eVar 0) (aCons (eC (.int 10)) aNil))))) aNil)))) [some (.ref st), some (.int most), some (.int many), some (.int day), some (.ref fo), x5, x6, x7, x8] m = some (.nx, ρ1, m1) := by
    have z : (eOp addD (eVar 3) (eOp ixD (eCB lstD (aCons (eC (.int 1)) (aCons (eC (.int 0)) (aCons (eC (.int 1)) (aCons (eC (.int 30)) (aCons (eC (.int 299)) (aCons (eC (.int 300)) (aCons (eC (.int 301)) (aCons (eC (.int 6570)) (aCons (eC (.int 2)) (aCons (eC (.int 1)) aNil))))))))))) (eCall F_take (aCons (eVar 0) (aCons (eC (.int 10)) aNil))))) [some (.ref st), some (.int most), some (.int many), some (.int day), some (.ref fo), x5, x6, x7, x8] m = some (.int (day + x), m1) := by
      exact op_ok (x := .int day) (m1 := m) rfl p1 rfl
    exact set_ok (cb_ok (cons_ok (m1 := m) rfl (cons_ok z rfl)) rfl)
  -- the parents
  obtain ⟨va, m2, q1, q2, q3, q4⟩ := parent_spec g1.ok f1 h2 hf (by omega) day' 1
  have l2 : fo < m1.length := (List.getElem?_eq_some_iff.mp f1).1
  have f2 : m2[fo]? = some (.lst fs) := q4.at f1 h2
  obtain ⟨vb, m3, r1, r2, r3, r4⟩ := parent_spec q4.ok f2 h2 hf (by omega) day' 0
  have f3 : m3[fo]? = some (.lst fs) := r4.at f2 h2
  have g3 : Grow (ns.map .int) st m0 m3 := g1.trans (q4.trans r4)
  let ρ3 : Pv.Env := [some (.ref st), some (.int most), some (.int many), some (.int day'), some (.ref fo), x5, some (.int va), some (.int vb), x8]
  have b2 : (sSet 6 (eCall F_parent (aCons (eVar 0) (aCons (eVar 4) (aCons (eVar 3) (aCons (eC (.int 1)) aNil)))))) ρ1 m1 = some (.nx, [some (.ref st), some (.int most), some (.int many), some (.int day'), some (.ref fo), x5, some (.int va), x7, x8], m2) := by
    simp only [sSet, eCall, eCB, aCons, aNil, eVar, eC, ρ1, List.getElem?_cons_zero, List.getElem?_cons_succ, Option.bind_some]
    rw [q1]; rfl
  have b3 : (sSet 7 (eCall F_parent (aCons (eVar 0) (aCons (eVar 4) (aCons (eVar 3) (aCons (eC (.int 0)) aNil)))))) [some (.ref st), some (.int most), some (.int many), some (.int day'), some (.ref fo), x5, some (.int va), x7, x8] m2 = some (.nx, ρ3, m3) := by
    simp only [sSet, eCall, eCB, aCons, aNil, eVar, eC, List.getElem?_cons_zero, List.getElem?_cons_succ, Option.bind_some]
    rw [r1]; rfl
  -- man, wed
  obtain ⟨vm, m4, u1, u2, u3, g4, l4, s4⟩ := draw (ρ := ρ3) g3 rfl (a := aCons (eC (.int 2)) aNil) (b := 2) (fun m => rfl) (by omega) (by omega)
  have f4 : m4[fo]? = some (.lst fs) := by rw [s4 fo h2 (List.getElem?_eq_some_iff.mp f3).1]; exact f3
  let ρ4 : Pv.Env := [some (.ref st), some (.int most), some (.int many), some (.int day'), some (.ref fo), x5, some (.int va), some (.int vb), some (.int vm)]
  have b4 : (sSet 8 (eCall F_take (aCons (eVar 0) (aCons (eC (.int 2)) aNil)))) ρ3 m3 = some (.nx, ρ4, m4) := by
    unfold sSet
    rw [u1]; rfl
  obtain ⟨vw, m5, w1, w2, w3, g5, l5, s5⟩ := draw (ρ := ρ4) g4 rfl (a := aCons (eC (.int 5)) aNil) (b := 5) (fun m => rfl) (by omega) (by omega)
  have f5 : m5[fo]? = some (.lst fs) := by rw [s5 fo h2 (List.getElem?_eq_some_iff.mp f4).1]; exact f4
  let wed : Int := if gtI vw 0 = true then 1 else 0
  let d : D := .tup [.int day', .int va, .int vb, .int vm, .int wed]
  let m6 : Mem := m5.set fo (.lst (fs ++ [d]))
  have hw : 0 ≤ wed ∧ wed ≤ 1 := by
    show 0 ≤ (if gtI vw 0 = true then (1 : Int) else 0) ∧ (if gtI vw 0 = true then (1 : Int) else 0) ≤ 1
    split <;> omega
  have b5 : (sDrop (eMt isLst appD (eVar 4) (aCons (eCB tupD (aCons (eVar 3) (aCons (eVar 6) (aCons (eVar 7) (aCons (eVar 8) (aCons (eCB intD (aCons (eOp (cmpD gtI) (eCall F_take (aCons (eVar 0) (aCons (eC (.int 5)) aNil))) (eC (.int 0))) aNil)) aNil)))))) aNil))) ρ4 m4 = some (.nx, ρ4, m6) := by
    have z : (eOp (cmpD gtI) (eCall F_take (aCons (eVar 0) (aCons (eC (.int 5)) aNil))) (eC (.int 0))) ρ4 m4 = some (.bl (gtI vw 0), m5) := by
      unfold eOp
      rw [w1]; rfl
    have z2 : (aCons (eCB tupD (aCons (eVar 3) (aCons (eVar 6) (aCons (eVar 7) (aCons (eVar 8) (aCons (eCB intD (aCons (eOp (cmpD gtI) (eCall F_take (aCons (eVar 0) (aCons (eC (.int 5)) aNil))) (eC (.int 0))) aNil)) aNil)))))) aNil) ρ4 m4 = some ([d], m5) := by
      simp only [aCons, eCB, eVar, ρ4, List.getElem?_cons_zero, List.getElem?_cons_succ, Option.bind_some]
      rw [z]; rfl
    have isl : isLst (.ref fo) m4 = true := by simp [isLst, f4]
    unfold sDrop eMt
    have v4 : eVar 4 ρ4 m4 = some (.ref fo, m4) := rfl
    rw [v4]
    simp only [Option.bind_some, isl, if_true]
    rw [z2]
    simp only [Option.bind_some, appD, f5]
    rw [if_pos (by omega)]; rfl
  refine ⟨day', d, m6, some (.int va), some (.int vb), some (.int vm), ?_, hday.1, hday.2, ⟨day', va, vb, vm, wed, rfl, ⟨by omega, by omega⟩, ⟨by omega, by omega⟩, ⟨by omega, by omega⟩, ⟨by omega, by omega⟩, ⟨by omega, by omega⟩, hday.1⟩, set_get f5, g5.push h1 h2⟩
  unfold body_house
  rw [seq_nx b1, seq_nx b2, seq_nx b3, seq_nx b4]
  exact b5
end K02
end
section
set_option Elab.async false
set_option linter.all false
set_option maxRecDepth 100000
set_option maxHeartbeats 4000000
namespace K02
open PySem L2 Pv
theorem house_spec {ns : List Int} {m : Mem} {st : Nat} (hst : StAt (ns.map .int) m st) {most : Int} (h1 : 1 ≤ most) (h2 : most ≤ 60) :
    ∃ fs m', F_house [.ref st, .int most] m = some (.tup fs, m') ∧ 1 ≤ fs.length ∧ fs.length ≤ 60 ∧ (∀ d ∈ fs, isFolk d) ∧ Grow (ns.map .int) st m m' := by
  let ρ0 : Pv.Env := [some (.ref st), some (.int most), none, none, none, none, none, none, none]
  obtain ⟨v, m1, u1, u2, u3, g1, l1, s1⟩ := draw (ρ := ρ0) (Grow.refl hst) rfl (a := aCons (eVar 1) aNil) (b := most) (fun m => rfl) (by omega) (by omega)
  obtain ⟨n, hn⟩ : ∃ n : Nat, 1 + v = (n : Int) := ⟨(1 + v).toNat, by omega⟩
  let ρ1 : Pv.Env := [some (.ref st), some (.int most), some (.int (n : Nat)), none, none, none, none, none, none]
  have b1 : (sSet 2 (eOp addD (eC (.int 1)) (eCall F_take (aCons (eVar 0) (aCons (eVar 1) aNil))))) ρ0 m = some (.nx, ρ1, m1) := by
    rw [set_ok (op_ok (x := .int 1) (m1 := m) rfl u1 rfl), hn]; rfl
  obtain ⟨x, m2, p1, p2, g2, l2, s2⟩ := pick (ρ := ρ1) (K := [0, 7, 30000]) (b := 3) (a := (aCons (eC (.int 0)) (aCons (eC (.int 7)) (aCons (eC (.int 30000)) aNil)))) g1 rfl (fun m => rfl) rfl (by decide) (by decide)
  have hx : 0 ≤ x ∧ x ≤ 30000 := by
    simp only [List.mem_cons, List.not_mem_nil, or_false] at p2
    omega
  let ρ2 : Pv.Env := [some (.ref st), some (.int most), some (.int (n : Nat)), some (.int x), none, none, none, none, none]
  have b2 : (sSet 3 (eOp ixD (eCB lstD (aCons (eC (.int 0)) (aCons (eC (.int 7)) (aCons (eC (.int 30000)) aNil)))) (eCall F_take (aCons (eVar 0) (aCons (eC (.int 3)) aNil))))) ρ1 m1 = some (.nx, ρ2, m2) := set_ok p1
  let m3 : Mem := m2 ++ [.lst []]
  have g3 : Grow (ns.map .int) st m m3 := g2.trans (Grow.app g2.ok)
  let fo : Nat := m2.length
  let ρ3 : Pv.Env := [some (.ref st), some (.int most), some (.int (n : Nat)), some (.int x), some (.ref fo), none, none, none, none]
  have b3 : (sSet 4 (eCB lstD aNil)) ρ2 m2 = some (.nx, ρ3, m3) := set_ok (cb_ok rfl rfl)
  have hfo1 : m.length ≤ fo := g2.len
  have hfo2 : fo ≠ st := Nat.ne_of_gt g2.ok.lt
  have src : iRngA (aCons (eVar 2) aNil) ρ3 m3 = some (.seq (rngD 0 n), m3) := rngA_ok rfl (by omega)
  have loop := forL_seq (xs := rngD 0 n) (t := gN 5) (b := body_house) (fun i ρ m' => ∃ day fs x5 x6 x7 x8, ρ = [some (.ref st), some (.int most), some (.int (n : Nat)), some (.int day), some (.ref fo), x5, x6, x7, x8] ∧ 0 ≤ day ∧ day ≤ 99990 ∧ fs.length = i ∧ (∀ d ∈ fs, isFolk d) ∧ m'[fo]? = some (.lst fs) ∧ Grow (ns.map .int) st m m')
    (fun i d ρ m' hd inv => by
      obtain ⟨day, fs, x5, x6, x7, x8, rfl, d1, d2, e, hf, hat, g⟩ := inv
      have hi : i < n := by
        have := (List.getElem?_eq_some_iff.mp hd).1
        simpa [rngD] using this
      obtain ⟨day', dd, m'', y6, y7, y8, t1, t2, t3, t4, t5, t6⟩ := house_turn (most := most) (many := (n : Nat)) (x5 := some d) (x6 := x6) (x7 := x7) (x8 := x8) g hat hfo1 hfo2 hf (by omega) d1 d2
      refine ⟨_, _, m'', rfl, t1, day', fs ++ [dd], some d, y6, y7, y8, rfl, t2, t3, by simp [e], fun z hz => ?_, t5, t6⟩
      rcases List.mem_append.mp hz with z1 | z1
      · exact hf z z1
      · rw [List.mem_singleton.mp z1]; exact t4)
    (rngD 0 n) 0 ρ3 m3 rfl (Nat.zero_le _) ⟨x, [], none, none, none, none, rfl, hx.1, by omega, rfl, fun d hd => absurd hd List.not_mem_nil, get_last, g3⟩
  obtain ⟨ρ', m', f1, day, fs, x5, x6, x7, x8, rfl, d1, d2, e, hf, hat, g⟩ := loop
  have e' : fs.length = n := by rw [e]; simp [rngD]
  refine ⟨fs, m', run_ret rfl (ρ' := [some (.ref st), some (.int most), some (.int (n : Nat)), some (.int day), some (.ref fo), x5, x6, x7, x8]) ?_, by omega, by omega, hf, g⟩
  show B_house ρ0 m = _
  unfold B_house
  rw [seq_nx b1, seq_nx b2, seq_nx b3, seq_nx (ρ' := [some (.ref st), some (.int most), some (.int (n : Nat)), some (.int day), some (.ref fo), x5, x6, x7, x8]) (m' := m')]
  · have z : (eCB tupleD (aCons (eVar 4) aNil)) [some (.ref st), some (.int most), some (.int (n : Nat)), some (.int day), some (.ref fo), x5, x6, x7, x8] m' = some (.tup fs, m') := cb_ok (m1 := m') (ds := [.ref fo]) rfl (by simp [tupleD, hat])
    unfold sRet
    rw [z]; rfl
  · unfold sFor
    rw [src]
    exact f1
noncomputable abbrev body_days : Sx := (sSeq (sSet 4 (eOp ixD (eOp ixD (eVar 1) (eCall F_take (aCons (eVar 0) (aCons (eCB lenD (aCons (eVar 1) aNil)) aNil)))) (eC (.int 0)))) (sSet 2 (eOp addD (eVar 2) (eCB lstD (aCons (eVar 4) (aCons (eOp addD (eVar 4) (eC (.int 1))) (aCons (eCB (two maxI) (aCons (eC (.int 0)) (aCons (eOp subD (eVar 4) (eC (.int 1))) aNil))) aNil)))))))
theorem days_spec {ns : List Int} {m : Mem} {st : Nat} {fs : List D} (hst : StAt (ns.map .int) m st) (h1 : 1 ≤ fs.length) (h2 : fs.length ≤ 60) (hf : ∀ d ∈ fs, isFolk d) :
    ∃ (n : Nat) (is : List Int) (m' : Mem), F_days [.ref st, .tup fs] m = some (.ref n, m') ∧ m'[n]? = some (.lst (is.map .int)) ∧ is.length ≤ 100 ∧ m.length ≤ n ∧ Grow (ns.map .int) st m m' := by
  let ρ0 : Pv.Env := [some (.ref st), some (.tup fs), none, none, none]
  let m1 : Mem := m ++ [.lst [.int 0, .int 99999]]
  have g1 : Grow (ns.map .int) st m m1 := Grow.app hst
  let ρ1 : Pv.Env := [some (.ref st), some (.tup fs), some (.ref m.length), none, none]
  have b1 : (sSet 2 (eCB lstD (aCons (eC (.int 0)) (aCons (eC (.int 99999)) aNil)))) ρ0 m = some (.nx, ρ1, m1) := set_ok (cb_ok rfl rfl)
  have src : iRngA (aCons (eC (.int 4)) aNil) ρ1 m1 = some (.seq (rngD 0 4), m1) := rngA_ok (n := 4) rfl (by omega)
  have loop := forL_seq (xs := rngD 0 4) (t := gN 3) (b := body_days) (fun i ρ m' => ∃ (n : Nat) (is : List Int) (x3 x4 : Option D), ρ = [some (.ref st), some (.tup fs), some (.ref n), x3, x4] ∧ m'[n]? = some (.lst (is.map .int)) ∧ is.length = 2 + 3 * i ∧ m.length ≤ n ∧ Grow (ns.map .int) st m m')
    (fun i d ρ m' hd inv => by
      obtain ⟨n, is, x3, x4, rfl, hat, hl, hn, g⟩ := inv
      have hi : i < 4 := by
        have := (List.getElem?_eq_some_iff.mp hd).1
        simpa [rngD] using this
      let ρ2 : Pv.Env := [some (.ref st), some (.tup fs), some (.ref n), some d, x4]
      obtain ⟨v, m2, u1, u2, u3, g2, l2, s2⟩ := draw (ρ := ρ2) g rfl (a := aCons (eCB lenD (aCons (eVar 1) aNil)) aNil) (b := (fs.length : Nat)) (fun m => rfl) (by omega) (by omega)
      have hv : v.toNat < fs.length := by omega
      obtain ⟨a, b, c, e, f, ed, _⟩ := hf fs[v.toNat] (List.getElem_mem hv)
      have at1' : atI fs v = some (.tup [.int a, .int b, .int c, .int e, .int f]) := by
        have := at_nat (xs := fs) (i := v.toNat) (x := .tup [.int a, .int b, .int c, .int e, .int f]) (by rw [List.getElem?_eq_getElem hv, ed])
        rw [Int.toNat_of_nonneg u2] at this
        exact this
      let ρ3 : Pv.Env := [some (.ref st), some (.tup fs), some (.ref n), some d, some (.int a)]
      have c1 : (sSet 4 (eOp ixD (eOp ixD (eVar 1) (eCall F_take (aCons (eVar 0) (aCons (eCB lenD (aCons (eVar 1) aNil)) aNil)))) (eC (.int 0)))) ρ2 m' = some (.nx, ρ3, m2) :=
        set_ok (op_ok (op_ok (x := .tup fs) (m1 := m') rfl u1 (r := (.tup [.int a, .int b, .int c, .int e, .int f], m2)) (by simp [ixD, at1'])) rfl (by simp [ixD, at0]))
      have hnst : n ≠ st := by have := hst.lt; omega
      have hat2 : m2[n]? = some (.lst (is.map .int)) := by rw [s2 n hnst (List.getElem?_eq_some_iff.mp hat).1]; exact hat
      let K : List Int := [a, a + 1, maxI 0 (a - 1)]
      let m3 : Mem := m2 ++ [.lst (K.map .int)]
      let m4 : Mem := m3 ++ [.lst (is.map .int ++ K.map .int)]
      have hat3 : m3[n]? = some (.lst (is.map .int)) := get_app hat2
      have c2 : (sSet 2 (eOp addD (eVar 2) (eCB lstD (aCons (eVar 4) (aCons (eOp addD (eVar 4) (eC (.int 1))) (aCons (eCB (two maxI) (aCons (eC (.int 0)) (aCons (eOp subD (eVar 4) (eC (.int 1))) aNil))) aNil)))))) ρ3 m2 = some (.nx, [some (.ref st), some (.tup fs), some (.ref m3.length), some d, some (.int a)], m4) := by
        have z : (eCB lstD (aCons (eVar 4) (aCons (eOp addD (eVar 4) (eC (.int 1))) (aCons (eCB (two maxI) (aCons (eC (.int 0)) (aCons (eOp subD (eVar 4) (eC (.int 1))) aNil))) aNil)))) ρ3 m2 = some (.ref m2.length, m3) := rfl
        have za : addD (.ref n) (.ref m2.length) m3 = some (.ref m3.length, m4) := by
          have hk : m3[m2.length]? = some (.lst (K.map .int)) := get_last
          simp only [addD, hat3, hk]
          rw [if_pos (by simp [hl, K]; omega)]
        exact set_ok (op_ok (x := .ref n) (m1 := m2) rfl z za)
      refine ⟨ρ2, [some (.ref st), some (.tup fs), some (.ref m3.length), some d, some (.int a)], m4, rfl, ?_, m3.length, is ++ K, some d, some (.int a), rfl, ?_, by simp [hl, K]; omega, ?_, g2.trans ((Grow.app g2.ok).trans (Grow.app (Grow.app g2.ok).ok))⟩
      · unfold body_days
        rw [seq_nx c1]; exact c2
      · rw [List.map_append]; exact get_last
      · have q1 := g2.len
        have q2 : m3.length = m2.length + 1 := by simp [m3]
        omega)
    (rngD 0 4) 0 ρ1 m1 rfl (Nat.zero_le _) ⟨m.length, [0, 99999], none, none, rfl, get_last, rfl, Nat.le_refl _, g1⟩
  obtain ⟨ρ', m', f1, n, is, x3, x4, rfl, hat, hl, hn, g⟩ := loop
  refine ⟨n, is, m', run_ret rfl (ρ' := [some (.ref st), some (.tup fs), some (.ref n), x3, x4]) ?_, hat, by rw [hl]; simp [rngD], hn, g⟩
  show B_days ρ0 m = _
  unfold B_days
  rw [seq_nx b1, seq_nx (ρ' := [some (.ref st), some (.tup fs), some (.ref n), x3, x4]) (m' := m')]
  · rfl
  · unfold sFor
    rw [src]
    exact f1
end K02
end
section
set_option Elab.async false
set_option linter.all false
set_option maxRecDepth 100000
set_option maxHeartbeats 4000000
namespace K02
open PySem L2 Pv
def bornSel (day : Int) : D → Bool
  | .tup (.int a :: _) => decide (a ≤ day)
  | _ => false
def bornN (fs : List D) (day : Int) : Nat := (fs.filter (bornSel day)).length
theorem folk_sel {d : D} (h : isFolk d) (day : Int) : ∃ a b c e f, d = .tup [.int a, .int b, .int c, .int e, .int f] ∧ bornSel day d = decide (a ≤ day) := by
  obtain ⟨a, b, c, e, f, rfl, _⟩ := h
  exact ⟨a, b, c, e, f, rfl, rfl⟩
theorem born_by_spec {m : Mem} {fs : List D} (hf : ∀ d ∈ fs, isFolk d) (hl : fs.length ≤ 60) (day : Int) : ∃ l, F_born_by [.tup fs, .int day] m = some (.int (bornN fs day : Nat), m ++ l) := by
  let ρ0 : Pv.Env := [some (.tup fs), some (.int day), none]
  have lc : (eLc (iSeq (eVar 0)) (gN 2) (tVal (eOp (cmpD leI) (eOp ixD (eVar 2) (eC (.int 0))) (eVar 1))) (eVar 2) [2]) ρ0 m = some (.ref m.length, m ++ [.lst ((fs.filter (bornSel day)).map id)]) := by
    refine lc_ok (it := .seq fs) (xs := fs) (bornSel day) id rfl rfl (fun d hd => ?_) (by omega)
    obtain ⟨a, b, c, e, f, rfl, hs⟩ := folk_sel (hf d hd) day
    refine ⟨_, rfl, ?_, fun _ => rfl⟩
    rw [hs]
    simp only [ρ0, wipeD, List.set, tVal, eOp, eVar, eC, List.getElem?_cons_zero, List.getElem?_cons_succ, Option.bind_some, ixD, at0, Option.map_some, cmpD, leI]
  refine ⟨[.lst ((fs.filter (bornSel day)).map id)], run_ret rfl (ρ' := ρ0) ?_⟩
  show B_born_by ρ0 m = _
  unfold B_born_by
  have z : (eCB lenD (aCons (eLc (iSeq (eVar 0)) (gN 2) (tVal (eOp (cmpD leI) (eOp ixD (eVar 2) (eC (.int 0))) (eVar 1))) (eVar 2) [2]) aNil)) ρ0 m = some (.int (bornN fs day : Nat), m ++ [.lst ((fs.filter (bornSel day)).map id)]) := by
    refine cb_ok (cons_ok lc rfl) ?_
    simp [lenD, get_last, bornN]
  unfold sRet
  rw [z]; rfl
theorem sum_sel (p : D → Bool) : ∀ fs : List D, (fs.map fun d => if p d = true then (1 : Int) else 0).sum = ((fs.filter p).length : Nat)
  | [] => rfl
  | d :: fs => by
    rw [List.map_cons, List.sum_cons, sum_sel p fs, List.filter_cons]
    cases p d with
    | true => simp; omega
    | false => simp
theorem born_spec {m : Mem} {fs : List D} (hf : ∀ d ∈ fs, isFolk d) (hl : fs.length ≤ 60) (day : Int) : ∃ l, F_born [.tup fs, .int day] m = some (.int (bornN fs day : Nat), m ++ l) := by
  let ρ0 : Pv.Env := [some (.tup fs), some (.int day), none]
  let val : D → D := fun d => .int (if bornSel day d = true then 1 else 0)
  have lc : (eLc (iSeq (eVar 0)) (gN 2) tYes' (eCB intD (aCons (eOp (cmpD leI) (eOp ixD (eVar 2) (eC (.int 0))) (eVar 1)) aNil)) [2]) ρ0 m = some (.ref m.length, m ++ [.lst ((fs.filter fun _ => true).map val)]) := by
    refine lc_ok (it := .seq fs) (xs := fs) (fun _ => true) val rfl rfl (fun d hd => ?_) (by omega)
    obtain ⟨a, b, c, e, f, rfl, hs⟩ := folk_sel (hf d hd) day
    refine ⟨_, rfl, rfl, fun _ => ?_⟩
    show _ = some (D.int (if bornSel day _ = true then 1 else 0), m)
    rw [hs]
    simp only [ρ0, wipeD, List.set, eCB, aCons, aNil, eOp, eVar, eC, List.getElem?_cons_zero, List.getElem?_cons_succ, Option.bind_some, ixD, at0, Option.map_some, cmpD, leI, intD]
  have e1 : (fs.filter fun _ => true).map val = (fs.map fun d => if bornSel day d = true then (1 : Int) else 0).map .int := by
    rw [List.filter_eq_self.mpr (fun _ _ => rfl), List.map_map]; rfl
  rw [e1] at lc
  refine ⟨[.lst ((fs.map fun d => if bornSel day d = true then (1 : Int) else 0).map .int)], run_ret rfl (ρ' := ρ0) ?_⟩
  show B_born ρ0 m = _
  unfold B_born
  have z : (eCB sumD (aCons (eLc (iSeq (eVar 0)) (gN 2) tYes' (eCB intD (aCons (eOp (cmpD leI) (eOp ixD (eVar 2) (eC (.int 0))) (eVar 1)) aNil)) [2]) aNil)) ρ0 m = some (.int (bornN fs day : Nat), m ++ [.lst ((fs.map fun d => if bornSel day d = true then (1 : Int) else 0).map .int)]) := by
    refine cb_ok (cons_ok lc rfl) ?_
    have hg : (m ++ [MO.lst ((fs.map fun d => if bornSel day d = true then (1 : Int) else 0).map .int)])[m.length]? = some (.lst ((fs.map fun d => if bornSel day d = true then (1 : Int) else 0).map .int)) := get_last
    simp only [sumD, hg]
    rw [intsD_map, Option.map_some, sum_sel]; rfl
  unfold sRet
  rw [z]; rfl
/-! ### children -/
theorem par_folk : ∀ {fs : List D}, (∀ d ∈ fs, isFolk d) → ∃ ps, parD fs = some ps ∧ ps.length = fs.length ∧ ∀ (i : Nat) (a b c e f : Int), fs[i]? = some (.tup [.int a, .int b, .int c, .int e, .int f]) → ps[i]? = some (b, c)
  | [], _ => ⟨[], rfl, rfl, fun i a b c e f h => by simp at h⟩
  | d :: fs, h => by
    obtain ⟨ps, e1, e2, e3⟩ := par_folk (fs := fs) fun x hx => h x (List.mem_cons_of_mem _ hx)
    obtain ⟨a, b, c, e, f, rfl, _⟩ := h d List.mem_cons_self
    refine ⟨(b, c) :: ps, by simp only [parD, e1, Option.map_some], by simp [e2], fun i a' b' c' e' f' hi => ?_⟩
    cases i with
    | zero =>
      simp at hi
      obtain ⟨_, rfl, rfl, _⟩ := hi
      rfl
    | succ i => simpa using e3 i a' b' c' e' f' (by simpa using hi)
theorem children_of_spec {m : Mem} {fs : List D} {ps : List (Int × Int)} (hp : parD fs = some ps) (hl : fs.length ≤ 60) (w : Int) : F_children_of [.tup fs, .int w] m = some (.tup (kidsD ps w), m) := by
  refine run_ret rfl (ρ' := [some (.tup fs), some (.int w), none]) ?_
  show B_children_of [some (.tup fs), some (.int w), none] m = _
  unfold B_children_of sRet
  have z : eKids 0 1 [some (.tup fs), some (.int w), none] m = some (.tup (kidsD ps w), m) := by
    show (parD fs).bind (fun ps => if fs.length ≤ 1000000 then some (D.tup (kidsD ps w), m) else none) = _
    rw [hp]
    simp only [Option.bind_some]
    rw [if_pos (by omega)]
  rw [z]; rfl
noncomputable abbrev body_children : Sx := (sIf (tOr' (tVal (eOp (eqD false) (eOp ixD (eOp ixD (eVar 0) (eVar 3)) (eC (.int 1))) (eVar 1))) (tVal (eOp (eqD false) (eOp ixD (eOp ixD (eVar 0) (eVar 3)) (eC (.int 2))) (eVar 1)))) (sDrop (eMt isLst appD (eVar 2) (aCons (eVar 3) aNil))) sNil)
theorem filt_succ {p : Nat → Bool} (i : Nat) : (List.range (i + 1)).filter p = (List.range i).filter p ++ (if p i = true then [i] else []) := by
  rw [List.range_succ, List.filter_append]
  cases h : p i <;> simp [h]
theorem children_spec {m : Mem} {fs : List D} {ps : List (Int × Int)} (hf : ∀ d ∈ fs, isFolk d) (hl : fs.length ≤ 60) (hps : ps.length = fs.length) (hpi : ∀ (i : Nat) (a b c e f : Int), fs[i]? = some (.tup [.int a, .int b, .int c, .int e, .int f]) → ps[i]? = some (b, c)) (w : Int) :
    ∃ l, F_children [.tup fs, .int w] m = some (.tup (kidsD ps w), m ++ l) := by
  let ρ0 : Pv.Env := [some (.tup fs), some (.int w), none, none]
  let ρ1 : Pv.Env := [some (.tup fs), some (.int w), some (.ref m.length), none]
  have b1 : (sSet 2 (eCB lstD aNil)) ρ0 m = some (.nx, ρ1, m ++ [.lst []]) := set_ok (cb_ok rfl rfl)
  have src : iRngA (aCons (eCB lenD (aCons (eVar 0) aNil)) aNil) ρ1 (m ++ [.lst []]) = some (.seq (rngD 0 fs.length), m ++ [.lst []]) := rngA_ok rfl (by omega)
  have loop := forL_seq (xs := rngD 0 fs.length) (t := gN 3) (b := body_children) (fun i ρ m' => (∃ x3, ρ = [some (.tup fs), some (.int w), some (.ref m.length), x3]) ∧ m' = m ++ [.lst (((List.range i).filter (isKid ps w)).map fun i : Nat => D.int i)])
    (fun i d ρ m' hd inv => by
      obtain ⟨⟨x3, rfl⟩, rfl⟩ := inv
      have hi : i < fs.length := by
        have := (List.getElem?_eq_some_iff.mp hd).1
        simpa [rngD] using this
      have ed : d = .int (i : Nat) := by
        have : (rngD 0 fs.length)[i]? = some (.int (0 + (i : Int))) := by simp [rngD, hi]
        rw [this] at hd
        cases hd
        rw [Int.zero_add]
      subst ed
      obtain ⟨a, b, c, e, f, ek, _⟩ := hf fs[i] (List.getElem_mem hi)
      have ei : fs[i]? = some (.tup [.int a, .int b, .int c, .int e, .int f]) := by rw [List.getElem?_eq_getElem hi, ek]
      have at' : atI fs (i : Int) = some (.tup [.int a, .int b, .int c, .int e, .int f]) := at_nat ei
      have kid : isKid ps w i = (b == w || c == w) := by unfold isKid; rw [hpi i a b c e f ei]
      let cur : List D := ((List.range i).filter (isKid ps w)).map fun i : Nat => D.int i
      let ρ2 : Pv.Env := [some (.tup fs), some (.int w), some (.ref m.length), some (.int (i : Nat))]
      have test : (tOr' (tVal (eOp (eqD false) (eOp ixD (eOp ixD (eVar 0) (eVar 3)) (eC (.int 1))) (eVar 1))) (tVal (eOp (eqD false) (eOp ixD (eOp ixD (eVar 0) (eVar 3)) (eC (.int 2))) (eVar 1)))) ρ2 (m ++ [.lst cur]) = some (isKid ps w i, m ++ [.lst cur]) := by
        rw [kid]
        simp only [ρ2, tOr', tVal, eOp, eVar, eC, List.getElem?_cons_zero, List.getElem?_cons_succ, Option.bind_some, ixD, at', Option.map_some, at1, at2, eqB_int, Bool.bne_false]
        have bq : ∀ x y : Int, (x == y) = decide (x = y) := fun x y => by by_cases h : x = y <;> simp [h]
        rw [bq, bq]
        by_cases h1 : b = w <;> simp [h1]
      have hcl : cur.length ≤ 60 := by
        simp only [cur, List.length_map]
        exact Nat.le_trans (List.length_filter_le _ _) (by rw [List.length_range]; omega)
      refine ⟨ρ2, ρ2, m ++ [.lst (((List.range (i + 1)).filter (isKid ps w)).map fun i : Nat => D.int i)], rfl, ?_, ⟨_, rfl⟩, rfl⟩
      cases hk : isKid ps w i with
      | true =>
        unfold body_children
        rw [if_t (by rw [test, hk])]
        have hat : (m ++ [MO.lst cur])[m.length]? = some (.lst cur) := get_last
        have isl : isLst (.ref m.length) (m ++ [MO.lst cur]) = true := by simp [isLst]
        have z : (eMt isLst appD (eVar 2) (aCons (eVar 3) aNil)) ρ2 (m ++ [.lst cur]) = some (.non, m ++ [.lst (cur ++ [.int (i : Nat)])]) := by
          unfold eMt
          have v2 : eVar 2 ρ2 (m ++ [.lst cur]) = some (.ref m.length, m ++ [.lst cur]) := rfl
          rw [v2]
          simp only [Option.bind_some, isl, if_true]
          have v3 : (aCons (eVar 3) aNil) ρ2 (m ++ [.lst cur]) = some ([.int (i : Nat)], m ++ [.lst cur]) := rfl
          rw [v3]
          simp only [Option.bind_some, appD, hat]
          rw [if_pos (by omega)]
          congr 2
          simp
        unfold sDrop
        rw [z]
        rw [filt_succ, if_pos hk, List.map_append]; rfl
      | false =>
        unfold body_children
        rw [if_f (by rw [test, hk])]
        rw [filt_succ, hk]
        simp [sNil]; rfl)
    (rngD 0 fs.length) 0 ρ1 (m ++ [.lst []]) rfl (Nat.zero_le _) ⟨⟨none, rfl⟩, rfl⟩
  obtain ⟨ρ', m', f1, ⟨x3, rfl⟩, rfl⟩ := loop
  have el : (rngD 0 fs.length).length = ps.length := by simp [rngD, hps]
  rw [el] at f1
  refine ⟨[.lst (kidsD ps w)], run_ret rfl (ρ' := [some (.tup fs), some (.int w), some (.ref m.length), x3]) ?_⟩
  show B_children ρ0 m = _
  unfold B_children
  rw [seq_nx b1, seq_nx (ρ' := [some (.tup fs), some (.int w), some (.ref m.length), x3]) (m' := m ++ [.lst (kidsD ps w)])]
  · have hat : (m ++ [MO.lst (kidsD ps w)])[m.length]? = some (.lst (kidsD ps w)) := get_last
    have z : (eCB tupleD (aCons (eVar 2) aNil)) [some (.tup fs), some (.int w), some (.ref m.length), x3] (m ++ [.lst (kidsD ps w)]) = some (.tup (kidsD ps w), m ++ [.lst (kidsD ps w)]) := cb_ok (ds := [.ref m.length]) rfl (by simp only [tupleD, hat])
    unfold sRet
    rw [z]; rfl
  · unfold sFor
    rw [src]
    exact f1
end K02
end
section
set_option Elab.async false
set_option linter.all false
set_option maxRecDepth 100000
set_option maxHeartbeats 4000000
namespace K02
open PySem L2 Pv
def Good (f : List D) : Prop := 1 ≤ f.length ∧ f.length ≤ 60 ∧ ∀ d ∈ f, isFolk d
theorem fits_ok {i : Int} (h : fits i) (n : Nat) : okD' n (.int i) = true := by
  have : okD' n (.int i) = decide (i.natAbs < 10 ^ 30) := by cases n <;> rw [okD']
  rw [this, decide_eq_true_eq]
  obtain ⟨a, b⟩ := h
  have : i.natAbs ≤ 200000 := by omega
  exact Nat.lt_of_le_of_lt this (by decide)
theorem folk_ok {d : D} (h : isFolk d) : okD' 1 d = true ∧ szD d = 10013 := by
  obtain ⟨a, b, c, e, f, rfl, h1, h2, h3, h4, h5, _⟩ := h
  refine ⟨?_, ?_⟩
  · rw [okD']
    simp only [okDs, fits_ok h1, fits_ok h2, fits_ok h3, fits_ok h4, fits_ok h5, Bool.and_self]
  · simp [szD, szDs]
theorem folks_ok : ∀ {f : List D}, (∀ d ∈ f, isFolk d) → okDs 1 f = true ∧ szDs f = 10015 * f.length
  | [], _ => ⟨by rw [okDs], by rw [szDs]; rfl⟩
  | d :: f, h => by
    obtain ⟨a, b⟩ := folks_ok (f := f) fun x hx => h x (List.mem_cons_of_mem _ hx)
    obtain ⟨c, e⟩ := folk_ok (h d List.mem_cons_self)
    refine ⟨by rw [okDs, c, a]; rfl, ?_⟩
    rw [szDs, b, e, List.length_cons]
    omega
theorem repr_int {m : Mem} {i : Int} (h : fits i) : reprD [.int i] m = some (.str (pyD (.int i)).shown, m) := repr_ok (n := 0) (fits_ok h 0) (by omega) (by simp [szD])
theorem kids_ok (l : List Nat) (hl : ∀ i ∈ l, i < 1000) : okDs 0 (l.map fun i : Nat => D.int i) = true ∧ szDs (l.map fun i : Nat => D.int i) = 2002 * l.length := by
  induction l with
  | nil => exact ⟨by rw [List.map_nil, okDs], by rw [List.map_nil, szDs]; rfl⟩
  | cons i l ih =>
    obtain ⟨a, b⟩ := ih fun j hj => hl j (List.mem_cons_of_mem _ hj)
    have hi := hl i List.mem_cons_self
    rw [List.map_cons]
    refine ⟨by rw [okDs, a, fits_ok (⟨by omega, by omega⟩ : fits (i : Int))]; rfl, ?_⟩
    rw [szDs, b, szD, List.length_cons]
    · omega
    · intro ds z; cases z
theorem repr_kids {m : Mem} {ps : List (Int × Int)} {w : Int} (h : ps.length ≤ 60) : reprD [.tup (kidsD ps w)] m = some (.str (pyD (.tup (kidsD ps w))).shown, m) := by
  have hm : ∀ i ∈ kidsN ps w, i < 1000 := fun i hi => by
    have := List.mem_range.mp (List.mem_filter.mp hi).1
    omega
  obtain ⟨a, b⟩ := kids_ok (kidsN ps w) hm
  have hl : (kidsN ps w).length ≤ 60 := Nat.le_trans (List.length_filter_le _ _) (by rw [List.length_range]; exact h)
  refine repr_ok (n := 1) ?_ (by omega) ?_
  · rw [okD']; exact a
  · rw [szD]
    show 3 + szDs ((kidsN ps w).map fun i : Nat => D.int i) ≤ _
    rw [b]; omega
theorem repr_both {m : Mem} {f g : List D} (hf : Good f) (hg : Good g) : reprD [.tup [.tup f, .tup g]] m = some (.str (pyD (.tup [.tup f, .tup g])).shown, m) := by
  obtain ⟨a1, b1⟩ := folks_ok hf.2.2
  obtain ⟨a2, b2⟩ := folks_ok hg.2.2
  have l1 := hf.2.1
  have l2 := hg.2.1
  refine repr_ok (n := 3) ?_ (by omega) ?_
  · rw [okD', okDs, okD', a1, okDs, okD', a2, okDs]; rfl
  · rw [szD, szDs, szD, b1, szDs, szD, b2, szDs]; omega
theorem bornN_fits {f : List D} (h : Good f) (day : Int) : fits (bornN f day : Nat) := by
  have : bornN f day ≤ f.length := List.length_filter_le _ _
  have := h.2.1
  constructor <;> omega
noncomputable abbrev chk1 : Sx := (sIf (tVal (eOp (eqD true) (eCB reprD (aCons (eCall F_born_by (aCons (eVar 9) (aCons (eVar 7) aNil))) aNil)) (eCB reprD (aCons (eCall F_born (aCons (eVar 9) (aCons (eVar 7) aNil))) aNil)))) (sRet (eC (.bl false))) sNil)
theorem var_ok {i : Nat} {ρ : Pv.Env} {m : Mem} {d : D} (h : ρ[i]? = some (some d)) : eVar i ρ m = some (d, m) := by unfold eVar; rw [h]
theorem nil_ok {ρ : Pv.Env} {m : Mem} : aNil ρ m = some ([], m) := rfl
theorem len_ok {m : Mem} {f : List D} : lenD [.tup f] m = some (.int (f.length : Nat), m) := rfl
theorem lt_ok {m : Mem} {a b : Int} : cmpD ltI (.int a) (.int b) m = some (.bl (ltI a b), m) := rfl
theorem chk1_ok {ρ : Pv.Env} {m : Mem} {f : List D} {day : Int} (h9 : ρ[9]? = some (some (.tup f))) (h7 : ρ[7]? = some (some (.int day))) (hf : Good f) : ∃ l, chk1 ρ m = some (.nx, ρ, m ++ l) := by
  obtain ⟨l1, e1⟩ := born_by_spec (m := m) hf.2.2 hf.2.1 day
  obtain ⟨l2, e2⟩ := born_spec (m := m ++ l1) hf.2.2 hf.2.1 day
  have fz := bornN_fits hf day
  refine ⟨l1 ++ l2, ?_⟩
  have t : (tVal (eOp (eqD true) (eCB reprD (aCons (eCall F_born_by (aCons (eVar 9) (aCons (eVar 7) aNil))) aNil)) (eCB reprD (aCons (eCall F_born (aCons (eVar 9) (aCons (eVar 7) aNil))) aNil)))) ρ m = some (false, m ++ (l1 ++ l2)) := by
    have z := op_ok (g := eqD true) (cb_ok (g := reprD) (cons_ok (cb_ok (g := F_born_by) (cons_ok (var_ok (m := m) h9) (cons_ok (var_ok h7) nil_ok)) e1) nil_ok) (repr_int fz)) (cb_ok (g := reprD) (cons_ok (cb_ok (g := F_born) (cons_ok (var_ok h9) (cons_ok (var_ok h7) nil_ok)) e2) nil_ok) (repr_int fz)) eqB_str
    unfold tVal
    show ((eOp (eqD true) (eCB reprD (aCons (eCB F_born_by (aCons (eVar 9) (aCons (eVar 7) aNil))) aNil)) (eCB reprD (aCons (eCB F_born (aCons (eVar 9) (aCons (eVar 7) aNil))) aNil))) ρ m).bind _ = _
    rw [z]
    simp [List.append_assoc]
  unfold chk1
  rw [if_f t]; rfl
noncomputable abbrev chk2 : Sx := (sIf (tAnd' (tVal (eOp (cmpD ltI) (eVar 8) (eCB lenD (aCons (eVar 9) aNil)))) (tVal (eOp (eqD true) (eCB reprD (aCons (eCall F_children_of (aCons (eVar 9) (aCons (eVar 8) aNil))) aNil)) (eCB reprD (aCons (eCall F_children (aCons (eVar 9) (aCons (eVar 8) aNil))) aNil))))) (sRet (eC (.bl false))) sNil)
theorem chk2_ok {ρ : Pv.Env} {m : Mem} {f : List D} {w : Int} (h9 : ρ[9]? = some (some (.tup f))) (h8 : ρ[8]? = some (some (.int w))) (hf : Good f) : ∃ l, chk2 ρ m = some (.nx, ρ, m ++ l) := by
  obtain ⟨ps, p1, p2, p3⟩ := par_folk hf.2.2
  have e1 := children_of_spec (m := m) p1 hf.2.1 w
  obtain ⟨l2, e2⟩ := children_spec (m := m) hf.2.2 hf.2.1 p2 p3 w
  have pl : ps.length ≤ 60 := by rw [p2]; exact hf.2.1
  have t1 : (tVal (eOp (cmpD ltI) (eVar 8) (eCB lenD (aCons (eVar 9) aNil)))) ρ m = some (ltI w (f.length : Nat), m) := by
    have z := op_ok (g := cmpD ltI) (var_ok (m := m) h8) (cb_ok (g := lenD) (cons_ok (var_ok h9) nil_ok) len_ok) lt_ok
    unfold tVal
    rw [z]; rfl
  have t2 : (tVal (eOp (eqD true) (eCB reprD (aCons (eCall F_children_of (aCons (eVar 9) (aCons (eVar 8) aNil))) aNil)) (eCB reprD (aCons (eCall F_children (aCons (eVar 9) (aCons (eVar 8) aNil))) aNil)))) ρ m = some (false, m ++ l2) := by
    have z := op_ok (g := eqD true) (cb_ok (g := reprD) (cons_ok (cb_ok (g := F_children_of) (cons_ok (var_ok (m := m) h9) (cons_ok (var_ok h8) nil_ok)) e1) nil_ok) (repr_kids pl)) (cb_ok (g := reprD) (cons_ok (cb_ok (g := F_children) (cons_ok (var_ok h9) (cons_ok (var_ok h8) nil_ok)) e2) nil_ok) (repr_kids pl)) eqB_str
    unfold tVal
    show ((eOp (eqD true) (eCB reprD (aCons (eCB F_children_of (aCons (eVar 9) (aCons (eVar 8) aNil))) aNil)) (eCB reprD (aCons (eCB F_children (aCons (eVar 9) (aCons (eVar 8) aNil))) aNil))) ρ m).bind _ = _
    rw [z]
    simp
  cases hlt : ltI w (f.length : Nat) with
  | true =>
    refine ⟨l2, ?_⟩
    unfold chk2
    rw [if_f (m' := m ++ l2) (by unfold tAnd'; rw [t1, hlt]; exact t2)]; rfl
  | false =>
    refine ⟨[], ?_⟩
    unfold chk2
    rw [if_f (m' := m) (by unfold tAnd'; rw [t1, hlt]; rfl), List.append_nil]; rfl
/-- the law's names: the last four may change -/
def En (s0 s2 f g S : D) (x6 x7 x8 x9 : Option D) : Pv.Env := [some s0, some (.ref 0), some s2, some f, some g, some S, x6, x7, x8, x9]
/-- over houses -/
theorem over_houses {s0 s2 f g S : D} {b : Sx} {x6 x7 x8 x9 : Option D} {m : Mem} {hs : List (List D)} (hg : ∀ h ∈ hs, Good h) (hb : ∀ h m, Good h → ∃ l, b (En s0 s2 f g S x6 x7 x8 (some (.tup h))) m = some (.nx, En s0 s2 f g S x6 x7 x8 (some (.tup h)), m ++ l)) :
    ∃ y9 l, forL (.seq (hs.map .tup)) (hs.map .tup) (gN 9) b (hs.map .tup) (En s0 s2 f g S x6 x7 x8 x9) m = some (.nx, En s0 s2 f g S x6 x7 x8 y9, m ++ l) := by
  obtain ⟨ρ', m', e, ⟨y9, rfl⟩, l, rfl⟩ := forL_seq (xs := hs.map .tup) (t := gN 9) (b := b) (fun _ ρ m' => (∃ y9, ρ = En s0 s2 f g S x6 x7 x8 y9) ∧ ∃ l, m' = m ++ l)
    (fun i d ρ m' hd inv => by
      obtain ⟨⟨y9, rfl⟩, l, rfl⟩ := inv
      obtain ⟨h, hh, rfl⟩ := List.mem_map.mp (List.mem_of_getElem? hd)
      obtain ⟨l2, e2⟩ := hb h (m ++ l) (hg h hh)
      exact ⟨_, _, _, rfl, e2, ⟨_, rfl⟩, l ++ l2, by rw [List.append_assoc]⟩)
    (hs.map .tup) 0 (En s0 s2 f g S x6 x7 x8 x9) m rfl (Nat.zero_le _) ⟨⟨x9, rfl⟩, [], by simp⟩
  exact ⟨y9, l, e⟩
end K02
end
section
set_option Elab.async false
set_option linter.all false
set_option maxRecDepth 100000
set_option maxHeartbeats 4000000
namespace K02
open PySem L2 Pv
noncomputable abbrev loopA : Sx := (sFor (iSeq (eOp addD (eCall F_days (aCons (eVar 1) (aCons (eVar 3) aNil))) (eCall F_days (aCons (eVar 1) (aCons (eVar 4) aNil))))) (gN 7) (sFor (iSeq (eCB tupD (aCons (eVar 3) (aCons (eVar 4) aNil)))) (gN 9) chk1))
noncomputable abbrev loopB : Sx := (sFor (iRngA (aCons (eCB lenD (aCons (eVar 3) aNil)) aNil)) (gN 8) (sFor (iSeq (eCB tupD (aCons (eVar 3) (aCons (eVar 4) (aCons (eVar 3) aNil))))) (gN 9) chk2))
theorem for_seq {src : Ix} {t : Gx} {b : Sx} {ρ : Pv.Env} {m m' : Mem} {xs : List D} {r} (h : src ρ m = some (.seq xs, m')) (h2 : forL (.seq xs) xs t b xs ρ m' = r) : sFor src t b ρ m = r := by
  unfold sFor; rw [h]; exact h2
theorem for_lst {src : Ix} {t : Gx} {b : Sx} {ρ : Pv.Env} {m m' : Mem} {xs : List D} {n : Nat} {r} (h : src ρ m = some (.lst n, m')) (hn : m'[n]? = some (.lst xs)) (h2 : forL (.lst n) xs t b xs ρ m' = r) : sFor src t b ρ m = r := by
  unfold sFor; rw [h]; simp only [Option.bind_some, itemsAt, hn]; exact h2
theorem seq_lst {a : Ex} {ρ : Pv.Env} {m m' : Mem} {n : Nat} {xs : List D} (h : a ρ m = some (.ref n, m')) (hn : m'[n]? = some (.lst xs)) : iSeq a ρ m = some (.lst n, m') := by
  unfold iSeq; rw [h]; simp only [Option.bind_some, srcD, hn]
theorem seq_tup {a : Ex} {ρ : Pv.Env} {m m' : Mem} {xs : List D} (h : a ρ m = some (.tup xs, m')) : iSeq a ρ m = some (.seq xs, m') := by
  unfold iSeq; rw [h]; rfl
theorem loopA_ok {ns : List Int} {s0 s2 S : D} {f g : List D} {m : Mem} {x6 x7 x8 x9 : Option D} (hst : StAt (ns.map .int) m 0) (hf : Good f) (hg : Good g) :
    ∃ y7 y9 m', loopA (En s0 s2 (.tup f) (.tup g) S x6 x7 x8 x9) m = some (.nx, En s0 s2 (.tup f) (.tup g) S x6 y7 x8 y9, m') ∧ StAt (ns.map .int) m' 0 := by
  obtain ⟨n1, i1, m1, a1, a2, a3, a4, a5⟩ := days_spec hst hf.1 hf.2.1 hf.2.2
  obtain ⟨n2, i2, m2, b1, b2, b3, b4, b5⟩ := days_spec a5.ok hg.1 hg.2.1 hg.2.2
  have n1st : n1 ≠ 0 := by have := hst.lt; omega
  have a2' : m2[n1]? = some (.lst (i1.map .int)) := b5.at a2 n1st
  let m3 : Mem := m2 ++ [.lst (i1.map .int ++ i2.map .int)]
  have za : addD (.ref n1) (.ref n2) m2 = some (.ref m2.length, m3) := by
    simp only [addD, a2', b2]
    rw [if_pos (by simp; omega)]
  let ρ0 := En s0 s2 (.tup f) (.tup g) S x6 x7 x8 x9
  have src : iSeq (eOp addD (eCall F_days (aCons (eVar 1) (aCons (eVar 3) aNil))) (eCall F_days (aCons (eVar 1) (aCons (eVar 4) aNil)))) ρ0 m = some (.lst m2.length, m3) := by
    refine seq_lst (n := m2.length) (xs := i1.map .int ++ i2.map .int) ?_ get_last
    exact op_ok (x := .ref n1) (m1 := m1) (y := .ref n2) (m2 := m2) (cb_ok (ds := [.ref 0, .tup f]) (m1 := m) rfl a1) (cb_ok (ds := [.ref 0, .tup g]) (m1 := m1) rfl b1) za
  have st3 : StAt (ns.map .int) m3 0 := (Grow.app b5.ok).ok
  obtain ⟨ρ', m', e, ⟨y7, y9, rfl⟩, l, rfl⟩ := forL_lst (n := m2.length) (xs := i1.map .int ++ i2.map .int) (t := gN 7) (b := (sFor (iSeq (eCB tupD (aCons (eVar 3) (aCons (eVar 4) aNil)))) (gN 9) chk1)) (fun _ ρ m' => (∃ y7 y9, ρ = En s0 s2 (.tup f) (.tup g) S x6 y7 x8 y9) ∧ ∃ l, m' = m3 ++ l)
    (fun i ρ m' inv => by obtain ⟨_, l, rfl⟩ := inv; exact get_app get_last)
    (fun i d ρ m' hd inv => by
      obtain ⟨⟨y7, y9, rfl⟩, l, rfl⟩ := inv
      obtain ⟨j, rfl⟩ : ∃ j : Int, d = .int j := by
        rcases List.mem_append.mp (List.mem_of_getElem? hd) with z | z <;> exact (List.mem_map.mp z).imp fun _ q => q.2.symm
      obtain ⟨z9, l2, e2⟩ := over_houses (s0 := s0) (s2 := s2) (f := .tup f) (g := .tup g) (S := S) (b := chk1) (x6 := x6) (x7 := some (.int j)) (x8 := x8) (x9 := y9) (m := m3 ++ l) (hs := [f, g]) (by
        intro h hh
        rcases List.mem_cons.mp hh with rfl | hh
        · exact hf
        · rw [List.mem_singleton.mp hh]; exact hg) (fun h m hh => chk1_ok (by rfl) (by rfl) hh)
      exact ⟨_, _, _, rfl, for_seq (m' := m3 ++ l) (xs := [.tup f, .tup g]) (seq_tup (cb_ok (ds := [.tup f, .tup g]) (m1 := m3 ++ l) rfl rfl)) e2, ⟨_, _, rfl⟩, l ++ l2, by rw [List.append_assoc]⟩)
    (i1.map .int ++ i2.map .int) 0 ρ0 m3 rfl (Nat.zero_le _) ⟨⟨x7, x9, rfl⟩, [], by simp⟩
  exact ⟨y7, y9, m3 ++ l, for_lst src get_last e, (Grow.app st3).ok⟩
end K02
end
section
set_option Elab.async false
set_option linter.all false
set_option maxRecDepth 100000
set_option maxHeartbeats 4000000
namespace K02
open PySem L2 Pv
theorem loopB_ok {ns : List Int} {s0 s2 S : D} {f g : List D} {m : Mem} {x6 x7 x8 x9 : Option D} (hst : StAt (ns.map .int) m 0) (hf : Good f) (hg : Good g) :
    ∃ y8 y9 m', loopB (En s0 s2 (.tup f) (.tup g) S x6 x7 x8 x9) m = some (.nx, En s0 s2 (.tup f) (.tup g) S x6 x7 y8 y9, m') ∧ StAt (ns.map .int) m' 0 := by
  let ρ0 := En s0 s2 (.tup f) (.tup g) S x6 x7 x8 x9
  have src : iRngA (aCons (eCB lenD (aCons (eVar 3) aNil)) aNil) ρ0 m = some (.seq (rngD 0 f.length), m) := rngA_ok rfl (by have := hf.2.1; omega)
  obtain ⟨ρ', m', e, ⟨y7, y9, rfl⟩, l, rfl⟩ := forL_seq (xs := rngD 0 f.length) (t := gN 8) (b := (sFor (iSeq (eCB tupD (aCons (eVar 3) (aCons (eVar 4) (aCons (eVar 3) aNil))))) (gN 9) chk2)) (fun _ ρ m' => (∃ y8 y9, ρ = En s0 s2 (.tup f) (.tup g) S x6 x7 y8 y9) ∧ ∃ l, m' = m ++ l)
    (fun i d ρ m' hd inv => by
      obtain ⟨⟨y8, y9, rfl⟩, l, rfl⟩ := inv
      obtain ⟨j, _, rfl⟩ := rng_mem (List.mem_of_getElem? hd)
      obtain ⟨z9, l2, e2⟩ := over_houses (s0 := s0) (s2 := s2) (f := .tup f) (g := .tup g) (S := S) (b := chk2) (x6 := x6) (x7 := x7) (x8 := some (.int (j : Nat))) (x9 := y9) (m := m ++ l) (hs := [f, g, f]) (by
        intro h hh
        rcases List.mem_cons.mp hh with rfl | hh
        · exact hf
        · rcases List.mem_cons.mp hh with rfl | hh
          · exact hg
          · rw [List.mem_singleton.mp hh]; exact hf) (fun h m hh => chk2_ok (by rfl) (by rfl) hh)
      exact ⟨_, _, _, rfl, for_seq (m' := m ++ l) (xs := [.tup f, .tup g, .tup f]) (seq_tup (cb_ok (ds := [.tup f, .tup g, .tup f]) (m1 := m ++ l) rfl rfl)) e2, ⟨_, _, rfl⟩, l ++ l2, by rw [List.append_assoc]⟩)
    (rngD 0 f.length) 0 ρ0 m rfl (Nat.zero_le _) ⟨⟨x8, x9, rfl⟩, [], by simp⟩
  exact ⟨y7, y9, m ++ l, for_seq src e, (Grow.app hst).ok⟩
end K02
end
section
set_option Elab.async false
set_option linter.all false
set_option maxRecDepth 100000
set_option maxHeartbeats 4000000
namespace K02
open PySem L2 Pv
theorem call_ok {g : Fx} {a : Ax} {ρ : Pv.Env} {m m1 : Mem} {ds : List D} {r : D × Mem} (h : a ρ m = some (ds, m1)) (hg : g ds m1 = some r) : eCall g a ρ m = some r := cb_ok h hg
theorem holds (ns : List Int) (h : ns.length ≤ 63) : ∃ m', F_law [.fl (ns.map .int)] [] = some (.bl true, m') := by
  let sc : D := .fl (ns.map .int)
  let ρ0 : Pv.Env := [some sc, none, none, none, none, none, none, none, none, none]
  let m0 : Mem := [.lst [sc, .int 0, .int 0, .int 2]]
  have st0 : StAt (ns.map .int) m0 0 := ⟨0, 0, 2, rfl, by decide, by decide, by decide, by decide⟩
  let ρ1 : Pv.Env := [some sc, some (.ref 0), none, none, none, none, none, none, none, none]
  have b1 : (sSet 1 (eCB lstD (aCons (eVar 0) (aCons (eC (.int 0)) (aCons (eC (.int 0)) (aCons (eC (.int 2)) aNil)))))) ρ0 [] = some (.nx, ρ1, m0) := rfl
  obtain ⟨v, m1, t1, t2, t3, t4, t5⟩ := take_g st0 8 (by decide) (by decide)
  let gr : Int := if (decide (v = 0) != false) then 1 else 0
  let ρ2 : Pv.Env := [some sc, some (.ref 0), some (.int gr), none, none, none, none, none, none, none]
  have b2 : (sSet 2 (eCB intD (aCons (eOp (eqD false) (eCall F_take (aCons (eVar 1) (aCons (eC (.int 8)) aNil))) (eC (.int 0))) aNil))) ρ1 m0 = some (.nx, ρ2, m1) :=
    set_ok (cb_ok (m1 := m1) (ds := [.bl (decide (v = 0) != false)]) (cons_ok (op_ok (x := .int v) (m1 := m1) (y := .int 0) (m2 := m1) (cb_ok (ds := [.ref 0, .int 8]) (m1 := m0) rfl t1) rfl eqB_int) nil_ok) rfl)
  obtain ⟨most, hm1, hm2, hm3⟩ : ∃ most : Int, 1 ≤ most ∧ most ≤ 60 ∧ ixD (.ref m1.length) (.int gr) (m1 ++ [.lst [.int 14, .int 60]]) = some (.int most, m1 ++ [.lst [.int 14, .int 60]]) := by
    have hl : (m1 ++ [MO.lst [.int 14, .int 60]])[m1.length]? = some (.lst [.int 14, .int 60]) := get_last
    by_cases hv : (decide (v = 0) != false) = true
    · have e : gr = 1 := if_pos hv
      rw [e]
      exact ⟨60, by decide, by decide, by simp only [ixD, hl, at1, Option.map_some]⟩
    · have e : gr = 0 := if_neg hv
      rw [e]
      exact ⟨14, by decide, by decide, by simp only [ixD, hl, at0, Option.map_some]⟩
  have g2 : Grow (ns.map .int) 0 m1 (m1 ++ [.lst [.int 14, .int 60]]) := Grow.app t4.ok
  obtain ⟨f, m2, f1, f2, f3, f4, f5⟩ := house_spec g2.ok hm1 hm2
  obtain ⟨g, m3, e1, e2, e3, e4, e5⟩ := house_spec f5.ok (most := 14) (by decide) (by decide)
  have hf : Good f := ⟨f2, f3, f4⟩
  have hg : Good g := ⟨e2, e3, e4⟩
  let ρ3 : Pv.Env := [some sc, some (.ref 0), some (.int gr), some (.tup f), none, none, none, none, none, none]
  have p3 : (eOp ixD (eCB lstD (aCons (eC (.int 14)) (aCons (eC (.int 60)) aNil))) (eVar 2)) ρ2 m1 = some (.int most, m1 ++ [.lst [.int 14, .int 60]]) :=
    op_ok (x := .ref m1.length) (m1 := m1 ++ [.lst [.int 14, .int 60]]) (y := .int gr) (m2 := m1 ++ [.lst [.int 14, .int 60]]) (cb_ok (ds := [.int 14, .int 60]) (m1 := m1) rfl rfl) (var_ok rfl) hm3
  have q0 : (aCons (eVar 1) (aCons (eOp ixD (eCB lstD (aCons (eC (.int 14)) (aCons (eC (.int 60)) aNil))) (eVar 2)) aNil)) ρ2 m1 = some ([.ref 0, .int most], m1 ++ [.lst [.int 14, .int 60]]) := cons_ok (m1 := m1) (var_ok rfl) (cons_ok p3 nil_ok)
  have q3 : (eCall F_house (aCons (eVar 1) (aCons (eOp ixD (eCB lstD (aCons (eC (.int 14)) (aCons (eC (.int 60)) aNil))) (eVar 2)) aNil))) ρ2 m1 = some (.tup f, m2) := by
    refine call_ok q0 ?_
    exact f1
  have b3 : (sSet 3 (eCall F_house (aCons (eVar 1) (aCons (eOp ixD (eCB lstD (aCons (eC (.int 14)) (aCons (eC (.int 60)) aNil))) (eVar 2)) aNil)))) ρ2 m1 = some (.nx, ρ3, m2) := set_ok q3
  let ρ4 : Pv.Env := [some sc, some (.ref 0), some (.int gr), some (.tup f), some (.tup g), none, none, none, none, none]
  have b4 : (sSet 4 (eCall F_house (aCons (eVar 1) (aCons (eC (.int 14)) aNil)))) ρ3 m2 = some (.nx, ρ4, m3) :=
    set_ok (call_ok (ds := [.ref 0, .int 14]) (m1 := m2) (cons_ok (m1 := m2) (var_ok rfl) (cons_ok (m1 := m2) rfl nil_ok)) e1)
  let S : D := .str (pyD (.tup [.tup f, .tup g])).shown
  let ρ5 : Pv.Env := En sc (.int gr) (.tup f) (.tup g) S none none none none
  have b5 : (sSet 5 (eCB reprD (aCons (eCB tupD (aCons (eVar 3) (aCons (eVar 4) aNil))) aNil))) ρ4 m3 = some (.nx, ρ5, m3) :=
    set_ok (cb_ok (ds := [.tup [.tup f, .tup g]]) (m1 := m3) rfl (repr_both hf hg))
  have src : iRngA (aCons (eC (.int 2)) aNil) ρ5 m3 = some (.seq (rngD 0 2), m3) := rngA_ok (n := 2) rfl (by omega)
  obtain ⟨ρ', m', e, ⟨y6, y7, y8, y9, rfl⟩, st⟩ := forL_seq (xs := rngD 0 2) (t := gN 6) (b := sSeq loopA loopB) (fun _ ρ m' => (∃ y6 y7 y8 y9, ρ = En sc (.int gr) (.tup f) (.tup g) S y6 y7 y8 y9) ∧ StAt (ns.map .int) m' 0)
    (fun i d ρ m' hd inv => by
      obtain ⟨⟨y6, y7, y8, y9, rfl⟩, st⟩ := inv
      obtain ⟨z7, z9, m4, c1, c2⟩ := loopA_ok (s0 := sc) (s2 := .int gr) (S := S) (x6 := some d) (x7 := y7) (x8 := y8) (x9 := y9) st hf hg
      obtain ⟨z8, w9, m5, d1, d2⟩ := loopB_ok (s0 := sc) (s2 := .int gr) (S := S) (x6 := some d) (x7 := z7) (x8 := y8) (x9 := z9) c2 hf hg
      exact ⟨_, _, m5, rfl, (seq_nx c1).trans d1, ⟨_, _, _, _, rfl⟩, d2⟩)
    (rngD 0 2) 0 ρ5 m3 rfl (Nat.zero_le _) ⟨⟨none, none, none, none, rfl⟩, e5.ok⟩
  have b6 := for_seq (src := iRngA (aCons (eC (.int 2)) aNil)) src e
  have b7 : (sRet (eOp (eqD false) (eCB reprD (aCons (eCB tupD (aCons (eVar 3) (aCons (eVar 4) aNil))) aNil)) (eVar 5))) (En sc (.int gr) (.tup f) (.tup g) S y6 y7 y8 y9) m' = some (.ret (.bl true), En sc (.int gr) (.tup f) (.tup g) S y6 y7 y8 y9, m') := by
    have z : (eOp (eqD false) (eCB reprD (aCons (eCB tupD (aCons (eVar 3) (aCons (eVar 4) aNil))) aNil)) (eVar 5)) (En sc (.int gr) (.tup f) (.tup g) S y6 y7 y8 y9) m' = some (.bl (decide ((pyD (.tup [.tup f, .tup g])).shown = (pyD (.tup [.tup f, .tup g])).shown) != false), m') :=
      op_ok (m1 := m') (m2 := m') (cb_ok (ds := [.tup [.tup f, .tup g]]) (m1 := m') rfl (repr_both hf hg)) rfl eqB_str
    unfold sRet
    rw [z]
    simp
  refine ⟨m', run_ret rfl (ρ' := En sc (.int gr) (.tup f) (.tup g) S y6 y7 y8 y9) ?_⟩
  show B_law ρ0 [] = _
  unfold B_law
  rw [seq_nx b1, seq_nx b2, seq_nx b3, seq_nx b4, seq_nx b5, seq_nx b6]
  exact b7
end K02
end
section
set_option Elab.async false
set_option linter.all false
set_option maxRecDepth 100000
set_option maxHeartbeats 4000000
namespace K02
open PySem PySem.Spec PyProof.Rows L2 Pv
theorem all_mk {l : PySem.W.OpenLaw} {w : World} {K : FRG} {h : Heap} {mg : Str → Option Value} {fa : Addr} (X : K.In h) (G : h.Ns mainGlobals mg) (hfa : mg "law" = some (.ref fa))
    {f0 : Addr} {od0 an0 : Option Addr} {sl0 : Array (Option Value)} {oc0 kV0 dc0 pm0 cd0 ct0 : Value}
    (a0 : PySem.W.nsIn K mainGlobals "_law_born" = some (some (.ref f0))) (l0 : K.lookup f0 = some ⟨oc0, od0, .func (PySem.W.fnOf "_law_born" "_law_born" (defArgs s_born) (defBody s_born) (defScope s_born) .none kV0 dc0 pm0 an0 cd0 ct0), sl0⟩) (c0 : PySem.W.codeIn K cd0 "_law_born" = true) (k0 : PySem.W.keepIn K (.ref f0) = true)
    {f1 : Addr} {od1 an1 : Option Addr} {sl1 : Array (Option Value)} {oc1 kV1 dc1 pm1 cd1 ct1 : Value}
    (a1 : PySem.W.nsIn K mainGlobals "_law_children" = some (some (.ref f1))) (l1 : K.lookup f1 = some ⟨oc1, od1, .func (PySem.W.fnOf "_law_children" "_law_children" (defArgs s_children) (defBody s_children) (defScope s_children) .none kV1 dc1 pm1 an1 cd1 ct1), sl1⟩) (c1 : PySem.W.codeIn K cd1 "_law_children" = true) (k1 : PySem.W.keepIn K (.ref f1) = true)
    {f2 : Addr} {od2 an2 : Option Addr} {sl2 : Array (Option Value)} {oc2 kV2 dc2 pm2 cd2 ct2 : Value}
    (a2 : PySem.W.nsIn K mainGlobals "_law_take" = some (some (.ref f2))) (l2 : K.lookup f2 = some ⟨oc2, od2, .func (PySem.W.fnOf "_law_take" "_law_take" (defArgs s_take) (defBody s_take) (defScope s_take) .none kV2 dc2 pm2 an2 cd2 ct2), sl2⟩) (c2 : PySem.W.codeIn K cd2 "_law_take" = true) (k2 : PySem.W.keepIn K (.ref f2) = true)
    {f3 : Addr} {od3 an3 : Option Addr} {sl3 : Array (Option Value)} {oc3 kV3 dc3 pm3 cd3 ct3 : Value}
    (a3 : PySem.W.nsIn K mainGlobals "_law_days" = some (some (.ref f3))) (l3 : K.lookup f3 = some ⟨oc3, od3, .func (PySem.W.fnOf "_law_days" "_law_days" (defArgs s_days) (defBody s_days) (defScope s_days) .none kV3 dc3 pm3 an3 cd3 ct3), sl3⟩) (c3 : PySem.W.codeIn K cd3 "_law_days" = true) (k3 : PySem.W.keepIn K (.ref f3) = true)
    {f4 : Addr} {od4 an4 : Option Addr} {sl4 : Array (Option Value)} {oc4 kV4 dc4 pm4 cd4 ct4 : Value}
    (a4 : PySem.W.nsIn K mainGlobals "_law_parent" = some (some (.ref f4))) (l4 : K.lookup f4 = some ⟨oc4, od4, .func (PySem.W.fnOf "_law_parent" "_law_parent" (defArgs s_parent) (defBody s_parent) (defScope s_parent) .none kV4 dc4 pm4 an4 cd4 ct4), sl4⟩) (c4 : PySem.W.codeIn K cd4 "_law_parent" = true) (k4 : PySem.W.keepIn K (.ref f4) = true)
    {f5 : Addr} {od5 an5 : Option Addr} {sl5 : Array (Option Value)} {oc5 kV5 dc5 pm5 cd5 ct5 : Value}
    (a5 : PySem.W.nsIn K mainGlobals "_law_house" = some (some (.ref f5))) (l5 : K.lookup f5 = some ⟨oc5, od5, .func (PySem.W.fnOf "_law_house" "_law_house" (defArgs s_house) (defBody s_house) (defScope s_house) .none kV5 dc5 pm5 an5 cd5 ct5), sl5⟩) (c5 : PySem.W.codeIn K cd5 "_law_house" = true) (k5 : PySem.W.keepIn K (.ref f5) = true)
    {f6 : Addr} {od6 an6 : Option Addr} {sl6 : Array (Option Value)} {oc6 kV6 dc6 pm6 cd6 ct6 : Value}
    (a6 : PySem.W.nsIn K mainGlobals "born_by" = some (some (.ref f6))) (l6 : K.lookup f6 = some ⟨oc6, od6, .func (PySem.W.fnOf "born_by" "born_by" (defArgs s_born_by) (defBody s_born_by) (defScope s_born_by) .none kV6 dc6 pm6 an6 cd6 ct6), sl6⟩) (c6 : PySem.W.codeIn K cd6 "born_by" = true) (k6 : PySem.W.keepIn K (.ref f6) = true)
    {f7 : Addr} {od7 an7 : Option Addr} {sl7 : Array (Option Value)} {oc7 kV7 dc7 pm7 cd7 ct7 : Value}
    (a7 : PySem.W.nsIn K mainGlobals "children_of" = some (some (.ref f7))) (l7 : K.lookup f7 = some ⟨oc7, od7, .func (PySem.W.fnOf "children_of" "children_of" (defArgs s_children_of) (defBody s_children_of) (defScope s_children_of) .none kV7 dc7 pm7 an7 cd7 ct7), sl7⟩) (c7 : PySem.W.codeIn K cd7 "children_of" = true) (k7 : PySem.W.keepIn K (.ref f7) = true)
    {f8 : Addr} {od8 an8 : Option Addr} {sl8 : Array (Option Value)} {oc8 kV8 dc8 pm8 cd8 ct8 : Value}
    (a8 : PySem.W.nsIn K mainGlobals "law" = some (some (.ref f8))) (l8 : K.lookup f8 = some ⟨oc8, od8, .func (PySem.W.fnOf "law" "law" (defArgs s_law) (defBody s_law) (defScope s_law) .none kV8 dc8 pm8 an8 cd8 ct8), sl8⟩) (c8 : PySem.W.codeIn K cd8 "law" = true) (k8 : PySem.W.keepIn K (.ref f8) = true)
    {co_children_of tb_children_of : Addr} {e_children_of : Value} {dd_children_of : Option Addr} {vs_children_of : Array Value} {sl_children_of : Array (Option Value)} (cc_children_of : cd7 = .ref co_children_of) (ti_children_of : K.lookup co_children_of = some ⟨e_children_of, dd_children_of, .fields vs_children_of, sl_children_of⟩) (vv_children_of : vs_children_of[11]? = some (.ref tb_children_of)) (nk_children_of : K.lookup tb_children_of = none) (tt_children_of : PySem.W.tabIn K "children_of" = some (co_children_of, tb_children_of) → PySem.W.CodeHd h co_children_of tb_children_of ∧ h.get? tb_children_of = some { cls := .none, data := .fields #[] })
    (z_int : PySem.W.nsIn K mainGlobals "int" = some none)
    (z_len : PySem.W.nsIn K mainGlobals "len" = some none)
    (z_max : PySem.W.nsIn K mainGlobals "max" = some none)
    (z_min : PySem.W.nsIn K mainGlobals "min" = some none)
    (z_range : PySem.W.nsIn K mainGlobals "range" = some none)
    (z_repr : PySem.W.nsIn K mainGlobals "repr" = some none)
    (z_sum : PySem.W.nsIn K mainGlobals "sum" = some none)
    (z_tuple : PySem.W.nsIn K mainGlobals "tuple" = some none)
    : ∃ (fd : FuncData) (cs : List (Addr × Addr)), (∀ p ∈ cs, h.get? p.2 = some { cls := .none, data := .fields #[] }) ∧ (∀ p ∈ cs, K.lookup p.2 = none) ∧ (∀ p ∈ cs, PySem.W.CodeHd h p.1 p.2) ∧ (∀ (s : Shared) (u : Value), BindsTo s fd ⟨[u], []⟩ [("_law_script", u)]) ∧
      ∀ base : Heap, K.In base → base.Ns mainGlobals mg → (∀ p ∈ cs, GxR.TabB base mg p.1 p.2) → FnG l.prog w K mg base 4 fa fd ["_law_script"] (spF K (cs.map (·.2)) P_law.length F_law) := by
  have isLaw : fa = f8 := by
    have e := hfa.symm.trans (PySem.W.mg_of X G a8)
    cases e; rfl
  have F0 : FunC K "_law_born" "_law_born" s_born f0 _ cd0 := ⟨⟨oc0, od0, kV0, dc0, pm0, an0, ct0, sl0, rfl, l0, c0⟩, k0⟩
  have b0 := F0.binds (ps := P_born) fun _ _ _ _ _ us hl => match us, hl with | [_, _], _ => rfl
  have F1 : FunC K "_law_children" "_law_children" s_children f1 _ cd1 := ⟨⟨oc1, od1, kV1, dc1, pm1, an1, ct1, sl1, rfl, l1, c1⟩, k1⟩
  have b1 := F1.binds (ps := P_children) fun _ _ _ _ _ us hl => match us, hl with | [_, _], _ => rfl
  have F2 : FunC K "_law_take" "_law_take" s_take f2 _ cd2 := ⟨⟨oc2, od2, kV2, dc2, pm2, an2, ct2, sl2, rfl, l2, c2⟩, k2⟩
  have b2 := F2.binds (ps := P_take) fun _ _ _ _ _ us hl => match us, hl with | [_, _], _ => rfl
  have F3 : FunC K "_law_days" "_law_days" s_days f3 _ cd3 := ⟨⟨oc3, od3, kV3, dc3, pm3, an3, ct3, sl3, rfl, l3, c3⟩, k3⟩
  have b3 := F3.binds (ps := P_days) fun _ _ _ _ _ us hl => match us, hl with | [_, _], _ => rfl
  have F4 : FunC K "_law_parent" "_law_parent" s_parent f4 _ cd4 := ⟨⟨oc4, od4, kV4, dc4, pm4, an4, ct4, sl4, rfl, l4, c4⟩, k4⟩
  have b4 := F4.binds (ps := P_parent) fun _ _ _ _ _ us hl => match us, hl with | [_, _, _, _], _ => rfl
  have F5 : FunC K "_law_house" "_law_house" s_house f5 _ cd5 := ⟨⟨oc5, od5, kV5, dc5, pm5, an5, ct5, sl5, rfl, l5, c5⟩, k5⟩
  have b5 := F5.binds (ps := P_house) fun _ _ _ _ _ us hl => match us, hl with | [_, _], _ => rfl
  have F6 : FunC K "born_by" "born_by" s_born_by f6 _ cd6 := ⟨⟨oc6, od6, kV6, dc6, pm6, an6, ct6, sl6, rfl, l6, c6⟩, k6⟩
  have b6 := F6.binds (ps := P_born_by) fun _ _ _ _ _ us hl => match us, hl with | [_, _], _ => rfl
  have F7 : FunC K "children_of" "children_of" s_children_of f7 _ cd7 := ⟨⟨oc7, od7, kV7, dc7, pm7, an7, ct7, sl7, rfl, l7, c7⟩, k7⟩
  have b7 := F7.binds (ps := P_children_of) fun _ _ _ _ _ us hl => match us, hl with | [_, _], _ => rfl
  have F8 : FunC K "law" "law" s_law f8 _ cd8 := ⟨⟨oc8, od8, kV8, dc8, pm8, an8, ct8, sl8, rfl, l8, c8⟩, k8⟩
  have b8 := F8.binds (ps := P_law) fun _ _ _ _ _ us hl => match us, hl with | [_], _ => rfl
  have tt_children_of := tt_children_of (tab_in a7 l7 cc_children_of ti_children_of vv_children_of)
  let C : Ctx K mg ([(co_children_of, tb_children_of)].map (·.2)) := { f_born := f0, fd_born := _, cd_born := cd0, F_born := F0, b_born := b0, g_born := PySem.W.mg_of X G a0, f_children := f1, fd_children := _, cd_children := cd1, F_children := F1, b_children := b1, g_children := PySem.W.mg_of X G a1, f_take := f2, fd_take := _, cd_take := cd2, F_take := F2, b_take := b2, g_take := PySem.W.mg_of X G a2, f_days := f3, fd_days := _, cd_days := cd3, F_days := F3, b_days := b3, g_days := PySem.W.mg_of X G a3, f_parent := f4, fd_parent := _, cd_parent := cd4, F_parent := F4, b_parent := b4, g_parent := PySem.W.mg_of X G a4, f_house := f5, fd_house := _, cd_house := cd5, F_house := F5, b_house := b5, g_house := PySem.W.mg_of X G a5, f_born_by := f6, fd_born_by := _, cd_born_by := cd6, F_born_by := F6, b_born_by := b6, g_born_by := PySem.W.mg_of X G a6, f_children_of := f7, fd_children_of := _, cd_children_of := cd7, F_children_of := F7, b_children_of := b7, g_children_of := PySem.W.mg_of X G a7, co_children_of := co_children_of, tb_children_of := tb_children_of, c_children_of := cc_children_of, m_children_of := (by simp), f_law := f8, fd_law := _, cd_law := cd8, F_law := F8, b_law := b8, g_law := PySem.W.mg_of X G a8, z_int := PySem.W.mg_none_of X G z_int, z_len := PySem.W.mg_none_of X G z_len, z_max := PySem.W.mg_none_of X G z_max, z_min := PySem.W.mg_none_of X G z_min, z_range := PySem.W.mg_none_of X G z_range, z_repr := PySem.W.mg_none_of X G z_repr, z_sum := PySem.W.mg_none_of X G z_sum, z_tuple := PySem.W.mg_none_of X G z_tuple }
  exact ⟨_, [(co_children_of, tb_children_of)], (fun p hp => by rcases List.mem_cons.mp hp with z | hp <;> first | (rw [z]; exact tt_children_of.2) | cases hp), (fun p hp => by rcases List.mem_cons.mp hp with z | hp <;> first | (rw [z]; exact nk_children_of) | cases hp), (fun p hp => by rcases List.mem_cons.mp hp with z | hp <;> first | (rw [z]; exact tt_children_of.1) | cases hp), fun s u => .of_eq rfl, fun base _ _ hT => by rw [isLaw]; exact ok_law C (hT (co_children_of, tb_children_of) (by simp))⟩

end K02
open PySem PySem.W PyProof.Rows
set_option maxHeartbeats 0 in
theorem PySem.Challenge.cw_thronewalk_k02_born_and_children_holds : PySem.Challenge.rw_thronewalk_k02_born_and_children.Holds := by
  w_on; o_law; k_head; (case hw => w_witness2)
  k_fill
  refine Pv.walkG (l := PySem.Challenge.rw_thronewalk_k02_born_and_children) (n := 63) (k := 4) (x := "_law_script") (F := K02.F_law) rfl (by decide) rfl ⟨rfl, by decide, by decide⟩ (fun w h Y => PySem.W.kIn_of Y) ?F K02.holds
  case F =>
    intro w mg fa h KX G hmg tabs
    refine' K02.all_mk KX G hmg ?a0 ?l0 ?c0 ?k0 ?a1 ?l1 ?c1 ?k1 ?a2 ?l2 ?c2 ?k2 ?a3 ?l3 ?c3 ?k3 ?a4 ?l4 ?c4 ?k4 ?a5 ?l5 ?c5 ?k5 ?a6 ?l6 ?c6 ?k6 ?a7 ?l7 ?c7 ?k7 ?a8 ?l8 ?c8 ?k8 ?cc_children_of ?ti_children_of ?vv_children_of ?nk_children_of ?tt_children_of ?z_int ?z_len ?z_max ?z_min ?z_range ?z_repr ?z_sum ?z_tuple
    (case a0 => k_is)
    (case l0 => k_is)
    (case c0 => k_is)
    (case k0 => k_is)
    (case a1 => k_is)
    (case l1 => k_is)
    (case c1 => k_is)
    (case k1 => k_is)
    (case a2 => k_is)
    (case l2 => k_is)
    (case c2 => k_is)
    (case k2 => k_is)
    (case a3 => k_is)
    (case l3 => k_is)
    (case c3 => k_is)
    (case k3 => k_is)
    (case a4 => k_is)
    (case l4 => k_is)
    (case c4 => k_is)
    (case k4 => k_is)
    (case a5 => k_is)
    (case l5 => k_is)
    (case c5 => k_is)
    (case k5 => k_is)
    (case a6 => k_is)
    (case l6 => k_is)
    (case c6 => k_is)
    (case k6 => k_is)
    (case a7 => k_is)
    (case l7 => k_is)
    (case c7 => k_is)
    (case k7 => k_is)
    (case a8 => k_is)
    (case l8 => k_is)
    (case c8 => k_is)
    (case k8 => k_is)
    (case cc_children_of => rfl)
    (case ti_children_of => k_is)
    (case vv_children_of => rfl)
    (case nk_children_of => first | rfl | decide +kernel)
    (case tt_children_of => exact tabs "children_of" _ _ _ rfl)
    (case z_int => k_is)
    (case z_len => k_is)
    (case z_max => k_is)
    (case z_min => k_is)
    (case z_range => k_is)
    (case z_repr => k_is)
    (case z_sum => k_is)
    (case z_tuple => k_is)
end
