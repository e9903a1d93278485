import PyProof.Rows.All
import HandS.ForMost
import HandS.Flow
import HandS.SortInts
import HandS.TupAny
import HandS.EndTab
import HandS.AnyAll
import KE.KMinKey
import HandS.SortKw
import HandS.Deep
import HandS.Strs
import HandS.SetFor
import KE.KSortTupG
import HandS.TupSets
import KE.KSortTupUse
import KE.LtData
import PyProof.TupleOfGen
import HandS.Conv
import HandS.More
import HandS.Style
import PyProof.Rows.MinMaxN
import HandS.DictComp
import HandS.Rev
import HandS.GenOver
import HandS.GenBody
import PyProof.GenQ
import HandS.GenList
import HandS.Zip
import HandS.IsInst
import HandS.IterVal
import HandS.NoneIn
import HandS.Text
import PySem.Challenge.RW_thronewalk_k91_texts_told
import Wide.All
import OpenK.AllK
import Wide.FinOn
section
set_option Elab.async false
set_option linter.all false
set_option maxRecDepth 100000
set_option maxHeartbeats 1000000
/-! Values (lists and dicts that nobody changes are values too), a memory of those that change, and how both stand in the abstract heap. -/
namespace Pw
open PySem PySem.Spec PyProof.Rows L2

inductive D where
  | non | bl (b : Bool) | int (i : Int) | str (x : Str) | tup (xs : List D) | fl (xs : List D) | lst (xs : List D) | dk (kvs : List (Key × D)) | dt (kvs : List (List Key × D)) | rl (b k : Nat)
inductive MO where
  | lst (xs : List D)
  | dk (kvs : List (Key × D))
  | dt (kvs : List (List Key × D))
  /-- a list of k lists that change: those at b, b + 1, .. of the memory; it stands right behind them -/
  | rl (b k : Nat)
/-- a value; one that changes, by its place in the memory; a new one -/
inductive W where
  | v (d : D) | r (n : Nat) | f (d : D)
abbrev Mem := List MO
abbrev Env := List (Option W)
abbrev FRG := PySem.W.Frag

/-- a list that nobody can change -/
def Fz (K : FRG) (H : Hp) (a : Addr) (vs : List V) : Prop :=
  (∃ o, H a = some (.frz o (.lst vs))) ∨
    ∃ (o : Obj) (its : Array Value) (n : Nat), K.lookup a = some o ∧ o.cls = .type "list" ∧ o.dict = none ∧ o.data = .seq its n ∧ its.size ≤ sizeLine ∧ Vals vs its.toList
theorem Fz.sq {K : FRG} {H : Hp} {a : Addr} {vs : List V} (h : Fz K H a vs) : SqL K H a vs := by
  rcases h with ⟨o, h⟩ | h
  · exact .inl (.inr ⟨o, h⟩)
  · exact .inr h
mutual
inductive Rep (K : FRG) (φ ψ : List Addr) (H : Hp) : D → V → Prop
  | non : Rep K φ ψ H .non .non
  | bl (b : Bool) : Rep K φ ψ H (.bl b) (.bl b)
  | int (i : Int) : Rep K φ ψ H (.int i) (.int i)
  | str (x : Str) : Rep K φ ψ H (.str x) (.str x)
  | tup {a : Addr} {vs : List V} {ds : List D} : SqT K H a vs → Reps K φ ψ H ds vs → Rep K φ ψ H (.tup ds) (.ref a)
  | fl {a : Addr} {vs : List V} {ds : List D} : Fz K H a vs → Reps K φ ψ H ds vs → Rep K φ ψ H (.fl ds) (.ref a)
  | lst {a : Addr} {vs : List V} {ds : List D} : a ∉ φ → a ∉ ψ → H a = some (.lst vs) → Reps K φ ψ H ds vs → Rep K φ ψ H (.lst ds) (.ref a)
  | dk {a : Addr} {vs : List (Key × V)} {kvs : List (Key × D)} : a ∉ φ → a ∉ ψ → H a = some (.dK vs) → kvs.map (·.1) = vs.map (·.1) → Reps K φ ψ H (kvs.map (·.2)) (vs.map (·.2)) → Rep K φ ψ H (.dk kvs) (.ref a)
  | dt {a : Addr} {vs : List (List Key × V)} {kvs : List (List Key × D)} : a ∉ φ → a ∉ ψ → H a = some (.dT vs) → kvs.map (·.1) = vs.map (·.1) → Reps K φ ψ H (kvs.map (·.2)) (vs.map (·.2)) → Rep K φ ψ H (.dt kvs) (.ref a)
inductive Reps (K : FRG) (φ ψ : List Addr) (H : Hp) : List D → List V → Prop
  | nil : Reps K φ ψ H [] []
  | cons {d : D} {v : V} {ds : List D} {vs : List V} : Rep K φ ψ H d v → Reps K φ ψ H ds vs → Reps K φ ψ H (d :: ds) (v :: vs)
end
def ObjR (K : FRG) (φ ψ : List Addr) (H : Hp) (a : Addr) : MO → Prop
  | .lst ds => ∃ vs, H a = some (.lst vs) ∧ Reps K φ ψ H ds vs
  | .dk kvs => ∃ vs : List (Key × V), H a = some (.dK vs) ∧ kvs.map (·.1) = vs.map (·.1) ∧ Reps K φ ψ H (kvs.map (·.2)) (vs.map (·.2))
  | .dt kvs => ∃ vs : List (List Key × V), H a = some (.dT vs) ∧ kvs.map (·.1) = vs.map (·.1) ∧ Reps K φ ψ H (kvs.map (·.2)) (vs.map (·.2))
  | .rl b k => H a = some (.lst ((List.range k).map fun i => .ref (φ.getD (b + i) 0))) ∧ φ[b + k]? = some a
structure Rel (K : FRG) (tb : List Addr) (φ ψ : List Addr) (H : Hp) (m : Mem) : Prop where
  len : φ.length = m.length
  nd : φ.Nodup
  obj : ∀ (n : Nat) (mo : MO) (a : Addr), m[n]? = some mo → φ[n]? = some a → ObjR K φ ψ H a mo
  tab : ∀ p ∈ tb, GxR.TabG H p
  sd : ∀ p ∈ ψ, H p ≠ none
  ap : ∀ p ∈ ψ, p ∉ φ
structure Post (φ ψ : List Addr) (H : Hp) (φ' ψ' : List Addr) (H' : Hp) : Prop where
  pre : φ <+: φ'
  new : ∀ a ∈ φ', a ∈ φ ∨ H a = none
  side : ∀ a ∈ ψ', a ∈ ψ ∨ H a = none
  frm : ∀ b o, b ∉ φ → H b = some o → (∀ ps, o ≠ .tbl ps) → H' b = some o
  kp : ∀ b, H' b = none → H b = none
section
variable {K : FRG} {tb φ φ1 φ2 φ' ψ ψ1 ψ2 ψ' : List Addr} {H H1 H2 H' : Hp} {m : Mem}
theorem Post.refl : Post φ ψ H φ ψ H := ⟨List.prefix_refl _, fun _ h => .inl h, fun _ h => .inl h, fun _ _ _ h _ => h, fun _ h => h⟩
theorem Post.trans (p : Post φ ψ H φ1 ψ1 H1) (q : Post φ1 ψ1 H1 φ2 ψ2 H2) : Post φ ψ H φ2 ψ2 H2 := by
  refine ⟨p.pre.trans q.pre, fun a h => ?_, fun a h => ?_, fun b o hb e ht => ?_, fun b h => p.kp b (q.kp b h)⟩
  · rcases q.new a h with z | z
    · exact p.new a z
    · exact .inr (p.kp a z)
  · rcases q.side a h with z | z
    · exact p.side a z
    · exact .inr (p.kp a z)
  · refine q.frm b o (fun z => ?_) (p.frm b o hb e ht) ht
    rcases p.new b z with y | y
    · exact hb y
    · rw [y] at e; cases e
theorem Rel.mut {a : Addr} (R : Rel K tb φ ψ H m) (h : a ∈ φ) : (∃ vs, H a = some (.lst vs)) ∨ (∃ vs, H a = some (.dK vs)) ∨ ∃ vs, H a = some (.dT vs) := by
  obtain ⟨n, hn, e⟩ := List.getElem_of_mem h
  have e' : φ[n]? = some a := by rw [List.getElem?_eq_getElem hn, e]
  have hm : n < m.length := by rw [← R.len]; exact hn
  have q := R.obj n m[n] a (List.getElem?_eq_getElem hm) e'
  cases z : m[n] with
  | lst ds => rw [z] at q; obtain ⟨vs, q, _⟩ := q; exact .inl ⟨vs, q⟩
  | dk kvs => rw [z] at q; obtain ⟨vs, q, _⟩ := q; exact .inr (.inl ⟨vs, q⟩)
  | dt kvs => rw [z] at q; obtain ⟨vs, q, _⟩ := q; exact .inr (.inr ⟨vs, q⟩)
  | rl b k => rw [z] at q; exact .inl ⟨_, q.1⟩
theorem Rel.trk {a : Addr} (R : Rel K tb φ ψ H m) (h : a ∈ φ) : H a ≠ none := by
  rcases R.mut h with ⟨vs, e⟩ | ⟨vs, e⟩ | ⟨vs, e⟩ <;> (rw [e]; exact fun z => nomatch z)
theorem Rel.fresh {a : Addr} (R : Rel K tb φ ψ H m) (h : H a = none) : a ∉ φ := fun z => R.trk z h
theorem Rel.freshS {a : Addr} (R : Rel K tb φ ψ H m) (h : H a = none) : a ∉ ψ := fun z => R.sd a z h
theorem Rel.ntup {a : Addr} {xs : List V} (R : Rel K tb φ ψ H m) (h : H a = some (.tup xs)) : a ∉ φ := fun z => by
  rcases R.mut z with ⟨vs, e⟩ | ⟨vs, e⟩ | ⟨vs, e⟩ <;> (rw [h] at e; cases e)
theorem Rel.nfrz {a : Addr} {o : Obj} {u : HO} (R : Rel K tb φ ψ H m) (h : H a = some (.frz o u)) : a ∉ φ := fun z => by
  rcases R.mut z with ⟨vs, e⟩ | ⟨vs, e⟩ | ⟨vs, e⟩ <;> (rw [h] at e; cases e)
theorem Rel.ntbl {a : Addr} {ps : Array Value} (R : Rel K tb φ ψ H m) (h : H a = some (.tbl ps)) : a ∉ φ := fun z => by
  rcases R.mut z with ⟨vs, e⟩ | ⟨vs, e⟩ | ⟨vs, e⟩ <;> (rw [h] at e; cases e)
theorem Post.sqT {a : Addr} {xs : List V} (p : Post φ ψ H φ' ψ' H') (R : Rel K tb φ ψ H m) (h : SqT K H a xs) : SqT K H' a xs := by
  rcases h with (h | ⟨o, h⟩) | h
  · exact .inl (.inl (p.frm _ _ (R.ntup h) h fun _ z => nomatch z))
  · exact .inl (.inr ⟨o, p.frm _ _ (R.nfrz h) h fun _ z => nomatch z⟩)
  · exact .inr h
theorem Post.off {a : Addr} {o : HO} (p : Post φ ψ H φ' ψ' H') (h1 : a ∉ φ) (h2 : a ∉ ψ) (h : H a = some o) (ht : ∀ ps, o ≠ .tbl ps) : a ∉ φ' ∧ a ∉ ψ' ∧ H' a = some o := by
  refine ⟨fun z => ?_, fun z => ?_, p.frm a o h1 h ht⟩
  · rcases p.new a z with y | y
    · exact h1 y
    · rw [h] at y; cases y
  · rcases p.side a z with y | y
    · exact h2 y
    · rw [h] at y; cases y
theorem Post.fz {a : Addr} {xs : List V} (p : Post φ ψ H φ' ψ' H') (R : Rel K tb φ ψ H m) (h : Fz K H a xs) : Fz K H' a xs := by
  rcases h with ⟨o, h⟩ | h
  · exact .inl ⟨o, p.frm _ _ (R.nfrz h) h fun _ z => nomatch z⟩
  · exact .inr h
theorem pre_get {n : Nat} {a : Addr} (p : φ <+: φ') (h : φ[n]? = some a) : φ'[n]? = some a := by
  obtain ⟨t, rfl⟩ := p
  obtain ⟨hn, _⟩ := List.getElem?_eq_some_iff.mp h
  rw [List.getElem?_append_left hn]; exact h
mutual
theorem Rep.map (ht : ∀ a xs, SqT K H a xs → SqT K H' a xs) (hf : ∀ a xs, Fz K H a xs → Fz K H' a xs) (hd : ∀ a o, a ∉ φ → a ∉ ψ → H a = some o → (∀ ps, o ≠ .tbl ps) → a ∉ φ' ∧ a ∉ ψ' ∧ H' a = some o) : ∀ {d : D} {v : V}, Rep K φ ψ H d v → Rep K φ' ψ' H' d v
  | _, _, .non => .non
  | _, _, .bl b => .bl b
  | _, _, .int i => .int i
  | _, _, .str x => .str x
  | _, _, .tup h r => .tup (ht _ _ h) (Reps.map ht hf hd r)
  | _, _, .fl h r => .fl (hf _ _ h) (Reps.map ht hf hd r)
  | _, _, .lst h1 h2 h3 r => let z := hd _ _ h1 h2 h3 fun _ z => nomatch z; .lst z.1 z.2.1 z.2.2 (Reps.map ht hf hd r)
  | _, _, .dk h1 h2 h3 h4 r => let z := hd _ _ h1 h2 h3 fun _ z => nomatch z; .dk z.1 z.2.1 z.2.2 h4 (Reps.map ht hf hd r)
  | _, _, .dt h1 h2 h3 h4 r => let z := hd _ _ h1 h2 h3 fun _ z => nomatch z; .dt z.1 z.2.1 z.2.2 h4 (Reps.map ht hf hd r)
theorem Reps.map (ht : ∀ a xs, SqT K H a xs → SqT K H' a xs) (hf : ∀ a xs, Fz K H a xs → Fz K H' a xs) (hd : ∀ a o, a ∉ φ → a ∉ ψ → H a = some o → (∀ ps, o ≠ .tbl ps) → a ∉ φ' ∧ a ∉ ψ' ∧ H' a = some o) : ∀ {ds : List D} {vs : List V}, Reps K φ ψ H ds vs → Reps K φ' ψ' H' ds vs
  | _, _, .nil => .nil
  | _, _, .cons h r => .cons (Rep.map ht hf hd h) (Reps.map ht hf hd r)
end
theorem Rep.mono (p : Post φ ψ H φ' ψ' H') (R : Rel K tb φ ψ H m) {d : D} {v : V} (h : Rep K φ ψ H d v) : Rep K φ' ψ' H' d v := h.map (fun _ _ => p.sqT R) (fun _ _ => p.fz R) fun _ _ h1 h2 h3 h4 => p.off h1 h2 h3 h4
theorem Reps.mono (p : Post φ ψ H φ' ψ' H') (R : Rel K tb φ ψ H m) {ds : List D} {vs : List V} (h : Reps K φ ψ H ds vs) : Reps K φ' ψ' H' ds vs := h.map (fun _ _ => p.sqT R) (fun _ _ => p.fz R) fun _ _ h1 h2 h3 h4 => p.off h1 h2 h3 h4
/-- the same heap, fewer (or other) ones that may change -/
theorem Rep.fewer (h : ∀ a, a ∉ φ → a ∉ ψ → a ∉ φ' ∧ a ∉ ψ') {d : D} {v : V} (q : Rep K φ ψ H d v) : Rep K φ' ψ' H d v := q.map (fun _ _ z => z) (fun _ _ z => z) fun a _ h1 h2 z _ => ⟨(h a h1 h2).1, (h a h1 h2).2, z⟩
theorem Reps.fewer (h : ∀ a, a ∉ φ → a ∉ ψ → a ∉ φ' ∧ a ∉ ψ') {d : List D} {v : List V} (q : Reps K φ ψ H d v) : Reps K φ' ψ' H d v := q.map (fun _ _ z => z) (fun _ _ z => z) fun a _ h1 h2 z _ => ⟨(h a h1 h2).1, (h a h1 h2).2, z⟩
theorem getD_of {l l' : List Addr} {i : Nat} (h : l'[i]? = l[i]?) : l'.getD i 0 = l.getD i 0 := by
  rw [List.getD_eq_getElem?_getD, List.getD_eq_getElem?_getD, h]
theorem ObjR.fewer (h : ∀ a, a ∉ φ → a ∉ ψ → a ∉ φ' ∧ a ∉ ψ') {a : Addr} {mo : MO} (q : ObjR K φ ψ H a mo) (hφ : (∃ b k, mo = .rl b k) → ∀ n : Nat, φ[n]? = some a → ∀ i : Nat, i ≤ n → φ'[i]? = φ[i]? := by first | exact (fun _ _ _ _ _ => rfl)) : ObjR K φ' ψ' H a mo := by
  cases mo with
  | rl b k =>
    have hh := hφ ⟨b, k, rfl⟩ _ q.2
    refine ⟨q.1.trans ?_, (hh _ (Nat.le_refl _)).trans q.2⟩
    congr 2
    refine List.map_congr_left fun i hi => ?_
    rw [getD_of (hh (b + i) (by have := List.mem_range.mp hi; omega))]
  | lst ds => obtain ⟨vs, q1, q2⟩ := q; exact ⟨vs, q1, q2.fewer h⟩
  | dk kvs => obtain ⟨vs, q1, q2, q3⟩ := q; exact ⟨vs, q1, q2, q3.fewer h⟩
  | dt kvs => obtain ⟨vs, q1, q2, q3⟩ := q; exact ⟨vs, q1, q2, q3.fewer h⟩
theorem Reps.length : ∀ {ds : List D} {vs : List V}, Reps K φ ψ H ds vs → ds.length = vs.length
  | _, _, .nil => rfl
  | _, _, .cons _ r => by simp [Reps.length r]
theorem Reps.get : ∀ {ds : List D} {vs : List V} {i : Nat} {d : D}, Reps K φ ψ H ds vs → ds[i]? = some d → ∃ v, vs[i]? = some v ∧ Rep K φ ψ H d v
  | _, _, _, _, .nil, e => by simp at e
  | _, _, 0, _, .cons h _, e => by simp at e; subst e; exact ⟨_, rfl, h⟩
  | _, _, i + 1, d, .cons _ r, e => by
    obtain ⟨v, h1, h2⟩ := Reps.get (i := i) (d := d) r (by simpa using e)
    exact ⟨v, by simpa using h1, h2⟩
theorem Reps.app : ∀ {ds es : List D} {vs ws : List V}, Reps K φ ψ H ds vs → Reps K φ ψ H es ws → Reps K φ ψ H (ds ++ es) (vs ++ ws)
  | _, _, _, _, .nil, s => s
  | _, _, _, _, .cons h r, s => .cons h (Reps.app r s)
theorem Reps.set {d : D} {v : V} (h : Rep K φ ψ H d v) : ∀ {ds : List D} {vs : List V} (i : Nat), Reps K φ ψ H ds vs → Reps K φ ψ H (ds.set i d) (vs.set i v)
  | _, _, _, .nil => .nil
  | _, _, 0, .cons _ r => .cons h r
  | _, _, i + 1, .cons q r => .cons q (Reps.set h i r)
theorem Reps.take : ∀ {ds : List D} {vs : List V} (n : Nat), Reps K φ ψ H ds vs → Reps K φ ψ H (ds.take n) (vs.take n)
  | _, _, 0, _ => .nil
  | _, _, _ + 1, .nil => .nil
  | _, _, n + 1, .cons h r => .cons h (Reps.take n r)
theorem Reps.drop : ∀ {ds : List D} {vs : List V} (n : Nat), Reps K φ ψ H ds vs → Reps K φ ψ H (ds.drop n) (vs.drop n)
  | _, _, 0, r => r
  | _, _, _ + 1, .nil => .nil
  | _, _, n + 1, .cons _ r => Reps.drop n r
theorem Reps.snoc {ds : List D} {vs : List V} {d : D} {v : V} (r : Reps K φ ψ H ds vs) (h : Rep K φ ψ H d v) : Reps K φ ψ H (ds ++ [d]) (vs ++ [v]) := r.app (.cons h .nil)
theorem Reps.rev : ∀ {ds : List D} {vs : List V}, Reps K φ ψ H ds vs → Reps K φ ψ H ds.reverse vs.reverse
  | _, _, .nil => .nil
  | _, _, .cons h r => by rw [List.reverse_cons, List.reverse_cons]; exact (Reps.rev r).snoc h
/-! ### the changes -/
theorem ObjR.mono {a : Addr} {mo : MO} (p : Post φ ψ H φ' ψ' H') (R : Rel K tb φ ψ H m) (q : ObjR K φ ψ H a mo) (e : H' a = H a) : ObjR K φ' ψ' H' a mo := by
  cases mo with
  | rl b k =>
    have q' : ObjR K φ' ψ' H' a (.rl b k) := by
      obtain ⟨t, rfl⟩ := p.pre
      have hl := (List.getElem?_eq_some_iff.mp q.2).1
      refine ⟨(e.trans q.1).trans ?_, by rw [List.getElem?_append_left hl]; exact q.2⟩
      congr 2
      refine List.map_congr_left fun i hi => ?_
      rw [getD_of (l := φ) (l' := φ ++ t) (List.getElem?_append_left (by have := List.mem_range.mp hi; omega))]
    exact q'
  | lst ds => obtain ⟨vs, q1, q2⟩ := q; exact ⟨vs, e.trans q1, q2.mono p R⟩
  | dk kvs => obtain ⟨vs, q1, q2, q3⟩ := q; exact ⟨vs, e.trans q1, q2, q3.mono p R⟩
  | dt kvs => obtain ⟨vs, q1, q2, q3⟩ := q; exact ⟨vs, e.trans q1, q2, q3.mono p R⟩
theorem TabG.keep {p : Addr} (h : GxR.TabG H p) (e : H' p = H p) : GxR.TabG H' p := by
  obtain ⟨ps, q, r⟩ := h; exact ⟨ps, e.trans q, r⟩
theorem Rel.tsome {p : Addr} (R : Rel K tb φ ψ H m) (h : p ∈ tb) : H p ≠ none := by
  obtain ⟨ps, q, _⟩ := R.tab p h; rw [q]; exact fun z => nomatch z
theorem Rel.tnot {p : Addr} (R : Rel K tb φ ψ H m) (h : p ∈ tb) : p ∉ φ := by
  obtain ⟨ps, q, _⟩ := R.tab p h; exact R.ntbl q
/-- a new thing that never changes -/
theorem Post.lay {p : Addr} {o : HO} (h : H p = none) : Post φ ψ H φ ψ (upd H p o) :=
  ⟨List.prefix_refl _, fun _ z => .inl z, fun _ z => .inl z, fun b u _ e _ => by rw [upd_ne (ne_of_none e h)]; exact e, fun b z => by
    by_cases hb : b = p
    · rw [hb]; exact h
    · rw [upd_ne hb] at z; exact z⟩
theorem Rel.lay {p : Addr} {o : HO} (R : Rel K tb φ ψ H m) (h : H p = none) : Rel K tb φ ψ (upd H p o) m := by
  refine ⟨R.len, R.nd, fun n mo a e1 e2 => ?_, fun q hq => TabG.keep (R.tab q hq) (upd_ne fun z => R.tsome hq (z ▸ h)), fun q hq z => R.sd q hq ((Post.lay (φ := φ) (ψ := ψ) h).kp q z), R.ap⟩
  exact (R.obj n mo a e1 e2).mono (Post.lay h) R (upd_ne fun z => R.trk (List.mem_of_getElem? e2) (z ▸ h))
/-- a new thing that nobody else has -/
theorem Post.nw {p : Addr} {o : HO} (h : H p = none) : Post φ ψ H φ (p :: ψ) (upd H p o) :=
  ⟨List.prefix_refl _, fun _ z => .inl z, fun a z => by
    rcases List.mem_cons.mp z with z | z
    · rw [z]; exact .inr h
    · exact .inl z, (Post.lay (φ := φ) (ψ := ψ) h).frm, (Post.lay (φ := φ) (ψ := ψ) h).kp⟩
theorem Rel.nw {p : Addr} {o : HO} (R : Rel K tb φ ψ H m) (h : H p = none) : Rel K tb φ (p :: ψ) (upd H p o) m := by
  refine ⟨R.len, R.nd, fun n mo a e1 e2 => ?_, (R.lay (o := o) h).tab, fun q hq => ?_, fun q hq => ?_⟩
  · exact (R.obj n mo a e1 e2).mono (Post.nw h) R (upd_ne fun z => R.trk (List.mem_of_getElem? e2) (z ▸ h))
  · rcases List.mem_cons.mp hq with z | z
    · rw [z, upd_same]; exact fun z => nomatch z
    · exact (R.lay (o := o) h).sd q z
  · rcases List.mem_cons.mp hq with z | z
    · rw [z]; exact R.fresh h
    · exact R.ap q z
/-- it is a value from now on -/
theorem Rel.weak {p : Addr} (R : Rel K tb φ (p :: ψ) H m) : Rel K tb φ ψ H m :=
  ⟨R.len, R.nd, fun n mo a e1 e2 => (R.obj n mo a e1 e2).fewer fun b h1 h2 => ⟨h1, fun z => h2 (List.mem_cons_of_mem _ z)⟩, R.tab, fun q hq => R.sd q (List.mem_cons_of_mem _ hq), fun q hq => R.ap q (List.mem_cons_of_mem _ hq)⟩
theorem Post.weak {p : Addr} (P : Post φ ψ H φ' (p :: ψ') H') : Post φ ψ H φ' ψ' H' := ⟨P.pre, P.new, fun a z => P.side a (List.mem_cons_of_mem _ z), P.frm, P.kp⟩
theorem Rep.weak {p : Addr} {d : D} {v : V} (h : Rep K φ (p :: ψ) H d v) : Rep K φ ψ H d v := h.fewer fun b h1 h2 => ⟨h1, fun z => h2 (List.mem_cons_of_mem _ z)⟩
theorem Reps.weak {p : Addr} {d : List D} {v : List V} (h : Reps K φ (p :: ψ) H d v) : Reps K φ ψ H d v := h.fewer fun b h1 h2 => ⟨h1, fun z => h2 (List.mem_cons_of_mem _ z)⟩
/-- it comes into the memory -/
theorem nodup_snoc {p : Addr} (nd : φ.Nodup) (h : p ∉ φ) : (φ ++ [p]).Nodup := by
  rw [List.nodup_append]
  exact ⟨nd, by simp, fun a ha b hb => by rw [List.mem_singleton.mp hb]; exact fun z => h (z ▸ ha)⟩
theorem own_off {p : Addr} : ∀ a, a ∉ φ → a ∉ p :: ψ → a ∉ φ ++ [p] ∧ a ∉ ψ := fun a h1 h2 => ⟨fun z => by
    rcases List.mem_append.mp z with z | z
    · exact h1 z
    · rw [List.mem_singleton.mp z] at h2; exact h2 List.mem_cons_self, fun z => h2 (List.mem_cons_of_mem _ z)⟩
theorem Rel.own {p : Addr} {mo : MO} (R : Rel K tb φ (p :: ψ) H m) (hp : p ∉ ψ) (q : ObjR K φ (p :: ψ) H p mo) : Rel K tb (φ ++ [p]) ψ H (m ++ [mo]) := by
  have np := R.ap p List.mem_cons_self
  refine ⟨by simp [R.len], nodup_snoc R.nd np, fun n mo' a e1 e2 => ?_, R.tab, fun q hq => R.sd q (List.mem_cons_of_mem _ hq), fun q hq z => ?_⟩
  · rcases Nat.lt_trichotomy n m.length with hn | hn | hn
    · rw [List.getElem?_append_left hn] at e1
      rw [List.getElem?_append_left (by rw [R.len]; exact hn)] at e2
      exact (R.obj n mo' a e1 e2).fewer own_off fun _ k hk i hi => List.getElem?_append_left (by have := (List.getElem?_eq_some_iff.mp hk).1; omega)
    · subst hn
      rw [List.getElem?_append_right (Nat.le_refl _), Nat.sub_self] at e1
      rw [← R.len, List.getElem?_append_right (Nat.le_refl _), Nat.sub_self] at e2
      have e1' : mo = mo' := Option.some.inj e1
      have e2' : p = a := Option.some.inj e2
      rw [← e1', ← e2']; exact q.fewer own_off fun _ k hk => absurd (List.mem_of_getElem? hk) np
    · rw [List.getElem?_eq_none (by simp; omega)] at e1; cases e1
  · rcases List.mem_append.mp z with z | z
    · exact R.ap q (List.mem_cons_of_mem _ hq) z
    · rw [List.mem_singleton.mp z] at hq; exact hp hq
theorem Post.own {p : Addr} (P : Post φ ψ H φ' (p :: ψ) H') (hp : p ∉ ψ) : Post φ ψ H (φ' ++ [p]) ψ H' :=
  ⟨P.pre.trans (List.prefix_append _ _), fun a z => by
    rcases List.mem_append.mp z with z | z
    · exact P.new a z
    · rw [List.mem_singleton.mp z]
      rcases P.side p List.mem_cons_self with y | y
      · exact absurd y hp
      · exact .inr y, fun a z => .inl z, P.frm, P.kp⟩
/-- a thing changes -/
theorem Post.wr {a : Addr} {o : HO} (h : a ∈ φ) (hs : H a ≠ none) : Post φ ψ H φ ψ (upd H a o) :=
  ⟨List.prefix_refl _, fun _ z => .inl z, fun _ z => .inl z, fun b u hb e _ => by rw [upd_ne (fun z => hb (by rw [z]; exact h))]; exact e, fun b z => by
    by_cases hb : b = a
    · rw [hb, upd_same] at z; cases z
    · rw [upd_ne hb] at z; exact z⟩
theorem Rel.wr {a : Addr} {n : Nat} {o : HO} {mo : MO} (R : Rel K tb φ ψ H m) (h : φ[n]? = some a) (q : ObjR K φ ψ (upd H a o) a mo) : Rel K tb φ ψ (upd H a o) (m.set n mo) := by
  have ha : a ∈ φ := List.mem_of_getElem? h
  have P : Post φ ψ H φ ψ (upd H a o) := Post.wr (o := o) ha (R.trk ha)
  obtain ⟨hn, en⟩ := List.getElem?_eq_some_iff.mp h
  refine ⟨by simp [R.len], R.nd, fun k mo' b e1 e2 => ?_, fun q hq => TabG.keep (R.tab q hq) (upd_ne fun z => R.tnot hq (z ▸ ha)), fun q hq z => R.sd q hq (P.kp q z), R.ap⟩
  by_cases hk : k = n
  · subst hk
    rw [h] at e2; cases e2
    rw [List.getElem?_set_self (by rw [← R.len]; exact hn)] at e1
    cases e1; exact q
  · rw [List.getElem?_set_ne (Ne.symm hk)] at e1
    refine (R.obj k mo' b e1 e2).mono P R (upd_ne fun z => hk ?_)
    obtain ⟨hk2, ek⟩ := List.getElem?_eq_some_iff.mp e2
    exact (List.getElem_inj R.nd).mp (ek.trans (z.trans en.symm))
theorem Rel.wrL {a : Addr} {n : Nat} {ds : List D} {vs : List V} (R : Rel K tb φ ψ H m) (h : φ[n]? = some a) (r : Reps K φ ψ H ds vs) : Rel K tb φ ψ (upd H a (.lst vs)) (m.set n (.lst ds)) :=
  R.wr h ⟨vs, upd_same, r.mono (Post.wr (List.mem_of_getElem? h) (R.trk (List.mem_of_getElem? h))) R⟩
/-- a thing that nobody has changes -/
theorem Post.sdw {p : Addr} {o : HO} (h : p ∈ ψ) (hp : p ∉ φ) (hs : H p ≠ none) : ∀ {φ0 ψ0 : List Addr} {H0 : Hp}, Post φ0 ψ0 H0 φ ψ H → H0 p = none → Post φ0 ψ0 H0 φ ψ (upd H p o) := fun {φ0 ψ0 H0} P h0 =>
  ⟨P.pre, P.new, P.side, fun b u hb e ht => by rw [upd_ne (ne_of_none e h0)]; exact P.frm b u hb e ht, fun b z => by
    by_cases hb : b = p
    · rw [hb, upd_same] at z; cases z
    · rw [upd_ne hb] at z; exact P.kp b z⟩
theorem sd_sqT {p a : Addr} {vs xs : List V} {o : HO} (h : H p = some (.lst vs)) (q : SqT K H a xs) : SqT K (upd H p o) a xs := by
  rcases q with (q | ⟨o, q⟩) | q
  · exact .inl (.inl (by rw [upd_ne fun z => by rw [z, h] at q; cases q]; exact q))
  · exact .inl (.inr ⟨o, by rw [upd_ne fun z => by rw [z, h] at q; cases q]; exact q⟩)
  · exact .inr q
theorem sd_fz {p a : Addr} {vs xs : List V} {o : HO} (h : H p = some (.lst vs)) (q : Fz K H a xs) : Fz K (upd H p o) a xs := by
  rcases q with ⟨u, q⟩ | q
  · exact .inl ⟨u, by rw [upd_ne fun z => by rw [z, h] at q; cases q]; exact q⟩
  · exact .inr q
theorem Reps.sdw {p : Addr} {vs : List V} {o : HO} (hp : p ∈ ψ) (h : H p = some (.lst vs)) {ds : List D} {us : List V} (r : Reps K φ ψ H ds us) : Reps K φ ψ (upd H p o) ds us :=
  r.map (fun _ _ => sd_sqT h) (fun _ _ => sd_fz h) fun a xs h1 h2 q _ => ⟨h1, h2, by rw [upd_ne (fun z => h2 (by rw [z]; exact hp))]; exact q⟩
theorem Rep.sdw {p : Addr} {vs : List V} {o : HO} (hp : p ∈ ψ) (h : H p = some (.lst vs)) {d : D} {u : V} (r : Rep K φ ψ H d u) : Rep K φ ψ (upd H p o) d u :=
  r.map (fun _ _ => sd_sqT h) (fun _ _ => sd_fz h) fun a xs h1 h2 q _ => ⟨h1, h2, by rw [upd_ne (fun z => h2 (by rw [z]; exact hp))]; exact q⟩
theorem Rel.sdw {p : Addr} {vs : List V} {o : HO} (R : Rel K tb φ ψ H m) (hp : p ∈ ψ) (h : H p = some (.lst vs)) : Rel K tb φ ψ (upd H p o) m := by
  refine ⟨R.len, R.nd, fun n mo a e1 e2 => ?_, fun q hq => TabG.keep (R.tab q hq) (upd_ne fun z => by
    obtain ⟨ps, e, _⟩ := R.tab q hq
    rw [z, h] at e; cases e), fun q hq z => ?_, R.ap⟩
  · have ne : a ≠ p := fun z => R.ap p hp (z ▸ List.mem_of_getElem? e2)
    have q := R.obj n mo a e1 e2
    cases mo with
    | lst ds => obtain ⟨vs', q1, q2⟩ := q; exact ⟨vs', by rw [upd_ne ne]; exact q1, q2.sdw hp h⟩
    | dk kvs => obtain ⟨vs', q1, q2, q3⟩ := q; exact ⟨vs', by rw [upd_ne ne]; exact q1, q2, q3.sdw hp h⟩
    | dt kvs => obtain ⟨vs', q1, q2, q3⟩ := q; exact ⟨vs', by rw [upd_ne ne]; exact q1, q2, q3.sdw hp h⟩
    | rl b k => exact ⟨by rw [upd_ne ne]; exact q.1, q.2⟩
  · by_cases hb : q = p
    · rw [hb, upd_same] at z; cases z
    · rw [upd_ne hb] at z; exact R.sd q hq z
end
/-! ### what stands for what -/
def stl : W → W
  | .f d => .v d
  | w => w
def RepS (K : FRG) (φ ψ : List Addr) (H : Hp) : W → V → Prop
  | .v d, v => Rep K φ ψ H d v
  | .f d, v => Rep K φ ψ H d v
  | .r n, v => ∃ a, φ[n]? = some a ∧ v = .ref a
def moD : MO → D
  | .lst ds => .lst ds
  | .dk kvs => .dk kvs
  | .dt kvs => .dt kvs
  | .rl b k => .rl b k
def dMO : D → Option MO
  | .lst ds => some (.lst ds)
  | .dk kvs => some (.dk kvs)
  | .dt kvs => some (.dt kvs)
  | _ => none
/-- beside what is known (ψ), ψ' has the new one alone -/
def RepW (K : FRG) (φ ψ ψ' : List Addr) (H : Hp) : W → V → Prop
  | .v d, v => ψ' = ψ ∧ Rep K φ ψ H d v
  | .r n, v => ψ' = ψ ∧ ∃ a, φ[n]? = some a ∧ v = .ref a
  | .f d, v => ∃ p mo, v = .ref p ∧ ψ' = p :: ψ ∧ p ∉ ψ ∧ d = moD mo ∧ ObjR K φ (p :: ψ) H p mo
section
variable {K : FRG} {tb φ φ1 φ2 φ' ψ ψ1 ψ2 ψ' : List Addr} {H H1 H2 H' : Hp} {m : Mem} {w : W} {v : V}
theorem ObjR.rep {p : Addr} {mo : MO} (h1 : p ∉ φ) (h2 : p ∉ ψ) (q : ObjR K φ ψ H p mo) : Rep K φ ψ H (moD mo) (.ref p) := by
  cases mo with
  | lst ds => obtain ⟨vs, q1, q2⟩ := q; exact .lst h1 h2 q1 q2
  | dk kvs => obtain ⟨vs, q1, q2, q3⟩ := q; exact .dk h1 h2 q1 q2 q3
  | dt kvs => obtain ⟨vs, q1, q2, q3⟩ := q; exact .dt h1 h2 q1 q2 q3
  | rl b k => exact absurd (List.mem_of_getElem? q.2) h1
theorem RepW.rel (h : RepW K φ ψ ψ' H w v) (R : Rel K tb φ ψ' H m) : Rel K tb φ ψ H m := by
  cases w with
  | v d => obtain ⟨rfl, _⟩ := h; exact R
  | r n => obtain ⟨rfl, _⟩ := h; exact R
  | f d => obtain ⟨p, mo, _, rfl, _⟩ := h; exact R.weak
theorem RepW.post {φ0 : List Addr} {H0 : Hp} (h : RepW K φ ψ ψ' H w v) (P : Post φ0 ψ H0 φ ψ' H) : Post φ0 ψ H0 φ ψ H := by
  cases w with
  | v d => obtain ⟨rfl, _⟩ := h; exact P
  | r n => obtain ⟨rfl, _⟩ := h; exact P
  | f d => obtain ⟨p, mo, _, rfl, _⟩ := h; exact P.weak
theorem RepW.s (h : RepW K φ ψ ψ' H w v) (R : Rel K tb φ ψ' H m) : RepS K φ ψ H w v := by
  cases w with
  | v d => exact h.2
  | r n => exact h.2
  | f d =>
    obtain ⟨p, mo, rfl, rfl, np, rfl, q⟩ := h
    exact (q.fewer fun b h1 h2 => ⟨h1, fun z => h2 (List.mem_cons_of_mem _ z)⟩).rep (R.ap p List.mem_cons_self) np
theorem RepS.stl (h : RepS K φ ψ H w v) : RepS K φ ψ H (Pw.stl w) v := by cases w <;> exact h
theorem RepS.mono (p : Post φ ψ H φ' ψ' H') (R : Rel K tb φ ψ H m) (h : RepS K φ ψ H w v) : RepS K φ' ψ' H' w v := by
  cases w with
  | v d => exact Rep.mono p R h
  | f d => exact Rep.mono p R h
  | r n => obtain ⟨a, e, q⟩ := h; exact ⟨a, pre_get p.pre e, q⟩
theorem RepS.fewer (h : ∀ a, a ∉ φ → a ∉ ψ → a ∉ φ ∧ a ∉ ψ') (q : RepS K φ ψ H w v) : RepS K φ ψ' H w v := by
  cases w with
  | v d => exact Rep.fewer h q
  | f d => exact Rep.fewer h q
  | r n => exact q
end
inductive RepSs (K : FRG) (φ ψ : List Addr) (H : Hp) : List W → List V → Prop
  | nil : RepSs K φ ψ H [] []
  | cons {w : W} {v : V} {ws : List W} {vs : List V} : RepS K φ ψ H w v → RepSs K φ ψ H ws vs → RepSs K φ ψ H (w :: ws) (v :: vs)
theorem RepSs.mono {K : FRG} {tb φ φ' ψ ψ' : List Addr} {H H' : Hp} {m : Mem} (p : Post φ ψ H φ' ψ' H') (R : Rel K tb φ ψ H m) {ws : List W} {vs : List V} (h : RepSs K φ ψ H ws vs) : RepSs K φ' ψ' H' ws vs := by
  induction h with
  | nil => exact .nil
  | cons h r ih => exact .cons (h.mono p R) ih
theorem RepSs.length {K : FRG} {φ ψ : List Addr} {H : Hp} {ws : List W} {vs : List V} (h : RepSs K φ ψ H ws vs) : ws.length = vs.length := by
  induction h with
  | nil => rfl
  | cons h r ih => simp [ih]
theorem RepSs.get {K : FRG} {φ ψ : List Addr} {H : Hp} {ws : List W} {vs : List V} (h : RepSs K φ ψ H ws vs) : ∀ {i : Nat} {w : W}, ws[i]? = some w → ∃ v, vs[i]? = some v ∧ RepS K φ ψ H w v := by
  induction h with
  | nil => intro i w e; simp at e
  | cons h r ih =>
    intro i w e
    cases i with
    | zero => simp at e; subst e; exact ⟨_, rfl, h⟩
    | succ i => obtain ⟨v, h1, h2⟩ := ih (i := i) (w := w) (by simpa using e); exact ⟨v, by simpa using h1, h2⟩
/-! ### what a thing is now -/
def gt : W → Mem → Option D
  | .v d, _ => some d
  | .f d, _ => some d
  | .r n, m => (m[n]?).map moD
def RepC (K : FRG) (φ ψ : List Addr) (H : Hp) (d : D) (v : V) : Prop := Rep K φ ψ H d v ∨ ∃ a mo, v = .ref a ∧ d = moD mo ∧ ObjR K φ ψ H a mo
section
variable {K : FRG} {tb φ ψ : List Addr} {H : Hp} {m : Mem} {w : W} {v : V} {d : D}
theorem gt_c (R : Rel K tb φ ψ H m) (h : RepS K φ ψ H w v) (e : gt w m = some d) : RepC K φ ψ H d v := by
  cases w with
  | v d' => cases e; exact .inl h
  | f d' => cases e; exact .inl h
  | r n =>
    obtain ⟨a, e1, rfl⟩ := h
    obtain ⟨mo, e2, rfl⟩ := Option.map_eq_some_iff.mp e
    exact .inr ⟨a, mo, rfl, rfl, R.obj n mo a e2 e1⟩
theorem RepC.lst {ds : List D} (h : RepC K φ ψ H (.lst ds) v) : ∃ a vs, v = .ref a ∧ H a = some (.lst vs) ∧ Reps K φ ψ H ds vs := by
  rcases h with h | ⟨a, mo, rfl, e, q⟩
  · cases h with
    | lst h1 h2 h3 r => exact ⟨_, _, rfl, h3, r⟩
  · cases mo with
    | lst es => cases e; obtain ⟨vs, q1, q2⟩ := q; exact ⟨_, _, rfl, q1, q2⟩
    | dk es => cases e
    | dt es => cases e
    | rl b k => cases e
theorem RepC.fl {ds : List D} (h : RepC K φ ψ H (.fl ds) v) : ∃ a vs, v = .ref a ∧ SqL K H a vs ∧ Reps K φ ψ H ds vs := by
  rcases h with h | ⟨a, mo, rfl, e, q⟩
  · cases h with
    | fl h r => exact ⟨_, _, rfl, h.sq, r⟩
  · cases mo <;> cases e
theorem RepC.tup {ds : List D} (h : RepC K φ ψ H (.tup ds) v) : ∃ a vs, v = .ref a ∧ SqT K H a vs ∧ Reps K φ ψ H ds vs := by
  rcases h with h | ⟨a, mo, rfl, e, q⟩
  · cases h with
    | tup h r => exact ⟨_, _, rfl, h, r⟩
  · cases mo <;> cases e
theorem RepC.dk {kvs : List (Key × D)} (h : RepC K φ ψ H (.dk kvs) v) : ∃ (a : Addr) (vs : List (Key × V)), v = .ref a ∧ H a = some (.dK vs) ∧ kvs.map (·.1) = vs.map (·.1) ∧ Reps K φ ψ H (kvs.map (·.2)) (vs.map (·.2)) := by
  rcases h with h | ⟨a, mo, rfl, e, q⟩
  · cases h with
    | dk h1 h2 h3 h4 r => exact ⟨_, _, rfl, h3, h4, r⟩
  · cases mo with
    | lst es => cases e
    | dk es => cases e; obtain ⟨vs, q1, q2, q3⟩ := q; exact ⟨_, _, rfl, q1, q2, q3⟩
    | dt es => cases e
    | rl b k => cases e
theorem RepC.dt {kvs : List (List Key × D)} (h : RepC K φ ψ H (.dt kvs) v) : ∃ (a : Addr) (vs : List (List Key × V)), v = .ref a ∧ H a = some (.dT vs) ∧ kvs.map (·.1) = vs.map (·.1) ∧ Reps K φ ψ H (kvs.map (·.2)) (vs.map (·.2)) := by
  rcases h with h | ⟨a, mo, rfl, e, q⟩
  · cases h with
    | dt h1 h2 h3 h4 r => exact ⟨_, _, rfl, h3, h4, r⟩
  · cases mo with
    | lst es => cases e
    | dk es => cases e
    | dt es => cases e; obtain ⟨vs, q1, q2, q3⟩ := q; exact ⟨_, _, rfl, q1, q2, q3⟩
    | rl b k => cases e
theorem RepC.int {i : Int} (h : RepC K φ ψ H (.int i) v) : v = .int i := by
  rcases h with h | ⟨a, mo, rfl, e, q⟩
  · cases h; rfl
  · cases mo <;> cases e
theorem RepC.bl {i : Bool} (h : RepC K φ ψ H (.bl i) v) : v = .bl i := by
  rcases h with h | ⟨a, mo, rfl, e, q⟩
  · cases h; rfl
  · cases mo <;> cases e
theorem RepC.str {i : Str} (h : RepC K φ ψ H (.str i) v) : v = .str i := by
  rcases h with h | ⟨a, mo, rfl, e, q⟩
  · cases h; rfl
  · cases mo <;> cases e
theorem RepC.non (h : RepC K φ ψ H .non v) : v = .non := by
  rcases h with h | ⟨a, mo, rfl, e, q⟩
  · cases h; rfl
  · cases mo <;> cases e
end
/-! ### what a piece of the text means -/
abbrev Ex := Env → Mem → Option (W × Mem)
abbrev Tx := Env → Mem → Option (Bool × Mem)
abbrev Ax := Env → Mem → Option (List W × Mem)
inductive Out where
  | nx | ret (w : W) | bk | ct
abbrev Sx := Env → Mem → Option (Out × Env × Mem)
structure RE (K : FRG) (φ ψ : List Addr) (H : Hp) (ρ : Env) (σ : L2.St) : Prop where
  val : ∀ (i : Nat) (w : W), ρ[i]? = some (some w) → ∃ v, σ[i]? = some (some v) ∧ RepS K φ ψ H w v
  len : ρ.length = σ.length
theorem RE.mono {K : FRG} {tb φ φ' ψ ψ' : List Addr} {H H' : Hp} {m : Mem} {ρ : Env} {σ : L2.St} (p : Post φ ψ H φ' ψ' H') (R : Rel K tb φ ψ H m) (e : RE K φ ψ H ρ σ) : RE K φ' ψ' H' ρ σ :=
  ⟨fun i d h => let ⟨v, h1, h2⟩ := e.val i d h; ⟨v, h1, h2.mono p R⟩, e.len⟩
theorem RE.set {K : FRG} {φ ψ : List Addr} {H : Hp} {ρ : Env} {σ : L2.St} {d : W} {v : V} (e : RE K φ ψ H ρ σ) (i : Nat) (h : RepS K φ ψ H d v) : RE K φ ψ H (ρ.set i (some d)) (σ.set i (some v)) := by
  refine ⟨fun j x hj => ?_, by simp [e.len]⟩
  by_cases hij : i = j
  · subst hij
    have hl : i < (ρ.set i (some d)).length := (List.getElem?_eq_some_iff.mp hj).1
    rw [List.length_set] at hl
    rw [List.getElem?_set_self hl] at hj
    cases hj
    exact ⟨v, by rw [List.getElem?_set_self (by rw [← e.len]; exact hl)], h⟩
  · rw [List.getElem?_set_ne hij] at hj
    rw [List.getElem?_set_ne hij]
    exact e.val j x hj
theorem RE.wipe1 {K : FRG} {φ ψ : List Addr} {H : Hp} {ρ : Env} {σ : L2.St} (e : RE K φ ψ H ρ σ) (i : Nat) : RE K φ ψ H (ρ.set i none) (σ.set i none) := by
  refine ⟨fun j x hj => ?_, by simp [e.len]⟩
  by_cases hij : i = j
  · subst hij
    have hl : i < (ρ.set i none).length := (List.getElem?_eq_some_iff.mp hj).1
    rw [List.length_set] at hl
    rw [List.getElem?_set_self hl] at hj
    cases hj
  · rw [List.getElem?_set_ne hij] at hj
    rw [List.getElem?_set_ne hij]
    exact e.val j x hj
/-- forgetting -/
theorem RE.fog1 {K : FRG} {φ ψ : List Addr} {H : Hp} {ρ : Env} {σ : L2.St} (e : RE K φ ψ H ρ σ) (i : Nat) : RE K φ ψ H (ρ.set i none) σ := by
  refine ⟨fun j x hj => ?_, by simp [e.len]⟩
  by_cases hij : i = j
  · subst hij
    have hl : i < (ρ.set i none).length := (List.getElem?_eq_some_iff.mp hj).1
    rw [List.length_set] at hl
    rw [List.getElem?_set_self hl] at hj
    cases hj
  · rw [List.getElem?_set_ne hij] at hj
    exact e.val j x hj
def wipeD (ρ : Env) : List Nat → Env
  | [] => ρ
  | v :: vs => (wipeD ρ vs).set v none
theorem RE.wipe {K : FRG} {φ ψ : List Addr} {H : Hp} {ρ : Env} {σ : L2.St} (e : RE K φ ψ H ρ σ) : ∀ vs : List Nat, RE K φ ψ H (wipeD ρ vs) (L2.wipe σ vs)
  | [] => e
  | v :: vs => (RE.wipe e vs).wipe1 v
theorem RE.fog {K : FRG} {φ ψ : List Addr} {H : Hp} {ρ : Env} {σ : L2.St} (e : RE K φ ψ H ρ σ) : ∀ vs : List Nat, RE K φ ψ H (wipeD ρ vs) σ
  | [] => e
  | v :: vs => (RE.fog e vs).fog1 v
section
variable (K : FRG) (tb : List Addr)
/-- what follows: from here on the memory m', the value w -/
abbrev Go (φ ψ : List Addr) (H : Hp) (m' : Mem) (w : W) (Q : VK) : Prop := ∀ φ' ψ' H' v, Post φ ψ H φ' ψ' H' → Rel K tb φ' ψ' H' m' → RepW K φ' ψ ψ' H' w v → Q v H'
abbrev GoT (φ ψ : List Addr) (H : Hp) (m' : Mem) (b : Bool) (Q : Bool → Hp → Prop) : Prop := ∀ φ' H', Post φ ψ H φ' ψ H' → Rel K tb φ' ψ H' m' → Q b H'
abbrev GoA (φ ψ : List Addr) (H : Hp) (m' : Mem) (ds : List W) (Q : List V → Hp → Prop) : Prop := ∀ φ' H' vs, Post φ ψ H φ' ψ H' → Rel K tb φ' ψ H' m' → RepSs K φ' ψ H' ds vs → Q vs H'
def T (f : Ex) : TE := fun σ H Q => ∃ φ ψ ρ m w m', Rel K tb φ ψ H m ∧ RE K φ ψ H ρ σ ∧ f ρ m = some (w, m') ∧ Go K tb φ ψ H m' w Q
def Tt (f : Tx) : TT := fun σ H Q => ∃ φ ψ ρ m b m', Rel K tb φ ψ H m ∧ RE K φ ψ H ρ σ ∧ f ρ m = some (b, m') ∧ GoT K tb φ ψ H m' b Q
def Ta (f : Ax) : TA := fun σ H Q => ∃ φ ψ ρ m ds m', Rel K tb φ ψ H m ∧ RE K φ ψ H ρ σ ∧ f ρ m = some (ds, m') ∧ GoA K tb φ ψ H m' ds Q
def OutK (φ' ψ ψ' : List Addr) (H' : Hp) (E : Ends) (ρ' : Env) : Out → Prop
  | .nx => ψ' = ψ → ∀ σ', RE K φ' ψ H' ρ' σ' → E.nx σ' H'
  | .bk => ψ' = ψ → ∀ σ', RE K φ' ψ H' ρ' σ' → E.bk σ' H'
  | .ct => ψ' = ψ → ∀ σ', RE K φ' ψ H' ρ' σ' → E.ct σ' H'
  | .ret w => ∀ v, RepW K φ' ψ ψ' H' w v → E.rt v H'
def Ts (g : Sx) : TS := fun E σ H => ∃ φ ψ ρ m o ρ' m', Rel K tb φ ψ H m ∧ RE K φ ψ H ρ σ ∧ g ρ m = some (o, ρ', m') ∧ ∀ φ' ψ' H', Post φ ψ H φ' ψ' H' → Rel K tb φ' ψ' H' m' → OutK K φ' ψ ψ' H' E ρ' o
end
theorem pe_mono {X : Cx} {e : Expr} {t t' : TE} (h : PE X e t) (i : ∀ σ H Q, t' σ H Q → t σ H Q) : PE X e t' := ⟨fun pins s σ H Q I q => h.run pins s σ H Q I (i σ H Q q)⟩
theorem pt_mono {X : Cx} {e : Expr} {t t' : TT} (h : PT X e t) (i : ∀ σ H Q, t' σ H Q → t σ H Q) : PT X e t' := ⟨fun pins s σ H Q I q => h.run pins s σ H Q I (i σ H Q q)⟩
theorem pa_mono {X : Cx} {e : List Expr} {t t' : TA} (h : PA X e t) (i : ∀ σ H Q, t' σ H Q → t σ H Q) : PA X e t' := ⟨fun pos pins s σ H Q I q => h.run pos pins s σ H Q I (i σ H Q q)⟩
theorem ps_mono {X : Cx} {e : Stmt} {t t' : TS} (h : PS X e t) (i : ∀ D σ H, t' D σ H → t D σ H) : PS X e t' := ⟨fun pins s σ H D I q => h.run pins s σ H D I (i D σ H q)⟩
theorem pss_mono {X : Cx} {e : List Stmt} {t t' : TS} (h : PSs X e t) (i : ∀ D σ H, t' D σ H → t D σ H) : PSs X e t' := ⟨fun pins s σ H D I q => h.run pins s σ H D I (i D σ H q)⟩
end Pw
end
section
set_option Elab.async false
set_option linter.all false
set_option maxRecDepth 100000
set_option maxHeartbeats 1000000
/-! Expressions and tests. -/
namespace Pw
open PySem PySem.Spec PyProof.Rows L2
theorem small {n : Nat} (h : n ≤ 1000000) : n ≤ sizeLine := Nat.le_trans h (by rw [sizeLine_eq]; decide)
theorem smallT {n : Nat} (h : n < 1000000) : n < sizeLine := Nat.lt_of_lt_of_le h (by rw [sizeLine_eq]; decide)
theorem bnd {α β : Type} {o : Option α} {f : α → Option β} {b : β} (h : o.bind f = some b) : ∃ a, o = some a ∧ f a = some b := Option.bind_eq_some_iff.mp h
inductive RepCs (K : FRG) (φ ψ : List Addr) (H : Hp) : List D → List V → Prop
  | nil : RepCs K φ ψ H [] []
  | cons {d : D} {v : V} {ds : List D} {vs : List V} : RepC K φ ψ H d v → RepCs K φ ψ H ds vs → RepCs K φ ψ H (d :: ds) (v :: vs)
def gts : List W → Mem → Option (List D)
  | [], _ => some []
  | w :: ws, m => (gt w m).bind fun d => (gts ws m).bind fun ds => some (d :: ds)
/-- values, to be put into something -/
def vls : List W → Option (List D)
  | [] => some []
  | .v d :: ws => (vls ws).bind fun ds => some (d :: ds)
  | .f d :: ws => (vls ws).bind fun ds => some (d :: ds)
  | .r _ :: _ => none
section
variable {K : FRG} {tb φ ψ : List Addr} {H : Hp} {m : Mem}
theorem gts_c (R : Rel K tb φ ψ H m) {ws : List W} {vs : List V} (h : RepSs K φ ψ H ws vs) : ∀ {ds : List D}, gts ws m = some ds → RepCs K φ ψ H ds vs := by
  induction h with
  | nil => intro ds e; cases e; exact .nil
  | cons h r ih =>
    intro ds e
    obtain ⟨d, e1, e⟩ := bnd e
    obtain ⟨es, e2, e⟩ := bnd e
    cases e
    exact .cons (gt_c R h e1) (ih e2)
theorem vls_c {ws : List W} {vs : List V} (h : RepSs K φ ψ H ws vs) : ∀ {ds : List D}, vls ws = some ds → Reps K φ ψ H ds vs := by
  induction h with
  | nil => intro ds e; cases e; exact .nil
  | @cons w v ws vs h r ih =>
    intro ds e
    cases w with
    | v d => obtain ⟨es, e2, e⟩ := bnd (show (vls ws).bind _ = _ from e); cases e; exact .cons h (ih e2)
    | f d => obtain ⟨es, e2, e⟩ := bnd (show (vls ws).bind _ = _ from e); cases e; exact .cons h (ih e2)
    | r n => cases e
end
section
variable (K : FRG) (tb : List Addr)
def OpS (r : R2) (g : D → D → Option W) : Prop := ∀ φ ψ H m x y dx dy w Q, Rel K tb φ ψ H m → RepC K φ ψ H dx x → RepC K φ ψ H dy y → g dx dy = some w → Go K tb φ ψ H m w Q → r x y H Q
def UnS (r : V → Hp → VK → Prop) (g : D → Option W) : Prop := ∀ φ ψ H m x dx w Q, Rel K tb φ ψ H m → RepC K φ ψ H dx x → g dx = some w → Go K tb φ ψ H m w Q → r x H Q
def CallS (r : List V → Hp → VK → Prop) (g : List D → Option W) : Prop := ∀ φ ψ H m vs ds w Q, Rel K tb φ ψ H m → RepCs K φ ψ H ds vs → g ds = some w → Go K tb φ ψ H m w Q → r vs H Q
/-- a method of one that changes -/
def MtS (r : V → List V → Hp → VK → Prop) (g : W → List W → Mem → Option (W × Mem)) : Prop := ∀ φ ψ H m x vs w ws w' m' Q, Rel K tb φ ψ H m → RepS K φ ψ H w x → RepSs K φ ψ H ws vs → g w ws m = some (w', m') → Go K tb φ ψ H m' w' Q → r x vs H Q
end
/-! what comes out -/
section
variable {K : FRG} {tb φ ψ : List Addr} {H : Hp} {m : Mem} {Q : VK}
theorem Go.val {d : D} {v : V} (k : Go K tb φ ψ H m (.v d) Q) (R : Rel K tb φ ψ H m) (h : Rep K φ ψ H d v) : Q v H := k φ ψ H v .refl R ⟨rfl, h⟩
theorem Go.tup {ds : List D} {vs : List V} {p : Addr} (k : Go K tb φ ψ H m (.v (.tup ds)) Q) (R : Rel K tb φ ψ H m) (h : Reps K φ ψ H ds vs) (hp : H p = none) : Q (.ref p) (upd H p (.tup vs)) :=
  k φ ψ _ _ (Post.lay hp) (R.lay hp) ⟨rfl, .tup (SqT.of upd_same) (h.mono (Post.lay hp) R)⟩
theorem Go.lst {ds : List D} {vs : List V} {p : Addr} (k : Go K tb φ ψ H m (.f (.lst ds)) Q) (R : Rel K tb φ ψ H m) (h : Reps K φ ψ H ds vs) (hp : H p = none) : Q (.ref p) (upd H p (.lst vs)) :=
  k φ (p :: ψ) _ _ (Post.nw hp) (R.nw hp) ⟨p, .lst ds, rfl, rfl, R.freshS hp, rfl, vs, upd_same, h.mono (Post.nw hp) R⟩
theorem Go.dt {kvs : List (List Key × D)} {vs : List (List Key × V)} {p : Addr} (k : Go K tb φ ψ H m (.f (.dt kvs)) Q) (R : Rel K tb φ ψ H m) (hk : kvs.map (·.1) = vs.map (·.1)) (h : Reps K φ ψ H (kvs.map (·.2)) (vs.map (·.2))) (hp : H p = none) : Q (.ref p) (upd H p (.dT vs)) :=
  k φ (p :: ψ) _ _ (Post.nw hp) (R.nw hp) ⟨p, .dt kvs, rfl, rfl, R.freshS hp, rfl, vs, upd_same, hk, h.mono (Post.nw hp) R⟩
theorem Go.dk {kvs : List (Key × D)} {vs : List (Key × V)} {p : Addr} (k : Go K tb φ ψ H m (.f (.dk kvs)) Q) (R : Rel K tb φ ψ H m) (hk : kvs.map (·.1) = vs.map (·.1)) (h : Reps K φ ψ H (kvs.map (·.2)) (vs.map (·.2))) (hp : H p = none) : Q (.ref p) (upd H p (.dK vs)) :=
  k φ (p :: ψ) _ _ (Post.nw hp) (R.nw hp) ⟨p, .dk kvs, rfl, rfl, R.freshS hp, rfl, vs, upd_same, hk, h.mono (Post.nw hp) R⟩
end
/-! ### the forms -/
def eVar (i : Nat) : Ex := fun ρ m => match ρ[i]? with
  | some (some w) => some (stl w, m)
  | _ => none
def eC (d : D) : Ex := fun _ m => some (.v d, m)
def eOp (g : D → D → Option W) (a b : Ex) : Ex := fun ρ m => (a ρ m).bind fun p => (b ρ p.2).bind fun q => (gt p.1 q.2).bind fun x => (gt q.1 q.2).bind fun y => (g x y).bind fun w => some (w, q.2)
def eUn (g : D → Option W) (a : Ex) : Ex := fun ρ m => (a ρ m).bind fun p => (gt p.1 p.2).bind fun x => (g x).bind fun w => some (w, p.2)
def aNil : Ax := fun _ m => some ([], m)
def aCons (a : Ex) (b : Ax) : Ax := fun ρ m => (a ρ m).bind fun p => (b ρ p.2).bind fun q => some (stl p.1 :: q.1, q.2)
def eCB (g : List D → Option W) (a : Ax) : Ex := fun ρ m => (a ρ m).bind fun p => (gts p.1 p.2).bind fun ds => (g ds).bind fun w => some (w, p.2)
def eMt (ck : W → Mem → Bool) (g : W → List W → Mem → Option (W × Mem)) (o : Ex) (a : Ax) : Ex := fun ρ m => (o ρ m).bind fun p => if ck p.1 p.2 = true then (a ρ p.2).bind fun q => g p.1 q.1 q.2 else none
def eTup (a : Ax) : Ex := fun ρ m => (a ρ m).bind fun p => (vls p.1).bind fun ds => if ds.length ≤ 1000000 then some (.v (.tup ds), p.2) else none
def eLst (a : Ax) : Ex := fun ρ m => (a ρ m).bind fun p => (vls p.1).bind fun ds => if ds.length ≤ 1000000 then some (.f (.lst ds), p.2) else none
def blD : D → Option Bool
  | .bl b => some b
  | _ => none
def tVal (a : Ex) : Tx := fun ρ m => (a ρ m).bind fun p => (gt p.1 p.2).bind fun d => (blD d).bind fun b => some (b, p.2)
def truD : D → Option Bool
  | .non => some false
  | .bl b => some b
  | .int i => some (i != 0)
  | .tup ds => some (!ds.isEmpty)
  | .fl ds => some (!ds.isEmpty)
  | .lst ds => some (!ds.isEmpty)
  | .dk kvs => some (!kvs.isEmpty)
  | _ => none
def tTru (a : Ex) : Tx := fun ρ m => (a ρ m).bind fun p => (gt p.1 p.2).bind fun d => (truD d).bind fun b => some (b, p.2)
def tAnd' (a b : Tx) : Tx := fun ρ m => (a ρ m).bind fun p => if p.1 = true then b ρ p.2 else some (false, p.2)
def tOr' (a b : Tx) : Tx := fun ρ m => (a ρ m).bind fun p => if p.1 = true then some (true, p.2) else b ρ p.2
def tNot' (a : Tx) : Tx := fun ρ m => (a ρ m).bind fun p => some (!p.1, p.2)
def eIf (t : Tx) (a b : Ex) : Ex := fun ρ m => (t ρ m).bind fun p => if p.1 = true then a ρ p.2 else b ρ p.2
/-- a op b op' c -/
def eChain (g g' : D → D → Option W) (a b c : Ex) : Ex := fun ρ m => (a ρ m).bind fun p => (b ρ p.2).bind fun q => (gt p.1 q.2).bind fun x => (gt q.1 q.2).bind fun y => (g x y).bind fun z => match z with
  | .v (.bl true) => (c ρ q.2).bind fun u => (gt q.1 u.2).bind fun y => (gt u.1 u.2).bind fun z => (g' y z).bind fun w => some (w, u.2)
  | .v (.bl false) => some (.v (.bl false), q.2)
  | _ => none
def eAnd (a b : Ex) : Ex := fun ρ m => (tVal a ρ m).bind fun p => if p.1 = true then b ρ p.2 else some (.v (.bl false), p.2)
def eOr (a b : Ex) : Ex := fun ρ m => (tVal a ρ m).bind fun p => if p.1 = true then some (.v (.bl true), p.2) else b ρ p.2
def eNot (a : Ex) : Ex := fun ρ m => (tVal a ρ m).bind fun p => some (.v (.bl (!p.1)), p.2)
section
variable {X : Cx} {tb : List Addr} {a b c : Expr} {fa fb fc : Ex} {ta : Tx} {tb' : Tx} {pos : Pos}
theorem RepS.w {K : FRG} {φ ψ : List Addr} {H : Hp} {w : W} {v : V} (h : RepS K φ ψ H w v) : RepW K φ ψ ψ H (Pw.stl w) v := by
  cases w with
  | v d => exact ⟨rfl, h⟩
  | f d => exact ⟨rfl, h⟩
  | r n => exact ⟨rfl, h⟩
theorem ex_var (i : Nat) {x : Str} (hN : X.N[i]? = some x := by rfl) (hv : Vis X.env.scope x := by first | exact Or.inl rfl | exact Or.inr (Or.inl rfl) | exact Or.inr (Or.inr rfl)) (hd : (x == ("__debug__" : Str)) = false := by decide)
    (hcd : (x == ("__classdict__" : Str)) = false := by decide) : PE X (.Name x pos) (T X.K tb (eVar i)) := by
  refine pe_mono (pe_var hN hv hd hcd) fun σ H Q h => ?_
  obtain ⟨φ, ψ, ρ, m, w, m', R, E, e, k⟩ := h
  unfold eVar at e
  split at e
  · rename_i w' hw
    cases e
    obtain ⟨v, h1, h2⟩ := E.val i _ hw
    exact ⟨v, h1, k φ ψ H v .refl R h2.w⟩
  · cases e
theorem ex_int {i : Int} {j : Nat} : PE X (.Constant (.int i) j pos) (T X.K tb (eC (.int i))) := pe_mono pe_int fun σ H Q ⟨φ, ψ, ρ, m, w, m', R, E, e, k⟩ => by
  cases e; exact Go.val k R (.int i)
theorem ex_bl {i : Bool} {j : Nat} : PE X (.Constant (.bool i) j pos) (T X.K tb (eC (.bl i))) := pe_mono pe_bl fun σ H Q ⟨φ, ψ, ρ, m, w, m', R, E, e, k⟩ => by
  cases e; exact Go.val k R (.bl i)
theorem ex_str {i : Str} {j : Nat} : PE X (.Constant (.str i) j pos) (T X.K tb (eC (.str i))) := pe_mono pe_str fun σ H Q ⟨φ, ψ, ρ, m, w, m', R, E, e, k⟩ => by
  cases e; exact Go.val k R (.str i)
theorem ex_non {j : Nat} : PE X (.Constant .none j pos) (T X.K tb (eC .non)) := pe_mono pe_non fun σ H Q ⟨φ, ψ, ρ, m, w, m', R, E, e, k⟩ => by
  cases e; exact Go.val k R .non
/-- two in a row, then an operation -/
theorem op_go {r : R2} {g : D → D → Option W} (hs : OpS X.K tb r g) {σ : L2.St} {H : Hp} {Q : VK} (h : T X.K tb (eOp g fa fb) σ H Q) : tOp r (T X.K tb fa) (T X.K tb fb) σ H Q := by
  obtain ⟨φ, ψ, ρ, m, w, m', R, E, e, k⟩ := h
  obtain ⟨⟨w1, m1⟩, e1, e⟩ := bnd e
  obtain ⟨⟨w2, m2⟩, e2, e⟩ := bnd e
  obtain ⟨x, ex, e⟩ := bnd e
  obtain ⟨y, ey, e⟩ := bnd e
  obtain ⟨w3, eg, e⟩ := bnd e
  cases e
  refine ⟨φ, ψ, ρ, m, w1, m1, R, E, e1, fun φ1 ψ1 H1 xv P1 R1 V1 => ⟨φ1, ψ, ρ, m1, w2, m2, V1.rel R1, E.mono (V1.post P1) R, e2, fun φ2 ψ2 H2 yv P2 R2 V2 => ?_⟩⟩
  have R2' := V2.rel R2
  have P2' := V2.post P2
  exact hs φ2 ψ H2 m2 xv yv x y w Q R2' (gt_c R2' ((V1.s R1).mono P2' (V1.rel R1)) ex) (gt_c R2' (V2.s R2) ey) eg fun φ3 ψ3 H3 v P3 R3 V3 => k φ3 ψ3 H3 v ((V1.post P1).trans (P2'.trans P3)) R3 V3
theorem ex_op {op : Operator} {r : R2} {g : D → D → Option W} (ho : OpR X (binaryOp op) r) (hs : OpS X.K tb r g) (ha : PE X a (T X.K tb fa)) (hb : PE X b (T X.K tb fb)) : PE X (.BinOp a op b pos) (T X.K tb (eOp g fa fb)) :=
  pe_mono (pe_op ho ha hb) fun _ _ _ h => op_go hs h
theorem ex_cmp {op : CmpOp} {r : R2} {g : D → D → Option W} (ho : OpR X (compareOp op) r) (hs : OpS X.K tb r g) (ha : PE X a (T X.K tb fa)) (hb : PE X b (T X.K tb fb)) (hm : behindInMarks op b = false) : PE X (.Compare a [op] [b] pos) (T X.K tb (eOp g fa fb)) :=
  pe_mono (pe_cmpR ho ha hb hm) fun _ _ _ h => op_go hs h
theorem blD_v {K : FRG} {φ ψ : List Addr} {H : Hp} {d : D} {v : V} {b : Bool} (h : RepC K φ ψ H d v) (e : blD d = some b) : v = .bl b := by
  unfold blD at e
  split at e
  · cases e; exact h.bl
  · cases e
theorem val_go {f : Ex} {σ : L2.St} {H : Hp} {Q : Bool → Hp → Prop} (h : Tt X.K tb (tVal f) σ H Q) : T X.K tb f σ H fun x H' => ∃ k, x = .bl k ∧ Q k H' := by
  obtain ⟨φ, ψ, ρ, m, w, m', R, E, e, k⟩ := h
  obtain ⟨⟨w1, m1⟩, e1, e⟩ := bnd e
  obtain ⟨d, ed, e⟩ := bnd e
  obtain ⟨b, eb, e⟩ := bnd e
  cases e
  exact ⟨φ, ψ, ρ, m, w1, _, R, E, e1, fun φ1 ψ1 H1 x P1 R1 V1 => ⟨_, blD_v (gt_c (V1.rel R1) (V1.s R1) ed) eb, k φ1 H1 (V1.post P1) (V1.rel R1)⟩⟩
theorem tx_cmp {op : CmpOp} {r : R2} {g : D → D → Option W} (ho : OpR X (compareOp op) r) (hs : OpS X.K tb r g) (ha : PE X a (T X.K tb fa)) (hb : PE X b (T X.K tb fb)) (hm : behindInMarks op b = false) : PT X (.Compare a [op] [b] pos) (Tt X.K tb (tVal (eOp g fa fb))) :=
  pt_mono (pt_cmpR ho ha hb hm) fun _ _ _ h => op_go hs (val_go h)
theorem chain_go {r r' : R2} {g g' : D → D → Option W} (hs : OpS X.K tb r g) (hs' : OpS X.K tb r' g') {σ : L2.St} {H : Hp} {Q : VK} (h : T X.K tb (eChain g g' fa fb fc) σ H Q) : tChain r r' (T X.K tb fa) (T X.K tb fb) (T X.K tb fc) σ H Q := by
  obtain ⟨φ, ψ, ρ, m, w, m', R, E, e, k⟩ := h
  obtain ⟨⟨w1, m1⟩, e1, e⟩ := bnd e
  obtain ⟨⟨w2, m2⟩, e2, e⟩ := bnd e
  obtain ⟨x, ex, e⟩ := bnd e
  obtain ⟨y, ey, e⟩ := bnd e
  obtain ⟨w3, eg, e⟩ := bnd e
  refine ⟨φ, ψ, ρ, m, w1, m1, R, E, e1, fun φ1 ψ1 H1 xv P1 R1 V1 => ⟨φ1, ψ, ρ, m1, w2, m2, V1.rel R1, E.mono (V1.post P1) R, e2, fun φ2 ψ2 H2 yv P2 R2 V2 => ?_⟩⟩
  have R2' := V2.rel R2
  have P2' := V2.post P2
  have S2 := V2.s R2
  have P12 := (V1.post P1).trans P2'
  refine hs φ2 ψ H2 m2 xv yv x y w3 _ R2' (gt_c R2' ((V1.s R1).mono P2' (V1.rel R1)) ex) (gt_c R2' S2 ey) eg fun φ3 ψ3 H3 v P3 R3 V3 => ?_
  split at e
  · obtain ⟨rfl, V3⟩ := V3
    cases V3
    obtain ⟨⟨w4, m4⟩, e4, e⟩ := bnd e
    obtain ⟨y', ey', e⟩ := bnd e
    obtain ⟨z', ez', e⟩ := bnd e
    obtain ⟨w5, eg', e⟩ := bnd e
    cases e
    refine ⟨true, rfl, iteT ⟨φ3, _, ρ, m2, w4, _, R3, E.mono (P12.trans P3) R, e4, fun φ4 ψ4 H4 z P4 R4 V4 => ?_⟩⟩
    have R4' := V4.rel R4
    have P4' := V4.post P4
    exact hs' φ4 _ H4 _ yv z y' z' w Q R4' (gt_c R4' (S2.mono (P3.trans P4') R2') ey') (gt_c R4' (V4.s R4) ez') eg' fun φ5 ψ5 H5 v P5 R5 V5 => k φ5 ψ5 H5 v (P12.trans (P3.trans (P4'.trans P5))) R5 V5
  · obtain ⟨rfl, V3⟩ := V3
    cases V3
    cases e
    exact ⟨false, rfl, iteF (k φ3 _ H3 _ (P12.trans P3) R3 ⟨rfl, .bl false⟩)⟩
  · cases e
theorem ex_chain {op op' : CmpOp} {r r' : R2} {g g' : D → D → Option W} (ho : OpR X (compareOp op) r) (ho' : OpR X (compareOp op') r') (hs : OpS X.K tb r g) (hs' : OpS X.K tb r' g') (ha : PE X a (T X.K tb fa)) (hb : PE X b (T X.K tb fb)) (hc : PE X c (T X.K tb fc))
    (hm : lastMarks [op, op'] [b, c] = false := by with_unfolding_all rfl) : PE X (.Compare a [op, op'] [b, c] pos) (T X.K tb (eChain g g' fa fb fc)) := pe_mono (pe_chain ho ho' ha hb hc hm) fun _ _ _ h => chain_go hs hs' h
theorem tx_chain {op op' : CmpOp} {r r' : R2} {g g' : D → D → Option W} (ho : OpR X (compareOp op) r) (ho' : OpR X (compareOp op') r') (hs : OpS X.K tb r g) (hs' : OpS X.K tb r' g') (ha : PE X a (T X.K tb fa)) (hb : PE X b (T X.K tb fb)) (hc : PE X c (T X.K tb fc))
    (hm : lastMarks [op, op'] [b, c] = false := by with_unfolding_all rfl) : PT X (.Compare a [op, op'] [b, c] pos) (Tt X.K tb (tVal (eChain g g' fa fb fc))) := pt_mono (pt_chain ho ho' ha hb hc hm) fun _ _ _ h => chain_go hs hs' (val_go h)
theorem un_go {r : V → Hp → VK → Prop} {g : D → Option W} (hs : UnS X.K tb r g) {σ : L2.St} {H : Hp} {Q : VK} (h : T X.K tb (eUn g fa) σ H Q) : tUn r (T X.K tb fa) σ H Q := by
  obtain ⟨φ, ψ, ρ, m, w, m', R, E, e, k⟩ := h
  obtain ⟨⟨w1, m1⟩, e1, e⟩ := bnd e
  obtain ⟨x, ex, e⟩ := bnd e
  obtain ⟨w2, eg, e⟩ := bnd e
  cases e
  exact ⟨φ, ψ, ρ, m, w1, _, R, E, e1, fun φ1 ψ1 H1 xv P1 R1 V1 => hs φ1 ψ H1 _ xv x w Q (V1.rel R1) (gt_c (V1.rel R1) (V1.s R1) ex) eg fun φ3 ψ3 H3 v P3 R3 V3 => k φ3 ψ3 H3 v ((V1.post P1).trans P3) R3 V3⟩
theorem ex_un {op : UnaryOp} {r : V → Hp → VK → Prop} {g : D → Option W} (ho : UnR X (unaryOp op) r) (hs : UnS X.K tb r g) (ha : PE X a (T X.K tb fa)) : PE X (.UnaryOp op a pos) (T X.K tb (eUn g fa)) := pe_mono (pe_un ho ha) fun _ _ _ h => un_go hs h
/-! ### arguments, displays, calls -/
theorem ax_nil : PA X [] (Ta X.K tb aNil) := pa_mono pa_nil fun σ H Q ⟨φ, ψ, ρ, m, ds, m', R, E, e, k⟩ => by
  cases e; exact k φ H [] .refl R .nil
theorem ax_cons {es : List Expr} {f : Ax} (ha : PE X a (T X.K tb fa)) (hr : PA X es (Ta X.K tb f)) (hs : starEach (a :: es) X.env = (false, eval a X.env) :: starEach es X.env := by rfl) : PA X (a :: es) (Ta X.K tb (aCons fa f)) := by
  refine pa_mono (pa_cons ha hr hs) fun σ H Q ⟨φ, ψ, ρ, m, ds, m', R, E, e, k⟩ => ?_
  obtain ⟨⟨w1, m1⟩, e1, e⟩ := bnd e
  obtain ⟨⟨w2, m2⟩, e2, e⟩ := bnd e
  cases e
  exact ⟨φ, ψ, ρ, m, w1, m1, R, E, e1, fun φ1 ψ1 H1 x P1 R1 V1 => ⟨φ1, ψ, ρ, m1, w2, _, V1.rel R1, E.mono (V1.post P1) R, e2, fun φ2 H2 y P2 R2 V2 => k φ2 H2 _ ((V1.post P1).trans P2) R2 (.cons ((V1.s R1).mono P2 (V1.rel R1)).stl V2)⟩⟩
theorem cb_go {f : Ax} {r : List V → Hp → VK → Prop} {g : List D → Option W} (hs : CallS X.K tb r g) {σ : L2.St} {H : Hp} {Q : VK} (h : T X.K tb (eCB g f) σ H Q) : tCB r (Ta X.K tb f) σ H Q := by
  obtain ⟨φ, ψ, ρ, m, w, m', R, E, e, k⟩ := h
  obtain ⟨⟨ws, m1⟩, e1, e⟩ := bnd e
  obtain ⟨ds, ed, e⟩ := bnd e
  obtain ⟨w2, eg, e⟩ := bnd e
  cases e
  exact ⟨φ, ψ, ρ, m, ws, _, R, E, e1, fun φ1 H1 vs P1 R1 V1 => hs φ1 ψ H1 _ vs ds w Q R1 (gts_c R1 V1 ed) eg fun φ3 ψ3 H3 v P3 R3 V3 => k φ3 ψ3 H3 v (P1.trans P3) R3 V3⟩
theorem ex_callB {x : Str} {p : Pos} {es : List Expr} {id : String} {f : Ax} {r : List V → Hp → VK → Prop} {g : List D → Option W} (hs : CallS X.K tb r g) (hc : CallR X (.builtin id) r) (hg : Gl X x) (hm : X.mg x = none) (hv : bootBuiltins x = some (.builtin id)) (ha : PA X (a :: es) (Ta X.K tb f))
    (hn : x ≠ "__name__" := by decide) (hdb : (x == ("__debug__" : Str)) = false := by decide) (he : starEach (a :: es) X.env = (false, eval a X.env) :: starEach es X.env := by rfl) (hpl : (backTo pos (starEach es X.env)).any (·.1) = false := by rfl) :
    PE X (.Call (.Name x p) (a :: es) [] pos) (T X.K tb (eCB g f)) := pe_mono (pe_callB hc hg hm hv ha hn hdb he hpl) fun _ _ _ h => cb_go hs h
theorem ex_callTy {x : Str} {p : Pos} {es : List Expr} {id : String} {f : Ax} {r : List V → Hp → VK → Prop} {g : List D → Option W} (hs : CallS X.K tb r g) (hc : CallR X (.type id) r) (hg : Gl X x) (hm : X.mg x = none) (hv : bootBuiltins x = some (.type id)) (ha : PA X (a :: es) (Ta X.K tb f))
    (hn : x ≠ "__name__" := by decide) (hdb : (x == ("__debug__" : Str)) = false := by decide) (he : starEach (a :: es) X.env = (false, eval a X.env) :: starEach es X.env := by rfl) (hpl : (backTo pos (starEach es X.env)).any (·.1) = false := by rfl) :
    PE X (.Call (.Name x p) (a :: es) [] pos) (T X.K tb (eCB g f)) := pe_mono (pe_callTy hc hg hm hv ha hn hdb he hpl) fun _ _ _ h => cb_go hs h
theorem ex_tup {es : List Expr} {f : Ax} {x1} (h : PA X es (Ta X.K tb f)) : PE X (.Tuple es x1 pos) (T X.K tb (eTup f)) := by
  refine pe_mono (pe_tup h) fun σ H Q ⟨φ, ψ, ρ, m, w, m', R, E, e, k⟩ => ?_
  obtain ⟨⟨ws, m1⟩, e1, e⟩ := bnd e
  obtain ⟨ds, ed, e⟩ := bnd e
  refine ⟨φ, ψ, ρ, m, ws, m1, R, E, e1, fun φ1 H1 vs P1 R1 V1 => ?_⟩
  split at e
  · rename_i hl
    cases e
    have r := vls_c V1 ed
    exact ⟨small (by rw [← r.length]; exact hl), fun p hp => Go.tup (fun φ3 ψ3 H3 v P3 R3 V3 => k φ3 ψ3 H3 v (P1.trans P3) R3 V3) R1 r hp⟩
  · cases e
theorem ex_lst {es : List Expr} {f : Ax} (h : PA X es (Ta X.K tb f)) : PE X (.List es pos) (T X.K tb (eLst f)) := by
  refine pe_mono (pe_lst h) fun σ H Q ⟨φ, ψ, ρ, m, w, m', R, E, e, k⟩ => ?_
  obtain ⟨⟨ws, m1⟩, e1, e⟩ := bnd e
  obtain ⟨ds, ed, e⟩ := bnd e
  refine ⟨φ, ψ, ρ, m, ws, m1, R, E, e1, fun φ1 H1 vs P1 R1 V1 => ?_⟩
  split at e
  · rename_i hl
    cases e
    have r := vls_c V1 ed
    exact ⟨small (by rw [← r.length]; exact hl), fun p hp => Go.lst (fun φ3 ψ3 H3 v P3 R3 V3 => k φ3 ψ3 H3 v (P1.trans P3) R3 V3) R1 r hp⟩
  · cases e
theorem ex_mt {T' id : String} {name : Str} {apos cpos : Pos} {es : List Expr} {fo : Ex} {f : Ax} {r : V → List V → Hp → VK → Prop} {g : W → List W → Mem → Option (W × Mem)} {ck : W → Mem → Bool} {o : Expr}
    (hck : ∀ φ ψ H m d v, Rel X.K tb φ ψ H m → RepS X.K φ ψ H d v → ck d m = true → tyV X.K T' v H) (hs : MtS X.K tb r g)
    (pa : PlainAttrs T') (slot : Slot T' name id) (hty : typeOf (.builtin id) = pure (.type "method_descriptor")) (hm : MtR X id r) (ho : PE X o (T X.K tb fo)) (ha : PA X (a :: es) (Ta X.K tb f))
    (hbase : attributeBase o name X.env (eval o X.env) = eval o X.env := by rfl)
    (hfew : ((backTo cpos (starEach (a :: es) X.env)).all (fun x => !x.1) && (backToKw cpos (keywordEach [] X.env)).all (fun x => x.1.isSome)
      && decide ((a :: es).length + ([] : List Keyword).length + (if ([] : List Keyword).isEmpty then 0 else 1) < 30)) = true := by rfl)
    (hline : (apos.endLine == cpos.line) = true := by rfl) (hst : starEach (a :: es) X.env = (false, eval a X.env) :: starEach es X.env := by rfl) (hplain : (backTo cpos (starEach es X.env)).any (·.1) = false := by rfl) :
    PE X (.Call (.Attribute o name apos) (a :: es) [] cpos) (T X.K tb (eMt ck g fo f)) := by
  refine pe_mono (pe_bm pa slot hty hm ho ha hbase hfew hline hst hplain) fun σ H Q ⟨φ, ψ, ρ, m, w, m', R, E, e, k⟩ => ?_
  obtain ⟨⟨w1, m1⟩, e1, e⟩ := bnd e
  split at e
  · rename_i hc
    obtain ⟨⟨ws, m2⟩, e2, e⟩ := bnd e
    refine ⟨φ, ψ, ρ, m, w1, m1, R, E, e1, fun φ1 ψ1 H1 x P1 R1 V1 => ⟨hck φ1 ψ H1 m1 w1 x (V1.rel R1) (V1.s R1) hc, φ1, ψ, ρ, m1, ws, m2, V1.rel R1, E.mono (V1.post P1) R, e2, fun φ2 H2 vs P2 R2 V2 => ?_⟩⟩
    exact hs φ2 ψ H2 m2 x vs w1 ws w m' Q R2 ((V1.s R1).mono P2 (V1.rel R1)) V2 e fun φ3 ψ3 H3 v P3 R3 V3 => k φ3 ψ3 H3 v ((V1.post P1).trans (P2.trans P3)) R3 V3
  · cases e
/-! ### tests -/
theorem tx_val {e : Expr} {f : Ex} (h : PE X e (T X.K tb f)) (he : ∀ whole, isTrue e X.env whole = (do let v ← whole; standAt e.pos; holding [v] (truthy v)) := by intro _; rfl) : PT X e (Tt X.K tb (tVal f)) :=
  pt_mono (pt_val h he) fun _ _ _ h => val_go h
theorem tx_tru {e : Expr} {f : Ex} (h : PE X e (T X.K tb f)) (he : ∀ whole, isTrue e X.env whole = (do let v ← whole; standAt e.pos; holding [v] (truthy v)) := by intro _; rfl) : PT X e (Tt X.K tb (tTru f)) := by
  refine pt_mono (pt_truth h he) fun σ H Q ⟨φ, ψ, ρ, m, b, m', R, E, e, k⟩ => ?_
  obtain ⟨⟨w1, m1⟩, e1, e⟩ := bnd e
  obtain ⟨d, ed, e⟩ := bnd e
  obtain ⟨b1, e2, e⟩ := bnd e
  cases e
  refine ⟨φ, ψ, ρ, m, w1, m1, R, E, e1, fun φ1 ψ1 H1 x P1 R1 V1 => ⟨b, ?_, k φ1 H1 (V1.post P1) (V1.rel R1)⟩⟩
  have C := gt_c (V1.rel R1) (V1.s R1) ed
  cases d with
  | non => cases e2; rw [C.non]; rfl
  | bl b => cases e2; rw [C.bl]; rfl
  | int i => cases e2; rw [C.int]; rfl
  | str x => cases e2
  | tup ds => cases e2; obtain ⟨a, vs, rfl, h, r⟩ := C.tup; exact .inr (.inl ⟨_, h, by cases r <;> rfl⟩)
  | fl ds => cases e2; obtain ⟨a, vs, rfl, h, r⟩ := C.fl; exact .inl ⟨_, h, by cases r <;> rfl⟩
  | lst ds => cases e2; obtain ⟨a, vs, rfl, h, r⟩ := C.lst; exact .inl ⟨_, SqL.of h, by cases r <;> rfl⟩
  | dk kvs =>
    cases e2
    obtain ⟨a, vs, rfl, h, r1, r2⟩ := C.dk
    refine .inr (.inr ⟨vs, h, ?_⟩)
    have : kvs.length = vs.length := by simpa using congrArg List.length r1
    cases kvs <;> cases vs <;> simp_all
  | dt kvs => cases e2
  | rl b k => cases e2
def pwt {e : Expr} {t : TT} (h : PW X e t) : PT X e t := h.pt
theorem tw_and1 (ha : PT X a (Tt X.K tb ta)) : PW X (.BoolOp .And [a] pos) (Tt X.K tb ta) := pw_and1 ha
theorem tw_or1 (ha : PT X a (Tt X.K tb ta)) : PW X (.BoolOp .Or [a] pos) (Tt X.K tb ta) := pw_or1 ha
theorem pw_mono {e : Expr} {t t' : TT} (h : PW X e t) (i : ∀ σ H Q, t' σ H Q → t σ H Q) : PW X e t' := ⟨fun w pins s σ H Q I q => h.run w pins s σ H Q I (i σ H Q q)⟩
theorem tw_and {rest : List Expr} (ha : PT X a (Tt X.K tb ta)) (hb : PW X (.BoolOp .And (b :: rest) pos) (Tt X.K tb tb')) : PW X (.BoolOp .And (a :: b :: rest) pos) (Tt X.K tb (tAnd' ta tb')) := by
  refine pw_mono (pw_and ha hb) fun σ H Q ⟨φ, ψ, ρ, m, d, m', R, E, e, k⟩ => ?_
  obtain ⟨⟨b1, m1⟩, e1, e⟩ := bnd e
  refine ⟨φ, ψ, ρ, m, b1, m1, R, E, e1, fun φ1 H1 P1 R1 => ?_⟩
  cases b1 with
  | true => exact iteT ⟨φ1, ψ, ρ, m1, d, m', R1, E.mono P1 R, e, fun φ2 H2 P2 R2 => k φ2 H2 (P1.trans P2) R2⟩
  | false => cases e; exact iteF (k φ1 H1 P1 R1)
theorem tw_or {rest : List Expr} (ha : PT X a (Tt X.K tb ta)) (hb : PW X (.BoolOp .Or (b :: rest) pos) (Tt X.K tb tb')) : PW X (.BoolOp .Or (a :: b :: rest) pos) (Tt X.K tb (tOr' ta tb')) := by
  refine pw_mono (pw_or ha hb) fun σ H Q ⟨φ, ψ, ρ, m, d, m', R, E, e, k⟩ => ?_
  obtain ⟨⟨b1, m1⟩, e1, e⟩ := bnd e
  refine ⟨φ, ψ, ρ, m, b1, m1, R, E, e1, fun φ1 H1 P1 R1 => ?_⟩
  cases b1 with
  | false => exact iteF ⟨φ1, ψ, ρ, m1, d, m', R1, E.mono P1 R, e, fun φ2 H2 P2 R2 => k φ2 H2 (P1.trans P2) R2⟩
  | true => cases e; exact iteT (k φ1 H1 P1 R1)
theorem tx_not (ha : PT X a (Tt X.K tb ta)) : PT X (.UnaryOp .Not a pos) (Tt X.K tb (tNot' ta)) := by
  refine pt_mono (pt_not ha) fun σ H Q ⟨φ, ψ, ρ, m, d, m', R, E, e, k⟩ => ?_
  obtain ⟨⟨b1, m1⟩, e1, e⟩ := bnd e
  cases e
  exact ⟨φ, ψ, ρ, m, b1, _, R, E, e1, fun φ1 H1 P1 R1 => k φ1 H1 P1 R1⟩
theorem ex_if (hc : PT X c (Tt X.K tb ta)) (ha : PE X a (T X.K tb fa)) (hb : PE X b (T X.K tb fb)) : PE X (.IfExp c a b pos) (T X.K tb (eIf ta fa fb)) := by
  refine pe_mono (pe_ifExp hc ha hb) fun σ H Q ⟨φ, ψ, ρ, m, d, m', R, E, e, k⟩ => ?_
  obtain ⟨⟨b1, m1⟩, e1, e⟩ := bnd e
  refine ⟨φ, ψ, ρ, m, b1, m1, R, E, e1, fun φ1 H1 P1 R1 => ?_⟩
  cases b1 with
  | true => exact iteT ⟨φ1, ψ, ρ, m1, d, m', R1, E.mono P1 R, e, fun φ2 ψ2 H2 v P2 R2 => k φ2 ψ2 H2 v (P1.trans P2) R2⟩
  | false => exact iteF ⟨φ1, ψ, ρ, m1, d, m', R1, E.mono P1 R, e, fun φ2 ψ2 H2 v P2 R2 => k φ2 ψ2 H2 v (P1.trans P2) R2⟩
theorem ex_one {op} {f : Ex} (h : PE X a (T X.K tb f)) : PE X (.BoolOp op [a] pos) (T X.K tb f) := pe_one h
theorem ex_and {rest : List Expr} (ha : PE X a (T X.K tb fa)) (hb : PE X (.BoolOp .And (b :: rest) pos) (T X.K tb fb)) : PE X (.BoolOp .And (a :: b :: rest) pos) (T X.K tb (eAnd fa fb)) := by
  refine pe_mono (pe_and ha hb) fun σ H Q ⟨φ, ψ, ρ, m, d, m', R, E, e, k⟩ => ?_
  obtain ⟨⟨b1, m1⟩, e1, e⟩ := bnd e
  refine val_go (X := X) (Q := fun c H1 => if c = true then T X.K tb fb σ H1 Q else Q (.bl false) H1) ⟨φ, ψ, ρ, m, b1, m1, R, E, e1, fun φ1 H1 P1 R1 => ?_⟩
  cases b1 with
  | true => exact iteT ⟨φ1, ψ, ρ, m1, d, m', R1, E.mono P1 R, e, fun φ2 ψ2 H2 v P2 R2 => k φ2 ψ2 H2 v (P1.trans P2) R2⟩
  | false => cases e; exact iteF (k φ1 ψ H1 _ P1 R1 ⟨rfl, .bl false⟩)
theorem ex_or {rest : List Expr} (ha : PE X a (T X.K tb fa)) (hb : PE X (.BoolOp .Or (b :: rest) pos) (T X.K tb fb)) : PE X (.BoolOp .Or (a :: b :: rest) pos) (T X.K tb (eOr fa fb)) := by
  refine pe_mono (pe_or ha hb) fun σ H Q ⟨φ, ψ, ρ, m, d, m', R, E, e, k⟩ => ?_
  obtain ⟨⟨b1, m1⟩, e1, e⟩ := bnd e
  refine val_go (X := X) (Q := fun c H1 => if c = true then Q (.bl true) H1 else T X.K tb fb σ H1 Q) ⟨φ, ψ, ρ, m, b1, m1, R, E, e1, fun φ1 H1 P1 R1 => ?_⟩
  cases b1 with
  | false => exact iteF ⟨φ1, ψ, ρ, m1, d, m', R1, E.mono P1 R, e, fun φ2 ψ2 H2 v P2 R2 => k φ2 ψ2 H2 v (P1.trans P2) R2⟩
  | true => cases e; exact iteT (k φ1 ψ H1 _ P1 R1 ⟨rfl, .bl true⟩)
theorem ex_not (ha : PE X a (T X.K tb fa)) : PE X (.UnaryOp .Not a pos) (T X.K tb (eNot fa)) := by
  refine pe_mono (pe_not ha) fun σ H Q ⟨φ, ψ, ρ, m, d, m', R, E, e, k⟩ => ?_
  obtain ⟨⟨b1, m1⟩, e1, e⟩ := bnd e
  cases e
  exact val_go (X := X) (Q := fun c H1 => Q (.bl (!c)) H1) ⟨φ, ψ, ρ, m, b1, _, R, E, e1, fun φ1 H1 P1 R1 => k φ1 ψ H1 _ P1 R1 ⟨rfl, .bl _⟩⟩
end
end Pw
end
section
set_option Elab.async false
set_option linter.all false
set_option maxRecDepth 100000
set_option maxHeartbeats 1000000
/-! Operations on values. -/
namespace Pw
open PySem PySem.Spec PyProof.Rows L2
/-! ### numbers -/
def subD : D → D → Option W
  | .int i, .int j => some (.v (.int (i - j)))
  | _, _ => none
def cmpD (p : Int → Int → Bool) : D → D → Option W
  | .int i, .int j => some (.v (.bl (p i j)))
  | _, _ => none
def ltI (i j : Int) : Bool := decide (i < j)
def leI (i j : Int) : Bool := decide (i ≤ j)
def gtI (i j : Int) : Bool := decide (j < i)
def geI (i j : Int) : Bool := decide (j ≤ i)
open Classical in
noncomputable def intC (C : Int → Int → Prop) (g : Int → Int → Int) : D → D → Option W
  | .int i, .int j => if C i j then some (.v (.int (g i j))) else none
  | _, _ => none
def negD : D → Option W
  | .int i => some (.v (.int (-i)))
  | _ => none
def addD : D → D → Option W
  | .int i, .int j => some (.v (.int (i + j)))
  | .str i, .str j => if i.length + j.length ≤ 1000000 then some (.v (.str (i ++ j))) else none
  | .tup a, .tup b => if a.length + b.length ≤ 1000000 then some (.v (.tup (a ++ b))) else none
  | .lst a, .lst b => if a.length + b.length ≤ 1000000 then some (.f (.lst (a ++ b))) else none
  | _, _ => none
open Classical in
noncomputable def mulD : D → D → Option W
  | .int i, .int j => if CMul i j then some (.v (.int (i * j))) else none
  | .lst a, .int k => if -(2 ^ 63) ≤ k ∧ k < 2 ^ 63 ∧ a.length * k.toNat ≤ 1000000 then some (.f (.lst (List.replicate k.toNat a).flatten)) else none
  | _, _ => none
noncomputable def divD : D → D → Option W := intC CDiv fun i j => i / j
noncomputable def modD : D → D → Option W := intC (fun _ j => 0 < j) fun i j => i % j
noncomputable def powD : D → D → Option W := intC CPow fun i j => i ^ j.toNat
section
variable {K : FRG} {tb : List Addr}
theorem sub_s : OpS K tb (rI0 fun i j => .int (i - j)) subD := fun φ ψ H m x y dx dy w Q R hx hy e k => by
  unfold subD at e
  split at e
  · cases e; rw [hx.int, hy.int]
    exact ⟨_, _, rfl, rfl, Go.val k R (.int _)⟩
  · cases e
theorem cmp_s {p : Int → Int → Bool} : OpS K tb (rI0 fun i j => .bl (p i j)) (cmpD p) := fun φ ψ H m x y dx dy w Q R hx hy e k => by
  unfold cmpD at e
  split at e
  · cases e; rw [hx.int, hy.int]
    exact ⟨_, _, rfl, rfl, Go.val k R (.bl _)⟩
  · cases e
theorem intC_s {C : Int → Int → Prop} {g : Int → Int → Int} : OpS K tb (rI C fun i j => .int (g i j)) (intC C g) := fun φ ψ H m x y dx dy w Q R hx hy e k => by
  unfold intC at e
  split at e
  · split at e
    · rename_i hc
      cases e; rw [hx.int, hy.int]
      exact ⟨_, _, rfl, rfl, hc, Go.val k R (.int _)⟩
    · cases e
  · cases e
theorem neg_s : UnS K tb (rU fun i => .int (-i)) negD := fun φ ψ H m x dx w Q R hx e k => by
  unfold negD at e
  split at e
  · cases e; rw [hx.int]
    exact ⟨_, rfl, Go.val k R (.int _)⟩
  · cases e
abbrev rAdd (K : FRG) : R2 := fun x y H Q => (rI0 (fun i j => .int (i + j)) x y H Q) ∨ ((∃ i j, x = .str i ∧ y = .str j ∧ i.length + j.length ≤ sizeLine ∧ Q (.str (i ++ j)) H) ∨ (rCatA K x y H Q ∨ rCat x y H Q))
theorem op_addA {X : Cx} : OpR X (binaryOp .Add) (rAdd X.K) := op_add.or (op_add_str.or (op_catA.or op_cat))
theorem RepC.tupR {φ ψ : List Addr} {H : Hp} {ds : List D} {v : V} (h : RepC K φ ψ H (.tup ds) v) : Rep K φ ψ H (.tup ds) v := by
  rcases h with h | ⟨a, mo, rfl, e, q⟩
  · exact h
  · cases mo <;> cases e
theorem add_s : OpS K tb (rAdd K) addD := fun φ ψ H m x y dx dy w Q R hx hy e k => by
  unfold addD at e
  split at e
  · cases e; rw [hx.int, hy.int]
    exact .inl ⟨_, _, rfl, rfl, Go.val k R (.int _)⟩
  · split at e
    · rename_i hl
      cases e; rw [hx.str, hy.str]
      exact .inr (.inl ⟨_, _, rfl, rfl, small hl, Go.val k R (.str _)⟩)
    · cases e
  · split at e
    · rename_i hl
      cases e
      obtain ⟨a1, v1, rfl, h1, r1⟩ := hx.tup
      obtain ⟨a2, v2, rfl, h2, r2⟩ := hy.tup
      refine .inr (.inr (.inl ⟨_, _, _, _, rfl, rfl, h1, h2, small (by rw [← r1.length, ← r2.length]; exact hl), fun z => ?_, fun z1 z2 => ?_, fun z1 z2 p hp => Go.tup k R (r1.app r2) hp⟩))
      · subst z; cases r1; exact Go.val k R (.tup h2 r2)
      · subst z2; cases r2; rw [List.append_nil] at k; exact Go.val k R (.tup h1 r1)
    · cases e
  · split at e
    · rename_i hl
      cases e
      obtain ⟨a1, v1, rfl, h1, r1⟩ := hx.lst
      obtain ⟨a2, v2, rfl, h2, r2⟩ := hy.lst
      exact .inr (.inr (.inr ⟨_, _, _, _, rfl, rfl, h1, h2, small (by rw [← r1.length, ← r2.length]; exact hl), fun p hp => Go.lst k R (r1.app r2) hp⟩))
    · cases e
  · cases e
theorem Reps.rep : ∀ (n : Nat) {φ ψ : List Addr} {H : Hp} {ds : List D} {vs : List V}, Reps K φ ψ H ds vs → Reps K φ ψ H (List.replicate n ds).flatten (List.replicate n vs).flatten
  | 0, _, _, _, _, _, _ => .nil
  | n + 1, _, _, _, _, _, r => by
    rw [List.replicate_succ, List.replicate_succ, List.flatten_cons, List.flatten_cons]
    exact r.app (Reps.rep n r)
abbrev rMul : R2 := fun x y H Q => (rI CMul (fun i j => .int (i * j)) x y H Q) ∨ rRep x y H Q
theorem op_mulA {X : Cx} : OpR X (binaryOp .Mult) rMul := op_mul.or op_rep
theorem mul_s : OpS K tb rMul mulD := fun φ ψ H m x y dx dy w Q R hx hy e k => by
  unfold mulD at e
  split at e
  · split at e
    · rename_i hc
      cases e; rw [hx.int, hy.int]
      exact .inl ⟨_, _, rfl, rfl, hc, Go.val k R (.int _)⟩
    · cases e
  · split at e
    · rename_i hl
      cases e
      obtain ⟨a1, v1, rfl, h1, r1⟩ := hx.lst
      rw [hy.int]
      exact .inr ⟨_, _, _, rfl, rfl, h1, hl.1, hl.2.1, small (by rw [← r1.length]; exact hl.2.2), fun p hp => Go.lst k R (Reps.rep _ r1) hp⟩
    · cases e
  · cases e
theorem div_s : OpS K tb (rI CDiv fun i j => .int (i / j)) divD := intC_s
theorem mod_s : OpS K tb (rI (fun _ j => 0 < j) fun i j => .int (i % j)) modD := intC_s
theorem pow_s : OpS K tb (rI CPow fun i j => .int (i ^ j.toNat)) powD := intC_s
theorem lt_s : OpS K tb (rI0 fun i j => .bl (decide (i < j))) (cmpD ltI) := cmp_s
theorem le_s : OpS K tb (rI0 fun i j => .bl (decide (i ≤ j))) (cmpD leI) := cmp_s
theorem gt_s : OpS K tb (rI0 fun i j => .bl (decide (j < i))) (cmpD gtI) := cmp_s
theorem ge_s : OpS K tb (rI0 fun i j => .bl (decide (j ≤ i))) (cmpD geI) := cmp_s
/-! ### data as a whole -/
end
mutual
def pyD : D → Option PyData
  | .non => some .none
  | .bl b => some (.bool b)
  | .int i => some (.int i)
  | .str x => some (.str x)
  | .tup ds => (pyDs ds).bind fun ps => some (.tuple ps)
  | .fl ds => (pyDs ds).bind fun ps => some (.list ps)
  | .lst ds => (pyDs ds).bind fun ps => some (.list ps)
  | .dk _ => none
  | .dt _ => none
  | .rl _ _ => none
def pyDs : List D → Option (List PyData)
  | [] => some []
  | d :: ds => (pyD d).bind fun x => (pyDs ds).bind fun xs => some (x :: xs)
end
section
variable {K : FRG} {tb : List Addr}
mutual
theorem pyD_dp {φ ψ : List Addr} {H : Hp} : ∀ {d : D} {v : V} {p : PyData}, Rep K φ ψ H d v → pyD d = some p → Dp K H v p
  | .non, v, p, h, e => by cases h; rw [pyD] at e; cases e; exact .non
  | .bl b, v, p, h, e => by cases h; rw [pyD] at e; cases e; exact .bl b
  | .int i, v, p, h, e => by cases h; rw [pyD] at e; cases e; exact .int i
  | .str x, v, p, h, e => by cases h; rw [pyD] at e; cases e; exact .str x
  | .tup ds, v, p, h, e => by
    rw [pyD] at e
    obtain ⟨ps, e1, e⟩ := bnd e
    cases e
    cases h with
    | tup h r => exact .tup h (pyDs_dp r e1)
  | .fl ds, v, p, h, e => by
    rw [pyD] at e
    obtain ⟨ps, e1, e⟩ := bnd e
    cases e
    cases h with
    | fl h r => exact .lst h.sq (pyDs_dp r e1)
  | .lst ds, v, p, h, e => by
    rw [pyD] at e
    obtain ⟨ps, e1, e⟩ := bnd e
    cases e
    cases h with
    | lst h1 h2 h r => exact .lst (SqL.of h) (pyDs_dp r e1)
  | .dk _, v, p, h, e => by rw [pyD] at e; cases e
  | .dt _, v, p, h, e => by rw [pyD] at e; cases e
  | .rl _ _, v, p, h, e => by rw [pyD] at e; cases e
theorem pyDs_dp {φ ψ : List Addr} {H : Hp} : ∀ {ds : List D} {vs : List V} {ps : List PyData}, Reps K φ ψ H ds vs → pyDs ds = some ps → DpAll K H vs ps
  | [], vs, ps, h, e => by cases h; rw [pyDs] at e; cases e; exact .nil
  | d :: ds, vs, ps, h, e => by
    rw [pyDs] at e
    obtain ⟨p, e1, e⟩ := bnd e
    obtain ⟨qs, e2, e⟩ := bnd e
    cases e
    cases h with
    | cons h r => exact .cons (pyD_dp h e1) (pyDs_dp r e2)
end
theorem RepC.dp {φ ψ : List Addr} {H : Hp} {d : D} {v : V} {p : PyData} (h : RepC K φ ψ H d v) (e : pyD d = some p) : Dp K H v p := by
  rcases h with h | ⟨a, mo, rfl, rfl, q⟩
  · exact pyD_dp h e
  · cases mo with
    | lst ds =>
      rw [moD, pyD] at e
      obtain ⟨ps, e1, e⟩ := bnd e
      cases e
      obtain ⟨vs, q1, q2⟩ := q
      exact .lst (SqL.of q1) (pyDs_dp q2 e1)
    | dk kvs => rw [moD, pyD] at e; cases e
    | dt kvs => rw [moD, pyD] at e; cases e
    | rl b k => rw [moD, pyD] at e; cases e
/-- scalars as the operators know them -/
def sc : D → Option V
  | .non => some .non
  | .bl b => some (.bl b)
  | .int i => some (.int i)
  | .str x => some (.str x)
  | _ => none
theorem sc_rep {φ ψ : List Addr} {H : Hp} {d : D} {v w : V} (h : RepC K φ ψ H d v) (e : sc d = some w) : v = w := by
  cases d <;> first | (cases e; first | exact h.non | exact h.bl | exact h.int | exact h.str) | (cases e)
def eqB (neg : Bool) (dx dy : D) : Option Bool := match sc dx, sc dy with
  | some x, some y => if scal x y = true then some (decide (x = y) != neg) else none
  | _, _ => match pyD dx, pyD dy with
    | some p, some q => if SeqAt.shaped p = true ∧ SeqAt.shaped q = true then some (PyData.eqv p q != neg) else none
    | _, _ => none
def eqD (neg : Bool) : D → D → Option W := fun dx dy => (eqB neg dx dy).bind fun b => some (.v (.bl b))
abbrev rEqA (K : FRG) : R2 := fun x y H Q => rEq x y H Q ∨ rEqD K x y H Q
abbrev rNeA (K : FRG) : R2 := fun x y H Q => rNe x y H Q ∨ rNeD K x y H Q
theorem op_eqA {X : Cx} (hu : X.A.units + 64 < cLine) : OpR X (compareOp .Eq) (rEqA X.K) := op_eq.or (op_eqD hu)
theorem op_neA {X : Cx} (hu : X.A.units + 64 < cLine) : OpR X (compareOp .NotEq) (rNeA X.K) := op_ne.or (op_neD hu)
theorem eq_s : OpS K tb (rEqA K) (eqD false) := fun φ ψ H m x y dx dy w Q R hx hy e k => by
  obtain ⟨b, e1, e2⟩ := bnd e
  cases e2
  unfold eqB at e1
  split at e1
  · rename_i a c h1 h2
    split at e1
    · rename_i hs
      cases e1
      rw [sc_rep hx h1, sc_rep hy h2]
      exact .inl ⟨hs, Go.val k R (by rw [Bool.bne_false]; exact .bl _)⟩
    · cases e1
  · split at e1
    · rename_i p q h1 h2
      split at e1
      · rename_i hs
        cases e1
        exact .inr ⟨p, q, hx.dp h1, hy.dp h2, hs.1, hs.2, Go.val k R (by rw [Bool.bne_false]; exact .bl _)⟩
      · cases e1
    · cases e1
theorem ne_s : OpS K tb (rNeA K) (eqD true) := fun φ ψ H m x y dx dy w Q R hx hy e k => by
  obtain ⟨b, e1, e2⟩ := bnd e
  cases e2
  unfold eqB at e1
  split at e1
  · rename_i a c h1 h2
    split at e1
    · rename_i hs
      cases e1
      rw [sc_rep hx h1, sc_rep hy h2]
      exact .inl ⟨hs, Go.val k R (by rw [Bool.bne_true]; exact .bl _)⟩
    · cases e1
  · split at e1
    · rename_i p q h1 h2
      split at e1
      · rename_i hs
        cases e1
        exact .inr ⟨p, q, hx.dp h1, hy.dp h2, hs.1, hs.2, Go.val k R (by rw [Bool.bne_true]; exact .bl _)⟩
      · cases e1
    · cases e1
/-! ### places -/
def ixD : D → D → Option W
  | .tup ds, .int i => (atI ds i).bind fun d => some (.v d)
  | .fl ds, .int i => (atI ds i).bind fun d => some (.v d)
  | .lst ds, .int i => (atI ds i).bind fun d => some (.v d)
  | _, _ => none
theorem Reps.at {φ ψ : List Addr} {H : Hp} {ds : List D} {vs : List V} {i : Int} {d : D} (r : Reps K φ ψ H ds vs) (e : atI ds i = some d) : ∃ v, atI vs i = some v ∧ Rep K φ ψ H d v := by
  unfold atI at e ⊢
  obtain ⟨j, e1, e2⟩ := bnd e
  obtain ⟨v, h1, h2⟩ := r.get e2
  exact ⟨v, by rw [← r.length, e1]; exact h1, h2⟩
abbrev rIxLT (K : FRG) : R2 := fun x y H Q => rIxL K x y H Q ∨ rIxT K x y H Q
theorem ix_lt {X : Cx} : IxR X (rIxLT X.K) := ix_list.or ix_tup
theorem ix_s : OpS K tb (rIxLT K) ixD := fun φ ψ H m x y dx dy w Q R hx hy e k => by
  unfold ixD at e
  split at e
  · obtain ⟨z, e1, e2⟩ := bnd e
    cases e2
    obtain ⟨a, vs, rfl, h, r⟩ := hx.tup
    rw [hy.int]
    obtain ⟨v, h1, h2⟩ := r.at e1
    exact .inr ⟨_, _, _, v, rfl, rfl, h, h1, Go.val k R h2⟩
  · obtain ⟨z, e1, e2⟩ := bnd e
    cases e2
    obtain ⟨a, vs, rfl, h, r⟩ := hx.fl
    rw [hy.int]
    obtain ⟨v, h1, h2⟩ := r.at e1
    exact .inl ⟨_, _, _, v, rfl, rfl, h, h1, Go.val k R h2⟩
  · obtain ⟨z, e1, e2⟩ := bnd e
    cases e2
    obtain ⟨a, vs, rfl, h, r⟩ := hx.lst
    rw [hy.int]
    obtain ⟨v, h1, h2⟩ := r.at e1
    exact .inl ⟨_, _, _, v, rfl, rfl, SqL.of h, h1, Go.val k R h2⟩
  · cases e
theorem ex_ix {X : Cx} {tb : List Addr} {a b : Expr} {fa fb : Ex} {pos : Pos} (ha : PE X a (T X.K tb fa)) (hb : PE X b (T X.K tb fb)) (hs : PlainIx b := by exact fun _ _ => rfl) : PE X (.Subscript a b pos) (T X.K tb (eOp ixD fa fb)) :=
  pe_mono (pe_ix ix_lt ha hb hs) fun _ _ _ h => op_go ix_s h
/-- slices -/
abbrev Ox := Env → Mem → Option (Option Int × Mem)
def To (K : FRG) (tb : List Addr) (f : Ox) : TO := fun σ H Q => ∃ φ ψ ρ m o m', Rel K tb φ ψ H m ∧ RE K φ ψ H ρ σ ∧ f ρ m = some (o, m') ∧ ∀ φ' H', Post φ ψ H φ' ψ H' → Rel K tb φ' ψ H' m' → Q o H'
def oNone : Ox := fun _ m => some (none, m)
def inD' : D → Option Int
  | .int i => some i
  | _ => none
def oSome (a : Ex) : Ox := fun ρ m => (a ρ m).bind fun p => (gt p.1 p.2).bind fun d => (inD' d).bind fun i => some (some i, p.2)
theorem inD_v {φ ψ : List Addr} {H : Hp} {d : D} {v : V} {i : Int} (h : RepC K φ ψ H d v) (e : inD' d = some i) : v = .int i := by
  unfold inD' at e
  split at e
  · cases e; exact h.int
  · cases e
theorem po_mono {X : Cx} {e : Option Expr} {t t' : TO} (h : PO X e t) (i : ∀ σ H Q, t' σ H Q → t σ H Q) : PO X e t' := ⟨fun pins s σ H Q I q => h.run pins s σ H Q I (i σ H Q q)⟩
theorem ox_none {X : Cx} {tb : List Addr} : PO X none (To X.K tb oNone) := po_mono po_none fun σ H Q ⟨φ, ψ, ρ, m, d, m', R, E, e, k⟩ => by
  cases e; exact k φ H .refl R
theorem ox_some {X : Cx} {tb : List Addr} {a : Expr} {fa : Ex} (ha : PE X a (T X.K tb fa)) : PO X (some a) (To X.K tb (oSome fa)) := by
  refine po_mono (po_some ha) fun σ H Q ⟨φ, ψ, ρ, m, d, m', R, E, e, k⟩ => ?_
  obtain ⟨⟨w1, m1⟩, e1, e⟩ := bnd e
  obtain ⟨d1, e2, e⟩ := bnd e
  obtain ⟨i, e3, e⟩ := bnd e
  cases e
  exact ⟨φ, ψ, ρ, m, w1, _, R, E, e1, fun φ1 ψ1 H1 x P1 R1 V1 => ⟨_, inD_v (gt_c (V1.rel R1) (V1.s R1) e2) e3, k φ1 H1 (V1.post P1) (V1.rel R1)⟩⟩
def cutD (ds : List D) (lo hi : Option Int) : List D := (ds.drop (HT.sIx ds.length 0 lo)).take (HT.sIx ds.length ds.length hi - HT.sIx ds.length 0 lo)
theorem Reps.cut {φ ψ : List Addr} {H : Hp} {ds : List D} {vs : List V} (r : Reps K φ ψ H ds vs) (lo hi : Option Int) : Reps K φ ψ H (cutD ds lo hi) (cutV vs lo hi) := by
  unfold cutD cutV
  rw [r.length]
  exact (r.drop _).take _
def slcD : D → Option Int → Option Int → Option W
  | .lst ds, lo, hi => some (.f (.lst (cutD ds lo hi)))
  | .fl ds, lo, hi => some (.f (.lst (cutD ds lo hi)))
  | .tup ds, lo, hi => some (.v (.tup (cutD ds lo hi)))
  | _, _, _ => none
def eSlc (a : Ex) (lo hi : Ox) : Ex := fun ρ m => (a ρ m).bind fun p => (lo ρ p.2).bind fun l => (hi ρ l.2).bind fun h => (gt p.1 h.2).bind fun d => (slcD d l.1 h.1).bind fun w => some (w, h.2)
abbrev rSlLT (K : FRG) : V → Option Int → Option Int → Hp → VK → Prop := fun x lo hi H Q => rSlL K x lo hi H Q ∨ rSlA K x lo hi H Q
theorem sl_lt {X : Cx} : SlR X (rSlLT X.K) := sl_list.or sl_tupA
theorem cut_whole {ds : List D} {lo hi : Option Int} (h : HT.sIx ds.length 0 lo = 0 ∧ HT.sIx ds.length ds.length hi = ds.length) : cutD ds lo hi = ds := by
  unfold cutD
  rw [h.1, h.2]
  simp
theorem ex_sl {X : Cx} {tb : List Addr} {a : Expr} {lo hi : Option Expr} {fa : Ex} {fl fh : Ox} {pos p2 : Pos} (ha : PE X a (T X.K tb fa)) (hl : PO X lo (To X.K tb fl)) (hh : PO X hi (To X.K tb fh)) : PE X (.Subscript a (.Slice lo hi none p2) pos) (T X.K tb (eSlc fa fl fh)) := by
  refine pe_mono (pe_slice sl_lt ha hl hh) fun σ H Q ⟨φ, ψ, ρ, m, w, m', R, E, e, k⟩ => ?_
  obtain ⟨⟨w1, m1⟩, e1, e⟩ := bnd e
  obtain ⟨⟨o2, m2⟩, e2, e⟩ := bnd e
  obtain ⟨⟨o3, m3⟩, e3, e⟩ := bnd e
  obtain ⟨d, ed, e⟩ := bnd e
  obtain ⟨w2, eg, e⟩ := bnd e
  cases e
  refine ⟨φ, ψ, ρ, m, w1, m1, R, E, e1, fun φ1 ψ1 H1 x P1 R1 V1 => ⟨φ1, ψ, ρ, m1, o2, m2, V1.rel R1, E.mono (V1.post P1) R, e2, fun φ2 H2 P2 R2 => ⟨φ2, ψ, ρ, m2, o3, _, R2, E.mono ((V1.post P1).trans P2) R, e3, fun φ3 H3 P3 R3 => ?_⟩⟩⟩
  have P := (V1.post P1).trans (P2.trans P3)
  have C := gt_c R3 ((V1.s R1).mono (P2.trans P3) (V1.rel R1)) ed
  have k' : Go X.K tb φ3 ψ H3 _ w Q := fun φ4 ψ4 H4 v P4 R4 V4 => k φ4 ψ4 H4 v (P.trans P4) R4 V4
  have e' : slcD d o2 o3 = some w := eg
  unfold slcD at e'
  split at e'
  · cases e'
    obtain ⟨q, vs, rfl, hq, r⟩ := C.lst
    exact .inl ⟨q, vs, rfl, SqL.of hq, fun p hp => Go.lst k' R3 (r.cut _ _) hp⟩
  · cases e'
    obtain ⟨q, vs, rfl, hq, r⟩ := C.fl
    exact .inl ⟨q, vs, rfl, hq, fun p hp => Go.lst k' R3 (r.cut _ _) hp⟩
  · cases e'
    obtain ⟨q, vs, rfl, hq, r⟩ := C.tup
    refine .inr ⟨_, _, rfl, hq, fun z => ?_, fun z p hp => Go.tup k' R3 (r.cut _ _) hp⟩
    rw [← r.length] at z
    rw [cut_whole z] at k'
    exact Go.val k' R3 (.tup hq r)
  · cases e'
end
end Pw
end
section
set_option Elab.async false
set_option linter.all false
set_option maxRecDepth 100000
set_option maxHeartbeats 1000000
/-! Statements, loops, comprehensions. -/
namespace Pw
open PySem PySem.Spec PyProof.Rows L2
/-! ### owning what is new -/
def ownW : W → Mem → Option (W × Mem)
  | .f d, m => (dMO d).bind fun mo => some (.r m.length, m ++ [mo])
  | .r n, m => some (.r n, m)
  | .v _, _ => none
def eOwn (a : Ex) : Ex := fun ρ m => (a ρ m).bind fun p => ownW p.1 p.2
theorem own_go {K : FRG} {tb : List Addr} {f : Ex} {σ : L2.St} {H : Hp} {Q : VK} (h : T K tb (eOwn f) σ H Q) : T K tb f σ H Q := by
  obtain ⟨φ, ψ, ρ, m, w, m', R, E, e, k⟩ := h
  obtain ⟨⟨w1, m1⟩, e1, e⟩ := bnd e
  refine ⟨φ, ψ, ρ, m, w1, m1, R, E, e1, fun φ1 ψ1 H1 v P1 R1 V1 => ?_⟩
  cases w1 with
  | v d => cases e
  | r n => cases e; exact k φ1 ψ1 H1 v P1 R1 V1
  | f d =>
    obtain ⟨mo, e2, e⟩ := bnd (show (dMO d).bind _ = _ from e)
    cases e
    obtain ⟨p, mo', rfl, rfl, np, rfl, q⟩ := V1
    have : mo' = mo := by cases mo' <;> cases e2 <;> rfl
    subst this
    exact k (φ1 ++ [p]) ψ H1 _ (P1.own np) (R1.own np q) ⟨rfl, p, by rw [← R1.len]; simp, rfl⟩
theorem ex_own {X : Cx} {tb : List Addr} {a : Expr} {fa : Ex} (h : PE X a (T X.K tb fa)) : PE X a (T X.K tb (eOwn fa)) := pe_mono h fun _ _ _ => own_go
/-! ### blocks -/
def sNil : Sx := fun ρ m => some (.nx, ρ, m)
def sSeq (a b : Sx) : Sx := fun ρ m => (a ρ m).bind fun r => match r.1 with
  | .nx => b r.2.1 r.2.2
  | o => some (o, r.2.1, r.2.2)
def sRet (a : Ex) : Sx := fun ρ m => (a ρ m).bind fun p => some (.ret p.1, ρ, p.2)
def sRetN : Sx := fun ρ m => some (.ret (.v .non), ρ, m)
def sBrk : Sx := fun ρ m => some (.bk, ρ, m)
def sCnt : Sx := fun ρ m => some (.ct, ρ, m)
def sDrop (a : Ex) : Sx := fun ρ m => (a ρ m).bind fun p => some (.nx, ρ, p.2)
def sIf (t : Tx) (a b : Sx) : Sx := fun ρ m => (t ρ m).bind fun p => if p.1 = true then a ρ p.2 else b ρ p.2
def sSet (i : Nat) (a : Ex) : Sx := fun ρ m => (a ρ m).bind fun p => some (.nx, ρ.set i (some (stl p.1)), p.2)
/-- what is not asked for any more is forgotten -/
def sFog (vs : List Nat) (a : Sx) : Sx := fun ρ m => (a ρ m).bind fun r => some (r.1, wipeD r.2.1 vs, r.2.2)
def vl : W → Option D
  | .v d => some d
  | .f d => some d
  | .r _ => none
theorem vl_rep {K : FRG} {φ ψ : List Addr} {H : Hp} {w : W} {v : V} {d : D} (h : RepS K φ ψ H w v) (e : vl w = some d) : Rep K φ ψ H d v := by
  cases w <;> first | (cases e; exact h) | (cases e)
/-- o[i] = e: e first -/
def putD : W → D → D → Mem → Option Mem
  | .r n, .int i, d, m => match m[n]? with
    | some (.lst ds) => (ixN ds.length i).map fun j => m.set n (.lst (ds.set j d))
    | _ => none
  | _, _, _, _ => none
def sPut (o i a : Ex) : Sx := fun ρ m => (a ρ m).bind fun p => (o ρ p.2).bind fun q => (i ρ q.2).bind fun r => (vl p.1).bind fun d => (gt r.1 r.2).bind fun i => (putD q.1 i d r.2).bind fun m' => some (.nx, ρ, m')
section
variable {X : Cx} {tb : List Addr} {a b c : Expr} {fa fb fc : Ex} {ft : Tx} {st : Stmt} {rest rest' : List Stmt} {g h : Sx} {pos : Pos}
theorem bs_nil : PSs X [] (Ts X.K tb sNil) := pss_mono pss_nil fun D σ H ⟨φ, ψ, ρ, m, o, ρ', m', R, E, e, k⟩ => by
  cases e; exact k φ ψ H .refl R rfl σ E
theorem bs_cons (h1 : PS X st (Ts X.K tb g)) (h2 : PSs X rest (Ts X.K tb h)) : PSs X (st :: rest) (Ts X.K tb (sSeq g h)) := by
  refine pss_mono (pss_cons h1 h2) fun D σ H ⟨φ, ψ, ρ, m, o, ρ', m', R, E, e, k⟩ => ?_
  obtain ⟨⟨o1, ρ1, m1⟩, e1, e⟩ := bnd e
  refine ⟨φ, ψ, ρ, m, o1, ρ1, m1, R, E, e1, fun φ1 ψ1 H1 P1 R1 => ?_⟩
  cases o1 with
  | nx =>
    intro z σ1 E1
    subst z
    exact ⟨φ1, _, ρ1, m1, o, ρ', m', R1, E1, e, fun φ2 ψ2 H2 P2 R2 => k φ2 ψ2 H2 (P1.trans P2) R2⟩
  | bk => cases e; exact k φ1 ψ1 H1 P1 R1
  | ct => cases e; exact k φ1 ψ1 H1 P1 R1
  | ret d => cases e; exact k φ1 ψ1 H1 P1 R1
theorem bs_one (h1 : PS X st (Ts X.K tb g)) : PSs X [st] (Ts X.K tb g) := pss_one h1
theorem bs_fog (vs : List Nat) (h1 : PS X st (Ts X.K tb g)) : PS X st (Ts X.K tb (sFog vs g)) := by
  refine ps_mono h1 fun D σ H ⟨φ, ψ, ρ, m, o, ρ', m', R, E, e, k⟩ => ?_
  obtain ⟨⟨o1, ρ1, m1⟩, e1, e⟩ := bnd e
  cases e
  refine ⟨φ, ψ, ρ, m, o1, ρ1, _, R, E, e1, fun φ1 ψ1 H1 P1 R1 => ?_⟩
  have q := k φ1 ψ1 H1 P1 R1
  cases o1 with
  | nx => exact fun z σ1 E1 => q z σ1 (E1.fog vs)
  | bk => exact fun z σ1 E1 => q z σ1 (E1.fog vs)
  | ct => exact fun z σ1 E1 => q z σ1 (E1.fog vs)
  | ret d => exact q
theorem bs_ret (ha : PE X a (T X.K tb fa)) : PS X (.Return (some a) pos) (Ts X.K tb (sRet fa)) := by
  refine ps_mono (ps_ret ha) fun D σ H ⟨φ, ψ, ρ, m, o, ρ', m', R, E, e, k⟩ => ?_
  obtain ⟨⟨d1, m1⟩, e1, e⟩ := bnd e
  cases e
  exact ⟨φ, ψ, ρ, m, d1, _, R, E, e1, fun φ1 ψ1 H1 v P1 R1 V1 => k φ1 ψ1 H1 P1 R1 v V1⟩
theorem bs_retN : PS X (.Return none pos) (Ts X.K tb sRetN) := ps_mono ps_retN fun D σ H ⟨φ, ψ, ρ, m, o, ρ', m', R, E, e, k⟩ => by
  cases e; exact k φ ψ H .refl R _ ⟨rfl, .non⟩
theorem bs_drop (ha : PE X a (T X.K tb fa)) (hs : swapsWith a none pos.line X.env = pure false := by rfl) : PS X (.Expr a pos) (Ts X.K tb (sDrop fa)) := by
  refine ps_mono (ps_expr ha hs) fun D σ H ⟨φ, ψ, ρ, m, o, ρ', m', R, E, e, k⟩ => ?_
  obtain ⟨⟨d1, m1⟩, e1, e⟩ := bnd e
  cases e
  exact ⟨φ, ψ, ρ, m, d1, _, R, E, e1, fun φ1 ψ1 H1 v P1 R1 V1 => k φ1 ψ H1 (V1.post P1) (V1.rel R1) rfl σ (E.mono (V1.post P1) R)⟩
theorem bs_if (hc : PT X c (Tt X.K tb ft)) (h1 : PSs X rest (Ts X.K tb g)) (h2 : PSs X rest' (Ts X.K tb h)) : PS X (.If c rest rest' pos) (Ts X.K tb (sIf ft g h)) := by
  refine ps_mono (ps_if hc h1 h2) fun D σ H ⟨φ, ψ, ρ, m, o, ρ', m', R, E, e, k⟩ => ?_
  obtain ⟨⟨b1, m1⟩, e1, e⟩ := bnd e
  refine ⟨φ, ψ, ρ, m, b1, m1, R, E, e1, fun φ1 H1 P1 R1 => ?_⟩
  cases b1 with
  | true => exact iteT ⟨φ1, ψ, ρ, m1, o, ρ', m', R1, E.mono P1 R, e, fun φ2 ψ2 H2 P2 R2 => k φ2 ψ2 H2 (P1.trans P2) R2⟩
  | false => exact iteF ⟨φ1, ψ, ρ, m1, o, ρ', m', R1, E.mono P1 R, e, fun φ2 ψ2 H2 P2 R2 => k φ2 ψ2 H2 (P1.trans P2) R2⟩
theorem set_go {i : Nat} {D : Ends} {σ : L2.St} {H : Hp} (h : Ts X.K tb (sSet i fa) D σ H) : tAsg (T X.K tb fa) (gName i) D σ H := by
  obtain ⟨φ, ψ, ρ, m, o, ρ', m', R, E, e, k⟩ := h
  obtain ⟨⟨d1, m1⟩, e1, e⟩ := bnd e
  cases e
  exact ⟨φ, ψ, ρ, m, d1, _, R, E, e1, fun φ1 ψ1 H1 v P1 R1 V1 => k φ1 ψ H1 (V1.post P1) (V1.rel R1) rfl _ ((E.mono (V1.post P1) R).set i (V1.s R1).stl)⟩
theorem bs_set (i : Nat) {x : Str} {pos' : Pos} (hN : X.N.Nodup) (ha : PE X a (T X.K tb fa)) (hi : X.N[i]? = some x := by rfl) (hx : Loc X.env.scope x := by first | exact Or.inl rfl | exact Or.inr rfl) (hs : swapsWith a (some (.Name x pos')) pos.line X.env = pure false := by rfl)
    (hf : X.fn x = true ∨ X.env.scope.names.lookup x = some .local := by first | exact .inl rfl | exact .inr rfl | assumption) : PS X (.Assign [.Name x pos'] a pos) (Ts X.K tb (sSet i fa)) :=
  ps_mono (ps_set hN hi hx ha hs hf) fun _ _ _ h => set_go h
theorem bs_put {o i : Expr} {fo fi : Ex} {tpos : Pos} (ho : PE X o (T X.K tb fo)) (hi : PE X i (T X.K tb fi)) (ha : PE X a (T X.K tb fa))
    (hss : ∀ v, assign (.Subscript o i tpos) X.env v = (do
      let ov ← holding [v] (eval o X.env)
      let iv ← holding [v, ov] (eval i X.env)
      standAt tpos
      holding [v, ov, iv] (setItem ov iv v)
      release [v, ov, iv] []) := by intro _; rfl)
    (hs : swapsWithSole [.Subscript o i tpos] a pos.line X.env = pure false := by rfl) (hw : swappedStores [.Subscript o i tpos] a X.env = pure none := by rfl)
    (h1 : (assignEach [.Subscript o i tpos] X.env).map (·.2) = [assign (.Subscript o i tpos) X.env] := by rfl) : PS X (.Assign [.Subscript o i tpos] a pos) (Ts X.K tb (sPut fo fi fa)) := by
  refine ps_mono (ps_asg ha (pg_sub ho hi set_list hss) hs hw h1) fun D σ H ⟨φ, ψ, ρ, m, o', ρ', m', R, E, e, k⟩ => ?_
  obtain ⟨⟨w1, m1⟩, e1, e⟩ := bnd e
  obtain ⟨⟨w2, m2⟩, e2, e⟩ := bnd e
  obtain ⟨⟨w3, m3⟩, e3, e⟩ := bnd e
  obtain ⟨d1, ev, e⟩ := bnd e
  obtain ⟨d3, eg, e⟩ := bnd e
  obtain ⟨m4, e4, e⟩ := bnd e
  cases e
  refine ⟨φ, ψ, ρ, m, w1, m1, R, E, e1, fun φ1 ψ1 H1 v P1 R1 V1 => ⟨φ1, ψ, ρ, m1, w2, m2, V1.rel R1, E.mono (V1.post P1) R, e2, fun φ2 ψ2 H2 x P2 R2 V2 => ⟨φ2, ψ, ρ, m2, w3, m3, V2.rel R2, E.mono ((V1.post P1).trans (V2.post P2)) R, e3, fun φ3 ψ3 H3 y P3 R3 V3 => ?_⟩⟩⟩
  have R3' := V3.rel R3
  have P3' := V3.post P3
  have e4' : putD w2 d3 d1 m3 = some m' := e4
  have P123 := (V1.post P1).trans ((V2.post P2).trans P3')
  unfold putD at e4'
  split at e4'
  · rename_i n i _ _
    split at e4'
    · rename_i hm
      obtain ⟨j, hj, rfl⟩ := Option.map_eq_some_iff.mp e4'
      have hy := (gt_c R3' (V3.s R3) eg).int
      subst hy
      obtain ⟨q, h1, rfl⟩ := (V2.s R2).mono P3' (V2.rel R2)
      obtain ⟨vs, hq, r⟩ := R3'.obj _ _ q hm h1
      have V1' := (vl_rep (V1.s R1) ev).mono ((V2.post P2).trans P3') (V1.rel R1)
      have hmem := List.mem_of_getElem? h1
      have Pw : Post φ3 ψ H3 φ3 ψ _ := Post.wr (o := .lst (vs.set j v)) hmem (R3'.trk hmem)
      refine ⟨q, vs, _, j, rfl, rfl, hq, by rw [← r.length]; exact hj, ?_⟩
      have P := P123.trans Pw
      exact k φ3 ψ _ P (R3'.wrL h1 (r.set V1' j)) rfl σ (E.mono P R)
    · cases e4'
  · cases e4'
end
/-! ### what a loop walks -/
inductive Itm where
  | seq (ds : List D)
  | lst (n : Nat)
  | zip (a b : Itm)
def itemsAt : Itm → Mem → Option (List D)
  | .seq ds, _ => some ds
  | .lst n, m => match m[n]? with
    | some (.lst ds) => some ds
    | _ => none
  | .zip a b, m => (itemsAt a m).bind fun xs => (itemsAt b m).bind fun ys => some (List.zipWith (fun x y => D.tup [x, y]) xs ys)
abbrev Ix := Env → Mem → Option (Itm × Mem)
def ItR (K : FRG) (tb : List Addr) (φ' ψ : List Addr) (H' : Hp) (J : It) (it : Itm) : Prop := ∀ φ2 ψ2 H2 m2 xs, Post φ' ψ H' φ2 ψ2 H2 → Rel K tb φ2 ψ2 H2 m2 → itemsAt it m2 = some xs →
  (∀ (i : Nat) (d : D), xs[i]? = some d → J.go i H2 ∧ ∀ x H3, J.yld i H2 x H3 → Post φ2 ψ2 H2 φ2 ψ2 H3 ∧ Rel K tb φ2 ψ2 H3 m2 ∧ Rep K φ2 ψ2 H3 d x ∧ (∀ b o, H2 b = some o → H3 b = some o)) ∧ ∀ i, xs.length ≤ i → J.stop i H2
def Ti (K : FRG) (tb : List Addr) (f : Ix) : TI := fun σ H Q => ∃ φ ψ ρ m it m', Rel K tb φ ψ H m ∧ RE K φ ψ H ρ σ ∧ f ρ m = some (it, m') ∧ ∀ φ' H' J, Post φ ψ H φ' ψ H' → Rel K tb φ' ψ H' m' → ItR K tb φ' ψ H' J it → Q J H'
theorem pi_mono {X : Cx} {tg e : Expr} {t t' : TI} (h : PI X tg e t) (i : ∀ σ H Q, t' σ H Q → t σ H Q) : PI X tg e t' := ⟨fun pins s σ H Q I q => h.run pins s σ H Q I (i σ H Q q)⟩
theorem pi_or {X : Cx} {tg e : Expr} {t t' : TI} (h : PI X tg e t) (h' : PI X tg e t') : PI X tg e (fun σ H Q => t σ H Q ∨ t' σ H Q) := ⟨fun pins s σ H Q I q => q.elim (h.run pins s σ H Q I) (h'.run pins s σ H Q I)⟩
def srcV : D → Option Itm
  | .tup ds => some (.seq ds)
  | .fl ds => some (.seq ds)
  | .lst ds => some (.seq ds)
  | _ => none
def srcW : W → Mem → Option Itm
  | .v d, _ => srcV d
  | .f d, _ => srcV d
  | .r n, m => match m[n]? with
    | some (.lst _) => some (.lst n)
    | _ => none
def iSeq (a : Ex) : Ix := fun ρ m => (a ρ m).bind fun p => (srcW p.1 p.2).bind fun it => some (it, p.2)
theorem Rep.is {K : FRG} {φ ψ : List Addr} {H : Hp} {d : D} {v w : V} (h : Rep K φ ψ H d v) (e : v = w) : Rep K φ ψ H d w := e ▸ h
theorem ix_seq' {X : Cx} {tb : List Addr} {tg a : Expr} {fa : Ex} (ha : PE X a (T X.K tb fa)) : PI X tg a (Ti X.K tb (iSeq fa)) := by
  refine pi_mono (pi_or (pi_list ha) (pi_tup ha)) fun σ H Q ⟨φ, ψ, ρ, m, it, m', R, E, e, k⟩ => ?_
  obtain ⟨⟨w1, m1⟩, e1, e⟩ := bnd e
  obtain ⟨it', e2, e⟩ := bnd e
  obtain ⟨rfl, rfl⟩ : it' = it ∧ m1 = m' := by cases e; exact ⟨rfl, rfl⟩
  have e2' : srcW w1 m1 = some it' := e2
  have val : ∀ d, vl w1 = some d → srcV d = some it' → iList X.K (T X.K tb fa) σ H Q ∨ iTup X.K (T X.K tb fa) σ H Q := fun d hv hs => by
    unfold srcV at hs
    split at hs
    · cases hs
      refine .inr ⟨φ, ψ, ρ, m, _, m1, R, E, e1, fun φ1 ψ1 H1 v P1 R1 V1 => ?_⟩
      have R1' := V1.rel R1
      cases vl_rep (V1.s R1) hv with
      | tup h r =>
        refine ⟨_, rfl, ⟨_, h⟩, k φ1 H1 _ (V1.post P1) R1' fun φ2 ψ2 H2 m2 xs P2 R2 ex => ?_⟩
        cases ex
        have h2 := P2.sqT R1' h
        have r2 := r.mono P2 R1'
        refine ⟨fun i d hd => ?_, fun i hi => ⟨_, h2, by rw [← r2.length]; exact hi⟩⟩
        obtain ⟨w, hw, rw⟩ := r2.get hd
        refine ⟨⟨_, w, h2, hw⟩, fun x H3 hy => ?_⟩
        obtain ⟨rfl, hy⟩ := hy
        exact ⟨.refl, R2, rw.is (Option.some.inj (hw.symm.trans (hy _ h2))), fun _ _ z => z⟩
    · cases hs
      refine .inl ⟨φ, ψ, ρ, m, _, m1, R, E, e1, fun φ1 ψ1 H1 v P1 R1 V1 => ?_⟩
      have R1' := V1.rel R1
      cases vl_rep (V1.s R1) hv with
      | fl h r =>
        refine ⟨_, rfl, ⟨_, h.sq⟩, k φ1 H1 _ (V1.post P1) R1' fun φ2 ψ2 H2 m2 xs P2 R2 ex => ?_⟩
        cases ex
        have h2 := (P2.fz R1' h).sq
        have r2 := r.mono P2 R1'
        refine ⟨fun i d hd => ?_, fun i hi => ⟨_, h2, by rw [← r2.length]; exact hi⟩⟩
        obtain ⟨w, hw, rw⟩ := r2.get hd
        refine ⟨⟨_, w, h2, hw⟩, fun x H3 hy => ?_⟩
        obtain ⟨rfl, hy⟩ := hy
        exact ⟨.refl, R2, rw.is (Option.some.inj (hw.symm.trans (hy _ h2))), fun _ _ z => z⟩
    · cases hs
      refine .inl ⟨φ, ψ, ρ, m, _, m1, R, E, e1, fun φ1 ψ1 H1 v P1 R1 V1 => ?_⟩
      have R1' := V1.rel R1
      cases vl_rep (V1.s R1) hv with
      | lst g1 g2 h r =>
        refine ⟨_, rfl, ⟨_, SqL.of h⟩, k φ1 H1 _ (V1.post P1) R1' fun φ2 ψ2 H2 m2 xs P2 R2 ex => ?_⟩
        cases ex
        have h2 : SqL X.K H2 _ _ := SqL.of (P2.off g1 g2 h fun _ z => nomatch z).2.2
        have r2 := r.mono P2 R1'
        refine ⟨fun i d hd => ?_, fun i hi => ⟨_, h2, by rw [← r2.length]; exact hi⟩⟩
        obtain ⟨w, hw, rw⟩ := r2.get hd
        refine ⟨⟨_, w, h2, hw⟩, fun x H3 hy => ?_⟩
        obtain ⟨rfl, hy⟩ := hy
        exact ⟨.refl, R2, rw.is (Option.some.inj (hw.symm.trans (hy _ h2))), fun _ _ z => z⟩
    · cases hs
  cases w1 with
  | v d => exact val d rfl e2'
  | f d => exact val d rfl e2'
  | r n =>
    unfold srcW at e2'
    simp only at e2'
    split at e2'
    · rename_i ds0 hm
      cases e2'
      refine .inl ⟨φ, ψ, ρ, m, _, m1, R, E, e1, fun φ1 ψ1 H1 v P1 R1 V1 => ?_⟩
      have R1' := V1.rel R1
      obtain ⟨q, h1, rfl⟩ := V1.s R1
      obtain ⟨vs, hq, r⟩ := R1'.obj n _ q hm h1
      refine ⟨q, rfl, ⟨_, SqL.of hq⟩, k φ1 H1 _ (V1.post P1) R1' fun φ2 ψ2 H2 m2 xs P2 R2 ex => ?_⟩
      have hm2 : m2[n]? = some (.lst xs) := by
        unfold itemsAt at ex
        split at ex
        · rename_i h9
          cases ex
          exact h9
        · cases ex
      obtain ⟨vs2, hq2, r2⟩ := R2.obj n _ q hm2 (pre_get P2.pre h1)
      have h2 : SqL X.K H2 q vs2 := SqL.of hq2
      refine ⟨fun i d hd => ?_, fun i hi => ⟨_, h2, by rw [← r2.length]; exact hi⟩⟩
      obtain ⟨w, hw, rw⟩ := r2.get hd
      refine ⟨⟨_, w, h2, hw⟩, fun x H3 hy => ?_⟩
      obtain ⟨rfl, hy⟩ := hy
      exact ⟨.refl, R2, rw.is (Option.some.inj (hw.symm.trans (hy _ h2))), fun _ _ z => z⟩
    · cases e2'
/-- range(n), range(a, b) -/
def rngD (lo : Int) (n : Nat) : List D := (List.range n).map fun (i : Nat) => D.int (lo + (i : Int))
def rngA : List D → Option (List D)
  | [.int j] => if -1000000000 ≤ j ∧ j ≤ 1000000000 then some (rngD 0 j.toNat) else none
  | _ => none
def rngB : List D → Option (List D)
  | [.int i, .int j] => if -1000000000 ≤ i ∧ i ≤ 1000000000 ∧ -1000000000 ≤ j ∧ j ≤ 1000000000 then some (rngD i (j - i).toNat) else none
  | _ => none
def iRngA (a : Ax) : Ix := fun ρ m => (a ρ m).bind fun p => (gts p.1 p.2).bind fun ds => (rngA ds).bind fun xs => some (.seq xs, p.2)
def iRngB (a : Ax) : Ix := fun ρ m => (a ρ m).bind fun p => (gts p.1 p.2).bind fun ds => (rngB ds).bind fun xs => some (.seq xs, p.2)
theorem itr_r {K : FRG} {tb φ ψ : List Addr} {H : Hp} {lo : Int} {n : Nat} : ItR K tb φ ψ H (Itr lo n) (.seq (rngD lo n)) := fun φ2 ψ2 H2 m2 xs P2 R2 ex => by
  cases ex
  have hl : (rngD lo n).length = n := by simp [rngD]
  refine ⟨fun i d hd => ?_, fun i hi => by rw [hl] at hi; exact hi⟩
  have hi : i < n := by rw [← hl]; exact (List.getElem?_eq_some_iff.mp hd).1
  refine ⟨hi, fun x H3 hy => ?_⟩
  obtain ⟨rfl, rfl⟩ := hy
  have e : (rngD lo n)[i]? = some (.int (lo + i)) := by simp [rngD, hi]
  rw [e] at hd
  cases hd
  exact ⟨.refl, R2, .int _, fun _ _ z => z⟩
theorem ix_rng1 {X : Cx} {tb : List Addr} {tg a : Expr} {f : Ax} {p pos : Pos} (hg : Gl X "range") (hm : X.mg "range" = none) (ha : PA X [a] (Ta X.K tb f)) (hs : starEach [a] X.env = [(false, eval a X.env)] := by rfl) : PI X tg (.Call (.Name "range" p) [a] [] pos) (Ti X.K tb (iRngA f)) := by
  refine pi_mono (pi_range1 hg hm ha hs) fun σ H Q ⟨φ, ψ, ρ, m, it, m', R, E, e, k⟩ => ?_
  obtain ⟨⟨ws, m1⟩, e1, e⟩ := bnd e
  obtain ⟨ds, e2, e⟩ := bnd e
  obtain ⟨xs, e3, e⟩ := bnd e
  cases e
  refine ⟨φ, ψ, ρ, m, ws, _, R, E, e1, fun φ1 H1 vs P1 R1 V1 => ?_⟩
  have C := gts_c R1 V1 e2
  have e3' : rngA ds = some xs := e3
  unfold rngA at e3'
  split at e3'
  · rename_i j
    split at e3'
    · rename_i hb
      cases e3'
      cases C with
      | cons h1 r1 =>
        cases r1
        rw [h1.int]
        exact ⟨j, rfl, by omega, by omega, k φ1 H1 _ P1 R1 itr_r⟩
    · cases e3'
  · cases e3'
theorem ix_rng2 {X : Cx} {tb : List Addr} {tg a b : Expr} {f : Ax} {p pos : Pos} (hg : Gl X "range") (hm : X.mg "range" = none) (ha : PA X [a, b] (Ta X.K tb f)) (hs : starEach [a, b] X.env = [(false, eval a X.env), (false, eval b X.env)] := by rfl) (hs2 : starEach [b] X.env = [(false, eval b X.env)] := by rfl) :
    PI X tg (.Call (.Name "range" p) [a, b] [] pos) (Ti X.K tb (iRngB f)) := by
  refine pi_mono (pi_range2 hg hm ha hs hs2) fun σ H Q ⟨φ, ψ, ρ, m, it, m', R, E, e, k⟩ => ?_
  obtain ⟨⟨ws, m1⟩, e1, e⟩ := bnd e
  obtain ⟨ds, e2, e⟩ := bnd e
  obtain ⟨xs, e3, e⟩ := bnd e
  cases e
  refine ⟨φ, ψ, ρ, m, ws, _, R, E, e1, fun φ1 H1 vs P1 R1 V1 => ?_⟩
  have C := gts_c R1 V1 e2
  have e3' : rngB ds = some xs := e3
  unfold rngB at e3'
  split at e3'
  · rename_i i j
    split at e3'
    · rename_i hb
      cases e3'
      cases C with
      | cons h1 r1 =>
        cases r1 with
        | cons h2 r2 =>
          cases r2
          rw [h1.int, h2.int]
          exact ⟨i, j, rfl, ⟨by omega, by omega, by omega, by omega⟩, k φ1 H1 _ P1 R1 itr_r⟩
    · cases e3'
  · cases e3'
/-! ### targets -/
abbrev Gx := D → Env → Option Env
def gN (i : Nat) : Gx := fun d ρ => some (ρ.set i (some (.v d)))
def gL : List Gx → List D → Env → Option Env
  | [], [], ρ => some ρ
  | g :: gs, d :: ds, ρ => (g d ρ).bind fun ρ1 => gL gs ds ρ1
  | _, _, _ => none
def gT (gs : List Gx) : Gx := fun d ρ => match d with
  | .tup ds => gL gs ds ρ
  | _ => none
def TgS (K : FRG) (tb : List Addr) (g : TG) (t : Gx) : Prop := ∀ φ ψ H m ρ σ d v ρ' (Q : L2.St → Hp → Prop), Rel K tb φ ψ H m → RE K φ ψ H ρ σ → Rep K φ ψ H d v → t d ρ = some ρ' → (∀ σ', RE K φ ψ H ρ' σ' → Q σ' H) → g v σ H Q
def TgsS (K : FRG) (tb : List Addr) (g : TGs) (t : List Gx) : Prop := ∀ φ ψ H m ρ σ ds vs ρ' (Q : L2.St → Hp → Prop), Rel K tb φ ψ H m → RE K φ ψ H ρ σ → Reps K φ ψ H ds vs → gL t ds ρ = some ρ' → (∀ σ', RE K φ ψ H ρ' σ' → Q σ' H) → g vs σ H Q
/-- the target's slots are among vs -/
def TgW (g : TG) (vs : List Nat) : Prop := ∀ v σ H (Q : L2.St → Hp → Prop), g v σ H Q → g v σ H fun σ2 H2 => wipe σ2 vs = wipe σ vs ∧ Q σ2 H2
def TgsW (g : TGs) (vs : List Nat) : Prop := ∀ v σ H (Q : L2.St → Hp → Prop), g v σ H Q → g v σ H fun σ2 H2 => wipe σ2 vs = wipe σ vs ∧ Q σ2 H2
theorem wipe_set {σ : L2.St} {x : Option V} : ∀ {vs : List Nat} {i : Nat}, i ∈ vs → wipe (σ.set i x) vs = wipe σ vs
  | [], i, h => by simp at h
  | w :: ws, i, h => by
    unfold wipe
    by_cases hi : i ∈ ws
    · rw [wipe_set hi]
    · have e : i = w := by
        rcases List.mem_cons.mp h with z | z
        · exact z
        · exact absurd z hi
      subst e
      have comm : ∀ (ws : List Nat) (τ : L2.St), i ∉ ws → wipe (τ.set i x) ws = (wipe τ ws).set i x := by
        intro ws
        induction ws with
        | nil => intro τ _; rfl
        | cons u us ih =>
          intro τ hn
          unfold wipe
          rw [ih τ fun z => hn (List.mem_cons_of_mem _ z), List.set_comm _ _ fun z => hn (by rw [z]; exact List.mem_cons_self)]
      rw [comm ws σ hi]
      simp
theorem wipe_wipe {σ : L2.St} (vs : List Nat) : wipe (wipe σ vs) vs = wipe σ vs := by
  have gen : ∀ (ws : List Nat), (∀ i ∈ ws, i ∈ vs) → wipe (wipe σ ws) vs = wipe σ vs := by
    intro ws
    induction ws with
    | nil => intro _; rfl
    | cons u us ih =>
      intro h
      show wipe ((wipe σ us).set u none) vs = _
      rw [wipe_set (h u List.mem_cons_self)]
      exact ih fun i hi => h i (List.mem_cons_of_mem _ hi)
  exact gen vs fun _ h => h
theorem tg_name {K : FRG} {tb : List Addr} (i : Nat) : TgS K tb (gName i) (gN i) := fun φ ψ H m ρ σ d v ρ' Q R E V e k => by
  cases e; exact k _ (E.set i V)
theorem tw_name (i : Nat) {vs : List Nat} (h : i ∈ vs) : TgW (gName i) vs := fun v σ H Q q => ⟨wipe_set h, q⟩
theorem tgs_nil {K : FRG} {tb : List Addr} : TgsS K tb gNil [] := fun φ ψ H m ρ σ ds vs ρ' Q R E V e k => by
  cases V with
  | nil => cases e; exact ⟨rfl, k _ E⟩
  | cons h r => cases e
theorem tgs_cons {K : FRG} {tb : List Addr} {g : TG} {gs : TGs} {t : Gx} {ts : List Gx} (h1 : TgS K tb g t) (h2 : TgsS K tb gs ts) : TgsS K tb (gCons g gs) (t :: ts) := fun φ ψ H m ρ σ ds vs ρ' Q R E V e k => by
  cases V with
  | nil => cases e
  | cons h r =>
    obtain ⟨ρ1, e1, e2⟩ := bnd (show (t _ ρ).bind (fun ρ1 => gL ts _ ρ1) = some ρ' from e)
    refine ⟨_, _, rfl, h1 φ ψ H m ρ σ _ _ ρ1 _ R E h e1 fun σ1 E1 => ?_⟩
    exact h2 φ ψ H m ρ1 σ1 _ _ ρ' Q R E1 r e2 k
theorem tws_nil {vs : List Nat} : TgsW gNil vs := fun v σ H Q q => ⟨q.1, rfl, q.2⟩
theorem tws_cons {i : Nat} {gs : TGs} {vs : List Nat} (h : i ∈ vs) (h2 : TgsW gs vs) : TgsW (gCons (gName i) gs) vs := fun v σ H Q q => by
  obtain ⟨x, r, rfl, q⟩ := q
  refine ⟨x, r, rfl, ?_⟩
  have q2 := h2 r _ H Q q
  show gs r (σ.set i (some x)) H _
  rw [wipe_set h] at q2
  exact q2
theorem gL_len : ∀ {ts : List Gx} {ds : List D} {ρ ρ' : Env}, gL ts ds ρ = some ρ' → ds.length = ts.length
  | [], [], _, _, _ => rfl
  | [], _ :: _, _, _, h => by cases h
  | _ :: _, [], _, _, h => by cases h
  | t :: ts, d :: ds, ρ, ρ', h => by
    obtain ⟨ρ1, e1, e2⟩ := bnd (show (t d ρ).bind (fun ρ1 => gL ts ds ρ1) = some ρ' from h)
    simp [gL_len e2]
theorem tg_tup {K : FRG} {tb : List Addr} {gs : TGs} {ts : List Gx} {n : Nat} (hn : ts.length = n) (h : TgsS K tb gs ts) : TgS K tb (gTup K n gs) (gT ts) := fun φ ψ H m ρ σ d v ρ' Q R E V e k => by
  cases V with
  | tup hq r => exact ⟨_, _, rfl, hq, by rw [← r.length, gL_len e]; exact hn, h φ ψ H m ρ σ _ _ ρ' Q R E r e k⟩
  | _ => cases e
theorem tw_tup {K : FRG} {gs : TGs} {n : Nat} {vs : List Nat} (h : TgsW gs vs) : TgW (gTup K n gs) vs := fun v σ H Q q => by
  obtain ⟨a, xs, e1, e2, e3, q⟩ := q
  exact ⟨a, xs, e1, e2, e3, h xs σ H Q q⟩
def sAsg (t : Gx) (a : Ex) : Sx := fun ρ m => (a ρ m).bind fun p => (vl p.1).bind fun d => (t d ρ).bind fun ρ' => some (.nx, ρ', p.2)
theorem bs_asg {X : Cx} {tb : List Addr} {tg a : Expr} {fa : Ex} {g : TG} {t : Gx} {pos : Pos} (ht : TgS X.K tb g t) (ha : PE X a (T X.K tb fa)) (hg : PG X tg g) (hs : swapsWithSole [tg] a pos.line X.env = pure false := by rfl) (hw : swappedStores [tg] a X.env = pure none := by rfl)
    (h1 : (assignEach [tg] X.env).map (·.2) = [assign tg X.env] := by rfl) : PS X (.Assign [tg] a pos) (Ts X.K tb (sAsg t fa)) := by
  refine ps_mono (ps_asg ha hg hs hw h1) fun D σ H ⟨φ, ψ, ρ, m, o, ρ', m', R, E, e, k⟩ => ?_
  obtain ⟨⟨d1, m1⟩, e1, e⟩ := bnd e
  obtain ⟨d, ev, e⟩ := bnd e
  obtain ⟨ρ1, e2, e⟩ := bnd e
  cases e
  exact ⟨φ, ψ, ρ, m, d1, _, R, E, e1, fun φ1 ψ1 H1 v P1 R1 V1 => ht φ1 ψ H1 _ ρ σ d v _ _ (V1.rel R1) (E.mono (V1.post P1) R) (vl_rep (V1.s R1) ev) e2 fun σ' E' => k φ1 ψ H1 (V1.post P1) (V1.rel R1) rfl σ' E'⟩
/-! ### for -/
open Classical in
noncomputable def forL (it : Itm) (xs : List D) (t : Gx) (b : Sx) (dd : List Nat) : List D → Sx
  | [], ρ, m => if itemsAt it m = some xs then some (.nx, ρ, m) else none
  | d :: ds, ρ, m => if itemsAt it m = some xs then (t d ρ).bind fun ρ1 => (b ρ1 m).bind fun r => match r.1 with
      | .nx => forL it xs t b dd ds (wipeD r.2.1 dd) r.2.2
      | .ct => forL it xs t b dd ds (wipeD r.2.1 dd) r.2.2
      | .bk => some (.nx, wipeD r.2.1 dd, r.2.2)
      | .ret d => some (.ret d, r.2.1, r.2.2)
    else none
/-- dd: what is not asked for any more behind a turn -/
noncomputable def sFor (src : Ix) (t : Gx) (b : Sx) (dd : List Nat) : Sx := fun ρ m => (src ρ m).bind fun p => (itemsAt p.1 p.2).bind fun xs => forL p.1 xs t b dd xs ρ p.2
theorem bs_for {X : Cx} {tb : List Addr} {tg iter : Expr} {body : List Stmt} {src : Ix} {g : TG} {t : Gx} {b : Sx} {dd : List Nat} {pos : Pos} (hc : X.calm = true) (ht : TgS X.K tb g t) (hp : PassesOwn (model X.prog X.w) X.A X.env X.xe) (hi : PI X tg iter (Ti X.K tb src)) (hg : PG X tg g) (hb : PSs X body (Ts X.K tb b))
    (hs : ∀ x, foldedSetIterable iter X.env x = pure x := by intro _; rfl) : PS X (.For tg iter body [] pos) (Ts X.K tb (sFor src t b dd)) := by
  refine ps_mono (ps_for hp hc hi hg hb hs) fun D σ H ⟨φ, ψ, ρ, m, o, ρF, mF, R, E, e, k⟩ => ?_
  obtain ⟨⟨it, m1⟩, e1, e⟩ := bnd e
  obtain ⟨xs, e2, e⟩ := bnd e
  refine ⟨φ, ψ, ρ, m, it, m1, R, E, e1, fun φ1 H1 J P1 R1 IR => ?_⟩
  refine ⟨fun i n σ2 H2 => n = xs.length - i ∧ i ≤ xs.length ∧ ∃ φ2 ρ2 m2, Post φ1 ψ H1 φ2 ψ H2 ∧ Rel X.K tb φ2 ψ H2 m2 ∧ RE X.K φ2 ψ H2 ρ2 σ2 ∧ forL it xs t b dd (xs.drop i) ρ2 m2 = some (o, ρF, mF),
    ⟨xs.length, by simp, Nat.zero_le _, φ1, ρ, m1, .refl, R1, E.mono P1 R, by simpa using e⟩, ?_⟩
  rintro i n σ2 H2 ⟨rfl, hi2, φ2, ρ2, m2, P2, R2, E2, ef⟩
  by_cases hlt : i < xs.length
  · rw [List.drop_eq_getElem_cons hlt] at ef
    unfold forL at ef
    split at ef
    · rename_i hx
      obtain ⟨ρ3, e3, ef⟩ := bnd ef
      obtain ⟨⟨o4, ρ4, m4⟩, e4, ef⟩ := bnd ef
      obtain ⟨hgo, hy⟩ := (IR φ2 ψ H2 m2 xs P2 R2 hx).1 i xs[i] (List.getElem?_eq_getElem hlt)
      refine .inr ⟨hgo, fun σ' H' => i + 1 ≤ xs.length ∧ ∃ φ2 ρ2 m2, Post φ1 ψ H1 φ2 ψ H' ∧ Rel X.K tb φ2 ψ H' m2 ∧ RE X.K φ2 ψ H' ρ2 σ' ∧ forL it xs t b dd (xs.drop (i + 1)) ρ2 m2 = some (o, ρF, mF), fun σ' H' q => ⟨xs.length - (i + 1), by omega, rfl, q⟩, fun x H3 y => ?_⟩
      obtain ⟨P3, R3, V3, _⟩ := hy x H3 y
      refine ht φ2 ψ H3 m2 ρ2 σ2 _ x ρ3 _ R3 (E2.mono P3 R2) V3 e3 fun σ3 E3 => ?_
      refine ⟨φ2, ψ, ρ3, m2, o4, ρ4, m4, R3, E3, e4, fun φ5 ψ5 H5 P5 R5 => ?_⟩
      have P15 : Post φ1 ψ H1 φ5 ψ5 H5 := P2.trans (P3.trans P5)
      cases o4 with
      | nx => exact fun z σ5 E5 => by subst z; exact ⟨hlt, φ5, _, m4, P15, R5, E5.fog dd, ef⟩
      | ct => exact fun z σ5 E5 => by subst z; exact ⟨hlt, φ5, _, m4, P15, R5, E5.fog dd, ef⟩
      | bk => cases ef; exact fun z σ5 E5 => by subst z; exact k φ5 _ H5 (P1.trans P15) R5 rfl σ5 (E5.fog dd)
      | ret d => cases ef; exact k φ5 ψ5 H5 (P1.trans P15) R5
    · cases ef
  · rw [List.drop_of_length_le (by omega)] at ef
    unfold forL at ef
    split at ef
    · rename_i hx
      cases ef
      exact .inl ⟨(IR φ2 ψ H2 _ xs P2 R2 hx).2 i (by omega), k φ2 ψ H2 (P1.trans P2) R2 rfl σ2 E2⟩
    · cases ef
/-! ### while -/
def whileN (t : Tx) (b : Sx) (dd : List Nat) : Nat → Sx
  | 0, _, _ => none
  | n + 1, ρ, m => (t ρ m).bind fun p => if p.1 = true then (b ρ p.2).bind fun r => match r.1 with
      | .nx => whileN t b dd n (wipeD r.2.1 dd) r.2.2
      | .ct => whileN t b dd n (wipeD r.2.1 dd) r.2.2
      | .bk => some (.nx, wipeD r.2.1 dd, r.2.2)
      | .ret d => some (.ret d, r.2.1, r.2.2)
    else some (.nx, ρ, p.2)
open Classical in
noncomputable def sWhile (t : Tx) (b : Sx) (dd : List Nat) : Sx := fun ρ m => if h : ∃ n r, whileN t b dd n ρ m = some r then some (Classical.choose (Classical.choose_spec h)) else none
theorem while_up {t : Tx} {b : Sx} {dd : List Nat} : ∀ {n : Nat} {ρ : Env} {m : Mem} {r : Out × Env × Mem}, whileN t b dd n ρ m = some r → ∀ k, whileN t b dd (n + k) ρ m = some r
  | 0, _, _, _, h, _ => by cases h
  | n + 1, ρ, m, r, h, k => by
    rw [show n + 1 + k = (n + k) + 1 by omega]
    unfold whileN at h ⊢
    obtain ⟨⟨c, m1⟩, e1, h⟩ := bnd h
    rw [e1]
    simp only [Option.bind_some]
    cases c with
    | false => exact h
    | true =>
      simp only [if_true] at h ⊢
      obtain ⟨⟨o, ρ2, m2⟩, e2, h⟩ := bnd h
      rw [e2]
      simp only [Option.bind_some]
      cases o with
      | nx => exact while_up h k
      | ct => exact while_up h k
      | bk => exact h
      | ret d => exact h
theorem while_is {t : Tx} {b : Sx} {dd : List Nat} {n : Nat} {ρ : Env} {m : Mem} {r : Out × Env × Mem} (h : whileN t b dd n ρ m = some r) : sWhile t b dd ρ m = some r := by
  have ex : ∃ n r, whileN t b dd n ρ m = some r := ⟨n, r, h⟩
  unfold sWhile
  rw [dif_pos ex]
  have q := Classical.choose_spec (Classical.choose_spec ex)
  have a1 := while_up q n
  have a2 := while_up h (Classical.choose ex)
  rw [Nat.add_comm] at a1
  rw [a2] at a1
  exact a1.symm
theorem bs_while {X : Cx} {tb : List Addr} {c : Expr} {body : List Stmt} {ft : Tx} {b : Sx} {dd : List Nat} {pos : Pos} (hp : PassesOwn (model X.prog X.w) X.A X.env X.xe) (hc : PT X c (Tt X.K tb ft)) (hb : PSs X body (Ts X.K tb b)) : PS X (.While c body [] pos) (Ts X.K tb (sWhile ft b dd)) := by
  refine ps_mono (ps_while hp hc hb) fun D σ H ⟨φ, ψ, ρ, m, o, ρF, mF, R, E, e, k⟩ => ?_
  unfold sWhile at e
  split at e
  · rename_i ex
    have e := Option.some.inj e
    have q := Classical.choose_spec (Classical.choose_spec ex)
    rw [e] at q
    refine ⟨fun n σ2 H2 => ∃ φ2 ρ2 m2, Post φ ψ H φ2 ψ H2 ∧ Rel X.K tb φ2 ψ H2 m2 ∧ RE X.K φ2 ψ H2 ρ2 σ2 ∧ whileN ft b dd n ρ2 m2 = some (o, ρF, mF), ⟨_, φ, ρ, m, .refl, R, E, q⟩, ?_⟩
    rintro n σ2 H2 ⟨φ2, ρ2, m2, P2, R2, E2, ef⟩
    cases n with
    | zero => cases ef
    | succ n =>
      unfold whileN at ef
      obtain ⟨⟨c1, m3⟩, e3, ef⟩ := bnd ef
      refine ⟨φ2, ψ, ρ2, m2, c1, m3, R2, E2, e3, fun φ3 H3 P3 R3 => ?_⟩
      cases c1 with
      | false => cases ef; exact iteF (k φ3 ψ H3 (P2.trans P3) R3 rfl σ2 (E2.mono P3 R2))
      | true =>
        obtain ⟨⟨o4, ρ4, m4⟩, e4, ef⟩ := bnd ef
        refine iteT ⟨fun σ' H' => ∃ φ2 ρ2 m2, Post φ ψ H φ2 ψ H' ∧ Rel X.K tb φ2 ψ H' m2 ∧ RE X.K φ2 ψ H' ρ2 σ' ∧ whileN ft b dd n ρ2 m2 = some (o, ρF, mF), fun σ' H' q => ⟨n, Nat.lt_succ_self _, q⟩, φ3, ψ, ρ2, m3, o4, ρ4, m4, R3, E2.mono P3 R2, e4, fun φ5 ψ5 H5 P5 R5 => ?_⟩
        have P15 : Post φ ψ H φ5 ψ5 H5 := P2.trans (P3.trans P5)
        cases o4 with
        | nx => exact fun z σ5 E5 => by subst z; exact ⟨φ5, _, m4, P15, R5, E5.fog dd, ef⟩
        | ct => exact fun z σ5 E5 => by subst z; exact ⟨φ5, _, m4, P15, R5, E5.fog dd, ef⟩
        | bk => cases ef; exact fun z σ5 E5 => by subst z; exact k φ5 _ H5 P15 R5 rfl σ5 (E5.fog dd)
        | ret d => cases ef; exact k φ5 ψ5 H5 P15 R5
  · cases e
/-! ### list comprehensions -/
open Classical in
noncomputable def lcL (it : Itm) (xs : List D) (t : Gx) (c : Tx) (f : Ex) (ρ : Env) : List D → List D → Mem → Option (List D × Mem)
  | [], acc, m => if itemsAt it m = some xs then some (acc, m) else none
  | d :: ds, acc, m => if itemsAt it m = some xs then (t d ρ).bind fun ρ1 => (c ρ1 m).bind fun p => if p.1 = true then (f ρ1 p.2).bind fun q => (vl q.1).bind fun y => if acc.length < 1000000 then lcL it xs t c f ρ ds (acc ++ [y]) q.2 else none else lcL it xs t c f ρ ds acc p.2
    else none
noncomputable def eLc (src : Ix) (t : Gx) (c : Tx) (f : Ex) (vs : List Nat) : Ex := fun ρ m => (src ρ m).bind fun p => (itemsAt p.1 p.2).bind fun xs => (lcL p.1 xs t c f (wipeD ρ vs) xs [] p.2).bind fun q => some (.f (.lst q.1), q.2)
theorem lc_go {K : FRG} {tb : List Addr} {src : Ix} {g : TG} {t : Gx} {c : Tx} {f : Ex} {vs : List Nat} {σ : L2.St} {H : Hp} {Q : VK} (ht : TgS K tb g t) (hw : TgW g vs) (h : T K tb (eLc src t c f vs) σ H Q) :
    tLc (Ti K tb src) g (Tt K tb c) (T K tb f) vs σ H Q := by
  obtain ⟨φ, ψ, ρ, m, d, mF, R, E, e, k⟩ := h
  obtain ⟨⟨it, m1⟩, e1, e⟩ := bnd e
  obtain ⟨xs, e2, e⟩ := bnd e
  obtain ⟨⟨accF, m9⟩, e3, e⟩ := bnd e
  cases e
  refine ⟨φ, ψ, ρ, m, it, m1, R, E, e1, fun φ1 H1 J P1 R1 IR A hA => ?_⟩
  have nAS : A ∉ ψ := R1.freshS hA
  let Z : Nat → Hp → Prop := fun i H2 => ∃ φ2 m2 acc accV, Post φ1 ψ H1 φ2 (A :: ψ) H2 ∧ Rel K tb φ2 (A :: ψ) H2 m2 ∧ H2 A = some (.lst accV) ∧ Reps K φ2 (A :: ψ) H2 acc accV ∧ lcL it xs t c f (wipeD ρ vs) (xs.drop i) acc m2 = some (accF, m9)
  refine ⟨fun i n H2 => n = xs.length - i ∧ i ≤ xs.length ∧ Z i H2, ⟨xs.length, by simp, Nat.zero_le _, φ1, m1, [], [], Post.nw hA, R1.nw hA, upd_same, .nil, by simpa using e3⟩, ?_⟩
  rintro i n H2 ⟨rfl, hi2, φ2, m2, acc, accV, P2, R2, hA2, rA, ef⟩
  by_cases hlt : i < xs.length
  · rw [List.drop_eq_getElem_cons hlt] at ef
    unfold lcL at ef
    split at ef
    · rename_i hx
      obtain ⟨ρ3, e3', ef⟩ := bnd ef
      obtain ⟨⟨b4, m4⟩, e4, ef⟩ := bnd ef
      obtain ⟨hgo, hy⟩ := (IR φ2 (A :: ψ) H2 m2 xs P2 R2 hx).1 i xs[i] (List.getElem?_eq_getElem hlt)
      refine .inr ⟨hgo, fun H' => i + 1 ≤ xs.length ∧ Z (i + 1) H', fun H' q => ⟨xs.length - (i + 1), by omega, rfl, q⟩, fun x H3 y => ?_⟩
      obtain ⟨P3, R3, V3, same⟩ := hy x H3 y
      have hA3 : H3 A = some (.lst accV) := same A _ hA2
      have rA3 := rA.mono P3 R2
      have E3 : RE K φ2 (A :: ψ) H3 (wipeD ρ vs) (wipe σ vs) := (E.mono (P1.trans (P2.trans P3)) R).wipe vs
      have st := ht φ2 (A :: ψ) H3 m2 (wipeD ρ vs) (wipe σ vs) _ x ρ3 (fun σ3 H3' => Tt K tb c σ3 H3' fun b H4 => if b = true then T K tb f σ3 H4 fun y H5 => ∃ acc, H5 A = some (.lst acc) ∧ acc.length < sizeLine ∧ (fun H' => i + 1 ≤ xs.length ∧ Z (i + 1) H') (upd H5 A (.lst (acc ++ [y]))) else (fun H' => i + 1 ≤ xs.length ∧ Z (i + 1) H') H4) R3 E3 V3 e3' fun σ3 E3' => ?_
      · have st2 := hw _ _ _ _ st
        simp only [wipe_wipe] at st2
        exact st2
      · refine ⟨φ2, A :: ψ, ρ3, m2, b4, m4, R3, E3', e4, fun φ4 H4 P4 R4 => ?_⟩
        have hA4 : H4 A = some (.lst accV) := P4.frm A _ (R3.ap A List.mem_cons_self) hA3 fun _ z => nomatch z
        have rA4 := rA3.mono P4 R3
        have P14 := P2.trans (P3.trans P4)
        cases b4 with
        | false => exact iteF ⟨hlt, φ4, m4, acc, accV, P14, R4, hA4, rA4, ef⟩
        | true =>
          obtain ⟨⟨w5, m5⟩, e5, ef⟩ := bnd ef
          obtain ⟨y5, ev, ef⟩ := bnd ef
          split at ef
          · rename_i hl
            refine iteT ⟨φ4, A :: ψ, ρ3, m4, w5, m5, R4, E3'.mono P4 R3, e5, fun φ5 ψ5 H5 v P5 R5 V5 => ?_⟩
            have R5' := V5.rel R5
            have P5' := V5.post P5
            have hA5 : H5 A = some (.lst accV) := P5'.frm A _ (R4.ap A List.mem_cons_self) hA4 fun _ z => nomatch z
            have rA5 := rA4.mono P5' R4
            have y5' := vl_rep (V5.s R5) ev
            exact ⟨accV, hA5, smallT (by rw [← rA5.length]; exact hl), hlt, φ5, m5, acc ++ [y5], accV ++ [v], Post.sdw List.mem_cons_self (R5'.ap A List.mem_cons_self) (R5'.sd A List.mem_cons_self) (P14.trans P5') hA, R5'.sdw List.mem_cons_self hA5, upd_same, (rA5.snoc y5').sdw List.mem_cons_self hA5, ef⟩
          · cases ef
    · cases ef
  · rw [List.drop_of_length_le (by omega)] at ef
    unfold lcL at ef
    split at ef
    · rename_i hx
      cases ef
      refine .inl ⟨(IR φ2 (A :: ψ) H2 _ xs P2 R2 hx).2 i (by omega), ?_⟩
      exact k φ2 (A :: ψ) H2 _ (P1.trans P2) R2 ⟨A, .lst accF, rfl, rfl, nAS, rfl, accV, hA2, rA⟩
    · cases ef
def tYes' : Tx := fun _ m => some (true, m)
theorem pts_mono {X : Cx} {e : List Expr} {t t' : TT} (h : PTs X e t) (i : ∀ σ H Q, t' σ H Q → t σ H Q) : PTs X e t' := ⟨fun pins s σ H Q I q => h.run pins s σ H Q I (i σ H Q q)⟩
theorem ts_nil {X : Cx} {tb : List Addr} : PTs X [] (Tt X.K tb tYes') := pts_mono pts_nil fun σ H Q ⟨φ, ψ, ρ, m, b, m', R, E, e, k⟩ => by
  cases e; exact k φ H .refl R
theorem ts_one {X : Cx} {tb : List Addr} {c : Expr} {ft : Tx} (h : PT X c (Tt X.K tb ft)) : PTs X [c] (Tt X.K tb ft) := pts_one h
end Pw
end
section
set_option Elab.async false
set_option linter.all false
set_option maxRecDepth 100000
set_option maxHeartbeats 1000000
/-! Comprehensions in the text, defs and their calls. -/
namespace Pw
open PySem PySem.Spec PyProof.Rows L2
theorem ex_lc {X : Cx} {tb : List Addr} {elt tg iter : Expr} {ifs : List Expr} {scope : Scope} {own : List (Str × Nat)} {pos : Pos} {src : Ix} {g : TG} {t : Gx} {c : Tx} {f : Ex} (hc : X.calm = true) (hN : X.N.Nodup) (htg : TgS X.K tb g t) (hw : TgW g (own.map (·.2)))
    (hi : PI X tg iter (Ti X.K tb src)) (ok : BlkOk X.N X.env.scope scope own)
    (hg : ∀ (s : Shared) (H : Hp) (C : Addr) (cl : List (Str × Addr)) (fp : List Addr), PG (X.blk s H scope (compEnvC scope cl C X.env) fp) tg g) (ht : ∀ (s : Shared) (H : Hp) (C : Addr) (cl : List (Str × Addr)) (fp : List Addr), PTs (X.blk s H scope (compEnvC scope cl C X.env) fp) ifs (Tt X.K tb c))
    (he : ∀ (s : Shared) (H : Hp) (C : Addr) (cl : List (Str × Addr)) (fp : List Addr), PE (X.blk s H scope (compEnvC scope cl C X.env) fp) elt (T X.K tb f)) (hs : ∀ x, foldedSetIterable iter X.env x = pure x := by intro _; rfl) :
    PE X (.ListComp elt [⟨tg, iter, ifs, 0⟩] scope pos) (T X.K tb (eLc src t c f (own.map (·.2)))) :=
  pe_mono (pe_lc hc hN hi ok hg ht he hs) fun _ _ _ h => lc_go htg hw h
theorem bs_setLc {X : Cx} {tb : List Addr} (i : Nat) {y : Str} {py : Pos} {elt tg iter : Expr} {ifs : List Expr} {scope : Scope} {own : List (Str × Nat)} {pos spos : Pos} {src : Ix} {g : TG} {t : Gx} {c : Tx} {f : Ex} (hc : X.calm = true) (hN : X.N.Nodup) (htg : TgS X.K tb g t) (hw : TgW g (own.map (·.2)))
    (hi : PI X tg iter (Ti X.K tb src)) (ok : BlkOk X.N X.env.scope scope own)
    (hg : ∀ (s : Shared) (H : Hp) (C : Addr) (cl : List (Str × Addr)) (fp : List Addr), PG (X.blk s H scope (compEnvC scope cl C X.env) fp) tg g) (ht : ∀ (s : Shared) (H : Hp) (C : Addr) (cl : List (Str × Addr)) (fp : List Addr), PTs (X.blk s H scope (compEnvC scope cl C X.env) fp) ifs (Tt X.K tb c))
    (he : ∀ (s : Shared) (H : Hp) (C : Addr) (cl : List (Str × Addr)) (fp : List Addr), PE (X.blk s H scope (compEnvC scope cl C X.env) fp) elt (T X.K tb f))
    (hsw : swapsWith (.ListComp elt [⟨tg, iter, ifs, 0⟩] scope pos) (some (.Name y py)) spos.line X.env = pure true) (hy : X.N[i]? = some y := by rfl) (hyl : X.env.scope.names.lookup y = some .local := by rfl)
    (hs : ∀ x, foldedSetIterable iter X.env x = pure x := by intro _; rfl) :
    PS X (.Assign [.Name y py] (.ListComp elt [⟨tg, iter, ifs, 0⟩] scope pos) spos) (Ts X.K tb (sSet i (eLc src t c f (own.map (·.2))))) :=
  ps_mono (ps_setLc hc hN hy hyl hsw hi ok hg ht he hs) fun D σ H h => lc_go htg hw (set_go (X := X) h)
theorem bs_setLcO {X : Cx} {tb : List Addr} (i : Nat) {y : Str} {py : Pos} {elt tg iter : Expr} {ifs : List Expr} {scope : Scope} {own : List (Str × Nat)} {pos spos : Pos} {src : Ix} {g : TG} {t : Gx} {c : Tx} {f : Ex} (hc : X.calm = true) (hN : X.N.Nodup) (htg : TgS X.K tb g t) (hw : TgW g (own.map (·.2)))
    (hi : PI X tg iter (Ti X.K tb src)) (ok : BlkOk X.N X.env.scope scope own)
    (hg : ∀ (s : Shared) (H : Hp) (C : Addr) (cl : List (Str × Addr)) (fp : List Addr), PG (X.blk s H scope (compEnvC scope cl C X.env) fp) tg g) (ht : ∀ (s : Shared) (H : Hp) (C : Addr) (cl : List (Str × Addr)) (fp : List Addr), PTs (X.blk s H scope (compEnvC scope cl C X.env) fp) ifs (Tt X.K tb c))
    (he : ∀ (s : Shared) (H : Hp) (C : Addr) (cl : List (Str × Addr)) (fp : List Addr), PE (X.blk s H scope (compEnvC scope cl C X.env) fp) elt (T X.K tb f))
    (hsw : swapsWith (.ListComp elt [⟨tg, iter, ifs, 0⟩] scope pos) (some (.Name y py)) spos.line X.env = pure true) (hy : X.N[i]? = some y := by rfl) (hyl : X.env.scope.names.lookup y = some .local := by rfl)
    (hs : ∀ x, foldedSetIterable iter X.env x = pure x := by intro _; rfl) :
    PS X (.Assign [.Name y py] (.ListComp elt [⟨tg, iter, ifs, 0⟩] scope pos) spos) (Ts X.K tb (sSet i (eOwn (eLc src t c f (own.map (·.2)))))) :=
  ps_mono (ps_setLc hc hN hy hyl hsw hi ok hg ht he hs) fun D σ H h => lc_go htg hw (own_go (set_go (X := X) h))
/-! ### defs -/
abbrev Fx := List W → Mem → Option (W × Mem)
def startD (n : Nat) (ws : List W) : Env := ws.map some ++ List.replicate (n - ws.length) none
/-- the lists at b, b + 1, .. -/
def inner (m : Mem) (b : Nat) : Nat → Option (List D)
  | 0 => some []
  | c + 1 => (inner m b c).bind fun ds => match m[b + c]? with
    | some (.lst es) => some (ds ++ [.lst es])
    | _ => none
/-- what a def gives back: its own lists and dicts are new -/
def outW (k : Nat) : W → Mem → Option (W × Mem)
  | .v d, m => some (.v d, m.take k)
  | .f d, m => some (.f d, m.take k)
  | .r n, m => if n < k then some (.r n, m.take k) else match m[n]? with
    | some (.rl b c) => if k ≤ b then (inner m b c).bind fun ds => some (.v (.lst ds), m.take k) else none
    | some mo => some (.f (moD mo), m.take k)
    | none => none
/-- np parameters, n names, the body b -/
def runF (np n : Nat) (b : Sx) : Fx := fun ws m => if ws.length = np then (b (startD n ws) m).bind fun r => match r.1 with
  | .nx => some (.v .non, r.2.2.take m.length)
  | .ret w => outW m.length w r.2.2
  | _ => none
  else none
def spF (K : FRG) (tb : List Addr) (np : Nat) (F : Fx) : Sp := fun vs H Q _ => ∃ φ ψ ws m w m', Rel K tb φ ψ H m ∧ RepSs K φ ψ H ws vs ∧ ws.length = np ∧ F ws m = some (w, m') ∧ Go K tb φ ψ H m' w Q
theorem re_start {K : FRG} {φ ψ : List Addr} {H : Hp} {N : List Str} {ws : List W} {vs : List V} (r : RepSs K φ ψ H ws vs) : RE K φ ψ H (startD N.length ws) (start N vs) := by
  refine ⟨fun i d h => ?_, by simp [startD, L2.start, r.length]⟩
  unfold startD at h
  by_cases hi : i < ws.length
  · rw [List.getElem?_append_left (by simpa using hi), List.getElem?_map] at h
    cases e : ws[i]? with
    | none => rw [e] at h; cases h
    | some x =>
      rw [e] at h
      cases h
      obtain ⟨v, h1, h2⟩ := r.get e
      refine ⟨v, ?_, h2⟩
      unfold L2.start
      rw [List.getElem?_append_left (by rw [List.length_map, ← r.length]; exact hi), List.getElem?_map, h1]
      rfl
  · rw [List.getElem?_append_right (by simpa using hi), List.getElem?_replicate] at h
    split at h <;> cases h
section
variable {K : FRG} {tb φ φ1 ψ ψ1 : List Addr} {H H1 : Hp} {m m1 : Mem}
theorem Rel.cut (R : Rel K tb φ1 ψ1 H m1) (hp : φ <+: φ1) (hs : ∀ a ∈ ψ, a ∈ ψ1 ∨ (a ∈ φ1 ∧ a ∉ φ)) : Rel K tb φ ψ H (m1.take φ.length) := by
  obtain ⟨t, rfl⟩ := hp
  have hl := R.len
  rw [List.length_append] at hl
  have few : ∀ a, a ∉ φ ++ t → a ∉ ψ1 → a ∉ φ ∧ a ∉ ψ := fun a h1 h2 => ⟨fun z => h1 (List.mem_append_left _ z), fun z => (hs a z).elim h2 fun y => h1 y.1⟩
  refine ⟨by rw [List.length_take]; omega, (List.nodup_append.mp R.nd).1, fun n mo a e1 e2 => ?_, R.tab, fun p hp => ?_, fun p hp => ?_⟩
  · have hn : n < φ.length := (List.getElem?_eq_some_iff.mp e2).1
    rw [List.getElem?_take_of_lt hn] at e1
    exact (R.obj n mo a e1 (by rw [List.getElem?_append_left hn]; exact e2)).fewer few fun _ k hk i hi => by
      have e2' : (φ ++ t)[n]? = some a := by rw [List.getElem?_append_left hn]; exact e2
      obtain ⟨h1, h2⟩ := List.getElem?_eq_some_iff.mp e2'
      obtain ⟨h3, h4⟩ := List.getElem?_eq_some_iff.mp hk
      have : k = n := (List.getElem_inj R.nd).mp (h4.trans h2.symm)
      exact (List.getElem?_append_left (by omega)).symm
  · rcases hs p hp with z | z
    · exact R.sd p z
    · exact R.trk z.1
  · rcases hs p hp with z | z
    · exact fun y => R.ap p z (List.mem_append_left _ y)
    · exact z.2
theorem out_go {w w' : W} {m' : Mem} {v : V} {Q : VK} (hl : φ.length = m.length) (P : Post φ ψ H φ1 ψ1 H1) (R : Rel K tb φ1 ψ1 H1 m1) (h : RepW K φ1 ψ ψ1 H1 w v) (e : outW m.length w m1 = some (w', m')) (k : Go K tb φ ψ H m' w' Q) : Q v H1 := by
  have few : ∀ (a : Addr), a ∉ φ1 → ∀ (ψ' : List Addr), a ∉ ψ' → a ∉ φ ∧ a ∉ ψ' := fun a h1 ψ' h2 => ⟨fun z => h1 (P.pre.subset z), h2⟩
  have post : ∀ (ψ' : List Addr), (∀ a ∈ ψ', a ∈ ψ ∨ H a = none) → Post φ ψ H φ ψ' H1 := fun ψ' hs => ⟨List.prefix_refl _, fun _ z => .inl z, hs, P.frm, P.kp⟩
  cases w with
  | v d =>
    cases e
    obtain ⟨rfl, h⟩ := h
    rw [← hl] at k
    exact k φ _ H1 v (post _ P.side) (R.cut P.pre fun _ z => .inl z) ⟨rfl, h.fewer fun a h1 h2 => few a h1 _ h2⟩
  | f d =>
    cases e
    obtain ⟨p, mo, rfl, rfl, np, rfl, q⟩ := h
    rw [← hl] at k
    exact k φ _ H1 _ (post _ P.side) (R.cut P.pre fun _ z => .inl z) ⟨p, mo, rfl, rfl, np, rfl, q.fewer (fun a h1 h2 => few a h1 _ h2) fun _ k hk => absurd (List.mem_of_getElem? hk) (R.ap p List.mem_cons_self)⟩
  | r n =>
    obtain ⟨rfl, a, ha, rfl⟩ := h
    unfold outW at e
    simp only at e
    split at e
    · rename_i hn
      cases e
      rw [← hl] at k
      refine k φ _ H1 _ (post _ P.side) (R.cut P.pre fun _ z => .inl z) ⟨rfl, a, ?_, rfl⟩
      obtain ⟨t, rfl⟩ := P.pre
      rw [List.getElem?_append_left (by rw [hl]; exact hn)] at ha
      exact ha
    · rename_i hn
      have mem : a ∈ φ1 := List.mem_of_getElem? ha
      have nA : a ∉ φ := fun z => by
        obtain ⟨t, rfl⟩ := P.pre
        rw [List.getElem?_append_right (by rw [hl]; omega)] at ha
        exact (List.nodup_append.mp R.nd).2.2 a z a (List.mem_of_getElem? ha) rfl
      have h0 : H a = none := (P.new a mem).resolve_left nA
      have nP : a ∉ ψ1 := fun z => R.ap a z mem
      have hk : ∀ j, m.length ≤ j → ∀ c, φ1[j]? = some c → c ∉ φ := fun j hj c hc z => by
        obtain ⟨t, rfl⟩ := P.pre
        rw [List.getElem?_append_right (by rw [hl]; exact hj)] at hc
        exact (List.nodup_append.mp R.nd).2.2 c z c (List.mem_of_getElem? hc) rfl
      have isRl : ∀ b c, m1[n]? = some (.rl b c) → outW m.length (.r n) m1 = some (w', m') → Q (.ref a) H1 := fun b c e1 e => by
        unfold outW at e
        simp only [e1, if_neg hn] at e
        split at e
        · rename_i hb
          obtain ⟨ds, ed, e⟩ := bnd e
          cases e
          obtain ⟨o1, o2⟩ := R.obj n _ a e1 ha
          have hlen := (List.getElem?_eq_some_iff.mp o2).1
          have rs : ∀ c', c' ≤ c → ∀ ds, inner m1 b c' = some ds → Reps K φ ψ1 H1 ds ((List.range c').map fun i => V.ref (φ1.getD (b + i) 0)) := by
            intro c'
            induction c' with
            | zero => intro _ ds e; cases e; exact .nil
            | succ c' ih =>
              intro hc ds e
              obtain ⟨ds', e3, e⟩ := bnd e
              split at e
              · rename_i es e4
                cases e
                rw [List.range_succ, List.map_append]
                have hj : b + c' < φ1.length := by omega
                have e5 : φ1[b + c']? = some φ1[b + c'] := List.getElem?_eq_getElem hj
                obtain ⟨us, u1, u2⟩ := R.obj _ _ _ e4 e5
                have e6 : φ1.getD (b + c') 0 = φ1[b + c'] := by rw [List.getD_eq_getElem?_getD, e5]; rfl
                refine (ih (by omega) ds' e3).snoc ?_
                show Rep K φ ψ1 H1 (D.lst es) (V.ref (φ1.getD (b + c') 0))
                rw [e6]
                exact .lst (hk _ (by omega) _ e5) (fun z => R.ap _ z (List.mem_of_getElem? e5)) u1 (u2.fewer fun x h1 h2 => few x h1 _ h2)
              · cases e
          rw [← hl] at k
          exact k φ ψ1 H1 _ (post _ P.side) (R.cut P.pre fun _ z => .inl z) ⟨rfl, .lst nA nP o1 (rs c (Nat.le_refl _) ds ed)⟩
        · cases e
      by_cases hr : ∃ b c, m1[n]? = some (.rl b c)
      · obtain ⟨b, c, e1⟩ := hr
        refine isRl b c e1 ?_
        unfold outW
        simp only [if_neg hn]
        exact e
      have e' : ∃ mo, m1[n]? = some mo ∧ some (W.f (moD mo), m1.take m.length) = some (w', m') := by
        split at e
        · rename_i b c e1; exact absurd ⟨b, c, e1⟩ hr
        · rename_i mo e1 _; exact ⟨mo, by assumption, e⟩
        · cases e
      obtain ⟨mo, e1, e⟩ := e'
      cases e
      rw [← hl] at k
      refine k φ (a :: ψ1) H1 _ (post _ fun b hb => ?_) (R.cut P.pre fun b hb => ?_) ⟨a, mo, rfl, rfl, nP, rfl, (R.obj n mo a e1 ha).fewer (fun b h1 h2 => few b h1 _ fun z => ?_) fun ⟨b, c, z⟩ => absurd ⟨b, c, by rw [← z]; exact e1⟩ hr⟩
      · rcases List.mem_cons.mp hb with z | z
        · rw [z]; exact .inr h0
        · exact .inl z
      · rcases List.mem_cons.mp hb with z | z
        · rw [z]; exact .inr ⟨mem, nA⟩
        · exact .inl z
      · rcases List.mem_cons.mp z with y | y
        · rw [y] at h1; exact h1 mem
        · exact h2 y
end
theorem body_go {K : FRG} {tb : List Addr} {np : Nat} {N : List Str} {b : Sx} {vs : List V} {H : Hp} {Q : VK} {E : XK} (h : spF K tb np (runF np N.length b) vs H Q E) : Ts K tb b { nx := fun _ H' => Q .non H', rt := Q } (start N vs) H := by
  obtain ⟨φ, ψ, ws, m, w, m', R, r, hl, e, k⟩ := h
  unfold runF at e
  rw [if_pos hl] at e
  obtain ⟨⟨o, ρ', m1⟩, e1, e⟩ := bnd e
  refine ⟨φ, ψ, _, m, o, ρ', m1, R, re_start r, e1, fun φ1 ψ1 H1 P1 R1 => ?_⟩
  cases o with
  | nx =>
    intro z σ1 E1
    subst z
    exact out_go (w := .v .non) R.len P1 R1 ⟨rfl, .non⟩ e k
  | ret x => exact fun v V => out_go R.len P1 R1 V e k
  | bk => cases e
  | ct => cases e
def eCall (F : Fx) (a : Ax) : Ex := fun ρ m => (a ρ m).bind fun p => F p.1 p.2
theorem call_s {X : Cx} {tb : List Addr} {np : Nat} {F : Fx} {f : Ax} {σ : L2.St} {H : Hp} {Q : VK} (hn : ∀ ds m r, F ds m = some r → ds.length = np) (h : T X.K tb (eCall F f) σ H Q) : tCall (spF X.K tb np F) [] E0 (Ta X.K tb f) σ H Q := by
  obtain ⟨φ, ψ, ρ, m, w, m', R, E, e, k⟩ := h
  obtain ⟨⟨ws, m1⟩, e1, e⟩ := bnd e
  refine ⟨φ, ψ, ρ, m, ws, m1, R, E, e1, fun φ1 H1 vs P1 R1 V1 => ?_⟩
  show spF X.K tb np F (vs ++ []) H1 Q E0
  rw [List.append_nil]
  exact ⟨φ1, ψ, ws, m1, w, m', R1, V1, hn _ _ _ e, e, fun φ3 ψ3 H3 v P3 R3 V3 => k φ3 ψ3 H3 v (P1.trans P3) R3 V3⟩
theorem runF_len {np n : Nat} {b : Sx} {ws : List W} {m : Mem} {r : W × Mem} (h : runF np n b ws m = some r) : ws.length = np := by
  unfold runF at h
  split at h
  · assumption
  · cases h
structure FnG (P : Program) (w : World) (K : FRG) (mg : Str → Option Value) (base : Heap) (k : Nat) (f : Addr) (fd : FuncData) (ps : List Str) (sp : Sp) : Prop where
  len : ∀ vs H Q E, sp vs H Q E → vs.length = ps.length
  run : ∀ (A : Around) (outer : List PySem.Env) (s : Shared) (H : Hp) (args : Args) (us : List Value) (vs : List V) (Q : VK) (E : XK), A.guards = some [] → Room k A → Env0 P w K mg base A outer s H → BindsTo s fd args (ps.zip us) → Vals vs us → sp vs H Q E →
    codeAny (model P w) A (.call (.ref f) args) (CR CX0 outer P w H s Q E) s
/-- a def of the text whose code object is known -/
structure FunC (K : FRG) (x qual : Str) (st : Stmt) (f : Addr) (fd : FuncData) (cdv : Value) : Prop where
  ex : ∃ (oc : Value) (od : Option Addr) (kV doc pm : Value) (an : Option Addr) (ct : Value) (osl : Array (Option Value)),
    fd = PySem.W.fnOf x qual (defArgs st) (defBody st) (defScope st) .none kV doc pm an cdv ct ∧ K.lookup f = some ⟨oc, od, .func fd, osl⟩ ∧ PySem.W.codeIn K cdv qual = true
  kp : PySem.W.keepIn K (.ref f) = true
theorem okG {P : Program} {w : World} {K : FRG} {mg : Str → Option Value} {base : Heap} {tb : List Addr} {x qual : Str} {st : Stmt} {f : Addr} {fd : FuncData} {cdv : Value} {N ps : List Str} {k : Nat} {b : Sx} (F : FunC K x qual st f fd cdv) (S : FnScope N ps (defScope st))
    (hb : ∀ (A : Around) (outer : List PySem.Env) (s : Shared) (H : Hp) (E : XK), A.guards = some [] → Room k (A.deeper (envOfC qual (defScope st) s.heap.objs.size f cdv)) → PSs (cxOf CX0 P w K mg base N qual (defScope st) f cdv A outer s H E).nox (defBody st) (Ts K tb b)) :
    FnG P w K mg base (k + 1) f fd ps (spF K tb ps.length (runF ps.length N.length b)) := by
  obtain ⟨oc, od, kV, doc, pm, an, ct, osl, rfl, known, isCode⟩ := F.ex
  have many : ∀ vs H Q E, spF K tb ps.length (runF ps.length N.length b) vs H Q E → vs.length = ps.length := fun vs H Q E q => by
    obtain ⟨φ, ψ, ws, m, d, m', R, r, hl, e, go⟩ := q
    rw [← r.length]; exact hl
  refine ⟨many, fun A outer s H args us vs Q E noG room entry bound rel want => ?_⟩
  have inK : K.In s.heap := entry.mod.kin.keeps fun c o e => (entry.bs c o e).1
  have free : s.heap.NoLimit := entry.mod.nolimit.keeps fun c o e => (entry.bs c o e).1
  have kinds : ∀ y ∈ ps.zip us, (defScope st).names.lookup y.1 = some .local ∨ ((defScope st).names.lookup y.1 = some .cell ∧ ((cellsFrom (s.heap.objs.size + 1) (defScope st).names []).lookup y.1).isSome = true) := by
    rintro ⟨nm, val⟩ mem
    rcases S.par nm (List.of_mem_zip mem).1 with z | z
    · exact Or.inl z
    · exact Or.inr ⟨z, PySem.W.cellsFrom_some _ _ _ (Or.inl z)⟩
  refine codeAny_call_function room.depth (inK _ _ known) rfl S.co S.gen rfl (PySem.W.codeRec_of inK isCode) (bound _ _ _ _ ?_)
  refine wpAny_newFunctionEnv_cells S.kind kinds fun here isHere t inCall => ?_
  subst isHere
  refine ⟨free.keeps inCall.toInCall.keep, codeAny_func ?_⟩
  have J : Inv (cxOf CX0 P w K mg base N qual (defScope st) f cdv A outer s H E) [] (L2.start N vs) H t := inv_start S room.hd entry (many _ _ _ _ want) rel inCall
  have body := (hb A outer s H E noG (room.deeper _)).nox
  refine wpAny_mono (body.run [] t (L2.start N vs) H _ J (body_go want)) (fun flow t' ends => ?_) fun _ _ z => z
  cases flow with
  | ret u =>
    obtain ⟨v, τ, H', J', rv, q⟩ := ends
    exact ⟨v, H', J'.os, J'.bare, J'.base, J'.hok, rv, q⟩
  | next =>
    obtain ⟨τ, H', J', q⟩ := ends
    exact ⟨.non, H', J'.os, J'.bare, J'.base, J'.hok, rfl, q⟩
  | brk => obtain ⟨_, _, _, z⟩ := ends; exact z.elim
  | cont => obtain ⟨_, _, _, z⟩ := ends; exact z.elim
theorem runG {X : Cx} {k : Nat} {f : Addr} {fd : FuncData} {ps : List Str} {sp : Sp} {pins : List (Addr × Obj)} {σ : L2.St} {H : Hp} {s : Shared} {Q : VK} {us : List Value} {vs : List V} (F : FnG X.prog X.w X.K X.mg X.base k f fd ps sp) (hg : X.A.guards = some []) (hr : Room k X.A) (hb : Binds X.K fd ps [])
    (I : Inv X pins σ H s) (r : Vals vs us) (h : sp vs H Q E0) : wpAny (model X.prog X.w) X.A (call (.ref f) us) (EP X pins σ Q) X.xe s := by
  have hl : us.length = ps.length := r.length.symm.trans (F.len _ _ _ _ h)
  have bound := hb s us I.kIn (by rw [List.append_nil]; exact hl)
  rw [List.append_nil] at bound
  refine wpAny_call (codeAny_mono (F.run X.A X.stack s H ⟨us, []⟩ us vs Q E0 hg hr I.env0 bound r h) fun res t ends => ?_)
  match res, ends with
  | .ok (.ret u), z => exact I.after z
theorem ex_callG {X : Cx} {tb : List Addr} {k : Nat} {f : Addr} {fd : FuncData} {ps : List Str} {x : Str} {p pos : Pos} {e : Expr} {es : List Expr} {fa : Ax} {F : Fx} (hn : ∀ ds m r, F ds m = some r → ds.length = ps.length) (G : FnG X.prog X.w X.K X.mg X.base k f fd ps (spF X.K tb ps.length F)) (hgd : X.A.guards = some []) (hr : Room k X.A) (hg : Gl X x) (hm : X.mg x = some (.ref f)) (hk : PySem.W.keepIn X.K (.ref f) = true) (hb : Binds X.K fd ps [])
    (ha : PA X (e :: es) (Ta X.K tb fa)) (hdb : (x == ("__debug__" : Str)) = false := by decide) (he : starEach (e :: es) X.env = (false, eval e X.env) :: starEach es X.env := by rfl) (hpl : (backTo pos (starEach es X.env)).any (·.1) = false := by rfl) :
    PE X (.Call (.Name x p) (e :: es) [] pos) (T X.K tb (eCall F fa)) := by
  constructor
  intro pins s σ H Q I want
  have h := call_s hn want
  refine wpAny_Call_Name_kw (ld_glob I hg hm ?_ hdb)
  refine PySem.W.callWith_K (h₀ := X.base) I.ok.mod.kin hk (thn (ha.run pos pins s σ H _ I h) fun us t ⟨vs, H1, I1, r, q⟩ => ⟨I1.kIn, ?_⟩) he hpl
  have q' : spF X.K tb ps.length F (vs ++ []) H1 Q E0 := q
  rw [List.append_nil] at q'
  exact runG G hgd hr hb I1 r q'
theorem FunC.binds {K : FRG} {x qual : Str} {st : Stmt} {f : Addr} {fd : FuncData} {cdv : Value} {ps : List Str} (F : FunC K x qual st f fd cdv)
    (h : ∀ (kV doc pm : Value) (an : Option Addr) (ct : Value) (us : List Value), us.length = ps.length → bindArgs (PySem.W.fnOf x qual (defArgs st) (defBody st) (defScope st) .none kV doc pm an cdv ct) ⟨us, []⟩ = pure (ps.zip us)) : Binds K fd ps [] := by
  obtain ⟨oc, od, kV, doc, pm, an, ct, osl, rfl, lk, hcd⟩ := F.ex
  exact .all (h kV doc pm an ct)
end Pw
end
section
set_option Elab.async false
set_option linter.all false
set_option maxRecDepth 100000
set_option maxHeartbeats 1000000
namespace Pv
open PySem PySem.Spec PyProof.Rows L2

/-- one turn of the best number -/
def bst_max (b : Option Int) (x : Int) : Option Int := match b with
  | none => some x
  | some y => if x > y then some x else some y
def cell2 (b : Option (Int × Tok)) : Array Value := match b with
  | none => #[]
  | some (y, t) => #[.int y t, .int y t]
section
variable {prog : Program} {w : World} {A : Around} {E : Value → Shared → Prop} {R : Result → Shared → Prop} {I : Addr} {fp wr : List Addr} {n : Nat} {P : Nat → Value → Prop} {St : Nat → Heap → Prop}
theorem max_turns (W : Walks prog w A.in1 I fp wr n P St) (f : Nat → Int) (hP : ∀ i v, P i v → ∃ t, v = .int (f i) t) (B : Addr) (hB : B ∉ fp) (dv : Value) : ∀ (k i : Nat) (s : Shared) (b : Option (Int × Tok)) (c : Nat), n - i = k → i ≤ n → St i s.heap →
    s.heap.get? B = some { cls := .type "list", dict := none, data := .seq (cell2 b) c, slots := #[] } →
    (∀ v h' tk, (match ((List.range' i k).map f).foldl bst_max (b.map (·.1)) with | none => v = dv | some y => ∃ t, v = .int y t) → (∀ a o, a ∉ wr → a ≠ B → s.heap.get? a = some o → h'.get? a = some o) → R (.ok (.ret v)) { s with heap := h', toks := tk }) →
    codeAny (model prog w) A (.builtin "max.loop" ⟨[.ref I, .none, .ref B], [(Str.ofString "default", dv)]⟩) R s := by
  have hw : B ∉ wr := fun z => hB (W.sub _ z)
  have nm : (toString "max" ++ toString ".loop" : String) = "max.loop" := by decide
  intro k
  induction k with
  | zero =>
    intro i s b c hk hi st at0 fin
    obtain rfl : i = n := by omega
    refine codeAny_builtin F.entry_max_loop ?_
    rw [Around.under_plainId F.plain_max_loop _]
    show wpAny _ A.in1 (seqItems? (.ref B) >>= _) _ _ _
    refine wpAny_bind (wpAny_seqItems at0 rfl ?_)
    show wpAny _ A.in1 (tryCatch (pyNext (.ref I)) _ >>= _) _ _ _
    refine wpAny_bind (wpAny_tryCatch (W.done s _ _ st fun h' tk kp => ?_))
    cases b with
    | none =>
      refine wpAny_bind (wpAny_rule ?_)
      exact wpAny_pure (fin dv h' tk (by exact rfl) fun a o q1 _ q3 => kp a o q1 q3)
    | some p =>
      obtain ⟨y, t⟩ := p
      show wpAny _ A.in1 (updateSeq B (fun _ => #[]) >>= _) _ _ _
      have at1 : h'.get? B = some { cls := .type "list", dict := none, data := .seq #[.int y t, .int y t] c, slots := #[] } := kp B _ hw at0
      refine wpAny_bind (wpAny_updateSeq at1 rfl (wpAny_bind (wpAny_letGo (wpAny_pure ?_))))
      exact fin (.int y t) _ tk ⟨t, rfl⟩ fun a o q1 q2 q3 => (Heap.get?_update_other _ _ (Ne.symm q2)).trans (kp a o q1 q3)
  | succ k ih =>
    intro i s b c hk hi st at0 fin
    have lt : i < n := by omega
    refine codeAny_builtin F.entry_max_loop ?_
    rw [Around.under_plainId F.plain_max_loop _]
    show wpAny _ A.in1 (seqItems? (.ref B) >>= _) _ _ _
    refine wpAny_bind (wpAny_seqItems at0 rfl ?_)
    show wpAny _ A.in1 (tryCatch (pyNext (.ref I)) _ >>= _) _ _ _
    refine wpAny_bind (wpAny_tryCatch (W.item i s _ _ lt st fun v h' tk pv st' kp => ?_))
    have at1 := kp B _ hw at0
    obtain ⟨tv, rfl⟩ := hP i v pv
    cases b with
    | none =>
      have at1 : h'.get? B = some { cls := .type "list", dict := none, data := .seq #[] c, slots := #[] } := kp B _ hw at0
      refine wpAny_bind (m := pure (Value.int (f i) tv)) (wpAny_pure ?_)
      show wpAny _ A.in1 (updateSeq B (fun _ => #[.int (f i) tv, .int (f i) tv]) >>= _) _ _ _
      refine wpAny_bind (wpAny_updateSeq at1 rfl ?_)
      rw [nm]
      refine wpAny_pure ⟨plainId_quiet F.plain_max_loop _, ih (i + 1) _ (some (f i, tv)) _ (by omega) lt (W.frame _ _ _ st' fun a ha o e => ?_) (Heap.get?_update_self _ at1 rfl) fun v h2 tk2 q hk2 => ?_⟩
      · exact (Heap.get?_update_other _ _ (fun z : B = a => hB (by rw [z]; exact ha))).trans e
      · exact fin v h2 tk2 (by simpa [List.range'_succ, bst_max] using q) fun a o q1 q2 q3 => hk2 a o q1 q2 ((Heap.get?_update_other _ _ (Ne.symm q2)).trans (kp a o q1 q3))
    | some p =>
      obtain ⟨y, t⟩ := p
      have at1 : h'.get? B = some { cls := .type "list", dict := none, data := .seq #[.int y t, .int y t] c, slots := #[] } := kp B _ hw at0
      refine wpAny_bind (m := pure (Value.int (f i) tv)) (wpAny_pure ?_)
      show wpAny _ A.in1 (tryCatch (holding [Value.int (f i) tv, Value.int (f i) tv] (richCompare .Gt (Value.int (f i) tv) (Value.int y t) >>= _)) _ >>= _) _ _ _
      refine wpAny_bind (wpAny_tryCatch (wpAny_holding (wpAny_bind ?_)))
      refine CmpOf.ints_gt (P := fun j v => ∃ t, v = .int (if j = 0 then f i else y) t) (fun j => if j = 0 then f i else y) (fun _ _ h => h) 0 1 _ _ _ _ _ ⟨tv, rfl⟩ ⟨t, rfl⟩ ?_
      refine wpAny_bind (wpAny_holding (wpAny_truthy_bool ?_))
      refine wpAny_bind (wpAny_letGo (wpAny_pure ?_))
      by_cases hb : f i > y
      · refine wp_if_pos (by simpa using hb) ?_
        show wpAny _ A.in1 (updateSeq B (fun _ => #[.int (f i) tv, .int (f i) tv]) >>= _) _ _ _
        refine wpAny_bind (wpAny_updateSeq at1 rfl (wpAny_bind (wpAny_letGo ?_)))
        rw [nm]
        refine wpAny_pure ⟨plainId_quiet F.plain_max_loop _, ih (i + 1) _ (some (f i, tv)) _ (by omega) lt (W.frame _ _ _ st' fun a ha o e => ?_) (Heap.get?_update_self _ at1 rfl) fun v h2 tk2 q hk2 => ?_⟩
        · exact (Heap.get?_update_other _ _ (fun z : B = a => hB (by rw [z]; exact ha))).trans e
        · exact fin v h2 tk2 (by simpa [List.range'_succ, bst_max, hb] using q) fun a o q1 q2 q3 => hk2 a o q1 q2 ((Heap.get?_update_other _ _ (Ne.symm q2)).trans (kp a o q1 q3))
      · refine wp_if_neg (by simpa using hb) ?_
        refine wpAny_bind (wpAny_letGo ?_)
        rw [nm]
        refine wpAny_pure ⟨plainId_quiet F.plain_max_loop _, ih (i + 1) _ (some (y, t)) _ (by omega) lt st' at1 fun v h2 tk2 q hk2 => ?_⟩
        exact fin v h2 tk2 (by simpa [List.range'_succ, bst_max, hb] using q) fun a o q1 q2 q3 => hk2 a o q1 q2 (kp a o q1 q3)
theorem args_maxd (a d : Value) : argsOk "max" ⟨[a], [(Str.ofString "default", d)]⟩ := by unfold argsOk; kernel_rfl
theorem max_def {s : Shared} {l : Addr} {its : List Value} {ns : List Int} {dv : Value} {Q : Value → Shared → Prop} (hh : A.handled = none) (hl : s.heap.IsList l its.toArray) (hi : IntsAre its ns)
    (h : ∀ v h' tk, (match ns.foldl bst_max none with | none => v = dv | some y => ∃ t, v = .int y t) → (∀ b o, s.heap.get? b = some o → h'.get? b = some o) → Q v { s with heap := h', toks := tk }) :
    wpAny (model prog w) A (call (.builtin "max") [.ref l] [(Str.ofString "default", dv)]) Q E s := by
  have nm : (toString "max" ++ toString ".loop" : String) = "max.loop" := by decide
  obtain ⟨ol, hol, hcl⟩ := id hl
  have lt : l < s.heap.objs.size := Heap.lt_size hol
  refine PyProof.Rows.kmk_tree F.kind_max F.plain_max F.entry_max (args_maxd _ _) ?_
  refine wpAny_bind (m := Builtin.Builtins.bindParams "max" ["key", "default"] 0 ⟨[], [(Str.ofString "default", dv)]⟩) (wpAny_of_eq (t := Builtin.Builtins.bindParams "max" ["key", "default"] 0 ⟨[], [(Str.ofString "default", dv)]⟩) (a := [none, some dv]) rfl ?_)
  refine wpAny_bind (m := pure (Value.ref l)) (wpAny_pure ?_)
  refine wpAny_bind (wpAny_pyIter_list hl ?_)
  refine wpAny_bind (wpAny_newList ?_ (Nat.zero_le _))
  rw [nm]
  let it : Obj := { cls := .type "list_iterator", data := .fields #[.ref l, .int 0 0] }
  have sz : (s.heap.push it).objs.size = s.heap.objs.size + 1 := PyProof.Rows.size_push' ..
  have Wk := Walks.list (prog := prog) (w := w) (A := A.in1) hh s.heap.objs.size l (Nat.ne_of_lt lt) its.toArray
  have hlen : its.toArray.size = ns.length := by rw [List.size_toArray]; exact hi.length
  have hB : (s.heap.push it).objs.size ∉ [s.heap.objs.size, l] := by
    rw [sz]
    intro z
    rcases List.mem_cons.mp z with z | z
    · omega
    · exact Nat.ne_of_gt (Nat.lt_succ_of_lt lt) (List.mem_singleton.mp z)
  refine wpAny_pure ⟨plainId_quiet F.plain_max_loop _, max_turns Wk (fun i => ns.getD i 0) (fun i v hv => ?_) _ hB dv its.toArray.size 0 _ none 0 (Nat.sub_zero _) (Nat.zero_le _) ⟨⟨_, Heap.get?_push_of_some _ (Heap.get?_push_size _ rfl), rfl, rfl⟩, (hl.push _).push _⟩ (Heap.get?_push_size _ rfl) fun v h' tk q kp => ?_⟩
  · exact PyProof.Rows.IntsAre.int_at hi i v (by simpa using hv)
  · refine h v h' tk ?_ fun b o e => ?_
    · have e : (List.range' 0 its.toArray.size).map (fun i => ns.getD i 0) = ns := by
        rw [hlen]
        refine List.ext_getElem (by simp) fun i h1 h2 => ?_
        simp [List.getElem_range', h2]
      rw [e] at q
      exact q
    · have lb := Heap.lt_size e
      refine kp b o (fun z => ?_) (fun z => ?_) (Heap.get?_push_of_some _ (Heap.get?_push_of_some _ e))
      · exact Nat.ne_of_lt lb (List.mem_singleton.mp z)
      · have z' : b = (s.heap.push it).objs.size := z
        rw [sz] at z'; exact Nat.ne_of_lt (Nat.lt_succ_of_lt lb) z'
end
section
variable {X : Cx}
def rmaxd (K : PySem.W.Frag) : List V → List V → Hp → VK → Prop := fun vs zs H Q => ∃ (a : Addr) (ns : List Int) (d : V), vs = [V.ref a] ∧ zs = [d] ∧ SqL K H a (ns.map V.int) ∧ Q (match ns.foldl bst_max none with | none => d | some y => .int y) H
theorem cr_maxd (hc : X.calm = true) : CallRK X (.builtin "max") [Str.ofString "default"] (rmaxd X.K) := by
  intro pins s σ H vs zs us ws Q I r rz h
  obtain ⟨a, ns, d, rfl, rfl, hs, q⟩ := h
  obtain rfl := Vals.ref1 r
  obtain ⟨w1, rfl, e1⟩ := vals1 rz
  obtain ⟨its, rv, hl, _⟩ := I.list hs
  refine max_def (I.ok.hd hc) hl.isList rv.ints fun v h' tk hv kp => ⟨_, H, I.kept kp, ?_, q⟩
  cases e : ns.foldl bst_max none with
  | none => rw [e] at hv; rw [hv]; exact e1
  | some y => rw [e] at hv; exact hv
end

/-- one turn of the best number -/
def bst_min (b : Option Int) (x : Int) : Option Int := match b with
  | none => some x
  | some y => if x < y then some x else some y
section
variable {prog : Program} {w : World} {A : Around} {E : Value → Shared → Prop} {R : Result → Shared → Prop} {I : Addr} {fp wr : List Addr} {n : Nat} {P : Nat → Value → Prop} {St : Nat → Heap → Prop}
theorem min_turns (W : Walks prog w A.in1 I fp wr n P St) (f : Nat → Int) (hP : ∀ i v, P i v → ∃ t, v = .int (f i) t) (B : Addr) (hB : B ∉ fp) (dv : Value) : ∀ (k i : Nat) (s : Shared) (b : Option (Int × Tok)) (c : Nat), n - i = k → i ≤ n → St i s.heap →
    s.heap.get? B = some { cls := .type "list", dict := none, data := .seq (cell2 b) c, slots := #[] } →
    (∀ v h' tk, (match ((List.range' i k).map f).foldl bst_min (b.map (·.1)) with | none => v = dv | some y => ∃ t, v = .int y t) → (∀ a o, a ∉ wr → a ≠ B → s.heap.get? a = some o → h'.get? a = some o) → R (.ok (.ret v)) { s with heap := h', toks := tk }) →
    codeAny (model prog w) A (.builtin "min.loop" ⟨[.ref I, .none, .ref B], [(Str.ofString "default", dv)]⟩) R s := by
  have hw : B ∉ wr := fun z => hB (W.sub _ z)
  have nm : (toString "min" ++ toString ".loop" : String) = "min.loop" := by decide
  intro k
  induction k with
  | zero =>
    intro i s b c hk hi st at0 fin
    obtain rfl : i = n := by omega
    refine codeAny_builtin F.entry_min_loop ?_
    rw [Around.under_plainId F.plain_min_loop _]
    show wpAny _ A.in1 (seqItems? (.ref B) >>= _) _ _ _
    refine wpAny_bind (wpAny_seqItems at0 rfl ?_)
    show wpAny _ A.in1 (tryCatch (pyNext (.ref I)) _ >>= _) _ _ _
    refine wpAny_bind (wpAny_tryCatch (W.done s _ _ st fun h' tk kp => ?_))
    cases b with
    | none =>
      refine wpAny_bind (wpAny_rule ?_)
      exact wpAny_pure (fin dv h' tk (by exact rfl) fun a o q1 _ q3 => kp a o q1 q3)
    | some p =>
      obtain ⟨y, t⟩ := p
      show wpAny _ A.in1 (updateSeq B (fun _ => #[]) >>= _) _ _ _
      have at1 : h'.get? B = some { cls := .type "list", dict := none, data := .seq #[.int y t, .int y t] c, slots := #[] } := kp B _ hw at0
      refine wpAny_bind (wpAny_updateSeq at1 rfl (wpAny_bind (wpAny_letGo (wpAny_pure ?_))))
      exact fin (.int y t) _ tk ⟨t, rfl⟩ fun a o q1 q2 q3 => (Heap.get?_update_other _ _ (Ne.symm q2)).trans (kp a o q1 q3)
  | succ k ih =>
    intro i s b c hk hi st at0 fin
    have lt : i < n := by omega
    refine codeAny_builtin F.entry_min_loop ?_
    rw [Around.under_plainId F.plain_min_loop _]
    show wpAny _ A.in1 (seqItems? (.ref B) >>= _) _ _ _
    refine wpAny_bind (wpAny_seqItems at0 rfl ?_)
    show wpAny _ A.in1 (tryCatch (pyNext (.ref I)) _ >>= _) _ _ _
    refine wpAny_bind (wpAny_tryCatch (W.item i s _ _ lt st fun v h' tk pv st' kp => ?_))
    have at1 := kp B _ hw at0
    obtain ⟨tv, rfl⟩ := hP i v pv
    cases b with
    | none =>
      have at1 : h'.get? B = some { cls := .type "list", dict := none, data := .seq #[] c, slots := #[] } := kp B _ hw at0
      refine wpAny_bind (m := pure (Value.int (f i) tv)) (wpAny_pure ?_)
      show wpAny _ A.in1 (updateSeq B (fun _ => #[.int (f i) tv, .int (f i) tv]) >>= _) _ _ _
      refine wpAny_bind (wpAny_updateSeq at1 rfl ?_)
      rw [nm]
      refine wpAny_pure ⟨plainId_quiet F.plain_min_loop _, ih (i + 1) _ (some (f i, tv)) _ (by omega) lt (W.frame _ _ _ st' fun a ha o e => ?_) (Heap.get?_update_self _ at1 rfl) fun v h2 tk2 q hk2 => ?_⟩
      · exact (Heap.get?_update_other _ _ (fun z : B = a => hB (by rw [z]; exact ha))).trans e
      · exact fin v h2 tk2 (by simpa [List.range'_succ, bst_min] using q) fun a o q1 q2 q3 => hk2 a o q1 q2 ((Heap.get?_update_other _ _ (Ne.symm q2)).trans (kp a o q1 q3))
    | some p =>
      obtain ⟨y, t⟩ := p
      have at1 : h'.get? B = some { cls := .type "list", dict := none, data := .seq #[.int y t, .int y t] c, slots := #[] } := kp B _ hw at0
      refine wpAny_bind (m := pure (Value.int (f i) tv)) (wpAny_pure ?_)
      show wpAny _ A.in1 (tryCatch (holding [Value.int (f i) tv, Value.int (f i) tv] (richCompare .Lt (Value.int (f i) tv) (Value.int y t) >>= _)) _ >>= _) _ _ _
      refine wpAny_bind (wpAny_tryCatch (wpAny_holding (wpAny_bind ?_)))
      refine CmpOf.ints_lt (P := fun j v => ∃ t, v = .int (if j = 0 then f i else y) t) (fun j => if j = 0 then f i else y) (fun _ _ h => h) 0 1 _ _ _ _ _ ⟨tv, rfl⟩ ⟨t, rfl⟩ ?_
      refine wpAny_bind (wpAny_holding (wpAny_truthy_bool ?_))
      refine wpAny_bind (wpAny_letGo (wpAny_pure ?_))
      by_cases hb : f i < y
      · refine wp_if_pos (by simpa using hb) ?_
        show wpAny _ A.in1 (updateSeq B (fun _ => #[.int (f i) tv, .int (f i) tv]) >>= _) _ _ _
        refine wpAny_bind (wpAny_updateSeq at1 rfl (wpAny_bind (wpAny_letGo ?_)))
        rw [nm]
        refine wpAny_pure ⟨plainId_quiet F.plain_min_loop _, ih (i + 1) _ (some (f i, tv)) _ (by omega) lt (W.frame _ _ _ st' fun a ha o e => ?_) (Heap.get?_update_self _ at1 rfl) fun v h2 tk2 q hk2 => ?_⟩
        · exact (Heap.get?_update_other _ _ (fun z : B = a => hB (by rw [z]; exact ha))).trans e
        · exact fin v h2 tk2 (by simpa [List.range'_succ, bst_min, hb] using q) fun a o q1 q2 q3 => hk2 a o q1 q2 ((Heap.get?_update_other _ _ (Ne.symm q2)).trans (kp a o q1 q3))
      · refine wp_if_neg (by simpa using hb) ?_
        refine wpAny_bind (wpAny_letGo ?_)
        rw [nm]
        refine wpAny_pure ⟨plainId_quiet F.plain_min_loop _, ih (i + 1) _ (some (y, t)) _ (by omega) lt st' at1 fun v h2 tk2 q hk2 => ?_⟩
        exact fin v h2 tk2 (by simpa [List.range'_succ, bst_min, hb] using q) fun a o q1 q2 q3 => hk2 a o q1 q2 (kp a o q1 q3)
theorem args_mind (a d : Value) : argsOk "min" ⟨[a], [(Str.ofString "default", d)]⟩ := by unfold argsOk; kernel_rfl
theorem min_def {s : Shared} {l : Addr} {its : List Value} {ns : List Int} {dv : Value} {Q : Value → Shared → Prop} (hh : A.handled = none) (hl : s.heap.IsList l its.toArray) (hi : IntsAre its ns)
    (h : ∀ v h' tk, (match ns.foldl bst_min none with | none => v = dv | some y => ∃ t, v = .int y t) → (∀ b o, s.heap.get? b = some o → h'.get? b = some o) → Q v { s with heap := h', toks := tk }) :
    wpAny (model prog w) A (call (.builtin "min") [.ref l] [(Str.ofString "default", dv)]) Q E s := by
  have nm : (toString "min" ++ toString ".loop" : String) = "min.loop" := by decide
  obtain ⟨ol, hol, hcl⟩ := id hl
  have lt : l < s.heap.objs.size := Heap.lt_size hol
  refine PyProof.Rows.kmk_tree F.kind_min F.plain_min F.entry_min (args_mind _ _) ?_
  refine wpAny_bind (m := Builtin.Builtins.bindParams "min" ["key", "default"] 0 ⟨[], [(Str.ofString "default", dv)]⟩) (wpAny_of_eq (t := Builtin.Builtins.bindParams "min" ["key", "default"] 0 ⟨[], [(Str.ofString "default", dv)]⟩) (a := [none, some dv]) rfl ?_)
  refine wpAny_bind (m := pure (Value.ref l)) (wpAny_pure ?_)
  refine wpAny_bind (wpAny_pyIter_list hl ?_)
  refine wpAny_bind (wpAny_newList ?_ (Nat.zero_le _))
  rw [nm]
  let it : Obj := { cls := .type "list_iterator", data := .fields #[.ref l, .int 0 0] }
  have sz : (s.heap.push it).objs.size = s.heap.objs.size + 1 := PyProof.Rows.size_push' ..
  have Wk := Walks.list (prog := prog) (w := w) (A := A.in1) hh s.heap.objs.size l (Nat.ne_of_lt lt) its.toArray
  have hlen : its.toArray.size = ns.length := by rw [List.size_toArray]; exact hi.length
  have hB : (s.heap.push it).objs.size ∉ [s.heap.objs.size, l] := by
    rw [sz]
    intro z
    rcases List.mem_cons.mp z with z | z
    · omega
    · exact Nat.ne_of_gt (Nat.lt_succ_of_lt lt) (List.mem_singleton.mp z)
  refine wpAny_pure ⟨plainId_quiet F.plain_min_loop _, min_turns Wk (fun i => ns.getD i 0) (fun i v hv => ?_) _ hB dv its.toArray.size 0 _ none 0 (Nat.sub_zero _) (Nat.zero_le _) ⟨⟨_, Heap.get?_push_of_some _ (Heap.get?_push_size _ rfl), rfl, rfl⟩, (hl.push _).push _⟩ (Heap.get?_push_size _ rfl) fun v h' tk q kp => ?_⟩
  · exact PyProof.Rows.IntsAre.int_at hi i v (by simpa using hv)
  · refine h v h' tk ?_ fun b o e => ?_
    · have e : (List.range' 0 its.toArray.size).map (fun i => ns.getD i 0) = ns := by
        rw [hlen]
        refine List.ext_getElem (by simp) fun i h1 h2 => ?_
        simp [List.getElem_range', h2]
      rw [e] at q
      exact q
    · have lb := Heap.lt_size e
      refine kp b o (fun z => ?_) (fun z => ?_) (Heap.get?_push_of_some _ (Heap.get?_push_of_some _ e))
      · exact Nat.ne_of_lt lb (List.mem_singleton.mp z)
      · have z' : b = (s.heap.push it).objs.size := z
        rw [sz] at z'; exact Nat.ne_of_lt (Nat.lt_succ_of_lt lb) z'
end
section
variable {X : Cx}
def rmind (K : PySem.W.Frag) : List V → List V → Hp → VK → Prop := fun vs zs H Q => ∃ (a : Addr) (ns : List Int) (d : V), vs = [V.ref a] ∧ zs = [d] ∧ SqL K H a (ns.map V.int) ∧ Q (match ns.foldl bst_min none with | none => d | some y => .int y) H
theorem cr_mind (hc : X.calm = true) : CallRK X (.builtin "min") [Str.ofString "default"] (rmind X.K) := by
  intro pins s σ H vs zs us ws Q I r rz h
  obtain ⟨a, ns, d, rfl, rfl, hs, q⟩ := h
  obtain rfl := Vals.ref1 r
  obtain ⟨w1, rfl, e1⟩ := vals1 rz
  obtain ⟨its, rv, hl, _⟩ := I.list hs
  refine min_def (I.ok.hd hc) hl.isList rv.ints fun v h' tk hv kp => ⟨_, H, I.kept kp, ?_, q⟩
  cases e : ns.foldl bst_min none with
  | none => rw [e] at hv; rw [hv]; exact e1
  | some y => rw [e] at hv; exact hv
end
end Pv
end
section
set_option Elab.async false
set_option linter.all false
set_option maxRecDepth 100000
set_option maxHeartbeats 3200000
namespace Pv
open PySem PySem.Spec PyProof.Rows L2
/-- the object that set() begins with -/
abbrev nso (w : World) : Obj := { cls := .type "set", dict := none, data := .set #[] 0 (.fresh 0 0 (!w.params.followText "set-order")) }
abbrev Kps (h h' : Heap) : Prop := ∀ b o, h.get? b = some o → h'.get? b = some o
section
variable {P : Program} {w : World} {A : Around} {E : Value → Shared → Prop} {s : Shared}
/-- what is asked of a description of the set at S, when its i-th item comes -/
structure Fills (P : Program) (w : World) (h0 : Heap) (S : Addr) (Pv : Nat → Value → Prop) (J : Nat → Heap → Prop) (u : Nat) : Prop where
  keep : ∀ i h h', J i h → (∀ o, h.get? S = some o → h'.get? S = some o) → Kps h0 h' → J i h'
  step : ∀ i v (A : Around) (E : Value → Shared → Prop) (s : Shared) (Q : Bool → Shared → Prop), Pv i v → A.units < u → J i s.heap → Kps h0 s.heap →
    (∀ r h' tk, s.toks ≤ tk → Heap.SameBut S s.heap h' → J (i + 1) h' → Q r { s with heap := h', toks := tk }) → wpAny (model P w) A (setAdd S v) Q E s
theorem fill_turns {I S : Addr} {fp wr : List Addr} {G : Array GenState → Array GenState → Prop} {n u : Nat} {Pv : Nat → Value → Prop} {St : Nat → Shared → Prop} {R : Result → Shared → Prop} {h0 : Heap} {J : Nat → Heap → Prop}
    (W : WalksS P w A.in1 I fp wr G n Pv St) (hf : S ∉ fp) (F0 : Fills P w h0 S Pv J u) (hu : A.in1.units < u) (hS : h0.get? S = none) (hw : ∀ b ∈ wr, h0.get? b = none) : ∀ (k i : Nat) (s : Shared), n - i = k → i ≤ n → St i s → Kps h0 s.heap → J i s.heap →
      (∀ s', Moved (S :: wr) G s s' → J n s'.heap → Kps h0 s'.heap → R (.ok (.ret .none)) s') → codeAny (model P w) A (.builtin "set.update.loop" ⟨[.ref S, .ref I], []⟩) R s := by
  have hsw : S ∉ wr := fun z => hf (W.sub _ z)
  have mv : ∀ {s s' : Shared}, Moved wr G s s' → Kps h0 s.heap → Kps h0 s'.heap := fun m k b o e => m.heap b o (fun z => by rw [hw b z] at e; cases e) (k b o e)
  intro k
  induction k with
  | zero =>
    intro i s hk hi st kp j fin
    obtain rfl : i = n := by omega
    refine codeAny_builtin F.entry_set_update_loop ?_
    rw [Around.under_plainId F.plain_set_update_loop _]
    show wpAny _ A.in1 (pyNext (.ref I) >>= _) _ _ s
    refine wpAny_bind (W.done s _ _ st fun s' m => ?_)
    show wpAny _ A.in1 (ret Value.none) _ _ s'
    exact wpAny_pure (fin s' (m.mono fun b hb => List.mem_cons_of_mem _ hb) (F0.keep _ _ _ j (fun o e => m.heap S o hsw e) (mv m kp)) (mv m kp))
  | succ k ih =>
    intro i s hk hi st kp j fin
    have lt : i < n := by omega
    refine codeAny_builtin F.entry_set_update_loop ?_
    rw [Around.under_plainId F.plain_set_update_loop _]
    show wpAny _ A.in1 (pyNext (.ref I) >>= _) _ _ s
    refine wpAny_bind (W.item i s _ _ lt st fun v s' pv st' m => ?_)
    have kp1 := mv m kp
    show wpAny _ A.in1 (holding [v] (setAdd S v) >>= _) _ _ s'
    refine wpAny_bind (wpAny_holding ?_)
    refine F0.step i v _ _ s' _ pv hu (F0.keep _ _ _ j (fun o e => m.heap S o hsw e) kp1) kp1 fun r h' tk ht sb j' => ?_
    have kp2 : Kps h0 h' := fun b o e => (sb.2 b (fun z => by rw [z, hS] at e; cases e)).trans (kp1 b o e)
    refine wpAny_pure ⟨plainId_quiet F.plain_set_update_loop _, ih (i + 1) _ (by omega) lt (W.frame _ s' _ _ st' ht fun b hb o e => ?_) kp2 j' fun s2 m2 j2 kp3 => ?_⟩
    · rw [sb.2 b (fun z : b = S => hf (by rw [← z]; exact hb))]; exact e
    · refine fin s2 (Moved.trans W.gtrans ((m.mono fun b hb => List.mem_cons_of_mem _ hb).then_heap ht fun b o hb e => ?_) m2) j2 kp3
      rw [sb.2 b (fun z : b = S => hb (by rw [z]; exact List.mem_cons_self))]; exact e
theorem get_none {h : Heap} {b : Addr} (hb : h.objs.size ≤ b) : h.get? b = none := by
  cases q : h.get? b with
  | none => rfl
  | some o => exact absurd (Nat.lt_of_lt_of_le (Heap.lt_size q) hb) (Nat.lt_irrefl _)
/-- set(xs), by a description of the set at each item -/
theorem call_set_any {l : Addr} {items : Array Value} {u : Nat} {J : Nat → Heap → Prop} {Q : Value → Shared → Prop} (hh : A.handled = none) (hl : s.heap.IsList l items ∨ s.heap.IsTuple l items)
    (F0 : Fills P w s.heap s.heap.objs.size (fun i v => items[i]? = some v) J u) (hu : A.units + 3 < u) (hJ0 : ∀ h, h.get? s.heap.objs.size = some (nso w) → Kps s.heap h → J 0 h)
    (h : ∀ (h' : Heap) (tk : Nat), J items.size h' → Kps s.heap h' → Q (.ref s.heap.objs.size) { s with heap := h', toks := tk }) :
    wpAny (model P w) A (call (.type "set") [.ref l]) Q E s := by
  obtain ⟨c, tl, hmro⟩ := F.called_set.mro
  have hmade := F.called_set.made
  have hsub := F.called_set.sub
  refine wpAny_call (codeAny_of_tree ?_)
  show wpAny _ _ (callAny (.type "set") _) _ _ _
  refine wpAny_pure ⟨Code.quiet_builtin _ (by decide +kernel), codeAny_builtin F.entry_type_call ?_⟩
  rw [Around.under_plain (weight_type_call_type "set" [.ref l] []) rfl]
  have g1 := F.called_set.notType
  have g2 := F.called_set.canCreate
  have g3 := F.typeCall_set_1 (.ref l)
  repeat (any_goals (first | assumption | wp_step))
  refine codeAny_mono (code_set_led1 (.ref l) (E := E) (Q₁ := fun x s1 => x = .ref s.heap.objs.size ∧ s1 = { s with heap := s.heap.push (nso w) }) ⟨rfl, rfl⟩) fun r s1 hr => ?_
  cases r with
  | error e => exact hr
  | ok fl =>
    cases fl with
    | ret x =>
      obtain ⟨rfl, rfl⟩ := hr
      have at0 : (s.heap.push (nso w)).get? s.heap.objs.size = some (nso w) := Heap.get?_push_size _ rfl
      have ty : Shared.TypeIs { s with heap := s.heap.push (nso w) } (.ref s.heap.objs.size) "set" := ⟨_, at0, rfl⟩
      have g4 := F.called_set.init.lookup
      have g5 := F.called_set.init.bind (.ref s.heap.objs.size)
      repeat (any_goals (first | assumption | wp_step))
      refine codeAny_mono (codeAny_call_builtin (R := wants (fun r s2 => r = .none ∧ ∃ h' tk, s2 = { s with heap := h', toks := tk } ∧ J items.size h' ∧ Kps s.heap h') E) F.called_set.init.plain F.entry_set_init (check_set_init_1 ty ?_)) fun r2 s2 hr2 => ?_
      · have hh3 : A.in1.in1.in1.handled = none := by simp [hh]
        rcases hl with hl | hl
        · obtain ⟨ol, hol, hcl, nl, hdl⟩ := hl
          obtain ⟨ocls, odict, odata, oslots⟩ := ol
          simp only at hcl hdl
          subst hcl; subst hdl
          have q0 : (s.heap.push (nso w)).get? l = some { cls := .type "list", dict := odict, data := .seq items nl, slots := oslots } := Heap.get?_push_of_some _ hol
          have q1 := F.sub_list_set
          have q2 := F.sub_list_frozenset
          have q3 : (Value.type "list" == Value.type "dict") = false := by decide
          have q4 : (s.heap.push (nso w)).IsList l items := ⟨_, q0, rfl, nl, rfl⟩
          unfold Builtin.«set.__init__» noKeywords Builtin.Frozenset.updateFrom
          generalize hPI : pyIter = PI
          wp_walk
          subst hPI
          refine wpAny_pyIter_list q4 ?_
          refine wpAny_bind (wpAny_runValue ?_)
          have ll : l < s.heap.objs.size := Heap.lt_size hol
          have ni : l ≠ (s.heap.push (nso w)).objs.size := by rw [Heap.size_push]; exact Nat.ne_of_lt (Nat.lt_succ_of_lt ll)
          have nf : s.heap.objs.size ∉ [(s.heap.push (nso w)).objs.size, l] := by
            rw [Heap.size_push]; simp only [List.mem_cons, List.mem_singleton, List.not_mem_nil, or_false, not_or]
            exact ⟨Nat.ne_of_lt (Nat.lt_succ_self _), Nat.ne_of_gt ll⟩
          refine fill_turns ((Walks.list hh3 _ l ni items).toS) nf F0 hu (get_none (Nat.le_refl _)) (fun b hb => get_none (by rw [List.mem_singleton.mp hb, Heap.size_push]; exact Nat.le_succ _)) (items.size - 0) 0 _ rfl (Nat.zero_le _)
            ⟨⟨_, Heap.get?_push_size _ rfl, rfl, rfl⟩, (q4.push _)⟩ (fun b o e => Heap.get?_push_of_some _ (Heap.get?_push_of_some _ e)) (hJ0 _ (Heap.get?_push_of_some _ at0) fun b o e => Heap.get?_push_of_some _ (Heap.get?_push_of_some _ e)) ?_
          intro s' m j kp
          obtain ⟨h', gg, dd, tk', oo⟩ := s'
          obtain rfl : gg = s.gens := m.gens
          obtain rfl : dd = s.drawn := m.drawn
          obtain rfl : oo = s.os := m.os
          show wpAny _ _ _ _ _ _
          refine wpAny_pure ?_
          show wpAny _ _ (ret Value.none) _ _ _
          exact wpAny_pure ⟨rfl, h', tk', rfl, j, kp⟩
        · obtain ⟨ol, hol, hcl, nl, hdl⟩ := hl
          obtain ⟨ocls, odict, odata, oslots⟩ := ol
          simp only at hcl hdl
          subst hcl; subst hdl
          have q0 : (s.heap.push (nso w)).get? l = some { cls := .type "tuple", dict := odict, data := .seq items nl, slots := oslots } := Heap.get?_push_of_some _ hol
          have q1 := F.sub_tuple_set
          have q2 := F.sub_tuple_frozenset
          have q3 : (Value.type "tuple" == Value.type "dict") = false := by decide
          have q4 : (s.heap.push (nso w)).IsTuple l items := ⟨_, q0, rfl, nl, rfl⟩
          unfold Builtin.«set.__init__» noKeywords Builtin.Frozenset.updateFrom
          generalize hPI : pyIter = PI
          wp_walk
          subst hPI
          refine wpAny_pyIter_tuple q4 ?_
          refine wpAny_bind (wpAny_runValue ?_)
          have ll : l < s.heap.objs.size := Heap.lt_size hol
          have ni : l ≠ (s.heap.push (nso w)).objs.size := by rw [Heap.size_push]; exact Nat.ne_of_lt (Nat.lt_succ_of_lt ll)
          have nf : s.heap.objs.size ∉ [(s.heap.push (nso w)).objs.size, l] := by
            rw [Heap.size_push]; simp only [List.mem_cons, List.mem_singleton, List.not_mem_nil, or_false, not_or]
            exact ⟨Nat.ne_of_lt (Nat.lt_succ_self _), Nat.ne_of_gt ll⟩
          refine fill_turns ((Walks.tuple hh3 _ l ni items).toS) nf F0 hu (get_none (Nat.le_refl _)) (fun b hb => get_none (by rw [List.mem_singleton.mp hb, Heap.size_push]; exact Nat.le_succ _)) (items.size - 0) 0 _ rfl (Nat.zero_le _)
            ⟨⟨_, Heap.get?_push_size _ rfl, rfl, rfl⟩, (q4.push _)⟩ (fun b o e => Heap.get?_push_of_some _ (Heap.get?_push_of_some _ e)) (hJ0 _ (Heap.get?_push_of_some _ at0) fun b o e => Heap.get?_push_of_some _ (Heap.get?_push_of_some _ e)) ?_
          intro s' m j kp
          obtain ⟨h', gg, dd, tk', oo⟩ := s'
          obtain rfl : gg = s.gens := m.gens
          obtain rfl : dd = s.drawn := m.drawn
          obtain rfl : oo = s.os := m.os
          show wpAny _ _ _ _ _ _
          refine wpAny_pure ?_
          show wpAny _ _ (ret Value.none) _ _ _
          exact wpAny_pure ⟨rfl, h', tk', rfl, j, kp⟩
      · cases r2 with
        | error e => exact hr2
        | ok f2 =>
          cases f2 with
          | ret r =>
            obtain ⟨rfl, h', tk, rfl, j, kp⟩ := hr2
            repeat (any_goals (first | assumption | wp_step))
            exact h _ _ j kp
          | _ => exact hr2.elim
    | _ => exact hr.elim
end
end Pv
end
section
set_option Elab.async false
set_option linter.all false
set_option maxRecDepth 100000
set_option maxHeartbeats 1000000
namespace Pv
open PySem PySem.Spec PyProof.Rows L2
/-! ### rows in order, each once -/
section
variable {α : Type} [DecidableEq α] {lt : α → α → Bool}
def insU (lt : α → α → Bool) (x : α) : List α → List α
  | [] => [x]
  | y :: ys => if x = y then y :: ys else if lt x y = true then x :: y :: ys else y :: insU lt x ys
def sortU (lt : α → α → Bool) (xs : List α) : List α := xs.foldr (insU lt) []
structure Lin (lt : α → α → Bool) : Prop where
  irr : ∀ x, lt x x = false
  tr : ∀ x y z, lt x y = true → lt y z = true → lt x z = true
  tot : ∀ x y, lt x y = false → lt y x = false → x = y
theorem mem_insU {x y : α} : ∀ {l : List α}, y ∈ insU lt x l ↔ y = x ∨ y ∈ l
  | [] => by simp [insU]
  | z :: l => by
    unfold insU
    split
    · rename_i h; subst h; simp
    · split
      · simp
      · rw [List.mem_cons, mem_insU (l := l), List.mem_cons]
        constructor
        · rintro (h | h | h)
          · exact .inr (.inl h)
          · exact .inl h
          · exact .inr (.inr h)
        · rintro (h | h | h)
          · exact .inr (.inl h)
          · exact .inl h
          · exact .inr (.inr h)
theorem mem_sortU {y : α} : ∀ {xs : List α}, y ∈ sortU lt xs ↔ y ∈ xs
  | [] => by simp [sortU]
  | x :: xs => by
    show y ∈ insU lt x (sortU lt xs) ↔ _
    rw [mem_insU, mem_sortU, List.mem_cons]
theorem insU_sorted (L : Lin lt) {x : α} : ∀ {l : List α}, l.Pairwise (fun a b => lt a b = true) → (insU lt x l).Pairwise (fun a b => lt a b = true)
  | [], _ => by simp [insU]
  | y :: l, h => by
    obtain ⟨h1, h2⟩ := List.pairwise_cons.mp h
    unfold insU
    split
    · exact h
    · rename_i ne
      split
      · rename_i hl
        refine List.pairwise_cons.mpr ⟨fun z hz => ?_, h⟩
        rcases List.mem_cons.mp hz with rfl | hz
        · exact hl
        · exact L.tr _ _ _ hl (h1 z hz)
      · rename_i hl
        refine List.pairwise_cons.mpr ⟨fun z hz => ?_, insU_sorted L h2⟩
        rcases mem_insU.mp hz with rfl | hz
        · cases q : lt y z with
          | true => rfl
          | false => exact absurd (L.tot _ _ (by simpa using hl) q) ne
        · exact h1 z hz
theorem sortU_sorted (L : Lin lt) : ∀ (xs : List α), (sortU lt xs).Pairwise (fun a b => lt a b = true)
  | [] => List.Pairwise.nil
  | x :: xs => insU_sorted L (sortU_sorted L xs)
theorem sorted_uniq (L : Lin lt) : ∀ {a b : List α}, a.Pairwise (fun x y => lt x y = true) → b.Pairwise (fun x y => lt x y = true) → (∀ x, x ∈ a ↔ x ∈ b) → a = b
  | [], [], _, _, _ => rfl
  | [], y :: b, _, _, h => absurd ((h y).mpr List.mem_cons_self) (by simp)
  | x :: a, [], _, _, h => absurd ((h x).mp List.mem_cons_self) (by simp)
  | x :: a, y :: b, ha, hb, h => by
    obtain ⟨a1, a2⟩ := List.pairwise_cons.mp ha
    obtain ⟨b1, b2⟩ := List.pairwise_cons.mp hb
    have e : x = y := by
      rcases List.mem_cons.mp ((h x).mp List.mem_cons_self) with e | hx
      · exact e
      · rcases List.mem_cons.mp ((h y).mpr List.mem_cons_self) with e | hy
        · exact e.symm
        · exact absurd (L.tr _ _ _ (a1 y hy) (b1 x hx)) (by rw [L.irr]; decide)
    subst e
    congr 1
    refine sorted_uniq L a2 b2 fun z => ⟨fun hz => ?_, fun hz => ?_⟩
    · rcases List.mem_cons.mp ((h z).mp (List.mem_cons_of_mem _ hz)) with e | q
      · exact absurd (a1 z hz) (by rw [e, L.irr]; decide)
      · exact q
    · rcases List.mem_cons.mp ((h z).mpr (List.mem_cons_of_mem _ hz)) with e | q
      · exact absurd (b1 z hz) (by rw [e, L.irr]; decide)
      · exact q
theorem insU_len {x : α} : ∀ {l : List α}, (insU lt x l).length ≤ l.length + 1
  | [] => by simp [insU]
  | y :: l => by
    unfold insU
    split
    · simp
    · split
      · simp
      · have := insU_len (x := x) (l := l); simp; omega
theorem sortU_len : ∀ (xs : List α), (sortU lt xs).length ≤ xs.length
  | [] => Nat.le_refl _
  | x :: xs => by
    show (insU lt x (sortU lt xs)).length ≤ _
    have := insU_len (lt := lt) (x := x) (l := sortU lt xs)
    have := sortU_len xs
    simp; omega
end
def iLt (a b : Int) : Bool := decide (a < b)
theorem lin_i : Lin iLt := by
  refine ⟨fun x => ?_, fun x y z h1 h2 => ?_, fun x y h1 h2 => ?_⟩
  · simp [iLt]
  · simp only [iLt, decide_eq_true_eq] at h1 h2 ⊢; omega
  · simp only [iLt, decide_eq_false_iff_not] at h1 h2; omega
/-! ### sorted(set(numbers)) -/
section
variable {P : Program} {w : World} {A : Around} {E : Value → Shared → Prop} {s : Shared} {a : Addr}
theorem sorted_setR {S : Int → Bool} {n : Nat} {Q : Value → Shared → Prop} (R : SetR w s.heap a S n) (hh : A.handled = none)
    (fin : ∀ s' p (out : List Value) (c : Nat) (ns : List Int), (∀ b o, s.heap.get? b = some o → s'.heap.get? b = some o) → s'.gens = s.gens → s'.os = s.os → s.heap.objs.size ≤ p →
      s'.heap.get? p = some (seqObj "list" out.toArray c) → IntsAre out ns → ns.Pairwise (fun x y => iLt x y = true) → (∀ k, k ∈ ns ↔ S k = true) → ns.length ≤ 4096 → Q (.ref p) s') : wpAny (model P w) A (call (.builtin "sorted") [.ref a]) Q E s := by
  obtain ⟨o, es, ep, t, ho, hex, hd, g, nd, hm, hb, hf, hn, hr, hl⟩ := R
  refine Calls.call_function_entry kind_sorted plain_sorted entry_sorted (args_sorted1 _) ?_
  unfold Builtin.«sorted»
  refine wpAny_bind (m := checkCount "sorted" 1 1 _) (wpAny_pure ?_)
  refine wpAny_bind (collect_set (A := A.in1) hh ⟨o, ho, hex.1, hd⟩ hf hb hr hl fun s1 vs k1 hz g1 o1 pm => ?_)
  have vl : vs.length ≤ 4096 := by
    rw [pm.length_eq, List.length_map, Array.length_toList]
    have : scanBound = 4096 := rfl
    omega
  have vi : ∀ v ∈ vs, ∃ i t, v = Value.int i t := fun v hv => by
    obtain ⟨e, he, q⟩ := List.mem_map.mp (pm.mem_iff.mp hv)
    obtain ⟨k, tk, z, _⟩ := g e he
    exact ⟨k, tk, by rw [← q]; exact z⟩
  have hI := SrtO.ints_iv vi
  have ke : ∀ v ∈ es.toList.map (·.2), SrtO.iv v = Builtin.Re.reRawOf v := fun v hv => by
    obtain ⟨i, t, rfl⟩ := vi v (pm.mem_iff.mpr hv)
    rfl
  have pk : (vs.map SrtO.iv).Perm (es.toList.map keyOf) := by
    have q := pm.map SrtO.iv
    rw [List.map_map] at q
    refine q.trans (List.Perm.of_eq (List.map_congr_left fun e he => ?_))
    exact ke e.2 (List.mem_map.mpr ⟨e, he, rfl⟩)
  refine wpAny_bind (wpAny_newList ?_ (by rw [sizeLine_eq]; omega))
  have at1 : (s1.heap.push (seqObj "list" vs.toArray 0)).get? s1.heap.objs.size = some (seqObj "list" vs.toArray 0) := Heap.get?_push_size _ rfl
  refine wpAny_bind (wpAny_holding (wpAny_call_entry slot_list_sort ⟨_, at1, rfl⟩ entry_list_sort
    (SrtO.list_sort_ord SrtO.swo_int at1 (by rw [sizeLine_eq]; omega) (fun h2 => SrtO.ints_sortable hI h2) fun out h1 h2 => ⟨.none, rfl, ?_⟩) (args_list_sort _)))
  obtain ⟨c1, c2, c3⟩ := SrtO.ints_out hI h1 h2
  obtain ⟨c, hc⟩ := sortedHeap_at (vs := vs) (out := out.toArray) at1
  have pn : (out.map SrtO.iv).Perm (es.toList.map keyOf) := c2.trans pk
  refine wpAny_pure ⟨_, rfl, fin _ s1.heap.objs.size out c _ (fun b u e => ?_) g1 o1 hz hc c1 ?_ (fun k => by rw [pn.mem_iff, ← hm k]) ?_⟩
  · have q := k1 b u e
    have hlt := Heap.lt_size q
    show (sortedHeap (s1.heap.push (seqObj "list" vs.toArray 0)) s1.heap.objs.size vs out.toArray).get? b = some u
    rw [sortedHeap_old (Nat.ne_of_lt hlt) (by rw [size_push']; exact Nat.lt_succ_of_lt hlt)]
    exact Heap.get?_push_of_some _ q
  · exact (lt_of_le_nodup _ c3 (pn.nodup_iff.mpr nd)).imp fun {x y} h => decide_eq_true h
  · rw [c2.length_eq, List.length_map]; exact vl
end
section
variable {X : Cx}
def rSortedSA (w : World) : List V → Hp → VK → Prop := fun vs H Q => ∃ (a : Addr) (S : Int → Bool) (n : Nat), vs = [V.ref a] ∧ H a = some (SetO w a S n) ∧
  ∀ (ns : List Int) (p : Addr), ns.Pairwise (fun x y => iLt x y = true) → (∀ k : Int, k ∈ ns ↔ S k = true) → H p = none → Q (.ref p) (upd H p (.lst (ns.map V.int)))
theorem cr_sortedSA (hc : X.calm = true) : CallR X (.builtin "sorted") (rSortedSA X.w) := by
  intro pins s σ H vs us Q I r h
  obtain ⟨a, S, n, rfl, ha, q⟩ := h
  rw [Vals.ref1 r]
  refine sorted_setR (setO_get I ha) (I.ok.hd hc) fun s' p out c ns k g o hp hg hi hs hm hl => ?_
  have hn : H p = none := I.hok.fresh hp
  have hlen : (ns.map V.int).length ≤ sizeLine := by rw [List.length_map, sizeLine_eq]; omega
  have J : Inv X pins σ (upd H p (.lst (ns.map V.int))) { s with heap := s'.heap, gens := s'.gens, drawn := s'.drawn, toks := s'.toks } :=
    I.call (ch := []) (Un.laid k hp hn) (I.hok.laid k hp ⟨hlen, out, c, vals_of_ints hi, hg⟩) (by rw [g]; exact I.bare) (fun _ z => nomatch z)
  have e : s' = { s with heap := s'.heap, gens := s'.gens, drawn := s'.drawn, toks := s'.toks } := by
    cases s'; cases s; cases o; rfl
  rw [e]
  exact ⟨.ref p, _, J, rfl, q ns p hs hm hn⟩
end
end Pv
end
section
set_option Elab.async false
set_option linter.all false
set_option maxRecDepth 100000
set_option maxHeartbeats 1000000
/-! sets of tuples whose items are numbers and texts -/
namespace Pv
open PySem PySem.Spec PyProof.Rows L2
abbrev KT' := List L2.Key
abbrev Ent := Addr × KT'
abbrev IsM (P : Program) (w : World) (h : Heap) (k : KT') (b : Addr) : Prop := IsTupleKey (mixKind P w) h k b
abbrev mh (P : Program) (w : World) (k : KT') : Int := tupleKeyHash (mixKind P w) k
abbrev hsE (P : Program) (w : World) (e : Ent) : Int := mh P w e.2
abbrev rowE (P : Program) (w : World) (e : Ent) : Int × Value := (mh P w e.2, Value.ref e.1)
section
variable {P : Program} {w : World} {A : Around} {E : Value → Shared → Prop} {s : Shared}
theorem mix_items {k : KT'} {vs : List Value} (h : ItemsAre (mixKind P w) k vs) : ∀ v ∈ vs, (∃ i t, v = Value.int i t) ∨ ∃ x t, v = Value.str x t := by
  induction h with
  | nil => intro v hv; cases hv
  | @cons k0 v0 ks vs h1 _ ih =>
    intro v hv
    rcases List.mem_cons.mp hv with rfl | hv
    · rcases keyIs_shape (k := k0) (v := v) h1 with ⟨i, t, _, e⟩ | ⟨x, t, _, e⟩
      · exact .inl ⟨i, t, e⟩
      · exact .inr ⟨x, t, e⟩
    · exact ih v hv
theorem ofCls_str (n : Nat) (x : Str) (t : Tok) : ofAClassStatement n (.str x t) = pure false := by cases n <;> rfl
theorem byVal_str (n : Nat) (x : Str) (t : Tok) : hashByValue n (.str x t) = pure false := by cases n <;> rfl
theorem ofCls_mix {k : KT'} {b : Addr} {Q : Bool → Shared → Prop} (hk : IsM P w s.heap k b) (h : Q false s) : wpAny (model P w) A (ofAClassStatement 8 (.ref b)) Q E s := by
  have ty := hk.typeIs
  obtain ⟨o, items, n, ho, _, hd, hi⟩ := hk
  unfold ofAClassStatement
  refine wpAny_bind (wpAny_typeOf ty ?_)
  dsimp only
  simp only [show (("tuple" : String) == "tuple") = true by decide, if_true, Bool.not_true, Bool.false_eq_true, if_false]
  try refine wpAny_bind (wpAny_pure ?_)
  try simp only [Bool.not_true, Bool.false_eq_true, if_false]
  show wpAny _ _ (seqItems? (.ref b) >>= _) _ _ s
  refine wpAny_bind (wpAny_seqItems ho hd ?_)
  dsimp only
  refine wpAny_bind ?_
  show wpAny _ _ (forIn items _ _) _ _ s
  rw [← Array.forIn_toList]
  refine wpAny_forIn_list _ (fun l r s' => r.1 = none ∧ s' = s ∧ ∀ v ∈ l, (∃ i t, v = Value.int i t) ∨ ∃ x t, v = Value.str x t) _ ?_ ?_ _ _ ⟨rfl, rfl, mix_items hi⟩
  · rintro v l r s' ⟨_, rfl, q⟩
    have ql : ∀ u ∈ l, (∃ i t, u = Value.int i t) ∨ ∃ x t, u = Value.str x t := fun u hu => q u (List.mem_cons_of_mem _ hu)
    rcases q v List.mem_cons_self with ⟨i, t, rfl⟩ | ⟨x, t, rfl⟩
    · rw [ofAClass_int]
      refine wpAny_bind (wpAny_pure ?_)
      simp only [Bool.false_eq_true, if_false]
      exact wpAny_pure ⟨rfl, rfl, ql⟩
    · rw [ofCls_str]
      refine wpAny_bind (wpAny_pure ?_)
      simp only [Bool.false_eq_true, if_false]
      exact wpAny_pure ⟨rfl, rfl, ql⟩
  · rintro ⟨r1, r2⟩ s' ⟨q, rfl, _⟩
    simp only at q
    subst q
    exact wpAny_pure h
theorem byVal_mix {k : KT'} {b : Addr} {Q : Bool → Shared → Prop} (hk : IsM P w s.heap k b) (h : ∀ r, Q r s) : wpAny (model P w) A (hashByValue 8 (.ref b)) Q E s := by
  have ty := hk.typeIs
  obtain ⟨o, items, n, ho, _, hd, hi⟩ := hk
  unfold hashByValue
  refine wpAny_bind (wpAny_specialOf ty F.slot_tuple_hash.lookup ?_)
  show wpAny _ _ (seqItems? (.ref b) >>= _) _ _ s
  refine wpAny_bind (wpAny_seqItems ho hd ?_)
  refine wpAny_bind ?_
  show wpAny _ _ (forIn items _ _) _ _ s
  rw [← Array.forIn_toList]
  refine wpAny_forIn_list _ (fun l r s' => r.1 = none ∧ s' = s ∧ ∀ v ∈ l, (∃ i t, v = Value.int i t) ∨ ∃ x t, v = Value.str x t) _ ?_ ?_ _ _ ⟨rfl, rfl, mix_items hi⟩
  · rintro v l r s' ⟨_, rfl, q⟩
    have ql : ∀ u ∈ l, (∃ i t, u = Value.int i t) ∨ ∃ x t, u = Value.str x t := fun u hu => q u (List.mem_cons_of_mem _ hu)
    rcases q v List.mem_cons_self with ⟨i, t, rfl⟩ | ⟨x, t, rfl⟩
    · rw [hashBy_int]
      refine wpAny_bind (wpAny_pure ?_)
      simp only [Bool.not_true, Bool.false_eq_true, if_false]
      exact wpAny_pure ⟨rfl, rfl, ql⟩
    · rw [byVal_str]
      refine wpAny_bind (wpAny_pure ?_)
      simp only [Bool.not_false, if_true]
      exact wpAny_pure (wpAny_pure (h false))
  · rintro ⟨r1, r2⟩ s' ⟨q, rfl, _⟩
    simp only at q
    subst q
    exact wpAny_pure (h true)
theorem unseen_mix {k : KT'} {b : Addr} {Q : Bool → Shared → Prop} (hk : IsM P w s.heap k b) {ys : List Value} (hy : ∀ y ∈ ys, ∃ k' c, y = Value.ref c ∧ IsM P w s.heap k' c) (h : Q false s) :
    wpAny (model P w) A (searchCouldBeSeen (.ref b) ys) Q E s := by
  unfold searchCouldBeSeen
  refine wpAny_bind ?_
  refine wpAny_forIn_list _ (fun l r s' => r.1 = none ∧ s' = s ∧ ∀ y ∈ l, ∃ k' c, y = Value.ref c ∧ IsM P w s.heap k' c) _ ?_ ?_ _ _ ⟨rfl, rfl, hy⟩
  · rintro v l r s' ⟨_, rfl, q⟩
    obtain ⟨k', c, rfl, hc⟩ := q v List.mem_cons_self
    have ql : ∀ y ∈ l, ∃ k' c, y = Value.ref c ∧ IsM P w s'.heap k' c := fun u hu => q u (List.mem_cons_of_mem _ hu)
    dsimp only
    by_cases hv : (b == c || (carriedByValue (.ref b) && carriedByValue (.ref c))) = true
    · exact wp_if_pos hv (wpAny_pure ⟨rfl, rfl, ql⟩)
    · refine wp_if_neg hv ?_
      refine wpAny_bind (wpAny_eqIsQuiet_tuple hk ?_)
      simp only [Bool.not_true, Bool.false_eq_true, if_false]
      refine wpAny_bind (wpAny_eqIsQuiet_tuple hc ?_)
      simp only [Bool.not_true, Bool.false_eq_true, if_false]
      refine wpAny_bind (ofCls_mix hk ?_)
      simp only [Bool.false_eq_true, if_false]
      refine wpAny_bind (ofCls_mix hc ?_)
      simp only [Bool.false_eq_true, if_false]
      exact wpAny_pure ⟨rfl, rfl, ql⟩
  · rintro ⟨r1, r2⟩ s' ⟨q, rfl, _⟩
    simp only at q
    subst q
    exact wpAny_pure h
/-- the set at a holds the keys of L -/
structure MS (P : Program) (w : World) (h : Heap) (a : Addr) (L : List Ent) (es : Array (Int × Value)) (ep : Nat) (t : SetTable) : Prop where
  ob : ∃ o, h.get? a = some o ∧ o.ExactSet ∧ o.data = .set es ep t
  rw' : es.toList = L.map (rowE P w)
  tb : TabOk t (L.map (hsE P w))
  nd : (L.map (·.2)).Nodup
  tu : ∀ e ∈ L, IsM P w h e.2 e.1
  ld : w.params.followText "set-order" = true ∨ t.led = true
  rm : L.length * 5 < t.mask * 3
  fw : L.length < 64
variable {a : Addr} {L : List Ent} {es : Array (Int × Value)} {ep : Nat} {t : SetTable}
theorem rows_size (r : es.toList = L.map (rowE P w)) : es.size = L.length := by
  have := congrArg List.length r
  simpa using this
theorem rows_at (r : es.toList = L.map (rowE P w)) {i : Nat} {e : Ent} (h : L[i]? = some e) : es[i]? = some (rowE P w e) := by
  rw [← Array.getElem?_toList, r, List.getElem?_map, h]; rfl
theorem MS.fit (R : MS P w s.heap a L es ep t) : t.fits es.size = true := by
  have q1 := R.tb.sz
  rw [List.length_map] at q1
  have q2 := rows_size R.rw'
  have q3 := R.rm
  unfold SetTable.fits SetTable.fill
  rw [R.tb.dm, Bool.and_eq_true, beq_iff_eq, decide_eq_true_eq]
  show t.place.size = es.size ∧ t.place.size + 0 ≤ t.mask
  omega
theorem MS.nogw (R : MS P w s.heap a L es ep t) : ¬ t.gaveWay = true := by
  unfold SetTable.gaveWay
  rw [mask_odd R.tb.mok]; decide
abbrev stp (t : SetTable) (h : Int) (c : Nat) : SetTable.Probe := nth t.mask (runAt t.mask (SetTable.bits h % (t.mask + 1)) (SetTable.bits h)) c
theorem stp_dummy (t : SetTable) (h : Int) (c : Nat) : (stp t h c).dummy = none := by
  have key : ∀ (n : Nat) (p : SetTable.Probe), p.dummy = none → (nth t.mask p n).dummy = none := by
    intro n
    induction n with
    | zero => exact fun _ q => q
    | succ n ih => exact fun p q => ih (adv t.mask p) (by unfold adv; split <;> exact q)
  exact key c _ rfl
theorem stp_add (t : SetTable) (h : Int) (c q : Nat) : nth t.mask (stp t h c) q = stp t h (c + q) := (nth_add t.mask c _ q).symm
/-- the search from the c-th place of the way -/
theorem ms_find (R : MS P w s.heap a L es ep t) {x : Addr} {k : KT'} (hx : IsM P w s.heap k x) (hu : A.units < cLine) {K : Nat} (k1 : K < 10 * SetTable.turns t.mask)
    (k2 : way t.mask (mh P w k) K ∉ t.place.toList) (k3 : ∀ c, c < K → way t.mask (mh P w k) c ∈ t.place.toList) {Q : SetFound → Shared → Prop}
    (yes : k ∈ L.map (·.2) → Q (.there none) s) (no : k ∉ L.map (·.2) → Q (.free (way t.mask (mh P w k) K) false) s) :
    ∀ (f c : Nat) (st : Option SetTable.Probe), st.getD (t.probeStart (mh P w k)) = stp t (mh P w k) c → c ≤ K → K - c < f →
      (∀ (i : Nat) e, L[i]? = some e → e.2 = k → ∃ d, c ≤ d ∧ d < K ∧ t.place.toList[i]? = some (way t.mask (mh P w k) d)) →
      wpAny (model P w) A (setSearchFrom a (.ref x) (mh P w k) true f st) Q E s
  | 0, c, st, _, _, hf, _ => absurd hf (Nat.not_lt_zero _)
  | f + 1, c, st, e0, hc, hf, left => by
    obtain ⟨o, ho, hex, hd⟩ := R.ob
    rw [setSearchFrom_succ]
    refine wpAny_bind (wpAny_setState_of ho hd R.fit ?_)
    dsimp only
    refine wp_if_neg R.nogw ?_
    try refine wpAny_bind (wpAny_pure ?_)
    have jat : ∀ q, (nth t.mask (stp t (mh P w k) c) q).j = way t.mask (mh P w k) (c + q) := fun q => congrArg SetTable.Probe.j (stp_add t _ c q)
    have sp := go_spec t R.tb.ris R.tb.dm (fun i => (es[i]?.map (·.1)).getD 0) (mh P w k) (10 * SetTable.turns t.mask) (K - c) (stp t (mh P w k) c) (stp_dummy _ _ _) (by omega)
      (fun q hq => by rw [jat]; exact k3 (c + q) (by omega)) (by rw [jat, show c + (K - c) = K by omega]; exact k2)
    have hat : ∀ (i : Nat) e, L[i]? = some e → (es[i]?.map (·.1)).getD 0 = mh P w e.2 := fun i e he => by rw [rows_at R.rw' he]; rfl
    rcases sp with ⟨q, i, hq, hi, hh, hno, hp⟩ | ⟨hno, hp⟩
    · have hp' : t.probe (fun i => (es[i]?.map (·.1)).getD 0) (mh P w k) (st.getD (t.probeStart (mh P w k))) = some (.candidate (way t.mask (mh P w k) (c + q)) i (stp t (mh P w k) (c + (q + 1)))) := by
        rw [e0, ← jat, ← stp_add]; exact hp
      rw [hp']
      dsimp only
      rw [jat] at hi
      have il : i < L.length := by
        have z1 : i < t.place.toList.length := (List.getElem?_eq_some_iff.mp hi).1
        have z2 := R.tb.sz
        rw [List.length_map] at z2
        rw [Array.length_toList] at z1
        omega
      obtain ⟨e, he⟩ : ∃ e, L[i]? = some e := ⟨L[i], List.getElem?_eq_getElem il⟩
      have em : e ∈ L := List.mem_of_getElem? he
      have et := R.tu e em
      have tail : wpAny (model P w) A (searchRest a (.ref x) (mh P w k) true f es t (way t.mask (mh P w k) (c + q)) i (stp t (mh P w k) (c + (q + 1)))) Q E s := by
        unfold searchRest
        rw [rows_at R.rw' he]
        dsimp only
        refine wpAny_bind (wpAny_holding (wpAny_eqBool_tuple hu et hx ?_))
        refine wpAny_bind (wpAny_setState_of ho hd R.fit ?_)
        dsimp only
        by_cases hk : e.2 = k
        · exact wp_if_pos (by simp [hk]) (wpAny_pure (yes (List.mem_map.mpr ⟨e, em, hk⟩)))
        · refine wp_if_neg (by simp [hk]) ?_
          try refine wpAny_bind (wpAny_pure ?_)
          rw [sameMem]
          dsimp only
          have sl : t.slot (way t.mask (mh P w k) (c + q)) = .live i := slot_live R.tb.ris hi
          simp only [if_true, sl, rows_at R.rw' he]
          refine wpAny_bind (wpAny_isSame_ref_self (wpAny_bind (wpAny_pure ?_)))
          simp only [if_true]
          refine wp_if_neg (by simp [hk]) ?_
          refine ms_find R hx hu k1 k2 k3 yes no f (c + (q + 1)) _ rfl (by omega) (by omega) fun i0 e1 z1 z2 => ?_
          obtain ⟨d, d1, d2, d3⟩ := left i0 e1 z1 z2
          refine ⟨d, ?_, d2, d3⟩
          rcases Nat.lt_trichotomy d (c + q) with z | z | z
          · exfalso
            exact hno (d - c) i0 (by omega) (by rw [jat, show c + (d - c) = d by omega]; exact d3) ((hat i0 e1 z1).trans (congrArg (mh P w) z2))
          · exfalso
            rw [z] at d3
            have s0 := slot_live R.tb.ris d3
            rw [sl] at s0
            injection s0 with s0
            rw [← s0, he] at z1
            exact hk ((congrArg Prod.snd (Option.some.inj z1)).trans z2)
          · omega
      by_cases hl : t.led = true
      · refine wp_if_neg (by simp [hl]) ?_
        try refine wpAny_bind (wpAny_pure ?_)
        exact tail
      · refine wp_if_pos (by simp [hl]) ?_
        refine wpAny_bind (unseen_mix hx (fun y hy => ?_) ?_)
        · obtain ⟨r, hr, er⟩ := List.mem_map.mp hy
          have hr1 : r ∈ es ∧ r.1 = mh P w k := by simpa using hr
          have hr2 : r ∈ es.toList := by simpa using hr1.1
          rw [R.rw'] at hr2
          obtain ⟨e2, m2, e3⟩ := List.mem_map.mp hr2
          exact ⟨e2.2, e2.1, by rw [← er, ← e3], R.tu e2 m2⟩
        · refine wp_if_neg (by decide) ?_
          try refine wpAny_bind (wpAny_pure ?_)
          exact tail
    · have hp' : t.probe (fun i => (es[i]?.map (·.1)).getD 0) (mh P w k) (st.getD (t.probeStart (mh P w k))) = some (.empty (way t.mask (mh P w k) K) none) := by
        have z : way t.mask (mh P w k) K = (nth t.mask (stp t (mh P w k) c) (K - c)).j := by rw [jat, show c + (K - c) = K by omega]
        rw [e0, z]; exact hp
      rw [hp']
      dsimp only
      refine wpAny_pure (no fun hm => ?_)
      obtain ⟨e, em, ek⟩ := List.mem_map.mp hm
      obtain ⟨i0, hi0, ei⟩ := List.getElem_of_mem em
      have z1 : L[i0]? = some e := by rw [List.getElem?_eq_getElem hi0, ei]
      obtain ⟨d, d1, d2, d3⟩ := left i0 e z1 ek
      exact hno (d - c) i0 (by omega) (by rw [jat, show c + (d - c) = d by omega]; exact d3) ((hat i0 e z1).trans (congrArg (mh P w) ek))
theorem ms_search (R : MS P w s.heap a L es ep t) {x : Addr} {k : KT'} (hx : IsM P w s.heap k x) (hu : A.units < cLine) {Q : SetFound → Shared → Prop} (yes : k ∈ L.map (·.2) → Q (.there none) s)
    (no : ∀ K, k ∉ L.map (·.2) → way t.mask (mh P w k) K ∉ t.place.toList → (∀ c, c < K → way t.mask (mh P w k) c ∈ t.place.toList) → Q (.free (way t.mask (mh P w k) K) false) s) :
    wpAny (model P w) A (setSearch a (.ref x) (mh P w k) true) Q E s := by
  have rm := R.rm
  obtain ⟨K, k1, k2, k3⟩ := R.tb.first (by rw [List.length_map]; omega) (mh P w k)
  have k4 : K < 100000 := by
    have : 10 * SetTable.turns t.mask ≤ 1420 := by
      unfold SetTable.turns
      rcases R.tb.mok with e | e | e <;> omega
    omega
  unfold setSearch
  refine ms_find R hx hu k1 k2 k3 yes (fun n => no K n k2 k3) 100000 0 none rfl (Nat.zero_le _) (by omega) fun i e he hk => ?_
  have z1 : (L.map (hsE P w))[i]? = some (mh P w k) := by rw [List.getElem?_map, he, ← hk]; rfl
  have z2 : i < t.place.toList.length := by
    have q1 : i < L.length := (List.getElem?_eq_some_iff.mp he).1
    have q2 := R.tb.sz
    rw [List.length_map] at q2
    rw [Array.length_toList]; omega
  have z3 := List.getElem?_eq_getElem z2
  obtain ⟨d, d1, d2⟩ := R.tb.before k2 z1 z3
  exact ⟨d, Nat.zero_le _, d1, by rw [z3, d2]⟩
end
end Pv
end
section
set_option Elab.async false
set_option linter.all false
set_option maxRecDepth 100000
set_option maxHeartbeats 1000000
namespace Pv
open PySem PySem.Spec PyProof.Rows L2
section
variable {P : Program} {w : World} {A : Around} {E : Value → Shared → Prop} {s : Shared} {a : Addr} {L : List Ent} {es : Array (Int × Value)} {ep : Nat} {t : SetTable}
theorem pick_map {α : Type} (l : List α) (d : α) : ∀ is : List Nat, (∀ i ∈ is, i < l.length) → is.filterMap (fun i => l[i]?) = is.map fun i => l.getD i d
  | [], _ => rfl
  | i :: is, h => by
    have hi := h i List.mem_cons_self
    rw [List.filterMap_cons_some (List.getElem?_eq_getElem hi), List.map_cons, pick_map l d is fun j hj => h j (List.mem_cons_of_mem _ hj), List.getD_eq_getElem?_getD, List.getElem?_eq_getElem hi]; rfl
theorem pick_all {α : Type} (l : List α) (d : α) : (List.range l.length).map (fun i => l.getD i d) = l := by
  refine List.ext_getElem (by simp) fun i h1 h2 => ?_
  simp [h2]
theorem reorder {es : Array (Int × Value)} (r : es.toList = L.map (rowE P w)) {ord : Array Nat} (hp : ord.toList.Perm (List.range L.length)) :
    ∃ L2 : List Ent, (ord.filterMap (es[·]?)).toList = L2.map (rowE P w) ∧ L2.Perm L ∧ L2.map (hsE P w) = ord.toList.map fun i => (es.map (·.1)).getD i 0 := by
  have hb : ∀ i ∈ ord.toList, i < L.length := fun i hi => List.mem_range.mp (hp.mem_iff.mp hi)
  refine ⟨ord.toList.filterMap fun i => L[i]?, ?_, ?_, ?_⟩
  · have e : (fun i : Nat => es[i]?) = fun i : Nat => (L[i]?).map (rowE P w) := by
      funext i
      rw [← Array.getElem?_toList, r, List.getElem?_map]
    rw [Array.toList_filterMap, e, List.map_filterMap]
  · have z := hp.filterMap fun i => L[i]?
    have e2 : (List.range L.length).filterMap (fun i => L[i]?) = L := by
      rw [pick_map L ((0 : Addr), []) _ fun i hi => List.mem_range.mp hi, pick_all]
    rw [e2] at z
    exact z
  · rw [pick_map L ((0 : Addr), []) _ hb, List.map_map]
    refine List.map_congr_left fun i hi => ?_
    have hl := hb i hi
    have e1 : es[i]? = some (rowE P w L[i]) := rows_at r (List.getElem?_eq_getElem hl)
    have e2 : (es.map (·.1)).getD i 0 = mh P w (L[i]).2 := by
      have e3 : (es.map (·.1))[i]? = some (mh P w (L[i]).2) := by rw [Array.getElem?_map, e1]; rfl
      simp [Array.getD_eq_getD_getElem?, e3]
    rw [e2]
    show hsE P w (L.getD i ((0 : Addr), [])) = _
    rw [List.getD_eq_getElem?_getD, List.getElem?_eq_getElem hl]; rfl
theorem mix_apart {h h' : Heap} {k : KT'} {b : Addr} {o : Obj} (hb : IsM P w h k b) (ho : h.get? a = some o) (hd : o.data = .set es ep t) (sb : Heap.SameBut a h h') : IsM P w h' k b := by
  obtain ⟨o', its, n, e, r1, r2, r3⟩ := hb
  have ne : b ≠ a := by
    rintro rfl
    obtain rfl : o' = o := Option.some.inj (e.symm.trans ho)
    rw [hd] at r2
    exact nomatch r2
  exact ⟨o', its, n, (sb.2 b ne).trans e, r1, r2, r3⟩
theorem mix_keep {h h' : Heap} {k : KT'} {b : Addr} (x : IsM P w h k b) (hk : Kps h h') : IsM P w h' k b := by
  obtain ⟨o, its, n, e, r⟩ := x
  exact ⟨o, its, n, hk b o e, r⟩
/-- the table laid anew -/
theorem ms_relay {o : Obj} (ho : s.heap.get? a = some o) (hex : o.ExactSet) (hd : o.data = .set es ep t) (r : es.toList = L.map (rowE P w)) (z1 : t.place.size = es.size) (z2 : t.dummies = #[]) (z3 : es.size ≤ t.mask)
    (nd : (L.map (·.2)).Nodup) (tu : ∀ e ∈ L, IsM P w s.heap e.2 e.1) (ld : w.params.followText "set-order" = true ∨ t.led = true) (fw : L.length < 64) {wd M : Nat}
    (m1 : SetTable.sizeAbove wd - 1 = M) (m2 : MaskOk M) (m3 : SetTable.sizeAbove wd ≤ 128) (m4 : L.length * 5 < M * 3) {Q : Unit → Shared → Prop}
    (fin : ∀ h' L' es' ep' t', Heap.SameBut a s.heap h' → MS P w h' a L' es' ep' t' → L'.Perm L → Q () { s with heap := h' }) : wpAny (model P w) A (setRelay a wd) Q E s := by
  have sl := rows_size r
  have ft : t.fits es.size = true := by
    unfold SetTable.fits SetTable.fill
    rw [z2, Bool.and_eq_true, beq_iff_eq, decide_eq_true_eq]
    show t.place.size = es.size ∧ t.place.size + 0 ≤ t.mask
    omega
  obtain ⟨t', ord, e, hp, T, em, el, _, _⟩ := relaid_ok t (hs := es.map (·.1)) (wanted := wd) m1 m2 (by rw [Array.size_map, sl]; omega)
  rw [Array.size_map, sl] at hp
  obtain ⟨L2, r1, r2, r3⟩ := reorder r hp
  rw [← r3] at T
  have s2 : (ord.filterMap (es[·]?)).size = es.size := by
    rw [rows_size r1, r2.length_eq, sl]
  rw [setRelay_eq]
  refine wpAny_bind (wpAny_setState_of ho hd ft ?_)
  dsimp only
  refine wp_if_neg (by rw [sizeLine_eq]; omega) ?_
  try refine wpAny_bind (wpAny_pure ?_)
  rw [e]
  dsimp only
  refine wpAny_bind ?_
  refine wp_if_neg (by rw [s2]; simp) ?_
  try refine wpAny_bind (wpAny_pure ?_)
  refine wpAny_pure ?_
  dsimp only
  refine wpAny_storeSet_of ho hd ?_ (by rw [s2, sl, sizeLine_eq]; omega)
  have sb : Heap.SameBut a s.heap (s.heap.update a (Obj.putSet (ord.filterMap (es[·]?)) t')) := Heap.SameBut.update ..
  refine fin _ L2 (ord.filterMap (es[·]?)) (ep + 1) t' sb ⟨⟨_, store_at ho hd, ⟨hex.1, hex.2.1, hex.2.2⟩, rfl⟩, r1, T, (r2.map (·.2)).nodup_iff.mpr nd, fun e he => mix_apart (tu e (r2.mem_iff.mp he)) ho hd sb, by rw [el]; exact ld, ?_, by rw [r2.length_eq]; exact fw⟩ r2
  rw [r2.length_eq, em]; exact m4
theorem tab_plain {t : SetTable} {hs : List Int} (T : TabOk t hs) (b : Bool) : TabOk { t with plain := b } hs := ⟨T.ris, T.dm, T.sz, T.mok, T.bd, T.reach⟩
/-- one more -/
theorem ms_add (R : MS P w s.heap a L es ep t) {x : Addr} {k : KT'} (hx : IsM P w s.heap k x) (hu : A.units < cLine) (fw : L.length + 1 < 64) {Q : Bool → Shared → Prop}
    (fin : ∀ b h' L' es' ep' t', Heap.SameBut a s.heap h' → MS P w h' a L' es' ep' t' → (k ∈ L.map (·.2) → L' = L) → (k ∉ L.map (·.2) → L'.Perm ((x, k) :: L)) → Q b { s with heap := h' }) :
    wpAny (model P w) A (setAddHashed a (.ref x) (mh P w k)) Q E s := by
  obtain ⟨o, ho, hex, hd⟩ := R.ob
  have sl := rows_size R.rw'
  have rm := R.rm
  unfold setAddHashed
  refine wpAny_holding ?_
  rw [show (100000 : Nat) = 99999 + 1 from rfl, setAddHashedIn_succ]
  refine wpAny_bind (wpAny_setState_of ho hd R.fit ?_)
  dsimp only
  refine wp_if_neg (by simp [byScan, Value.scannable]) ?_
  try refine wpAny_bind (wpAny_pure ?_)
  refine wpAny_bind (ms_search R hx hu (fun hm => ?_) fun K hm k2 k3 => ?_)
  · dsimp only
    exact wpAny_pure (fin false s.heap L es ep t (Heap.SameBut.refl a s.heap) R (fun _ => rfl) fun z => absurd hm z)
  · dsimp only
    refine wpAny_bind (wpAny_setState_of ho hd R.fit ?_)
    dsimp only
    obtain ⟨q1, q2, q3, q4, q5, _, _, _, q9⟩ := R.tb.put k2 k3
    have hin : (SetTable.insertAt es (SetTable.below t.place (way t.mask (mh P w k) K)) (mh P w k, Value.ref x)).toList = (L.take (SetTable.below t.place (way t.mask (mh P w k) K)) ++ (x, k) :: L.drop (SetTable.below t.place (way t.mask (mh P w k) K))).map (rowE P w) := by
      rw [SetTable.toList_insertAt, R.rw', List.map_append, List.map_cons, List.map_take, List.map_drop]
    generalize hpt : t.put (way t.mask (mh P w k) K) = pt at q1 q3 q4 q5 q9 ⊢
    obtain ⟨t0, p⟩ := pt
    dsimp only at q1 q3 q4 q5 q9 ⊢
    subst q1
    generalize SetTable.below t.place (way t.mask (mh P w k) K) = p at q2 q3 hin ⊢
    have pm : (L.take p ++ (x, k) :: L.drop p).Perm ((x, k) :: L) := put_perm L p (x, k)
    have ln : (L.take p ++ (x, k) :: L.drop p).length = L.length + 1 := pm.length_eq
    have hh : (L.map (hsE P w)).take p ++ mh P w k :: (L.map (hsE P w)).drop p = (L.take p ++ (x, k) :: L.drop p).map (hsE P w) := by
      rw [List.map_append, List.map_cons, List.map_take, List.map_drop]
    rw [hh] at q3
    have nd1 : ((L.take p ++ (x, k) :: L.drop p).map (·.2)).Nodup := (pm.map (·.2)).nodup_iff.mpr (List.nodup_cons.mpr ⟨hm, R.nd⟩)
    have es1 : (SetTable.insertAt es p (mh P w k, Value.ref x)).size = L.length + 1 := by rw [rows_size hin, ln]
    generalize SetTable.insertAt es p (mh P w k, Value.ref x) = fs at hin es1 ⊢
    generalize L.take p ++ (x, k) :: L.drop p = L1 at pm ln q3 nd1 hin
    have go : ∀ pb : Bool, wpAny (model P w) A (storeSet a fs { t0 with plain := pb } >>= fun _ => if (!false && SetTable.tooFull { t0 with plain := pb }) = true then (setRelay a (SetTable.grown (es.size + 1)) >>= fun _ => pure true) else pure true) Q E s := fun pb => by
      have T1 := tab_plain q3 pb
      refine wpAny_bind (wpAny_storeSet_of ho hd ?_ (by rw [es1, sizeLine_eq]; omega))
      have sb : Heap.SameBut a s.heap (s.heap.update a (Obj.putSet fs { t0 with plain := pb })) := Heap.SameBut.update ..
      have ho1 := store_at (es' := fs) (t' := { t0 with plain := pb }) ho hd
      generalize s.heap.update a (Obj.putSet fs { t0 with plain := pb }) = h1 at sb ho1 ⊢
      have tu1 : ∀ e ∈ L1, IsM P w h1 e.2 e.1 := fun e he => by
        rcases List.mem_cons.mp (pm.mem_iff.mp he) with z | z
        · rw [z]; exact mix_apart hx ho hd sb
        · exact mix_apart (R.tu e z) ho hd sb
      have ld1 : w.params.followText "set-order" = true ∨ ({ t0 with plain := pb } : SetTable).led = true := by
        show _ ∨ t0.led = true
        rw [q5]; exact R.ld
      have mk1 : ({ t0 with plain := pb } : SetTable).mask = t.mask := q4
      have fl1 : ({ t0 with plain := pb } : SetTable).fill = (L.map (hsE P w)).length + 1 := q9
      generalize ({ t0 with plain := pb } : SetTable) = t1 at T1 ho1 ld1 mk1 fl1 ⊢
      by_cases hf : t1.tooFull = true
      · have full : (L.length + 1) * 5 ≥ t1.mask * 3 := by
          have z := hf
          unfold SetTable.tooFull at z
          rw [decide_eq_true_eq, fl1, List.length_map] at z
          exact z
        have sz1 : t1.place.size = fs.size := by
          have z := T1.sz
          rw [List.length_map, ln] at z
          rw [z, es1]
        have two : (t.mask = 7 ∧ L.length = 4) ∨ (t.mask = 31 ∧ L.length = 18) := by
          rcases R.tb.mok with e | e | e
          · left; rw [mk1, e] at full; rw [e] at rm; exact ⟨e, by omega⟩
          · right; rw [mk1, e] at full; rw [e] at rm; exact ⟨e, by omega⟩
          · exfalso; rw [mk1, e] at full; omega
        rw [sl]
        refine wp_if_pos (by simp [hf]) (wpAny_bind ?_)
        have rel : ∀ M, SetTable.sizeAbove (SetTable.grown (L.length + 1)) - 1 = M → MaskOk M → SetTable.sizeAbove (SetTable.grown (L.length + 1)) ≤ 128 → (L.length + 1) * 5 < M * 3 →
            wpAny (model P w) A (setRelay a (SetTable.grown (L.length + 1))) (fun _ s' => wpAny (model P w) A (pure true) Q E s') E { s with heap := h1 } := fun M g1 g2 g3 g4 =>
          ms_relay (s := { s with heap := h1 }) ho1 ⟨hex.1, hex.2.1, hex.2.2⟩ rfl hin sz1 T1.dm (by rw [es1, mk1]; rcases two with ⟨e, e2⟩ | ⟨e, e2⟩ <;> omega) nd1 tu1 ld1 (by rw [ln]; exact fw) g1 g2 g3 (by rw [ln]; exact g4)
            fun h2 L2 es2 ep2 t2 sb2 R2 pm2 => wpAny_pure (fin true h2 L2 es2 ep2 t2 (sb.trans sb2) R2 (fun z => absurd z hm) fun _ => pm2.trans pm)
        rcases two with ⟨_, e2⟩ | ⟨_, e2⟩
        · exact rel 31 (by rw [e2, size_20]) (.inr (.inl rfl)) (by rw [e2, size_20]; decide) (by omega)
        · exact rel 127 (by rw [e2, size_76]) (.inr (.inr rfl)) (by rw [e2, size_76]; decide) (by omega)
      · refine wp_if_neg (by simp [hf]) ?_
        refine wpAny_pure (fin true h1 L1 fs (ep + 1) t1 sb ⟨⟨_, ho1, ⟨hex.1, hex.2.1, hex.2.2⟩, rfl⟩, hin, T1, nd1, tu1, ld1, ?_, by rw [ln]; exact fw⟩ (fun z => absurd z hm) fun _ => pm)
        have z := hf
        unfold SetTable.tooFull at z
        rw [decide_eq_true_eq, fl1, List.length_map] at z
        rw [ln]; omega
    have fin2 : ∀ b : Bool, wpAny (model P w) A (storeSet a fs (if b = true then t0 else { t0 with plain := false }) >>= fun _ => if (!false && SetTable.tooFull (if b = true then t0 else { t0 with plain := false })) = true then (setRelay a (SetTable.grown (es.size + 1)) >>= fun _ => pure true) else pure true) Q E s := fun b => by
      cases b with
      | true => exact go t0.plain
      | false => exact go false
    by_cases hpl : t0.plain = true
    · first
        | (refine wpAny_bind ?_; refine wp_if_pos hpl ?_; exact byVal_mix hx fun b => fin2 b)
        | exact wp_if_pos hpl (wpAny_bind (byVal_mix hx fun b => fin2 b))
    · first
        | (refine wpAny_bind ?_; refine wp_if_neg hpl ?_; exact wpAny_pure (fin2 true))
        | exact wp_if_neg hpl (fin2 true)
end
end Pv
end
section
set_option Elab.async false
set_option linter.all false
set_option maxRecDepth 100000
set_option maxHeartbeats 1000000
namespace Pv
open PySem PySem.Spec PyProof.Rows L2
def ck : L2.Key → Int ⊕ List Nat
  | .inl i => .inl i
  | .inr x => .inr x.cps.toList
theorem ck_inj : ∀ {a b : L2.Key}, ck a = ck b → a = b
  | .inl _, .inl _, h => by simpa [ck] using h
  | .inl _, .inr _, h => by simp [ck] at h
  | .inr _, .inl _, h => by simp [ck] at h
  | .inr _, .inr _, h => by
    have : _ = _ := Sum.inr.inj h
    rw [PySem.W.str_of_cps this]
theorem cks_inj : ∀ {a b : KT'}, a.map ck = b.map ck → a = b
  | [], [], _ => rfl
  | [], _ :: _, h => by simp at h
  | _ :: _, [], h => by simp at h
  | x :: a, y :: b, h => by
    simp only [List.map_cons, List.cons.injEq] at h
    rw [ck_inj h.1, cks_inj h.2]
/-- one tuple ahead of another -/
def kLt (a b : KT') : Bool := PyProof.Rows.lexLt itemOrd (a.map ck) (b.map ck)
theorem lin_k : Lin kLt := ⟨fun _ => lex_irrefl _, fun _ _ _ => lex_trans _ _ _, fun _ _ h1 h2 => cks_inj (lex_total _ _ h1 h2)⟩
abbrev refE (e : Ent) : Value := Value.ref e.1
abbrev shp (sh : List Bool) : Nat → Bool := fun i => sh.getD i false
theorem perm_lift {α β : Type} (f : α → β) : ∀ {l : List β} {L : List α}, l.Perm (L.map f) → ∃ L' : List α, l = L'.map f ∧ L'.Perm L
  | [], L, h => ⟨[], rfl, by
      have := h.length_eq
      simp at this
      rw [List.eq_nil_of_length_eq_zero this.symm]⟩
  | x :: l, L, h => by
    obtain ⟨e, he, rfl⟩ := List.mem_map.mp (h.mem_iff.mp List.mem_cons_self)
    obtain ⟨A, B, rfl⟩ := List.append_of_mem he
    have h2 : l.Perm ((A ++ B).map f) := by
      refine List.Perm.cons_inv (h.trans ?_)
      rw [List.map_append, List.map_cons, List.map_append]
      exact List.perm_middle
    obtain ⟨L', rfl, p⟩ := perm_lift f h2
    exact ⟨e :: L', rfl, (p.cons e).trans List.perm_middle.symm⟩
section
variable {P : Program} {w : World} {A : Around} {E : Value → Shared → Prop} {s : Shared} {a : Addr} {L : List Ent} {sh : List Bool}
theorem tupItems_mix : ∀ {k : KT'} {vs : List Value} (f : Nat → Bool) (i : Nat), ItemsAre (mixKind P w) k vs → (∀ j b, (k.map Sum.isRight)[j]? = some b → f (i + j) = b) → tupItems f i vs = some (k.map ck)
  | _, _, _, _, .nil, _ => rfl
  | _, _, f, i, .cons (k := k0) (ks := ks) (vs := vs) h1 h2, hf => by
    have f0 := hf 0 _ rfl
    have ih := tupItems_mix f (i + 1) h2 fun j b hb => by
      have := hf (j + 1) b (by simpa using hb)
      rw [← this]; congr 1; omega
    rcases keyIs_shape (k := k0) h1 with ⟨n, t, rfl, rfl⟩ | ⟨x, t, rfl, rfl⟩
    · unfold tupItems
      have f1 : f i = false := f0
      rw [f1, ih]; rfl
    · unfold tupItems
      have f1 : f i = true := f0
      rw [f1, ih]; rfl
theorem key_mix {h : Heap} {k : KT'} {b : Addr} (x : IsM P w h k b) (e : k.map Sum.isRight = sh) : G.tupKeyC h (shp sh) (.ref b) = some (k.map ck) := by
  obtain ⟨o, its, n, ho, hc, hd, hi⟩ := x
  refine G.tupKeyC_of ho hc hd (tupItems_mix _ 0 hi fun j b hb => ?_)
  rw [e] at hb
  simp [shp, List.getD_eq_getElem?_getD, hb]
theorem tups_mix {h : Heap} (hne : sh ≠ []) : ∀ {L : List Ent}, (∀ e ∈ L, IsM P w h e.2 e.1) → (∀ e ∈ L, e.2.map Sum.isRight = sh) → ∃ fs, TupsOf h (shp sh) (L.map refE) fs
  | [], _, _ => ⟨[], .nil⟩
  | e :: L, ht, hs => by
    obtain ⟨fs, r⟩ := tups_mix hne (L := L) (fun x hx => ht x (List.mem_cons_of_mem _ hx)) fun x hx => hs x (List.mem_cons_of_mem _ hx)
    obtain ⟨o, its, n, ho, hc, hd, hi⟩ := ht e List.mem_cons_self
    have hse := hs e List.mem_cons_self
    cases hk : e.2 with
    | nil => rw [hk] at hse; exact absurd hse.symm hne
    | cons k0 ks =>
      rw [hk] at hi hse
      cases hv : its.toList with
      | nil => rw [hv] at hi; cases hi
      | cons v vs =>
        rw [hv] at hi
        cases hi with
        | cons h1 h2 =>
          have at0 : its[0]? = some v := by rw [← Array.getElem?_toList, hv]; rfl
          have s0 : shp sh 0 = k0.isRight := by rw [← hse]; rfl
          refine ⟨v :: fs, .cons ⟨e.1, o, its, n, rfl, ho, hc, hd, at0, fun z => ?_, fun z => ?_⟩ r⟩
          · rcases keyIs_shape (k := k0) h1 with ⟨i, t, rfl, rfl⟩ | ⟨x, t, rfl, rfl⟩
            · exact ⟨i, t, rfl⟩
            · rw [s0] at z; cases z
          · rcases keyIs_shape (k := k0) h1 with ⟨i, t, rfl, rfl⟩ | ⟨x, t, rfl, rfl⟩
            · rw [s0] at z; cases z
            · exact ⟨x, t, rfl⟩
theorem zip_two : ∀ L : List Ent, (L.map refE).zip (L.map refE) = L.map fun e => (refE e, refE e)
  | [] => rfl
  | e :: L => by rw [List.map_cons, List.zip_cons_cons, zip_two L]; rfl
/-- list.sort of tuples of one shape -/
theorem sort_mix {n : Nat} {R : PySem.Fin → Shared → Prop} (ho : s.heap.get? a = some (seqObj "list" (L.map refE).toArray n)) (ht : ∀ e ∈ L, IsM P w s.heap e.2 e.1) (hs : ∀ e ∈ L, e.2.map Sum.isRight = sh) (hne : sh ≠ [])
    (hz : L.length ≤ sizeLine) (fin : ∀ L' : List Ent, L'.Perm L → L'.Pairwise (fun e f => kLt f.2 e.2 = false) → R (.done (.ret .none)) { s with heap := sortedHeap s.heap a (L.map refE) (L'.map refE).toArray }) :
    wpAny (model P w) A (Builtin.«list.sort» ⟨[.ref a], []⟩) R E s := by
  obtain ⟨fs, tf⟩ := tups_mix hne ht hs
  refine G.list_sort_tups ho tf (fun v hv => ?_) (by rw [List.length_map]; exact hz) fun st h1 h2 h3 => ?_
  · obtain ⟨e, he, rfl⟩ := List.mem_map.mp hv
    exact ⟨_, key_mix (ht e he) (hs e he)⟩
  · have hl : (arrOf st).toList.Perm ((L.map refE).zip (L.map refE)) := by rw [← pairsOf_toList]; exact Array.perm_iff_toList_perm.mp h1
    have hz2 : (L.map refE).zip (L.map refE) = L.map fun e => (refE e, refE e) := zip_two L
    rw [hz2] at hl
    obtain ⟨L', e1, p1⟩ := perm_lift _ hl
    have e2 : ((arrOf st).map (·.2)) = (L'.map refE).toArray := by
      refine Array.ext' ?_
      rw [Array.toList_map, e1, List.map_map]; rfl
    rw [e2]
    refine fin L' p1 (List.pairwise_iff_getElem.mpr fun i j hi hj hij => ?_)
    have hsz : (pairsOf (L.map refE)).size = L'.length := by rw [pairsOf_size, List.length_map, p1.length_eq]
    have q := h2 i j (Nat.le_of_lt hij) (by rw [hsz]; exact hj)
    have kk : ∀ (m : Nat) (hm : m < L'.length), KK (G.tupKindC s.heap (shp sh)) (arrOf st) m = (L'[m]).2.map ck := fun m hm => by
      have at1 : (arrOf st)[m]? = some (refE L'[m], refE L'[m]) := by
        rw [← Array.getElem?_toList, e1, List.getElem?_map, List.getElem?_eq_getElem hm]; rfl
      have me : L'[m] ∈ L := p1.mem_iff.mp (List.getElem_mem hm)
      unfold KK
      rw [at1]
      show (G.tupKeyC s.heap (shp sh) (.ref (L'[m]).1)).getD [] = _
      rw [key_mix (ht _ me) (hs _ me)]; rfl
    rw [kk i hi, kk j hj] at q
    exact q
end
end Pv
end
section
set_option Elab.async false
set_option linter.all false
set_option maxRecDepth 100000
set_option maxHeartbeats 1000000
namespace Pv
open PySem PySem.Spec PyProof.Rows L2
section
variable {P : Program} {w : World} {A : Around} {E : Value → Shared → Prop} {s : Shared}
/-- what a set of numbers is while it is filled -/
theorem fillsI {items : Array Value} {ns : List Int} {h0 : Heap} {S : Addr} {u : Nat} (hi : IntsAre items.toList ns) (hb : ns.length + 1 < 4096) :
    Fills P w h0 S (fun i v => items[i]? = some v) (fun i h => ∃ c, c ≤ i ∧ SetR w h S (fun j => decide (j ∈ ns.take i)) c) u where
  keep := fun i h h' ⟨c, hc, R⟩ k1 _ => ⟨c, hc, R.at k1⟩
  step := fun i v A E s Q hv _ ⟨c, hc, R⟩ _ fin => by
    have hl : items.toList.length = ns.length := hi.length
    have il : i < ns.length := by rw [← hl, Array.length_toList]; exact (Array.getElem?_eq_some_iff.mp hv).1
    obtain ⟨t, rfl⟩ := PyProof.Rows.IntsAre.int_at hi i v (by rw [Array.getElem?_toList]; exact hv)
    have hz : ns[i]? = some (ns.getD i 0) := by rw [List.getD_eq_getElem?_getD, List.getElem?_eq_getElem il]; rfl
    generalize ns.getD i 0 = z at hz
    unfold setAdd
    refine wpAny_holding ?_
    refine wpAny_bind ((intKind P w).pyHash (k := z) (intKind_is _ _ _ _) ?_)
    refine setR_add_hashed (s := { s with toks := s.toks + 1 }) R (by show c + 1 < 4096; omega) fun h' sb R2 => ?_
    refine fin _ h' (s.toks + 1) (Nat.le_succ _) sb ⟨_, ?_, R2.congr fun j => ?_⟩
    · split <;> omega
    · rw [List.take_add_one, hz]; simp [List.mem_append]
structure GotE (ks : List Ent) (i : Nat) (L : List Ent) : Prop where
  sub : ∀ e ∈ L, e ∈ ks.take i
  all : ∀ e ∈ ks.take i, e.2 ∈ L.map (·.2)
  len : L.length ≤ i
theorem fillsM {items : Array Value} {ks : List Ent} {h0 : Heap} {S : Addr} (hit : items.toList = ks.map refE) (hk : ∀ e ∈ ks, IsM P w h0 e.2 e.1) (hf : ks.length < 64) :
    Fills P w h0 S (fun i v => items[i]? = some v) (fun i h => ∃ L es ep t, MS P w h S L es ep t ∧ GotE ks i L) cLine where
  keep := fun i h h' ⟨L, es, ep, t, R, g⟩ k1 k2 => by
    obtain ⟨o, ho, r⟩ := R.ob
    exact ⟨L, es, ep, t, ⟨⟨o, k1 o ho, r⟩, R.rw', R.tb, R.nd, fun e he => mix_keep (hk e (List.mem_of_mem_take (g.sub e he))) k2, R.ld, R.rm, R.fw⟩, g⟩
  step := fun i v A E s Q hv hu ⟨L, es, ep, t, R, g⟩ kp fin => by
    have q : items.toList[i]? = some v := by rw [Array.getElem?_toList]; exact hv
    rw [hit, List.getElem?_map] at q
    cases hq : ks[i]? with
    | none => rw [hq] at q; cases q
    | some e =>
      rw [hq] at q
      obtain rfl : refE e = v := Option.some.inj q
      have il : i < ks.length := (List.getElem?_eq_some_iff.mp hq).1
      have hx : IsM P w s.heap e.2 e.1 := mix_keep (hk e (List.mem_of_getElem? hq)) kp
      have tk : ks.take (i + 1) = ks.take i ++ [e] := by rw [List.take_succ, hq]; rfl
      unfold setAdd
      refine wpAny_holding ?_
      refine wpAny_bind (wpAny_pyHash_tuple hu hx ?_)
      refine ms_add (s := { s with toks := s.toks + (e.2.length + 1) }) R hx hu (by have := g.len; omega) fun b h' L' es' ep' t' sb R2 c1 c2 => ?_
      refine fin b h' _ (Nat.le_add_right _ _) sb ⟨L', es', ep', t', R2, ?_⟩
      rcases Classical.em (e.2 ∈ L.map (·.2)) with c | c
      · obtain rfl := c1 c
        refine ⟨fun x hx => by rw [tk]; exact List.mem_append_left _ (g.sub x hx), fun x hx => ?_, Nat.le_succ_of_le g.len⟩
        rw [tk] at hx
        rcases List.mem_append.mp hx with z | z
        · exact g.all x z
        · rw [List.mem_singleton.mp z]; exact c
      · have pm := c2 c
        refine ⟨fun x hx => ?_, fun x hx => ?_, by rw [pm.length_eq, List.length_cons]; have := g.len; omega⟩
        · rw [tk]
          rcases List.mem_cons.mp (pm.mem_iff.mp hx) with z | z
          · rw [z]; exact List.mem_append_right _ (List.mem_singleton.mpr rfl)
          · exact List.mem_append_left _ (g.sub x z)
        · rw [(pm.map (·.2)).mem_iff, List.map_cons]
          rw [tk] at hx
          rcases List.mem_append.mp hx with z | z
          · exact List.mem_cons_of_mem _ (g.all x z)
          · rw [List.mem_singleton.mp z]; exact List.mem_cons_self
theorem ms_new {h : Heap} {a : Addr} (ho : h.get? a = some (nso w)) : MS P w h a [] #[] 0 (.fresh 0 0 (!w.params.followText "set-order")) where
  ob := ⟨_, ho, ⟨rfl, rfl, rfl⟩, rfl⟩
  rw' := rfl
  tb := ⟨List.Pairwise.nil, rfl, rfl, .inl rfl, fun x hx => (by cases hx), fun i h j hi => (by simp at hi)⟩
  nd := List.nodup_nil
  tu := fun e he => (by cases he)
  ld := by
    show _ ∨ (!w.params.followText "set-order") = true
    cases w.params.followText "set-order"
    · exact .inr rfl
    · exact .inl rfl
  rm := by show 0 * 5 < 7 * 3; decide
  fw := by show 0 < 64; decide
/-- the same without the tuples -/
def MS0 (P : Program) (w : World) (h : Heap) (a : Addr) (L : List Ent) : Prop := ∃ (es : Array (Int × Value)) (ep : Nat) (t : SetTable), (∃ o, h.get? a = some o ∧ o.ExactSet ∧ o.data = .set es ep t) ∧ es.toList = L.map (rowE P w) ∧ TabOk t (L.map (hsE P w)) ∧
  (L.map (·.2)).Nodup ∧ (w.params.followText "set-order" = true ∨ t.led = true) ∧ L.length * 5 < t.mask * 3 ∧ L.length < 64
def SetM (P : Program) (w : World) (a : Addr) (L : List Ent) : HO := .ext fun h => MS0 P w h a L
theorem setM_new {H : Hp} {h : Heap} {a : Addr} {L : List Ent} {es : Array (Int × Value)} {ep : Nat} {t : SetTable} (R : MS P w h a L es ep t) : ObjOk P w H h a (SetM P w a L) := by
  obtain ⟨o, ho, r⟩ := R.ob
  refine ⟨⟨es, ep, t, ⟨o, ho, r⟩, R.rw', R.tb, R.nd, R.ld, R.rm, R.fw⟩, ⟨o, ho⟩, fun h1 h2 p k => ?_⟩
  obtain ⟨es', ep', t', ⟨o', ho', r'⟩, q⟩ := p
  exact ⟨es', ep', t', ⟨o', k o' ho', r'⟩, q⟩
theorem items_mix : ∀ {k : KT'} {us : List Value}, Vals (k.map kV) us → ItemsAre (mixKind P w) k us
  | [], _, .nil => .nil
  | .inl i :: k, _, .cons r t => by
    obtain ⟨tk, rfl⟩ := r
    exact .cons (k := Sum.inl i) (by show keyIs (Sum.inl i) (Value.int i tk) = true; simp [keyIs, Value.isInt]) (items_mix t)
  | .inr x :: k, _, .cons r t => by
    obtain ⟨tk, rfl⟩ := r
    exact .cons (k := Sum.inr x) (by show keyIs (Sum.inr x) (Value.str x tk) = true; simp [keyIs, Value.isStrOf]) (items_mix t)
theorem refs_mix : ∀ {ks : List Ent} {us : List Value}, Vals (ks.map fun e => V.ref e.1) us → us = ks.map refE
  | [], _, .nil => rfl
  | e :: ks, _, .cons r t => by
    cases r
    rw [refs_mix t]; rfl
theorem vals_mix : ∀ (ks : List Ent), Vals (ks.map fun e => V.ref e.1) (ks.map refE)
  | [] => .nil
  | e :: ks => .cons rfl (vals_mix ks)
end
section
variable {X : Cx}
theorem inv_mix {pins : List (Addr × Obj)} {σ : L2.St} {H : Hp} {s : Shared} {b : Addr} {k : KT'} (I : Inv X pins σ H s) (h : SqT X.K H b (k.map kV)) : IsM X.prog X.w s.heap k b := by
  obtain ⟨its, r, ⟨o, ho, hc, n, hd⟩, _⟩ := I.tuple h
  exact ⟨o, its.toArray, n, ho, hc, hd, by simpa using items_mix r⟩
def Sq (K : PySem.W.Frag) (H : Hp) (l : Addr) (vs : List V) : Prop := SqL K H l vs ∨ SqT K H l vs
theorem inv_sq {pins : List (Addr × Obj)} {σ : L2.St} {H : Hp} {s : Shared} {l : Addr} {vs : List V} (I : Inv X pins σ H s) (h : Sq X.K H l vs) : ∃ its : List Value, Vals vs its ∧ (s.heap.IsList l its.toArray ∨ s.heap.IsTuple l its.toArray) := by
  rcases h with h | h
  · obtain ⟨its, r, pl, _⟩ := I.list h
    exact ⟨its, r, .inl pl.isList⟩
  · obtain ⟨its, r, ⟨o, ho, hc, n, hd⟩, _⟩ := I.tuple h
    exact ⟨its, r, .inr ⟨o, ho, hc, n, hd⟩⟩
def rSetA (K : PySem.W.Frag) (P : Program) (w : World) : List V → Hp → VK → Prop := fun xs H Q => ∃ l, xs = [V.ref l] ∧
  ((∃ ns : List Int, Sq K H l (ns.map V.int) ∧ ns.length + 1 < 4096 ∧ ∀ a n, H a = none → Q (.ref a) (upd H a (SetO w a (fun j => decide (j ∈ ns)) n))) ∨
   (∃ ks : List Ent, Sq K H l (ks.map fun e => V.ref e.1) ∧ (∀ e ∈ ks, SqT K H e.1 (e.2.map kV)) ∧ ks.length < 64 ∧ ∀ a L, H a = none → (∀ e ∈ L, e ∈ ks) → (∀ e ∈ ks, e.2 ∈ L.map (·.2)) → Q (.ref a) (upd H a (SetM P w a L))))
theorem cr_setA (hc : X.calm = true) (hu : X.A.units + 64 < cLine) : CallR X (.type "set") (rSetA X.K X.prog X.w) := by
  intro pins s σ H xs us Q I r h
  obtain ⟨l, rfl, h⟩ := h
  rw [Vals.ref1 r]
  have hn : H s.heap.objs.size = none := I.hok.fresh (Nat.le_refl _)
  rcases h with ⟨ns, hl, hb, q⟩ | ⟨ks, hl, hk, hf, q⟩
  · obtain ⟨its, rv, pl⟩ := inv_sq I hl
    have hi : IntsAre its ns := rv.ints
    refine call_set_any (P := X.prog) (w := X.w) (u := X.A.units + 4) (I.ok.hd hc) pl (fillsI (ns := ns) (by simpa using hi) hb) (by omega) (fun h ho _ => ⟨0, Nat.le_refl _, setR_new_at ho⟩) fun h' tk ⟨c, hc', R⟩ k => ?_
    have e : ns.take its.toArray.size = ns := List.take_of_length_le (by rw [List.size_toArray, hi.length]; exact Nat.le_refl _)
    rw [e] at R
    exact ⟨.ref s.heap.objs.size, _, I.laid (t' := tk) k (Nat.le_refl _) (setO_new R), rfl, q _ c hn⟩
  · obtain ⟨its, rv, pl⟩ := inv_sq I hl
    have hi := refs_mix rv
    subst hi
    refine call_set_any (P := X.prog) (w := X.w) (u := cLine) (I.ok.hd hc) pl (fillsM (ks := ks) (by simp) (fun e he => inv_mix I (hk e he)) hf) (by omega) (fun h ho _ => ⟨[], #[], 0, _, ms_new ho, ⟨fun e he => (by cases he), fun e he => (by simp at he), Nat.le_refl _⟩⟩) fun h' tk ⟨L, es, ep, t, R, g⟩ k => ?_
    have e : ks.take (ks.map refE).toArray.size = ks := List.take_of_length_le (by simp)
    exact ⟨.ref s.heap.objs.size, _, I.laid (t' := tk) k (Nat.le_refl _) (setM_new R), rfl, q _ L hn (fun x hx => List.mem_of_mem_take (g.sub x hx)) fun x hx => g.all x (by rw [e]; exact hx)⟩
def rSortedM (K : PySem.W.Frag) (P : Program) (w : World) : List V → Hp → VK → Prop := fun vs H Q => ∃ (a : Addr) (L : List Ent) (sh : List Bool), vs = [V.ref a] ∧ H a = some (SetM P w a L) ∧ (∀ e ∈ L, SqT K H e.1 (e.2.map kV)) ∧ sh ≠ [] ∧ (∀ e ∈ L, e.2.map Sum.isRight = sh) ∧
  ∀ (L' : List Ent) (p : Addr), L'.Perm L → L'.Pairwise (fun e f => kLt e.2 f.2 = true) → H p = none → Q (.ref p) (upd H p (.lst (L'.map fun e => V.ref e.1)))
theorem cr_sortedM (hc : X.calm = true) : CallR X (.builtin "sorted") (rSortedM X.K X.prog X.w) := by
  intro pins s σ H vs us Q I r h
  obtain ⟨a, L, sh, rfl, ha, hk, hne, hs, q⟩ := h
  rw [Vals.ref1 r]
  have R0 : MS0 X.prog X.w s.heap a L := (I.hok a _ ha).1
  obtain ⟨es, ep, t, ⟨o, ho, hex, hd⟩, rw', tb, nd, ld, rm, fw⟩ := R0
  have R : MS X.prog X.w s.heap a L es ep t := ⟨⟨o, ho, hex, hd⟩, rw', tb, nd, fun e he => inv_mix I (hk e he), ld, rm, fw⟩
  refine Calls.call_function_entry kind_sorted plain_sorted entry_sorted (args_sorted1 _) ?_
  unfold Builtin.«sorted»
  refine wpAny_bind (m := checkCount "sorted" 1 1 _) (wpAny_pure ?_)
  have ez := rows_size rw'
  refine wpAny_bind (collect_set (A := X.A.in1) (I.ok.hd hc) ⟨o, ho, hex.1, hd⟩ R.fit (by rw [ez]; show L.length < 4096; omega) tb.ris ld fun s1 vs k1 hz g1 o1 pm => ?_)
  have hes : es.toList.map (·.2) = L.map refE := by rw [rw', List.map_map]; rfl
  rw [hes] at pm
  obtain ⟨L1, rfl, p1⟩ := perm_lift refE pm
  have l1 : L1.length < 64 := by rw [p1.length_eq]; exact fw
  refine wpAny_bind (wpAny_newList ?_ (by rw [List.length_map, sizeLine_eq]; omega))
  have at1 : (s1.heap.push (seqObj "list" (L1.map refE).toArray 0)).get? s1.heap.objs.size = some (seqObj "list" (L1.map refE).toArray 0) := Heap.get?_push_size _ rfl
  refine wpAny_bind (wpAny_holding (wpAny_call_entry slot_list_sort ⟨_, at1, rfl⟩ entry_list_sort
    (sort_mix (P := X.prog) (w := X.w) (s := { s1 with heap := s1.heap.push (seqObj "list" (L1.map refE).toArray 0) }) at1 (fun e he => mix_keep (R.tu e (p1.mem_iff.mp he)) fun b o e => Heap.get?_push_of_some _ (k1 b o e)) (fun e he => hs e (p1.mem_iff.mp he)) hne (by rw [sizeLine_eq]; omega)
      fun L' p2 pw => ⟨.none, rfl, ?_⟩) (args_list_sort _)))
  obtain ⟨c, hc'⟩ := sortedHeap_at (vs := L1.map refE) (out := (L'.map refE).toArray) at1
  have p3 := p2.trans p1
  have hn : H s1.heap.objs.size = none := I.hok.fresh hz
  have kp : Kps s.heap (sortedHeap (s1.heap.push (seqObj "list" (L1.map refE).toArray 0)) s1.heap.objs.size (L1.map refE) (L'.map refE).toArray) := fun b u e => by
    have q := k1 b u e
    have hlt := Heap.lt_size q
    rw [sortedHeap_old (Nat.ne_of_lt hlt) (by rw [size_push']; exact Nat.lt_succ_of_lt hlt)]
    exact Heap.get?_push_of_some _ q
  have J : Inv X pins σ (upd H s1.heap.objs.size (.lst (L'.map fun e => V.ref e.1))) { s with heap := sortedHeap (s1.heap.push (seqObj "list" (L1.map refE).toArray 0)) s1.heap.objs.size (L1.map refE) (L'.map refE).toArray, gens := s1.gens, drawn := s1.drawn, toks := s1.toks } :=
    I.call (ch := []) (Un.laid kp hz hn) (I.hok.laid kp hz ⟨by rw [List.length_map, p3.length_eq, sizeLine_eq]; omega, L'.map refE, c, vals_mix L', hc'⟩) (by rw [g1]; exact I.bare) (fun _ z => nomatch z)
  have st : L'.Pairwise (fun e f => kLt e.2 f.2 = true) := by
    have nd2 : (L'.map (·.2)).Nodup := (p3.map (·.2)).nodup_iff.mpr nd
    have nd3 : L'.Pairwise (fun e f => e.2 ≠ f.2) := List.pairwise_map.mp nd2
    refine (List.Pairwise.and pw nd3).imp fun {e f} ⟨h1, h2⟩ => ?_
    cases z : kLt e.2 f.2 with
    | true => rfl
    | false => exact absurd (lin_k.tot _ _ z h1) h2
  have e : ({ s1 with heap := sortedHeap (s1.heap.push (seqObj "list" (L1.map refE).toArray 0)) s1.heap.objs.size (L1.map refE) (L'.map refE).toArray } : Shared) = { s with heap := sortedHeap (s1.heap.push (seqObj "list" (L1.map refE).toArray 0)) s1.heap.objs.size (L1.map refE) (L'.map refE).toArray, gens := s1.gens, drawn := s1.drawn, toks := s1.toks } := by
    cases s1; cases s; cases o1; rfl
  refine wpAny_pure ⟨_, rfl, ?_⟩
  show EP X pins σ Q (.ref s1.heap.objs.size) { s1 with heap := sortedHeap (s1.heap.push (seqObj "list" (L1.map refE).toArray 0)) s1.heap.objs.size (L1.map refE) (L'.map refE).toArray }
  rw [e]
  exact ⟨.ref _, _, J, rfl, q L' _ p3 st hn⟩
end
end Pv
end
section
set_option Elab.async false
set_option linter.all false
set_option maxRecDepth 100000
set_option maxHeartbeats 2000000
/-! model level: sorted, in, repr, tables -/
namespace Pv
open PySem PySem.Spec PyProof.Rows L2
/-! ### sorted of a list -/
section
variable {α : Type} {lt : α → α → Bool}
def insM (lt : α → α → Bool) (x : α) : List α → List α
  | [] => [x]
  | y :: ys => if lt y x = true then y :: insM lt x ys else x :: y :: ys
def sortM (lt : α → α → Bool) (xs : List α) : List α := xs.foldr (insM lt) []
theorem insM_perm {x : α} : ∀ {l : List α}, (insM lt x l).Perm (x :: l)
  | [] => List.Perm.refl _
  | y :: l => by
    unfold insM
    split
    · exact ((insM_perm (l := l)).cons y).trans (List.Perm.swap x y l)
    · exact List.Perm.refl _
theorem sortM_perm : ∀ (xs : List α), (sortM lt xs).Perm xs
  | [] => List.Perm.refl _
  | x :: xs => insM_perm.trans ((sortM_perm xs).cons x)
end
section
variable {α : Type} [DecidableEq α] {lt : α → α → Bool}
theorem Lin.le_tr (L : Lin lt) {x y z : α} (h1 : lt y x = false) (h2 : lt z y = false) : lt z x = false := by
  cases q : lt z x with
  | false => rfl
  | true =>
    cases q1 : lt x y with
    | true => exact absurd (L.tr _ _ _ q q1) (by rw [h2]; decide)
    | false => rw [L.tot _ _ h1 q1] at h2; rw [q] at h2; cases h2
theorem insM_sorted (L : Lin lt) {x : α} : ∀ {l : List α}, l.Pairwise (fun a b => lt b a = false) → (insM lt x l).Pairwise (fun a b => lt b a = false)
  | [], _ => by simp [insM]
  | y :: l, h => by
    obtain ⟨h1, h2⟩ := List.pairwise_cons.mp h
    unfold insM
    split
    · rename_i hl
      refine List.pairwise_cons.mpr ⟨fun z hz => ?_, insM_sorted L h2⟩
      rcases List.mem_cons.mp (insM_perm.mem_iff.mp hz) with rfl | hz
      · cases q : lt z y with
        | false => rfl
        | true => exact absurd (L.tr _ _ _ hl q) (by rw [L.irr]; decide)
      · exact h1 z hz
    · rename_i hl
      have hl' : lt y x = false := by simpa using hl
      refine List.pairwise_cons.mpr ⟨fun z hz => ?_, h⟩
      rcases List.mem_cons.mp hz with rfl | hz
      · exact hl'
      · exact L.le_tr hl' (h1 z hz)
theorem sortM_sorted (L : Lin lt) : ∀ (xs : List α), (sortM lt xs).Pairwise (fun a b => lt b a = false)
  | [] => List.Pairwise.nil
  | x :: xs => insM_sorted L (sortM_sorted L xs)
theorem sortedM_uniq (L : Lin lt) : ∀ {a b : List α}, a.Pairwise (fun x y => lt y x = false) → b.Pairwise (fun x y => lt y x = false) → a.Perm b → a = b
  | [], b, _, _, h => by
    have := h.length_eq
    exact (List.eq_nil_of_length_eq_zero (by simpa using this.symm)).symm
  | x :: a, [], _, _, h => absurd h.length_eq (by simp)
  | x :: a, y :: b, ha, hb, h => by
    obtain ⟨a1, a2⟩ := List.pairwise_cons.mp ha
    obtain ⟨b1, b2⟩ := List.pairwise_cons.mp hb
    have e : x = y := by
      rcases List.mem_cons.mp (h.mem_iff.mp List.mem_cons_self) with e | hx
      · exact e
      · rcases List.mem_cons.mp (h.mem_iff.mpr List.mem_cons_self) with e | hy
        · exact e.symm
        · exact L.tot _ _ (b1 x hx) (a1 y hy)
    subst e
    rw [sortedM_uniq L a2 b2 (List.Perm.cons_inv h)]
end
section
variable {X : Cx}
def rSortLM (K : PySem.W.Frag) : List V → Hp → VK → Prop := fun vs H Q => ∃ (a : Addr) (L : List Ent) (sh : List Bool), vs = [V.ref a] ∧ SqL K H a (L.map fun e => V.ref e.1) ∧ (∀ e ∈ L, SqT K H e.1 (e.2.map kV)) ∧ sh ≠ [] ∧ (∀ e ∈ L, e.2.map Sum.isRight = sh) ∧
  ∀ (L' : List Ent) (p : Addr), L'.Perm L → L'.Pairwise (fun e f => kLt f.2 e.2 = false) → H p = none → Q (.ref p) (upd H p (.lst (L'.map fun e => V.ref e.1)))
theorem cr_sortLM : CallR X (.builtin "sorted") (rSortLM X.K) := by
  intro pins s σ H vs us Q I r h
  obtain ⟨a, L, sh, rfl, hl, hk, hne, hs, q⟩ := h
  rw [Vals.ref1 r]
  obtain ⟨its, rv, pl, hz⟩ := I.list hl
  obtain rfl := refs_mix rv
  rw [List.length_map] at hz
  refine Calls.call_function_entry kind_sorted plain_sorted entry_sorted (args_sorted1 _) ?_
  unfold Builtin.«sorted»
  refine wpAny_bind (m := checkCount "sorted" 1 1 _) (wpAny_pure ?_)
  refine wpAny_bind (collect_list pl.isList ?_ (by rw [List.length_map]; exact hz))
  refine wpAny_bind (wpAny_newList ?_ (by rw [List.length_map]; exact hz))
  let h1 : Heap := (s.heap.push (seqObj "list" #[] 0)).update s.heap.objs.size (Obj.mapSeq (· ++ (L.map refE).toArray))
  have hsz : h1.objs.size = s.heap.objs.size + 1 := by
    show ((s.heap.push (seqObj "list" #[] 0)).update s.heap.objs.size _).objs.size = _
    rw [Heap.size_update, size_push']
  have at1 : (h1.push (seqObj "list" (L.map refE).toArray 0)).get? (s.heap.objs.size + 1) = some (seqObj "list" (L.map refE).toArray 0) := by rw [← hsz]; exact Heap.get?_push_size _ rfl
  have kp0 : Kps s.heap (h1.push (seqObj "list" (L.map refE).toArray 0)) := fun b u e => by
    have lt : b < s.heap.objs.size := Heap.lt_size e
    refine Heap.get?_push_of_some _ ?_
    show ((s.heap.push (seqObj "list" #[] 0)).update s.heap.objs.size _).get? b = some u
    rw [Heap.get?_update_ne _ _ _ _ (Nat.ne_of_lt lt)]
    exact Heap.get?_push_of_some _ e
  show wpAny _ _ _ _ _ { s with heap := h1.push (seqObj "list" (L.map refE).toArray 0) }
  rw [hsz]
  refine wpAny_bind (wpAny_holding (wpAny_call_entry slot_list_sort ⟨_, at1, rfl⟩ entry_list_sort
    (sort_mix (P := X.prog) (w := X.w) (s := { s with heap := h1.push (seqObj "list" (L.map refE).toArray 0) }) at1 (fun e he => mix_keep (inv_mix I (hk e he)) kp0) hs hne hz fun L' p2 pw => ⟨.none, rfl, ?_⟩) (args_list_sort _)))
  obtain ⟨c, hc'⟩ := sortedHeap_at (vs := L.map refE) (out := (L'.map refE).toArray) at1
  have kp : Kps s.heap (sortedHeap (h1.push (seqObj "list" (L.map refE).toArray 0)) (s.heap.objs.size + 1) (L.map refE) (L'.map refE).toArray) := fun b u e => by
    have lt : b < s.heap.objs.size := Heap.lt_size e
    rw [sortedHeap_old (Nat.ne_of_lt (Nat.lt_succ_of_lt lt)) (by rw [size_push', hsz]; exact Nat.lt_succ_of_lt (Nat.lt_succ_of_lt lt))]
    exact kp0 b u e
  exact wpAny_pure ⟨_, rfl, .ref _, upd H (s.heap.objs.size + 1) (.lst (L'.map fun e => V.ref e.1)), I.laid (t' := s.toks) kp (Nat.le_succ _) ⟨by rw [List.length_map, p2.length_eq]; exact hz, L'.map refE, c, vals_mix L', hc'⟩, rfl, q L' _ p2 pw (I.hok.fresh (Nat.le_succ _))⟩
theorem cr_sortA : CallR X (.builtin "sorted") (fun vs H Q => rSortedI X.K vs H Q ∨ rSortLM X.K vs H Q) := fun pins s σ H vs us Q I r h => h.elim (fun h => cr_sortedI pins s σ H vs us Q I r h) fun h => cr_sortLM pins s σ H vs us Q I r h
end
section
variable {X : Cx}
def rInT (K : PySem.W.Frag) (neg : Bool) : R2 := fun x y H Q => ∃ d ds, Dp K H x d ∧ Dp K H y (.tuple ds) ∧ SeqAt.shaped d = true ∧ SeqAt.shaped (.tuple ds) = true ∧ Q (.bl ((ds.any fun z => PyData.eqv z d) != neg)) H
theorem op_inT (hu : X.A.units + 65 < cLine) : OpR X (compareOp .In) (rInT X.K false) := by
  intro pins s σ H x y v u Q I rx ry h
  obtain ⟨d, ds, hd, he, sd, se, q⟩ := h
  obtain ⟨as, r1⟩ := Dp.reads I d x v hd rx
  obtain ⟨bs, r2⟩ := Dp.reads I (.tuple ds) y u he ry
  rw [Bool.bne_false] at q
  exact SeqAt.in_tuple_reads r2 r1 (SeqAt.canLay_of_shaped se) (SeqAt.canLay_of_shaped sd) (room_in_shaped sd hu) ⟨.bl _, H, I, rfl, q⟩
end
theorem roomU {k : Nat} {A : Around} (r : Room k A) : A.units + 100 < cLine := by have := r.un; omega
def freeC (g d : Scope) : Bool := g.names.all fun y => match y.2 with
  | .free => (match d.names.lookup y.1 with | some .cell => true | _ => false)
  | _ => true
theorem gen_free {g d : Scope} {α : Type} {f : Str → Option α} (h : freeC g d = true) (hc : ∀ y : Str, d.names.lookup y = some .cell → ∃ c, f y = some c) : ∀ y ∈ g.names, y.2 = .free → ∃ c, f y.1 = some c := fun y hy e => by
  have q := List.all_eq_true.mp h y hy
  simp only [e] at q
  split at q
  · exact hc _ (by assumption)
  · cases q
theorem tab_in {K : PySem.W.Frag} {x q : Str} {f co tb : Addr} {oc e : Value} {od an dd : Option Addr} {st : Stmt} {kV dc pm cd ct : Value} {osl sl : Array (Option Value)} {vs : Array Value} (a : PySem.W.nsIn K mainGlobals x = some (some (.ref f)))
    (l : K.lookup f = some ⟨oc, od, .func (PySem.W.fnOf x q (defArgs st) (defBody st) (defScope st) .none kV dc pm an cd ct), osl⟩) (cc : cd = .ref co) (lc : K.lookup co = some ⟨e, dd, .fields vs, sl⟩) (hv : vs[11]? = some (.ref tb)) : PySem.W.tabIn K x = some (co, tb) := by
  subst cc
  unfold PySem.W.tabIn
  rw [a]
  simp only [l, PySem.W.fnOf, lc, hv]
def shownOk (p : PyData) : Bool := p.showable && !p.hasDict && decide (p.depth ≤ 60) && decide (p.shown.length ≤ 16000000)
theorem cr_repr {X : Cx} (hg : X.A.guards = some []) (hu : X.A.units + 100 < cLine) : CallR X (.builtin "repr") (fun xs H Q => ∃ x d, xs = [x] ∧ Dp X.K H x d ∧ shownOk d = true ∧ Q (.str d.shown) H) := by
  intro pins s σ H xs us Q I r h
  obtain ⟨x, d, rfl, dp, ok, q⟩ := h
  obtain ⟨u, rfl, rx⟩ := r.one
  unfold shownOk at ok
  simp only [Bool.and_eq_true, Bool.not_eq_true', decide_eq_true_eq] at ok
  obtain ⟨⟨⟨o1, o2⟩, o3⟩, o4⟩ := ok
  have o4' : d.shown.length ≤ sizeLine := Nat.le_trans o4 (by rw [sizeLine_eq]; decide)
  obtain ⟨as, rd⟩ := Dp.reads I d x u dp rx
  cases dp with
  | non => cases rx; exact PySem.P.repr_of_none ⟨.str "None", H, I.tok _, ⟨_, rfl⟩, q⟩
  | bl b => cases rx; exact PySem.P.repr_of_bool ⟨.str _, H, I.tok _, ⟨_, rfl⟩, q⟩
  | int i => obtain ⟨t, rfl⟩ := rx; exact PySem.P.repr_of_int (of_decide_eq_true o1) ⟨.str _, H, I.tok _, ⟨_, rfl⟩, q⟩
  | str z => obtain ⟨t, rfl⟩ := rx; exact PySem.P.repr_of_str ⟨.str _, H, I.tok _, ⟨_, rfl⟩, q⟩ o4'
  | lst hq ha =>
    cases rx
    exact repr_of_reads' rd o1 (PyData.noDict_hsm o2) hg (by omega) (fun _ _ z => z) (fun h' t tk kp => ⟨.str _, H, I.kept kp, ⟨_, rfl⟩, q⟩) o4'
  | tup hq ha =>
    cases rx
    exact repr_of_reads' rd o1 (PyData.noDict_hsm o2) hg (by omega) (fun _ _ z => z) (fun h' t tk kp => ⟨.str _, H, I.kept kp, ⟨_, rfl⟩, q⟩) o4'
def isKid (ps : List (Int × Int)) (w : Int) (i : Nat) : Bool := match ps[i]? with
  | some p => (p.1 == w || p.2 == w)
  | none => false
def kidsN (ps : List (Int × Int)) (w : Int) : List Nat := (List.range ps.length).filter (isKid ps w)
def FolkRaw (h : Heap) (ah : Addr) (ps : List (Int × Int)) : Prop := ∃ its : Array Value, IsTup h ah its ∧ its.size = ps.length ∧
  ∀ (i : Nat) (p : Int × Int), ps[i]? = some p → ∃ ai itsi t u, its[i]? = some (.ref ai) ∧ IsTup h ai itsi ∧ 3 ≤ itsi.size ∧ itsi[1]? = some (.int p.1 t) ∧ itsi[2]? = some (.int p.2 u)
theorem FolkRaw.keeps {h h' : Heap} {ah : Addr} {ps : List (Int × Int)} (x : FolkRaw h ah ps) (k : ∀ b o, h.get? b = some o → h'.get? b = some o) : FolkRaw h' ah ps := by
  obtain ⟨its, a, b, c⟩ := x
  refine ⟨its, a.keeps k, b, fun i p e => ?_⟩
  obtain ⟨ai, itsi, t, u, e1, e2, e3⟩ := c i p e
  exact ⟨ai, itsi, t, u, e1, e2.keeps k, e3⟩
section
variable {prog : Program} {w : World} {A : Around} {E : Value → Shared → Prop} {s : Shared}
theorem tupItem {value slice : Expr} {t : Addr} {items : Array Value} {k : Int} {u : Tok} {x : Value} {Q : Value → Shared → Prop} (ht : IsTup s.heap t items) (h0 : 0 ≤ k) (h1 : k < 2 ^ 62) (hx : items[k.toNat]? = some x) (h : Q x s)
    (hs : subscripted slice false (.ref t) (.int k u) = operate [.ref t, .int k u] (getItem (.ref t) (.int k u))) : wpAny (model prog w) A (subscriptTail value slice (.ref t) (.int k u)) Q E s := by
  have hl : k.toNat < items.size := by
    rcases Nat.lt_or_ge k.toNat items.size with z | z
    · exact z
    · rw [Array.getElem?_eq_none z] at hx; cases hx
  exact subscriptTail_builtinR (x := x) ht.typeIs slot_tuple_getitem.lookup (getItem_tuple (j := k.toNat) (Q := fun r s' => r = x ∧ Q r s') ht (by omega) (by omega) (seqIndex_of h0 (by omega)) hx ⟨rfl, h⟩) hs
theorem kid_test {cenv : PySem.Env} {m₂ : Str → Option Value} {ch cw ah : Addr} {wh : Int} {tw tc : Tok} {i : Nat} {ps : List (Int × Int)} {p : Int × Int} {j1 j2 k1 : Nat} {q1 q2 q3 q4 q5 q6 r2 r3 r4 r5 r6 r7 r8 : Pos} {whole : Sem Value}
    (hk : cenv.scope.kind = .function) (hc : cenv.scope.names.lookup ("child" : Str) = some .local) (hh : cenv.scope.names.lookup ("house" : Str) = some .free) (hw : cenv.scope.names.lookup ("who" : Str) = some .free)
    (c1 : cenv.cells.lookup ("house" : Str) = some ch) (c2 : cenv.cells.lookup ("who" : Str) = some cw) (hn : s.heap.Ns cenv.locals m₂) (hm : m₂ "child" = some (.int (i : Nat) tc)) (b1 : s.heap.IsCell ch (some (.ref ah))) (b2 : s.heap.IsCell cw (some (.int wh tw)))
    (fr : FolkRaw s.heap ah ps) (hp : ps[i]? = some p) (hi : (i : Int) < 2 ^ 62) :
    wpAny (model prog w) A (isTrue (.Compare (.Name "who" q1) [.In] [.Tuple [.Subscript (.Subscript (.Name "house" q2) (.Name "child" q3) q4) (.Constant (.int 1) j1 q5) q6, .Subscript (.Subscript (.Name "house" r2) (.Name "child" r3) r4) (.Constant (.int 2) j2 r5) r6] k1 r7] r8) cenv whole)
      (fun ok s' => ok = (p.1 == wh || p.2 == wh) ∧ Keeps s s') E s := by
  obtain ⟨its, it, hsz, hf⟩ := fr
  obtain ⟨ai, itsi, t1, t2, e1, it1, hs3, e2, e3⟩ := hf i p hp
  refine wpAny_isTrue_Compare1 ?_ (by rfl)
  refine wpAny_Name (wpAny_loadName_free hk hw c2 b2 ?_)
  refine wpAny_Tuple_spliced ?_
  show wpAny _ _ (spliced ((false, eval (.Subscript (.Subscript (.Name "house" q2) (.Name "child" q3) q4) (.Constant (.int 1) j1 q5) q6) cenv) :: backTo r7 [(false, eval (.Subscript (.Subscript (.Name "house" r2) (.Name "child" r3) r4) (.Constant (.int 2) j2 r5) r6) cenv)])) _ _ s
  refine Calls.spliced_cons ?_
  have one : ∀ (t : Nat) (j : Nat) (c : Int) (pa pb pc pd pe : Pos) (x : Value) (Q : Value → Shared → Prop) (E : Value → Shared → Prop), 0 ≤ c → c < 10 → itsi[c.toNat]? = some x → (∀ t', Q x { s with toks := t' }) →
      wpAny (model prog w) A (eval (.Subscript (.Subscript (.Name "house" pa) (.Name "child" pb) pc) (.Constant (.int c) j pd) pe) cenv) Q E { s with toks := t } := by
    intro t j c pa pb pc pd pe x Q E c0 c9 hx hQ
    refine Subscript_ (Subscript_ ?_)
    refine wpAny_Name (wpAny_loadName_free hk hh c1 (s := { s with toks := t }) b1 ?_)
    refine wpAny_Name (wpAny_loadName_local hk hc (s := { s with toks := t }) hn hm ?_)
    refine tupItem (s := { s with toks := t }) it (by omega) hi (by simpa using e1) ?_ rfl
    refine wpAny_Constant_int ?_
    exact tupItem (s := { s with toks := t + 1 }) it1 c0 (by omega) hx (hQ _) rfl
  refine one s.toks j1 1 q2 q3 q4 q5 q6 _ _ _ (by omega) (by omega) e2 fun ta => ?_
  show wpAny _ _ (spliced ((false, eval (.Subscript (.Subscript (.Name "house" r2) (.Name "child" r3) r4) (.Constant (.int 2) j2 r5) r6) cenv) :: backTo r7 [])) _ _ { s with toks := ta }
  refine Calls.spliced_cons ?_
  refine one ta j2 2 r2 r3 r4 r5 r6 _ _ _ (by omega) (by omega) e3 fun tb => ?_
  refine Calls.spliced_nil ?_
  refine ⟨by show 2 ≤ sizeLine; rw [sizeLine_eq]; decide, ?_⟩
  have rr : Vals [V.int p.1, V.int p.2] [Value.int p.1 t1, Value.int p.2 t2] := .cons ⟨_, rfl⟩ (.cons ⟨_, rfl⟩ .nil)
  refine SeqAt.in_tupleAt (eqU (.int wh)) (IsTup.new _ _) (fun y hy => mem_eqAt (x := .int wh) (v := .int wh tw) ⟨tw, rfl⟩ rfl rr rfl y (by simpa using hy)) ?_
  refine wpAny_truthy_bool ⟨?_, _, _, rfl, fun b o e => Heap.get?_push_of_some _ e⟩
  rw [show ([Value.int p.1 t1, Value.int p.2 t2] : List Value).toArray.any (eqU (.int wh)) = [Value.int p.1 t1, Value.int p.2 t2].any (eqU (.int wh)) by simp, any_eqU rr rfl]
  simp [eqV]
end
theorem bounded {prog : Program} {w : World} {A : Around} {I : Addr} {fp wr : List Addr} {n : Nat} {P : Nat → Value → Prop} {St : Nat → Heap → Prop} (W : Walks prog w A I fp wr n P St) : Walks prog w A I fp wr n (fun i v => i < n ∧ P i v) St where
  sub := W.sub
  frame := W.frame
  item := fun i s Q E hi st hQ => W.item i s Q E hi st fun v h' tk hP => hQ v h' tk ⟨hi, hP⟩
  done := W.done
  self := W.self
theorem filt_range {n : Nat} {f : Nat → Bool} : passing f n 0 = (List.range n).filter f := by
  unfold passing
  rw [List.drop_zero]
theorem kids_acc {ps : List (Int × Int)} {wh : Int} {acc : Array Value} (h : ItemsOf (fun j y => ∃ i, ((List.range ps.length).filter (isKid ps wh))[j]? = some i ∧ ∃ t, y = Value.int (i : Nat) t) acc ((List.range ps.length).filter (isKid ps wh)).length) :
    Vals ((kidsN ps wh).map fun i : Nat => V.int i) acc.toList := by
  have gen : ∀ (l : List Nat) (us : List Value), us.length = l.length → (∀ (j : Nat) y, us[j]? = some y → ∃ i : Nat, l[j]? = some i ∧ ∃ t, y = Value.int (i : Nat) t) → Vals (l.map fun i : Nat => V.int i) us := by
    intro l
    induction l with
    | nil =>
      intro us hl _
      cases us with
      | nil => exact .nil
      | cons u us => simp at hl
    | cons i l ih =>
      intro us hl hu
      cases us with
      | nil => simp at hl
      | cons u us =>
        obtain ⟨i', e1, t, e2⟩ := hu 0 u (by simp)
        have e3 : i = i' := by simpa using e1
        subst e3
        exact .cons ⟨t, e2⟩ (ih us (by simpa using hl) fun j y hy => by
          obtain ⟨i2, q1, q2⟩ := hu (j + 1) y (by simpa using hy)
          exact ⟨i2, by simpa using q1, q2⟩)
  refine gen (kidsN ps wh) acc.toList (by rw [Array.length_toList, h.1]; rfl) fun j y hy => ?_
  exact h.2 j y (by simpa using hy)

theorem lt65 {n : Nat} (h : n + 100 < cLine) : n + 65 < cLine := by omega
theorem pe_alt {X : Cx} {e : Expr} {t1 t2 : TE} (h1 : PE X e t1) (h2 : PE X e t2) : PE X e (fun σ H Q => t1 σ H Q ∨ t2 σ H Q) := ⟨fun pins s σ H Q I h => h.elim (fun h => h1.run pins s σ H Q I h) fun h => h2.run pins s σ H Q I h⟩
theorem pi3 {n : Nat} (h : n ≤ 1000000) : n ≤ sizeLine := Nat.le_trans h (by rw [sizeLine_eq]; decide)
end Pv
end
section
set_option Elab.async false
set_option linter.all false
set_option maxRecDepth 100000
set_option maxHeartbeats 1000000
/-! Built-ins. -/
namespace Pw
open PySem PySem.Spec PyProof.Rows L2 Pv
section
variable {X : Cx} {K : FRG} {tb : List Addr}
def lenD : List D → Option W
  | [.tup ds] => some (.v (.int ds.length))
  | [.fl ds] => some (.v (.int ds.length))
  | [.lst ds] => some (.v (.int ds.length))
  | [.dk kvs] => some (.v (.int kvs.length))
  | _ => none
abbrev rLenA (K : FRG) : List V → Hp → VK → Prop := fun xs H Q => (∃ p ys, xs = [.ref p] ∧ (SqL K H p ys ∨ SqT K H p ys) ∧ Q (.int (ys.length : Nat)) H) ∨ ∃ a kvs, xs = [V.ref a] ∧ H a = some (.dK kvs) ∧ Q (.int (kvs.length : Nat)) H
theorem cr_lenA : CallR X (.builtin "len") (rLenA X.K) := call_len_seq.or call_lenD
theorem len_s : CallS K tb (rLenA K) lenD := fun φ ψ H m vs ds w Q R r e k => by
  unfold lenD at e
  split at e
  · cases e
    cases r with
    | cons h r => cases r; obtain ⟨a, vs, rfl, hq, q⟩ := h.tup; exact .inl ⟨_, _, rfl, .inr hq, Go.val k R (by rw [q.length]; exact .int _)⟩
  · cases e
    cases r with
    | cons h r => cases r; obtain ⟨a, vs, rfl, hq, q⟩ := h.fl; exact .inl ⟨_, _, rfl, .inl hq, Go.val k R (by rw [q.length]; exact .int _)⟩
  · cases e
    cases r with
    | cons h r => cases r; obtain ⟨a, vs, rfl, hq, q⟩ := h.lst; exact .inl ⟨_, _, rfl, .inl (SqL.of hq), Go.val k R (by rw [q.length]; exact .int _)⟩
  · cases e
    cases r with
    | cons h r =>
      cases r
      obtain ⟨a, vs, rfl, hq, q1, q2⟩ := h.dk
      refine .inr ⟨_, _, rfl, hq, Go.val k R ?_⟩
      have e9 := congrArg List.length q1
      rw [List.length_map, List.length_map] at e9
      rw [e9]; exact .int _
  · cases e
def maxI (i j : Int) : Int := if j > i then j else i
def minI (i j : Int) : Int := if j < i then j else i
def two (g : Int → Int → Int) : List D → Option W
  | [.int i, .int j] => some (.v (.int (g i j)))
  | _ => none
theorem two_s {g : Int → Int → Int} : CallS K tb (fun xs H Q => ∃ i j, xs = [.int i, .int j] ∧ Q (.int (g i j)) H) (two g) := fun φ ψ H m vs ds w Q R r e k => by
  unfold two at e
  split at e
  · cases e
    cases r with
    | cons h1 r => cases r with
      | cons h2 r => cases r; rw [h1.int, h2.int]; exact ⟨_, _, rfl, Go.val k R (.int _)⟩
  · cases e
theorem cr_max (hc : X.calm = true) : CallR X (.builtin "max") (fun xs H Q => ∃ i j, xs = [.int i, .int j] ∧ Q (.int (maxI i j)) H) := call_max2 hc
theorem cr_min (hc : X.calm = true) : CallR X (.builtin "min") (fun xs H Q => ∃ i j, xs = [.int i, .int j] ∧ Q (.int (minI i j)) H) := call_min2 hc
def intD : List D → Option W
  | [.int i] => some (.v (.int i))
  | [.bl b] => some (.v (.int (if b then 1 else 0)))
  | _ => none
theorem int_s : CallS K tb (fun xs H Q => (∃ i, xs = [.int i] ∧ Q (.int i) H) ∨ ∃ k, xs = [.bl k] ∧ Q (.int (if k then 1 else 0)) H) intD := fun φ ψ H m vs ds w Q R r e k => by
  unfold intD at e
  split at e
  · cases e
    cases r with
    | cons h1 r => cases r; rw [h1.int]; exact .inl ⟨_, rfl, Go.val k R (.int _)⟩
  · cases e
    cases r with
    | cons h1 r => cases r; rw [h1.bl]; exact .inr ⟨_, rfl, Go.val k R (.int _)⟩
  · cases e
/-- tuple(x) -/
def tupleD : List D → Option W
  | [.tup ds] => some (.v (.tup ds))
  | [.fl ds] => some (.v (.tup ds))
  | [.lst ds] => some (.v (.tup ds))
  | _ => none
theorem tuple_s : CallS K tb (fun xs H Q => ∃ p ys, xs = [.ref p] ∧ ((SqL K H p ys ∧ ∀ l, H l = none → Q (.ref l) (upd H l (.tup ys))) ∨ (SqT K H p ys ∧ Q (.ref p) H))) tupleD := fun φ ψ H m vs ds w Q R r e k => by
  unfold tupleD at e
  split at e
  · cases e
    cases r with
    | cons h r => cases r; obtain ⟨a, vs, rfl, hq, q⟩ := h.tup; exact ⟨_, _, rfl, .inr ⟨hq, Go.val k R (.tup hq q)⟩⟩
  · cases e
    cases r with
    | cons h r => cases r; obtain ⟨a, vs, rfl, hq, q⟩ := h.fl; exact ⟨_, _, rfl, .inl ⟨hq, fun p hp => Go.tup k R q hp⟩⟩
  · cases e
    cases r with
    | cons h r => cases r; obtain ⟨a, vs, rfl, hq, q⟩ := h.lst; exact ⟨_, _, rfl, .inl ⟨SqL.of hq, fun p hp => Go.tup k R q hp⟩⟩
  · cases e
/-- list(x) -/
def listD : List D → Option W
  | [.tup ds] => some (.f (.lst ds))
  | [.fl ds] => some (.f (.lst ds))
  | [.lst ds] => some (.f (.lst ds))
  | _ => none
theorem list_s : CallS K tb (fun xs H Q => ∃ p ys, xs = [.ref p] ∧ (SqL K H p ys ∨ SqT K H p ys) ∧ ∀ l, H l = none → Q (.ref l) (upd H l (.lst ys))) listD := fun φ ψ H m vs ds w Q R r e k => by
  unfold listD at e
  split at e
  · cases e
    cases r with
    | cons h r => cases r; obtain ⟨a, vs, rfl, hq, q⟩ := h.tup; exact ⟨_, _, rfl, .inr hq, fun p hp => Go.lst k R q hp⟩
  · cases e
    cases r with
    | cons h r => cases r; obtain ⟨a, vs, rfl, hq, q⟩ := h.fl; exact ⟨_, _, rfl, .inl hq, fun p hp => Go.lst k R q hp⟩
  · cases e
    cases r with
    | cons h r => cases r; obtain ⟨a, vs, rfl, hq, q⟩ := h.lst; exact ⟨_, _, rfl, .inl (SqL.of hq), fun p hp => Go.lst k R q hp⟩
  · cases e
/-! ### numbers, keys out of data -/
def allI : List D → Option (List Int)
  | [] => some []
  | .int i :: ds => (allI ds).bind fun is => some (i :: is)
  | _ => none
def kD : L2.Key → D
  | .inl i => .int i
  | .inr x => .str x
abbrev tD (k : KT') : D := .tup (k.map kD)
def allK : List D → Option KT'
  | [] => some []
  | .int i :: ds => (allK ds).bind fun k => some (Sum.inl i :: k)
  | .str x :: ds => (allK ds).bind fun k => some (Sum.inr x :: k)
  | _ => none
def allT : List D → Option (List KT')
  | [] => some []
  | .tup d :: ds => (allK d).bind fun k => (allT ds).bind fun ks => some (k :: ks)
  | _ => none
/-- the items of a list or a tuple -/
def itmD : D → Option (List D)
  | .tup ds => some ds
  | .fl ds => some ds
  | .lst ds => some ds
  | _ => none
def itmL : D → Option (List D)
  | .fl ds => some ds
  | .lst ds => some ds
  | _ => none
/-- all are of the first one's kinds -/
def oneSh (ks : List KT') : Bool := ks.all fun k => k.map Sum.isRight == (ks.headD []).map Sum.isRight && !k.isEmpty
end
section
variable {K : FRG} {tb φ ψ : List Addr} {H : Hp} {m : Mem}
theorem allI_rep : ∀ {ds : List D} {vs : List V} {is : List Int}, Reps K φ ψ H ds vs → allI ds = some is → vs = is.map V.int
  | [], _, _, .nil, e => by cases e; rfl
  | .int i :: ds, _, _, .cons h r, e => by
    rw [allI] at e
    obtain ⟨js, e1, e⟩ := bnd e
    cases e
    cases h
    rw [allI_rep r e1]; rfl
  | .non :: _, _, _, _, e => by simp [allI] at e
  | .bl _ :: _, _, _, _, e => by simp [allI] at e
  | .str _ :: _, _, _, _, e => by simp [allI] at e
  | .tup _ :: _, _, _, _, e => by simp [allI] at e
  | .fl _ :: _, _, _, _, e => by simp [allI] at e
  | .lst _ :: _, _, _, _, e => by simp [allI] at e
  | .dk _ :: _, _, _, _, e => by simp [allI] at e
  | .dt _ :: _, _, _, _, e => by simp [allI] at e
  | .rl _ _ :: _, _, _, _, e => by simp [allI] at e
theorem allK_rep : ∀ {ds : List D} {vs : List V} {k : KT'}, Reps K φ ψ H ds vs → allK ds = some k → vs = k.map kV
  | [], _, _, .nil, e => by cases e; rfl
  | .int i :: ds, _, _, .cons h r, e => by
    rw [allK] at e
    obtain ⟨js, e1, e⟩ := bnd e
    cases e
    cases h
    rw [allK_rep r e1]; rfl
  | .str i :: ds, _, _, .cons h r, e => by
    rw [allK] at e
    obtain ⟨js, e1, e⟩ := bnd e
    cases e
    cases h
    rw [allK_rep r e1]; rfl
  | .non :: _, _, _, _, e => by simp [allK] at e
  | .bl _ :: _, _, _, _, e => by simp [allK] at e
  | .tup _ :: _, _, _, _, e => by simp [allK] at e
  | .fl _ :: _, _, _, _, e => by simp [allK] at e
  | .lst _ :: _, _, _, _, e => by simp [allK] at e
  | .dk _ :: _, _, _, _, e => by simp [allK] at e
  | .dt _ :: _, _, _, _, e => by simp [allK] at e
  | .rl _ _ :: _, _, _, _, e => by simp [allK] at e
theorem allT_rep : ∀ {ds : List D} {vs : List V} {ks : List KT'}, Reps K φ ψ H ds vs → allT ds = some ks → ∃ es : List Ent, vs = es.map (fun e => V.ref e.1) ∧ es.map (·.2) = ks ∧ ∀ e ∈ es, SqT K H e.1 (e.2.map kV)
  | [], _, _, .nil, e => by cases e; exact ⟨[], rfl, rfl, fun e he => by cases he⟩
  | .tup d :: ds, _, _, .cons h r, e => by
    rw [allT] at e
    obtain ⟨k, e1, e⟩ := bnd e
    obtain ⟨js, e2, e⟩ := bnd e
    cases e
    obtain ⟨es, rfl, rfl, hs⟩ := allT_rep r e2
    cases h with
    | tup hq q =>
      rename_i a vs
      refine ⟨(a, k) :: es, rfl, rfl, fun e he => ?_⟩
      rcases List.mem_cons.mp he with rfl | he
      · rw [← allK_rep q e1]; exact hq
      · exact hs e he
  | .non :: _, _, _, _, e => by simp [allT] at e
  | .bl _ :: _, _, _, _, e => by simp [allT] at e
  | .int _ :: _, _, _, _, e => by simp [allT] at e
  | .str _ :: _, _, _, _, e => by simp [allT] at e
  | .fl _ :: _, _, _, _, e => by simp [allT] at e
  | .lst _ :: _, _, _, _, e => by simp [allT] at e
  | .dk _ :: _, _, _, _, e => by simp [allT] at e
  | .dt _ :: _, _, _, _, e => by simp [allT] at e
  | .rl _ _ :: _, _, _, _, e => by simp [allT] at e
theorem reps_ints : ∀ is : List Int, Reps K φ ψ H (is.map D.int) (is.map V.int)
  | [] => .nil
  | i :: is => .cons (.int i) (reps_ints is)
theorem reps_keys : ∀ k : KT', Reps K φ ψ H (k.map kD) (k.map kV)
  | [] => .nil
  | .inl i :: k => .cons (.int i) (reps_keys k)
  | .inr x :: k => .cons (.str x) (reps_keys k)
theorem reps_ents : ∀ es : List Ent, (∀ e ∈ es, SqT K H e.1 (e.2.map kV)) → Reps K φ ψ H (es.map fun e => tD e.2) (es.map fun e => V.ref e.1)
  | [], _ => .nil
  | e :: es, h => .cons (.tup (h e List.mem_cons_self) (reps_keys e.2)) (reps_ents es fun x hx => h x (List.mem_cons_of_mem _ hx))
theorem itm_sq {x : D} {v : V} {ds : List D} (hx : RepC K φ ψ H x v) (e : itmD x = some ds) : ∃ l vs, v = .ref l ∧ Sq K H l vs ∧ Reps K φ ψ H ds vs := by
  unfold itmD at e
  split at e
  · cases e; obtain ⟨a, vs, rfl, hq, q⟩ := hx.tup; exact ⟨_, _, rfl, .inr hq, q⟩
  · cases e; obtain ⟨a, vs, rfl, hq, q⟩ := hx.fl; exact ⟨_, _, rfl, .inl hq, q⟩
  · cases e; obtain ⟨a, vs, rfl, hq, q⟩ := hx.lst; exact ⟨_, _, rfl, .inl (SqL.of hq), q⟩
  · cases e
theorem itmL_sq {x : D} {v : V} {ds : List D} (hx : RepC K φ ψ H x v) (e : itmL x = some ds) : ∃ l vs, v = .ref l ∧ SqL K H l vs ∧ Reps K φ ψ H ds vs := by
  unfold itmL at e
  split at e
  · cases e; obtain ⟨a, vs, rfl, hq, q⟩ := hx.fl; exact ⟨_, _, rfl, hq, q⟩
  · cases e; obtain ⟨a, vs, rfl, hq, q⟩ := hx.lst; exact ⟨_, _, rfl, SqL.of hq, q⟩
  · cases e
end
section
variable {X : Cx} {K : FRG} {tb : List Addr} {pos : Pos}
def sumD : List D → Option W
  | [x] => (itmL x).bind fun ds => (allI ds).bind fun is => some (.v (.int is.sum))
  | _ => none
theorem sum_s : CallS K tb (rSum K) sumD := fun φ ψ H m vs ds w Q R r e k => by
  unfold sumD at e
  split at e
  · obtain ⟨xs, e1, e⟩ := bnd e
    obtain ⟨is, e2, e⟩ := bnd e
    cases e
    cases r with
    | cons h r =>
      cases r
      obtain ⟨l, vs, rfl, hq, q⟩ := itmL_sq h e1
      obtain rfl := allI_rep q e2
      exact ⟨_, _, rfl, hq, Go.val k R (.int _)⟩
  · cases e
/-! ### methods -/
def isLst : W → Mem → Bool
  | .r n, m => match m[n]? with
    | some (.lst _) => true
    | _ => false
  | _, _ => false
theorem isLst_ty {φ ψ : List Addr} {H : Hp} {m : Mem} {w : W} {v : V} (R : Rel K tb φ ψ H m) (h : RepS K φ ψ H w v) (e : isLst w m = true) : tyV K "list" v H := by
  unfold isLst at e
  split at e
  · split at e
    · rename_i hm
      obtain ⟨a, h1, rfl⟩ := h
      obtain ⟨vs, q, r⟩ := R.obj _ _ a hm h1
      exact .inl ⟨rfl, _, SqL.of q⟩
    · cases e
  · cases e
def appD : W → List W → Mem → Option (W × Mem)
  | .r n, [w], m => match m[n]? with
    | some (.lst ds) => (vl w).bind fun d => if ds.length < 1000000 then some (.v .non, m.set n (.lst (ds ++ [d]))) else none
    | _ => none
  | _, _, _ => none
theorem app_s : MtS K tb rAppend appD := fun φ ψ H m x vs w ws w' m' Q R hx r e k => by
  unfold appD at e
  split at e
  · split at e
    · rename_i hm
      obtain ⟨d, ev, e⟩ := bnd e
      split at e
      · rename_i hl
        cases e
        cases r with
        | cons h r =>
          cases r
          obtain ⟨q, h1, rfl⟩ := hx
          obtain ⟨vs, hq, rl⟩ := R.obj _ _ q hm h1
          have hmem := List.mem_of_getElem? h1
          exact ⟨q, vs, _, rfl, rfl, hq, smallT (by rw [← rl.length]; exact hl), k φ ψ _ _ (Post.wr hmem (R.trk hmem)) (R.wrL h1 (rl.snoc (vl_rep h ev))) ⟨rfl, .non⟩⟩
      · cases e
    · cases e
  · cases e
theorem ex_append {o a : Expr} {fo : Ex} {f : Ax} {apos cpos : Pos} {es : List Expr} (ho : PE X o (T X.K tb fo)) (ha : PA X (a :: es) (Ta X.K tb f))
    (hbase : attributeBase o "append" X.env (eval o X.env) = eval o X.env := by rfl)
    (hfew : ((backTo cpos (starEach (a :: es) X.env)).all (fun x => !x.1) && (backToKw cpos (keywordEach [] X.env)).all (fun x => x.1.isSome)
      && decide ((a :: es).length + ([] : List Keyword).length + (if ([] : List Keyword).isEmpty then 0 else 1) < 30)) = true := by rfl)
    (hline : (apos.endLine == cpos.line) = true := by rfl) (hst : starEach (a :: es) X.env = (false, eval a X.env) :: starEach es X.env := by rfl) (hplain : (backTo cpos (starEach es X.env)).any (·.1) = false := by rfl) :
    PE X (.Call (.Attribute o "append" apos) (a :: es) [] cpos) (T X.K tb (eMt isLst appD fo f)) :=
  ex_mt (fun φ ψ H m d v R h e => isLst_ty R h e) app_s PySem.F.plainAttrs_list PySem.F.slot_list_append PySem.F.type_list_append mt_append ho ha hbase hfew hline hst hplain
/-! ### repr -/
def reprD : List D → Option W
  | [d] => (pyD d).bind fun p => if shownOk p = true then some (.v (.str p.shown)) else none
  | _ => none
theorem repr_s : CallS K tb (fun xs H Q => ∃ x d, xs = [x] ∧ Dp K H x d ∧ shownOk d = true ∧ Q (.str d.shown) H) reprD := fun φ ψ H m vs ds w Q R r e k => by
  unfold reprD at e
  split at e
  · obtain ⟨p, e1, e⟩ := bnd e
    split at e
    · rename_i hs
      cases e
      cases r with
      | cons h r => cases r; exact ⟨_, p, rfl, h.dp e1, hs, Go.val k R (.str _)⟩
    · cases e
  · cases e
/-! ### in -/
def inB (neg : Bool) (dx : D) (ds : List D) : Option Bool := (sc dx).bind fun x => (ds.mapM sc).bind fun ys => some (inV x ys != neg)
def inD (neg : Bool) : D → D → Option W := fun x y => (itmD y).bind fun ds => (inB neg x ds).bind fun b => some (.v (.bl b))
theorem sc_flat {d : D} {v : V} (h : sc d = some v) : flatV v = true := by
  cases d <;> first | (cases h; rfl) | (cases h)
theorem scs_rep {φ ψ : List Addr} {H : Hp} : ∀ {ds : List D} {vs ws : List V}, Reps K φ ψ H ds vs → ds.mapM sc = some ws → vs = ws ∧ ws.all flatV = true
  | [], _, _, .nil, e => by cases e; exact ⟨rfl, rfl⟩
  | d :: ds, _, _, .cons h r, e => by
    simp only [List.mapM_cons, Option.bind_eq_bind, Option.pure_def] at e
    obtain ⟨v, e1, e⟩ := bnd e
    obtain ⟨ws, e2, e⟩ := bnd e
    cases e
    obtain ⟨rfl, hf⟩ := scs_rep r e2
    have hv := sc_rep (.inl h) e1
    subst hv
    exact ⟨rfl, by rw [List.all_cons, sc_flat e1, hf]; rfl⟩
theorem in_s {neg : Bool} : OpS K tb (rIn K neg) (inD neg) := fun φ ψ H m x y dx dy w Q R hx hy e k => by
  obtain ⟨ds, e1, e⟩ := bnd e
  obtain ⟨b, e2, e⟩ := bnd e
  cases e
  obtain ⟨l, vs, rfl, hq, r⟩ := itm_sq hy e1
  unfold inB at e2
  obtain ⟨x', h1, e2⟩ := bnd e2
  obtain ⟨ys, h2, e2⟩ := bnd e2
  cases e2
  obtain ⟨rfl, hf⟩ := scs_rep r h2
  have := sc_rep hx h1
  subst this
  refine ⟨l, vs, rfl, hq, sc_flat h1, hf, Go.val k R ?_⟩
  cases neg with
  | true => rw [Bool.bne_true]; exact .bl _
  | false => rw [Bool.bne_false]; exact .bl _
def inTD (neg : Bool) : D → D → Option W := fun x y => match pyD x, pyD y with
  | some p, some (.tuple qs) => if SeqAt.shaped p = true ∧ SeqAt.shaped (.tuple qs) = true then some (.v (.bl ((qs.any fun z => PyData.eqv z p) != neg))) else none
  | _, _ => none
theorem inT_s {neg : Bool} : OpS K tb (rInT K neg) (inTD neg) := fun φ ψ H m x y dx dy w Q R hx hy e k => by
  unfold inTD at e
  split at e
  · rename_i p qs h1 h2
    split at e
    · rename_i hs
      cases e
      exact ⟨p, qs, hx.dp h1, hy.dp h2, hs.1, hs.2, Go.val k R (.bl _)⟩
    · cases e
  · cases e
/-! ### max, min with a default -/
def bestD (f : Option Int → Int → Option Int) : D → D → Option W := fun x y => (itmL x).bind fun ds => (allI ds).bind fun is => match is.foldl f none with
  | none => some (.v y)
  | some i => some (.v (.int i))
/-- the default is a value -/
def eBest (f : Option Int → Int → Option Int) (a b : Ex) : Ex := fun ρ m => (a ρ m).bind fun p => (b ρ p.2).bind fun q => (gt p.1 q.2).bind fun x => (vl q.1).bind fun y => (bestD f x y).bind fun w => some (w, q.2)
theorem best_go {f : Option Int → Int → Option Int} {r : List V → List V → Hp → VK → Prop} {fa fb : Ex} {σ : L2.St} {H : Hp} {Q : VK}
    (hr : ∀ (a : Addr) (ns : List Int) (d : V) (H : Hp) (Q : VK), SqL X.K H a (ns.map V.int) → Q (match ns.foldl f none with | none => d | some y => .int y) H → r [.ref a] [d] H Q) (h : T X.K tb (eBest f fa fb) σ H Q) :
    tCKw r (tCons (T X.K tb fa) tNil) (tCons (T X.K tb fb) tNil) σ H Q := by
  obtain ⟨φ, ψ, ρ, m, w, m', R, E, e, k⟩ := h
  obtain ⟨⟨w1, m1⟩, e1, e⟩ := bnd e
  obtain ⟨⟨w2, m2⟩, e2, e⟩ := bnd e
  obtain ⟨x, ex, e⟩ := bnd e
  obtain ⟨y, ey, e⟩ := bnd e
  obtain ⟨w3, eb, e⟩ := bnd e
  cases e
  refine ⟨φ, ψ, ρ, m, w1, m1, R, E, e1, fun φ1 ψ1 H1 v P1 R1 V1 => ?_⟩
  refine ⟨φ1, ψ, ρ, m1, w2, _, V1.rel R1, E.mono (V1.post P1) R, e2, fun φ2 ψ2 H2 u P2 R2 V2 => ?_⟩
  have R2' := V2.rel R2
  have P2' := V2.post P2
  obtain ⟨ds, e3, eb⟩ := bnd eb
  obtain ⟨is, e4, eb⟩ := bnd eb
  obtain ⟨l, vs, rfl, hq, rs⟩ := itmL_sq (gt_c R2' ((V1.s R1).mono P2' (V1.rel R1)) ex) e3
  obtain rfl := allI_rep rs e4
  refine hr l is u H2 Q hq ?_
  cases hb : is.foldl f none with
  | none =>
    rw [hb] at eb
    cases eb
    exact k _ _ _ _ ((V1.post P1).trans P2') R2' ⟨rfl, vl_rep (V2.s R2) ey⟩
  | some i =>
    rw [hb] at eb
    cases eb
    exact k _ _ _ _ ((V1.post P1).trans P2') R2' ⟨rfl, .int i⟩
theorem ex_maxd {p kp : Pos} {a b : Expr} {fa fb : Ex} (hc : X.calm = true) (hg : Gl X "max") (hm : X.mg "max" = none) (ha : PE X a (T X.K tb fa)) (hb : PE X b (T X.K tb fb))
    (h1 : starEach [a] X.env = (false, eval a X.env) :: starEach [] X.env := by rfl) (he : backTo pos (starEach [a] X.env) = (false, eval a X.env) :: backTo pos (starEach [] X.env) := by rfl) (hpl : (backTo pos (starEach [a] X.env)).any (·.1) = false := by rfl)
    (hall : (backToKw pos (keywordEach [⟨some "default", b, kp⟩] X.env)).all (·.1.isSome) = true := by rfl) (hnone : (backToKw pos (keywordEach [⟨some "default", b, kp⟩] X.env)).any (·.1.isNone) = false := by rfl) (hks : (backToKw pos (keywordEach [⟨some "default", b, kp⟩] X.env)).filterMap (·.1) = [Str.ofString "default"] := by rfl) :
    PE X (.Call (.Name "max" p) [a] [⟨some "default", b, kp⟩] pos) (T X.K tb (eBest bst_max fa fb)) :=
  pe_mono (pe_callBK (cr_maxd hc) hg hm (by decide +kernel) (pa_cons ha pa_nil h1) (pk_cons hb pk_nil) (by decide) (by decide) he hpl hall hnone hks) fun _ _ _ h => best_go (fun a ns d H Q h1 h2 => ⟨a, ns, d, rfl, rfl, h1, h2⟩) h
theorem ex_mind {p kp : Pos} {a b : Expr} {fa fb : Ex} (hc : X.calm = true) (hg : Gl X "min") (hm : X.mg "min" = none) (ha : PE X a (T X.K tb fa)) (hb : PE X b (T X.K tb fb))
    (h1 : starEach [a] X.env = (false, eval a X.env) :: starEach [] X.env := by rfl) (he : backTo pos (starEach [a] X.env) = (false, eval a X.env) :: backTo pos (starEach [] X.env) := by rfl) (hpl : (backTo pos (starEach [a] X.env)).any (·.1) = false := by rfl)
    (hall : (backToKw pos (keywordEach [⟨some "default", b, kp⟩] X.env)).all (·.1.isSome) = true := by rfl) (hnone : (backToKw pos (keywordEach [⟨some "default", b, kp⟩] X.env)).any (·.1.isNone) = false := by rfl) (hks : (backToKw pos (keywordEach [⟨some "default", b, kp⟩] X.env)).filterMap (·.1) = [Str.ofString "default"] := by rfl) :
    PE X (.Call (.Name "min" p) [a] [⟨some "default", b, kp⟩] pos) (T X.K tb (eBest bst_min fa fb)) :=
  pe_mono (pe_callBK (cr_mind hc) hg hm (by decide +kernel) (pa_cons ha pa_nil h1) (pk_cons hb pk_nil) (by decide) (by decide) he hpl hall hnone hks) fun _ _ _ h => best_go (fun a ns d H Q h1 h2 => ⟨a, ns, d, rfl, rfl, h1, h2⟩) h
/-! ### sorted -/
def sortedD : List D → Option W
  | [x] => (itmL x).bind fun ds => match allI ds with
    | some is => if is.length ≤ 1000000 then some (.f (.lst ((sortM iLt is).map .int))) else none
    | none => (allT ds).bind fun ks => if ks.length ≤ 1000000 ∧ oneSh ks = true then some (.f (.lst ((sortM kLt ks).map tD))) else none
  | _ => none
theorem shape {es L : List Ent} (ho : oneSh (es.map (·.2)) = true) (hL : ∀ e ∈ L, e ∈ es) : ∃ sh : List Bool, sh ≠ [] ∧ ∀ e ∈ L, e.2.map Sum.isRight = sh := by
  have sh : ∀ e ∈ L, e.2.map Sum.isRight = ((es.map (·.2)).headD []).map Sum.isRight ∧ e.2 ≠ [] := fun e he => by
    have z := List.all_eq_true.mp ho e.2 (List.mem_map.mpr ⟨e, hL e he, rfl⟩)
    simp only [Bool.and_eq_true, beq_iff_eq, Bool.not_eq_true', List.isEmpty_eq_false_iff] at z
    exact z
  cases L with
  | nil => exact ⟨[true], by simp, fun e he => by cases he⟩
  | cons e L =>
    obtain ⟨z1, z2⟩ := sh e List.mem_cons_self
    refine ⟨_, ?_, fun f hf => (sh f hf).1⟩
    rw [← z1]
    simpa using z2
theorem sorted_s : CallS K tb (fun vs H Q => rSortedI K vs H Q ∨ rSortLM K vs H Q) sortedD := fun φ ψ H m vs ds w Q R r e k => by
  unfold sortedD at e
  split at e
  · cases r with
    | cons hx r =>
      cases r
      obtain ⟨xs, e1, e⟩ := bnd e
      obtain ⟨l, us, rfl, hq, rs⟩ := itmL_sq hx e1
      cases hI : allI xs with
      | some is =>
        rw [hI] at e
        dsimp only at e
        split at e
        · cases e
          obtain rfl := allI_rep rs hI
          left
          refine ⟨l, is, rfl, hq, fun ns p h1 h2 hp => ?_⟩
          have en : ns = sortM iLt is := sortedM_uniq lin_i (h2.imp fun {x y} h => by simp only [iLt, decide_eq_false_iff_not]; omega) (sortM_sorted lin_i is) (h1.trans (sortM_perm is).symm)
          rw [en]
          exact Go.lst k R (reps_ints _) hp
        · cases e
      | none =>
        rw [hI] at e
        dsimp only at e
        obtain ⟨ks, e7, e⟩ := bnd e
        split at e
        · rename_i hb
          obtain ⟨hb, ho⟩ := hb
          cases e
          obtain ⟨es, rfl, rfl, hs⟩ := allT_rep rs e7
          right
          obtain ⟨sh', hne, hsh⟩ := shape ho (fun e he => he)
          refine ⟨l, es, sh', rfl, hq, hs, hne, hsh, fun L' p p1 pw hp => ?_⟩
          have en : L'.map (·.2) = sortM kLt (es.map (·.2)) := sortedM_uniq lin_k (List.pairwise_map.mpr pw) (sortM_sorted lin_k _) ((p1.map (·.2)).trans (sortM_perm _).symm)
          have ed : (sortM kLt (es.map (·.2))).map tD = L'.map fun e => tD e.2 := by rw [← en, List.map_map]; rfl
          rw [ed] at k
          exact Go.lst k R (reps_ents L' fun e he => hs e (p1.mem_iff.mp he)) hp
        · cases e
  · cases e
/-- sorted(set(e)) -/
def sortSetD : List D → Option W
  | [x] => (itmD x).bind fun ds => match allI ds with
    | some is => if is.length < 4000 then some (.f (.lst ((sortU iLt is).map .int))) else none
    | none => (allT ds).bind fun ks => if ks.length < 64 ∧ oneSh ks = true then some (.f (.lst ((sortU kLt ks).map tD))) else none
  | _ => none
theorem ex_sortSet {p p2 q : Pos} {a : Expr} {fa : Ex} (hc : X.calm = true) (hu : X.A.units + 64 < cLine) (hg : Gl X "sorted") (hm : X.mg "sorted" = none) (hg2 : Gl X "set") (hm2 : X.mg "set" = none) (ha : PE X a (T X.K tb fa))
    (h1 : starEach [a] X.env = (false, eval a X.env) :: starEach [] X.env := by rfl) (h2 : starEach [.Call (.Name "set" p2) [a] [] q] X.env = (false, eval (.Call (.Name "set" p2) [a] [] q) X.env) :: starEach [] X.env := by rfl)
    (h3 : (backTo q (starEach [] X.env)).any (·.1) = false := by rfl) (h4 : (backTo pos (starEach [] X.env)).any (·.1) = false := by rfl) :
    PE X (.Call (.Name "sorted" p) [.Call (.Name "set" p2) [a] [] q] [] pos) (T X.K tb (eCB sortSetD (aCons fa aNil))) := by
  have inner := pe_callTy (p := p2) (pos := q) (cr_setA hc hu) hg2 hm2 (by decide +kernel) (pa_cons ha pa_nil h1) (by decide) (by decide) h1 h3
  have outer := pe_alt (pe_callB (p := p) (pos := pos) (cr_sortedSA hc) hg hm (by decide +kernel) (pa_cons inner pa_nil h2) (by decide) (by decide) h2 h4) (pe_callB (p := p) (pos := pos) (cr_sortedM hc) hg hm (by decide +kernel) (pa_cons inner pa_nil h2) (by decide) (by decide) h2 h4)
  refine pe_mono outer fun σ H Q ⟨φ, ψ, ρ, m, w, m', R, E, e, k⟩ => ?_
  obtain ⟨⟨ws, m1⟩, e1, e⟩ := bnd e
  obtain ⟨⟨w1, m2⟩, e2, e3⟩ := bnd e1
  obtain ⟨⟨_, m3⟩, e4, e5⟩ := bnd e3
  cases e4
  cases e5
  obtain ⟨ds0, ed, e⟩ := bnd e
  obtain ⟨x, ex, ed⟩ := bnd ed
  cases ed
  obtain ⟨w3, eb, e⟩ := bnd e
  cases e
  unfold sortSetD at eb
  obtain ⟨ds, e6, eb⟩ := bnd eb
  cases hI : allI ds with
  | some is =>
    rw [hI] at eb
    dsimp only at eb
    split at eb
    · rename_i hb
      cases eb
      left
      refine ⟨φ, ψ, ρ, m, w1, _, R, E, e2, fun φ1 ψ1 H1 v P1 R1 V1 => ?_⟩
      obtain ⟨l, vs, rfl, hq, rs⟩ := itm_sq (gt_c (V1.rel R1) (V1.s R1).stl ex) e6
      obtain rfl := allI_rep rs hI
      refine ⟨l, rfl, .inl ⟨is, hq, by omega, fun a n han => ?_⟩⟩
      refine ⟨a, _, n, rfl, upd_same, fun ns p h1 h2 hp => ?_⟩
      have en : ns = sortU iLt is := sorted_uniq lin_i h1 (sortU_sorted lin_i is) fun z => by rw [h2, mem_sortU]; simp
      rw [en]
      have P2 := Post.lay (φ := φ1) (ψ := ψ) (o := SetO X.w a (fun j => decide (j ∈ is)) n) han
      have R2 := (V1.rel R1).lay (o := SetO X.w a (fun j => decide (j ∈ is)) n) han
      exact Go.lst (fun φ3 ψ3 H3 v P3 R3 V3 => k φ3 ψ3 H3 v (((V1.post P1).trans P2).trans P3) R3 V3) R2 (reps_ints _) hp
    · cases eb
  | none =>
    rw [hI] at eb
    dsimp only at eb
    obtain ⟨ks, e7, eb⟩ := bnd eb
    split at eb
    · rename_i hb
      obtain ⟨hb, ho⟩ := hb
      cases eb
      right
      refine ⟨φ, ψ, ρ, m, w1, _, R, E, e2, fun φ1 ψ1 H1 v P1 R1 V1 => ?_⟩
      obtain ⟨l, vs, rfl, hq, rs⟩ := itm_sq (gt_c (V1.rel R1) (V1.s R1).stl ex) e6
      obtain ⟨es, rfl, rfl, hs⟩ := allT_rep rs e7
      refine ⟨l, rfl, .inr ⟨es, hq, hs, by simpa using hb, fun a L han l1 l2 => ?_⟩⟩
      have P2 := Post.lay (φ := φ1) (ψ := ψ) (o := SetM X.prog X.w a L) han
      have R2 := (V1.rel R1).lay (o := SetM X.prog X.w a L) han
      obtain ⟨sh', hne, hsh⟩ := shape ho l1
      have hsL : ∀ e ∈ L, SqT X.K (upd H1 a (SetM X.prog X.w a L)) e.1 (e.2.map kV) := fun e he => P2.sqT (V1.rel R1) (hs e (l1 e he))
      refine ⟨a, L, sh', rfl, upd_same, hsL, hne, hsh, fun L' p p1 pw hp => ?_⟩
      have en : L'.map (·.2) = sortU kLt (es.map (·.2)) := sorted_uniq lin_k (List.pairwise_map.mpr pw) (sortU_sorted lin_k _) fun z => by
        rw [mem_sortU]
        constructor
        · intro hz
          obtain ⟨e, he, rfl⟩ := List.mem_map.mp hz
          exact List.mem_map.mpr ⟨e, l1 e (p1.mem_iff.mp he), rfl⟩
        · intro hz
          obtain ⟨e, he, rfl⟩ := List.mem_map.mp hz
          exact (p1.map (·.2)).mem_iff.mpr (l2 e he)
      have ed : (sortU kLt (es.map (·.2))).map tD = L'.map fun e => tD e.2 := by rw [← en, List.map_map]; rfl
      rw [ed] at k
      exact Go.lst (fun φ3 ψ3 H3 v P3 R3 V3 => k φ3 ψ3 H3 v (((V1.post P1).trans P2).trans P3) R3 V3) R2 (reps_ents L' fun e he => hsL e (p1.mem_iff.mp he)) hp
    · cases eb
end
end Pw
end
section
set_option Elab.async false
set_option linter.all false
set_option maxRecDepth 100000
set_option maxHeartbeats 4000000
/-! The law's own call; the generator of children_of. -/
namespace Pw
open PySem PySem.Spec PyProof.Rows L2 Pv
/-- the abstract heap at the law's entry: the tables, and the script where it is no object of the module -/
def entryH (K : FRG) (tabs : List Addr) (a : Addr) (o : Obj) (vs : List V) : Hp := fun b =>
  if b ∈ tabs then some (.tbl #[]) else if b = a ∧ K.lookup a = none then some (.frz o (.lst vs)) else none
theorem entryH_cases {K : FRG} {tabs : List Addr} {a b : Addr} {o : Obj} {vs : List V} {u : HO} (h : entryH K tabs a o vs b = some u) :
    (b ∈ tabs ∧ u = .tbl #[]) ∨ (b ∉ tabs ∧ b = a ∧ K.lookup a = none ∧ u = .frz o (.lst vs)) := by
  unfold entryH at h
  by_cases hb : b ∈ tabs
  · rw [if_pos hb] at h; cases h; exact .inl ⟨hb, rfl⟩
  · rw [if_neg hb] at h
    by_cases hc : b = a ∧ K.lookup a = none
    · rw [if_pos hc] at h; cases h; exact .inr ⟨hb, hc.1, hc.2, rfl⟩
    · rw [if_neg hc] at h; cases h
theorem entryH_tab {K : FRG} {tabs : List Addr} {a b : Addr} {o : Obj} {vs : List V} (hb : b ∈ tabs) : entryH K tabs a o vs b = some (.tbl #[]) := if_pos hb

theorem law_callG {P : Program} {w : World} {K : FRG} {mg mb : Str → Option Value} {k : Nat} {fa a : Addr} {cs : List (Addr × Addr)} {fd : FuncData} {x : Str} {F : Fx} {t0 : Shared} {us : List Value} {ns : List Int}
    (inK : K.In t0.heap) (glob : t0.heap.Ns mainGlobals mg) (blt : t0.heap.Ns builtinsNs mb) (bltIs : ∀ x : Str, x ≠ "__name__" → mb x = bootBuiltins x) (lim : t0.heap.NoLimit) (gens : t0.gens = #[])
    (tabs : ∀ p ∈ cs, t0.heap.get? p.2 = some { cls := .none, data := .fields #[] }) (notK : ∀ p ∈ cs, K.lookup p.2 = none) (codes : ∀ p ∈ cs, PySem.W.CodeHd t0.heap p.1 p.2)
    (bmod : ∃ (bm : Addr) (ob : Obj), mg "__builtins__" = some (.ref bm) ∧ bm ≠ builtinsNs ∧ t0.heap.get? bm = some ob ∧ ob.cls = .type "module" ∧ ob.dict = some builtinsNs ∧ ob.data = .plain)
    (obj : t0.heap.get? a = some { cls := .type "list", data := .seq us.toArray }) (isI : IntsAre us ns) (few : ns.length ≤ sizeLine) (room : Room k callerA)
    (G : ∀ base : Heap, K.In base → base.Ns mainGlobals mg → (∀ p ∈ cs, GxR.TabB base mg p.1 p.2) → FnG P w K mg base k fa fd [x] (spF K (cs.map (·.2)) 1 F)) (binds : ∀ (s : Shared) (u : Value), BindsTo s fd ⟨[u], []⟩ [(x, u)])
    (holds : ∃ m', F [.v (.fl (ns.map .int))] [] = some (.v (.bl true), m')) :
    codeAny (model P w) callerA (.call (.ref fa) ⟨[.ref a], []⟩) (fun r s' => r = .ok (.ret (.bool true)) ∧ OldK t0.heap s'.heap ∧ s'.os = t0.os ∧ AllBare s'.gens) t0 := by
  obtain ⟨m', holds⟩ := holds
  have rel := vals_ints isI
  have lens := isI.length
  let ob : Obj := { cls := .type "list", data := .seq us.toArray }
  let TB := cs.map (·.2)
  let H := entryH K TB a ob (ns.map V.int)
  have tabAt : ∀ b, b ∈ TB → t0.heap.get? b = some { cls := .none, data := .fields #[] } := fun b hb => by
    obtain ⟨p, hp, rfl⟩ := List.mem_map.mp hb
    exact tabs p hp
  have ok : HOk P w H t0.heap := fun b u e => by
    rcases entryH_cases e with ⟨hb, rfl⟩ | ⟨_, rfl, _, rfl⟩
    · exact tabAt b hb
    · exact ⟨obj, by rw [List.length_map]; exact few, us, _, rel, obj⟩
  have offData : ∀ {b : Addr} {o : Obj}, t0.heap.get? b = some o → (∀ vs n, o.data ≠ .seq vs n) → o.data ≠ .fields #[] → H b = none := fun {b o} e h1 h2 => by
    cases q : H b with
    | none => rfl
    | some u =>
      exfalso
      rcases entryH_cases q with ⟨hb, _⟩ | ⟨_, rfl, _, _⟩
      · rw [tabAt b hb] at e; cases e; exact h2 rfl
      · rw [obj] at e; cases e; exact h1 _ _ rfl
  have down : ∀ {b : Addr} {o : Obj}, t0.heap.get? b = some o → H b = none → (hidT t0.heap H).get? b = some o := fun e n => hidT_get e n
  have nsDown : ∀ {b : Addr} {f : Str → Option Value}, t0.heap.Ns b f → (hidT t0.heap H).Ns b f := by
    rintro b f ⟨o, es, ep, e, d, r⟩
    exact ⟨o, es, ep, down e (offData e (fun vs n z => by rw [d] at z; cases z) fun z => by rw [d] at z; cases z), d, r⟩
  have kDown : K.In (hidT t0.heap H) := fun b o e => down (inK b o e) (by
    cases q : H b with
    | none => rfl
    | some u =>
      exfalso
      rcases entryH_cases q with ⟨hb, _⟩ | ⟨_, rfl, hk, _⟩
      · obtain ⟨p, hp, rfl⟩ := List.mem_map.mp hb
        rw [notK p hp] at e; cases e
      · rw [hk] at e; cases e)
  have modOk : L2.Mod K mg (hidT t0.heap H) := by
    obtain ⟨mc, l1, l2⟩ := lim
    exact ⟨kDown, nsDown glob, ⟨mb, nsDown blt, bltIs⟩, ⟨mc, nsDown l1, l2⟩⟩
  have tabsOk : ∀ p ∈ cs, GxR.TabB (hidT t0.heap H) mg p.1 p.2 := fun p hp => by
    constructor
    · obtain ⟨o, vs, file, tf, flags, tg, inF, text, tt, e1, rest⟩ := codes p hp
      refine ⟨o, vs, file, tf, flags, tg, inF, text, tt, down e1 (offData e1 (fun vs' n z => ?_) fun z => ?_), rest⟩
      · rw [rest.2.1] at z; cases z
      · rw [rest.2.1] at z
        have z' := Data.fields.inj z
        have h11 := rest.2.2.1
        rw [z'] at h11
        simp at h11
    · obtain ⟨bm, o, b1, b2, b3, b4, b5, b6⟩ := bmod
      refine ⟨bm, o, b1, b2, fun z => ?_, fun z => ?_, down b3 (offData b3 (fun vs n z => ?_) fun z => ?_), b4, b5, b6⟩
      · obtain ⟨o', es, ep, e, d, _⟩ := glob
        rw [z, e] at b3; cases b3
        rw [d] at b6; cases b6
      · rw [z, tabs p hp] at b3; cases b3; cases b6
      · rw [b6] at z; cases z
      · rw [b6] at z; cases z
    · intro z
      obtain ⟨o', es, ep, e, d, _⟩ := glob
      rw [z, tabs p hp] at e; cases e; cases d
  have entry : Env0 P w K mg (hidT t0.heap H) callerA [] t0 H := ⟨rfl, modOk, fun b o e => of_hidT e, Nat.le_of_eq (hidT_size _ _), trivial, fun b hb => absurd (show b ∈ ([] : List Addr) from hb) (by simp), ok, AllBare.of_eq gens⟩
  have RL : Rel K TB [] [] H [] := ⟨rfl, List.nodup_nil, fun n mo b e1 _ => by simp at e1, fun p hp => ⟨#[], entryH_tab hp, by trivial⟩, (fun p hp => nomatch hp), (fun p hp => nomatch hp)⟩
  have rInts : ∀ l : List Int, Reps K [] [] H (l.map .int) (l.map V.int) := fun l => by
    induction l with
    | nil => exact .nil
    | cons i l ih => exact .cons (.int i) ih
  have nT : a ∉ TB := fun z => by
    have e := tabAt a z
    rw [obj] at e
    have e' := congrArg Obj.data (Option.some.inj e)
    cases e'
  have script : Rep K [] [] H (.fl (ns.map .int)) (.ref a) := by
    refine .fl ?_ (rInts ns)
    cases hk : K.lookup a with
    | none =>
      refine .inl ⟨ob, ?_⟩
      show entryH K TB a ob _ a = _
      unfold entryH
      rw [if_neg nT, if_pos ⟨rfl, hk⟩]
    | some o =>
      have e := inK a o hk
      rw [obj] at e
      cases e
      exact .inr ⟨_, us.toArray, _, hk, rfl, rfl, rfl, by rw [List.size_toArray, lens]; exact few, by simpa using rel⟩
  have want : spF K TB 1 F [.ref a] H (fun v _ => v = .bl true) E0 := ⟨[], [], [.v (.fl (ns.map .int))], [], .v (.bl true), m', RL, .cons script .nil, rfl, holds, fun φ' ψ' H' v _ _ r => by obtain ⟨_, r⟩ := r; cases r; rfl⟩
  refine codeAny_mono ((G _ kDown (nsDown glob) tabsOk).run callerA [] t0 H ⟨[.ref a], []⟩ [.ref a] [.ref a] _ _ rfl room entry (binds t0 (.ref a)) (.cons rfl .nil) want) fun res t1 ends => ?_
  match res, ends with
  | .ok (.ret u), ⟨v, H', os, bare, un, ok', rv, isT⟩ =>
    have isT' : v = .bl true := isT
    subst isT'
    obtain rfl : u = Value.bool true := rv
    have kept : ∀ b o, b ∉ TB → t0.heap.get? b = some o → t1.heap.get? b = some o := fun b o nb e => by
      cases q : H b with
      | none => exact un.keep b o e q (fun z => absurd (show b ∈ ([] : List Addr) from z) (by simp)) (by simp)
      | some y =>
        rcases entryH_cases q with ⟨hb, _⟩ | ⟨_, rfl, _, rfl⟩
        · exact absurd hb nb
        · have q2 := un.frzs _ _ _ q
          obtain ⟨e1, _⟩ := ok' _ _ q2
          rw [obj] at e; cases e
          exact e1
    have grown : ∀ p ∈ cs, ∃ more : Array Value, t1.heap.get? p.2 = some { cls := .none, data := .fields more } := fun p hp => by
      obtain ⟨more, z⟩ := un.tbls p.2 #[] (entryH_tab (List.mem_map.mpr ⟨p, hp, rfl⟩))
      exact ⟨_, ok' p.2 _ z⟩
    refine ⟨rfl, ⟨fun b o e => ?_, fun b o e => ?_⟩, os, bare⟩
    · by_cases hb : b ∈ TB
      · obtain ⟨p, hp, rfl⟩ := List.mem_map.mp hb
        obtain ⟨more, hm⟩ := grown p hp
        rw [tabs p hp] at e
        cases e
        exact .inr (.inl ⟨((codes p hp).tab (tabs p hp)).isCodeTable, rfl, #[], more, rfl, by rw [Array.empty_append]; exact hm⟩)
      · exact .inl (kept b o hb e)
    · by_cases hb : b ∈ TB
      · obtain ⟨p, hp, rfl⟩ := List.mem_map.mp hb
        obtain ⟨more, hm⟩ := grown p hp
        exact ⟨_, hm⟩
      · exact ⟨o, kept b o hb e⟩
/-- the end: what is asked of the head is a fact a def -/
theorem walkG {l : PySem.W.OpenLaw} {n k : Nat} {q : Program} {loose : List Str} {XP : (Str → Option Value) → Heap → Prop} {YP : World → Heap → Prop} {d : DefRec} {K : Params → FRG} {x : Str} {F : Fx}
    (hn : l.most = some n) (hn2 : n ≤ sizeLine) (hdf : d.params.defaults = []) (room : Room k callerA) (hY : ∀ (w : World) (h : Heap), YP w h → (K w.params).In h)
    (G : ∀ (w : World) (mg : Str → Option Value) (fa : Addr) (h : Heap), (K w.params).In h → h.Ns mainGlobals mg → mg d.name = some (.ref fa) →
      (∀ (x : Str) (d : DefRec) (c P : Addr), (recsOf q).find? (fun e => e.name == x) = some d → PySem.W.tabIn (K w.params) x = some (c, P) → PySem.W.CodeHd h c P ∧ h.get? P = some { cls := .none, data := .fields #[] }) →
      ∃ (fd : FuncData) (cs : List (Addr × Addr)), (∀ p ∈ cs, h.get? p.2 = some { cls := .none, data := .fields #[] }) ∧ (∀ p ∈ cs, (K w.params).lookup p.2 = none) ∧ (∀ p ∈ cs, PySem.W.CodeHd h p.1 p.2) ∧ (∀ (s : Shared) (u : Value), BindsTo s fd ⟨[u], []⟩ [(x, u)]) ∧
        ∀ base : Heap, (K w.params).In base → base.Ns mainGlobals mg → (∀ p ∈ cs, GxR.TabB base mg p.1 p.2) → FnG l.prog w (K w.params) mg base k fa fd [x] (spF (K w.params) (cs.map (·.2)) 1 F))
    (holds : ∀ ns : List Int, ns.length ≤ n → ∃ m', F [.v (.fl (ns.map .int))] [] = some (.v (.bl true), m')) :
    PySem.W.WalkO q loose XP YP l.row.toRowW d [] (fun f vs => PySem.call f vs) := by
  refine Att.attach_callB hn hdf fun w s₀ t0 mg mb fa o pm cd doc a us ns Gr Y ho hd hcd hmg hobj hints hlen hbits hg => ?_
  have inK := hY w _ Y
  obtain ⟨fd, cs, tabs, notK, codes, binds, hG⟩ := G w mg fa _ inK Gr.T.g hmg fun x d c P h1 h2 => PySem.W.tab_of Gr.T inK h1 h2
  exact law_callG inK Gr.T.g Gr.T.b Gr.T.builtins Gr.T.nolimit hg tabs notK codes Gr.T.bmain hobj hints (Nat.le_trans hlen hn2) room hG binds (holds ns hlen)
def parD : List D → Option (List (Int × Int))
  | [] => some []
  | .tup (_ :: .int f :: .int g :: _) :: ds => (parD ds).map ((f, g) :: ·)
  | _ => none
def kidsD (ps : List (Int × Int)) (w : Int) : List D := (kidsN ps w).map fun i : Nat => D.int i
def eKids (ih iw : Nat) : Ex := fun ρ m => match ρ[ih]?, ρ[iw]? with
  | some (some (.v (.tup fs))), some (some (.v (.int w))) => (parD fs).bind fun ps => if fs.length ≤ 1000000 then some (.v (.tup (kidsD ps w)), m) else none
  | _, _ => none
section
variable {X : Cx} {pins : List (Addr × Obj)} {σ : L2.St} {H : Hp} {s : Shared} {tb φ ψ : List Addr} {m : Mem}
theorem par_len : ∀ {fs : List D} {ps : List (Int × Int)}, parD fs = some ps → fs.length = ps.length
  | [], ps, e => by cases e; rfl
  | .tup (_ :: .int f :: .int g :: _) :: ds, ps, e => by
    obtain ⟨qs, e1, rfl⟩ := Option.map_eq_some_iff.mp (show (parD ds).map ((f, g) :: ·) = some ps from e)
    simp [par_len e1]
theorem par_raw (I : Inv X pins σ H s) : ∀ {fs : List D} {ps : List (Int × Int)} {vs : List V} {us : List Value}, parD fs = some ps → Reps X.K φ ψ H fs vs → Vals vs us →
    ∀ (i : Nat) (p : Int × Int), ps[i]? = some p → ∃ ai itsi t u, us[i]? = some (.ref ai) ∧ IsTup s.heap ai itsi ∧ 3 ≤ itsi.size ∧ itsi[1]? = some (.int p.1 t) ∧ itsi[2]? = some (.int p.2 u)
  | [], ps, _, _, e, _, _, i, p, h => by cases e; simp at h
  | .tup (d0 :: .int f :: .int g :: dr) :: ds, ps, _, _, e, .cons h1 r1, .cons v1 w1, i, p, h => by
    obtain ⟨qs, e1, rfl⟩ := Option.map_eq_some_iff.mp (show (parD ds).map ((f, g) :: ·) = some ps from e)
    cases i with
    | zero =>
      have hp : (f, g) = p := Option.some.inj (by simpa using h)
      subst hp
      cases h1 with
      | tup hq r =>
        cases v1
        obtain ⟨its, rv, it, _⟩ := I.tuple hq
        cases r with
        | cons a0 r => cases r with
          | cons a1 r => cases r with
            | cons a2 r =>
              cases a1
              cases a2
              cases rv with
              | cons b0 rv => cases rv with
                | cons b1 rv => cases rv with
                  | cons b2 rv =>
                    obtain ⟨t1, rfl⟩ := b1
                    obtain ⟨t2, rfl⟩ := b2
                    exact ⟨_, _, t1, t2, rfl, it, by simp, by simp, by simp⟩
    | succ i => exact par_raw I e1 r1 w1 i p (by simpa using h)
theorem raw_of (I : Inv X pins σ H s) {fs : List D} {ps : List (Int × Int)} {v : V} (hp : parD fs = some ps) (h : Rep X.K φ ψ H (.tup fs) v) : ∃ ah, v = .ref ah ∧ FolkRaw s.heap ah ps ∧ ∃ vs, SqT X.K H ah vs ∧ vs.length = ps.length := by
  cases h with
  | tup hq r =>
    obtain ⟨its, rv, it, _⟩ := I.tuple hq
    have e1 := r.length
    have e2 := rv.length
    have e3 := par_len hp
    refine ⟨_, rfl, ⟨its.toArray, it, by rw [List.size_toArray]; omega, fun i p e => ?_⟩, _, hq, by omega⟩
    obtain ⟨ai, itsi, t, u, a1, a2⟩ := par_raw I hp r rv i p e
    exact ⟨ai, itsi, t, u, by simpa using a1, a2⟩
end
/-- a table has grown -/
theorem Post.tbl {φ ψ : List Addr} {H : Hp} {p : Addr} {ps ps' : Array Value} (h : H p = some (.tbl ps)) : Post φ ψ H φ ψ (upd H p (.tbl ps')) :=
  ⟨List.prefix_refl _, fun _ z => .inl z, fun _ z => .inl z, fun b u _ e ht => by rw [upd_ne (fun z => by rw [z, h] at e; cases e; exact ht _ rfl)]; exact e, fun b z => by
    by_cases hb : b = p
    · rw [hb, upd_same] at z; cases z
    · rw [upd_ne hb] at z; exact z⟩
theorem Rel.tbl {K : FRG} {tb φ ψ : List Addr} {H : Hp} {m : Mem} {p : Addr} {ps ps' : Array Value} (R : Rel K tb φ ψ H m) (h : H p = some (.tbl ps)) (ht : TriplesOk ps'.toList) : Rel K tb φ ψ (upd H p (.tbl ps')) m := by
  refine ⟨R.len, R.nd, fun n mo a e1 e2 => ?_, fun q hq => ?_, fun q hq z => R.sd q hq ((Post.tbl (φ := φ) (ψ := ψ) h).kp q z), R.ap⟩
  · exact (R.obj n mo a e1 e2).mono (Post.tbl h) R (upd_ne fun z => R.ntbl h (z ▸ List.mem_of_getElem? e2))
  · by_cases hb : q = p
    · rw [hb]; exact ⟨ps', upd_same, ht⟩
    · exact TabG.keep (R.tab q hq) (upd_ne hb)
section
variable {X : Cx} {tb : List Addr}
theorem ex_kids {k : Nat} {c P : Addr} {scope : Scope} {j1 j2 k1 : Nat} {p1 p2 p3 p4 p5 p6 p7 p8 q1 q2 q3 q4 q5 q6 r2 r3 r4 r5 r6 r7 r8 gpos pos : Pos} (ih iw : Nat)
    (hr : Room k X.A) (hgt : Gl X "tuple") (hmt : X.mg "tuple" = none) (hgr : Gl X "range") (hmr : X.mg "range" = none) (hgl : Gl X "len") (hml : X.mg "len" = none)
    (TB : GxR.TabB X.base X.mg c P) (hP : P ∈ tb) (hcode : X.env.code = .ref c) (S : GxR.GenS X.env scope "child")
    (hfh : scope.names.lookup ("house" : Str) = some .free) (hfw : scope.names.lookup ("who" : Str) = some .free)
    (hch : X.env.kindOf "house" = some .cell) (hcw : X.env.kindOf "who" = some .cell)
    (clh : (cloFrom X.env.cells scope.names []).lookup ("house" : Str) = X.env.cells.lookup ("house" : Str)) (clw : (cloFrom X.env.cells scope.names []).lookup ("who" : Str) = X.env.cells.lookup ("who" : Str))
    (n0 : X.N[ih]? = some "house") (n1 : X.N[iw]? = some "who")
    (he : starEach [.GeneratorExp (.Name "child" p2) [⟨.Name "child" p3, .Call (.Name "range" p4) [.Call (.Name "len" p5) [.Name "house" p6] [] p7] [] p8, [.Compare (.Name "who" q1) [.In] [.Tuple [.Subscript (.Subscript (.Name "house" q2) (.Name "child" q3) q4) (.Constant (.int 1) j1 q5) q6, .Subscript (.Subscript (.Name "house" r2) (.Name "child" r3) r4) (.Constant (.int 2) j2 r5) r6] k1 r7] r8], 0⟩] scope gpos] X.env =
      (false, eval (.GeneratorExp (.Name "child" p2) [⟨.Name "child" p3, .Call (.Name "range" p4) [.Call (.Name "len" p5) [.Name "house" p6] [] p7] [] p8, [.Compare (.Name "who" q1) [.In] [.Tuple [.Subscript (.Subscript (.Name "house" q2) (.Name "child" q3) q4) (.Constant (.int 1) j1 q5) q6, .Subscript (.Subscript (.Name "house" r2) (.Name "child" r3) r4) (.Constant (.int 2) j2 r5) r6] k1 r7] r8], 0⟩] scope gpos) X.env) :: starEach [] X.env := by rfl) :
    PE X (.Call (.Name "tuple" p1) [.GeneratorExp (.Name "child" p2) [⟨.Name "child" p3, .Call (.Name "range" p4) [.Call (.Name "len" p5) [.Name "house" p6] [] p7] [] p8, [.Compare (.Name "who" q1) [.In] [.Tuple [.Subscript (.Subscript (.Name "house" q2) (.Name "child" q3) q4) (.Constant (.int 1) j1 q5) q6, .Subscript (.Subscript (.Name "house" r2) (.Name "child" r3) r4) (.Constant (.int 2) j2 r5) r6] k1 r7] r8], 0⟩] scope gpos] [] pos)
      (T X.K tb (eKids ih iw)) := by
  constructor
  intro pins s σ H Q I want
  obtain ⟨φ, ψ, ρ, m, d, m', R, RV, e, go⟩ := want
  unfold eKids at e
  split at e
  rotate_left
  · cases e
  rename_i fs wh eh ew
  obtain ⟨ps, hps, e⟩ := bnd e
  split at e
  rotate_left
  · cases e
  rename_i hlen
  cases e
  have plen := par_len hps
  obtain ⟨vh, sh, rh⟩ := RV.val ih _ eh
  obtain ⟨vw, sw, rw'⟩ := RV.val iw _ ew
  have rw2 : Rep X.K φ ψ H (.int wh) vw := rw'
  cases rw2
  obtain ⟨ps0, hP0, htr0⟩ := R.tab P hP
  refine wpAny_Call_Name_kw (ld_blt I hgt hmt PyProof.Rows.boot_tuple ?_)
  refine PyProof.Rows.callWith_type1 ?_ he (by rfl)
  rw [he]
  show wpAny _ _ (spliced ((false, eval _ X.env) :: backTo pos (starEach [] X.env))) _ _ s
  refine Calls.spliced_cons ?_
  refine wpAny_GeneratorExp_walksQ hr.hd S.co (closure_ok S.free) S.cell S.dot S.loc S.kind (by have := hr.dp; omega) ?_ (fun _ => rfl)
  -- range(len(house))
  refine Call_ (ld_blt I hgr hmr boot_range (PyProof.Rows.callWith_type1 ?_ rfl rfl))
  show wpAny _ _ (spliced ((false, eval (.Call (.Name "len" p5) [.Name "house" p6] [] p7) X.env) :: backTo p8 (starEach [] X.env))) _ _ s
  refine Calls.spliced_cons ?_
  obtain ⟨ah, rfl, fr, vs, hq, hvl⟩ := raw_of I hps rh
  have lenRule : PE X (.Call (.Name "len" p5) [.Name "house" p6] [] p7) _ := pe_callB call_len_seq hgl hml PySem.boot_len (pa_cons (pe_var n0 (.inr (.inl hch))) pa_nil)
  refine thn (lenRule.run pins s σ H (fun x H1 => H1 = H ∧ x = .int (ps.length : Nat)) I ⟨.ref ah, sh, ah, vs, rfl, .inr hq, rfl, by rw [hvl]⟩) fun lv s1 ⟨x, H1, I1, r1, q1⟩ => ?_
  obtain ⟨rfl, rfl⟩ := q1
  obtain ⟨lt, rfl⟩ := r1
  refine Calls.spliced_nil ?_
  refine call_range_1 ?_
  have nbig : ((ps.length : Nat) : Int) < 2 ^ 62 := by omega
  refine wpAny_pyIter_range (IsRange.new ..) (small_one (by omega) (by omega) (by omega) nbig) ?_
  -- what stands now
  let t1 : Shared := { s1 with heap := s1.heap.push { cls := .type "range", data := .fields #[.int 0 s1.toks, .int (ps.length : Nat) lt, .int 1 (s1.toks + 1)] }, toks := s1.toks + 1 + 1 }
  let it : Addr := t1.heap.objs.size
  let t2 : Shared := { t1 with heap := t1.heap.push { cls := .type "range_iterator", data := .fields #[rawInt 0, rawInt (Builtin.Range.rangeSize 0 (ps.length : Nat) 1), rawInt 1] } }
  have I2 : Inv X pins σ H1 t2 := (I1.kept (t' := s1.toks + 1 + 1) (fun b o e => Heap.get?_push_of_some _ e)).kept (t' := s1.toks + 1 + 1) fun b o e => Heap.get?_push_of_some _ e
  have up : ∀ b o, s1.heap.get? b = some o → t2.heap.get? b = some o := fun b o e => Heap.get?_push_of_some _ (Heap.get?_push_of_some _ e)
  have frames := raw_of I2 hps rh
  obtain ⟨ah', eah, fr2, _⟩ := frames
  have eah' : ah = ah' := V.ref.inj eah
  subst eah'
  -- the cells
  obtain ⟨mL, hnL, hlook⟩ := id I2.loc
  obtain ⟨uh, ruh, lh⟩ := hlook ih _ _ n0 sh (.inr (.inl hch))
  obtain ⟨uw, ruw, lw⟩ := hlook iw _ _ n1 sw (.inr (.inl hcw))
  cases ruh
  obtain ⟨tw, rfl⟩ := ruw
  have lh' : ∃ ch, X.env.cells.lookup ("house" : Str) = some ch ∧ t2.heap.IsCell ch (some (.ref ah)) := by
    rcases lh with ⟨z, _⟩ | ⟨_, ch, z1, z2⟩
    · rw [hch] at z; cases z
    · exact ⟨ch, z1, z2⟩
  have lw' : ∃ cw, X.env.cells.lookup ("who" : Str) = some cw ∧ t2.heap.IsCell cw (some (.int wh tw)) := by
    rcases lw with ⟨z, _⟩ | ⟨_, cw, z1, z2⟩
    · rw [hcw] at z; cases z
    · exact ⟨cw, z1, z2⟩
  obtain ⟨ch, eh1, eh2⟩ := lh'
  obtain ⟨cw, ew1, ew2⟩ := lw'
  have itIs : IsRangeIter t2.heap it (0 + ((0 : Nat) : Int) * 1) (((ps.length : Nat) : Int) - ((0 : Nat) : Int)) 1 := by
    have z1 : (0 : Int) + ((0 : Nat) : Int) * 1 = 0 := by simp
    have z2 : ((ps.length : Nat) : Int) - ((0 : Nat) : Int) = Builtin.Range.rangeSize 0 (ps.length : Nat) 1 := by
      rw [rangeSize_one]; split <;> omega
    rw [z1, z2]
    exact Heap.get?_push_size _ rfl
  have hPs : t2.heap.get? P = some { cls := .none, data := .fields ps0 } := I2.hok P _ hP0
  have hPlt : P < t2.heap.objs.size := Heap.lt_size hPs
  have hPit : P ≠ it := fun z => by
    have e0 : t1.heap.get? P = some { cls := .none, data := .fields ps0 } := (I1.kept (t' := s1.toks + 1 + 1) (h' := t1.heap) (fun b o e => Heap.get?_push_of_some _ e)).hok P _ hP0
    have := Heap.lt_size e0
    rw [z] at this
    exact Nat.lt_irrefl _ this
  have cd : PySem.W.CodeHd t2.heap c P := TB.code.keeps fun b u e => I2.bk b u e
  have cont : ∀ (code : Value) (h3 : Heap) (tk : Nat) (ps' : Array Value), Heap.ExtBut P t2.heap h3 → t2.heap.objs.size ≤ h3.objs.size → h3.get? P = some { cls := .none, data := .fields ps' } → (∃ more, ps' = ps0 ++ more) → TriplesOk ps'.toList →
      wpAny (model X.prog X.w) X.A (builtinsFor X.env.globals X.env.builtins) (fun bi s₄ =>
        ∃ Ia fp wr n₀ Pf St₀ pz F, Value.ref it = .ref Ia ∧ (∀ A' : Around, A'.handled = none → Walks X.prog X.w A' Ia fp wr n₀ Pf St₀) ∧ St₀ 0 s₄.heap ∧ (∀ b ∈ fp, b < s₄.heap.objs.size) ∧ s₄.heap.NoLimit ∧ cStatics ∉ wr ∧
          (∀ href : Heap, (∀ b o, s₄.heap.get? b = some o → href.get? b = some o) →
            QuietGen X.prog X.w (genEnv scope (cloFrom X.env.cells scope.names []) s₄.heap.objs.size code bi X.env) "child" [.Compare (.Name "who" q1) [.In] [.Tuple [.Subscript (.Subscript (.Name "house" q2) (.Name "child" q3) q4) (.Constant (.int 1) j1 q5) q6, .Subscript (.Subscript (.Name "house" r2) (.Name "child" r3) r4) (.Constant (.int 2) j2 r5) r6] k1 r7] r8] (.Name "child" p2) (List.range s₄.heap.objs.size) wr Pf pz F href) ∧
          (∀ a h₅ tk gs, gs.bare = true → s₄.heap.objs.size < a → h₅.objs.size = a + 1 → (∀ b o, s₄.heap.get? b = some o → h₅.get? b = some o) →
            WalksS X.prog X.w X.A.in4 a (a :: s₄.heap.objs.size :: List.range s₄.heap.objs.size) (s₄.heap.objs.size :: wr) (GenOnlyQ s₄.gens.size) (passing pz n₀ 0).length
              (fun j y => ∃ i, (passing pz n₀ 0)[j]? = some i ∧ F i y) (GenAt X.prog X.w X.A.in4 a s₄.gens.size s₄.heap.objs.size (List.range s₄.heap.objs.size) wr pz n₀ F) →
            GenAt X.prog X.w X.A.in4 a s₄.gens.size s₄.heap.objs.size (List.range s₄.heap.objs.size) wr pz n₀ F 0 { s₄ with gens := s₄.gens.push gs, toks := tk, heap := h₅ } →
            wpAny (model X.prog X.w) X.A (spliced (backTo pos (starEach [] X.env))) (fun vs s₂ => wpAny (model X.prog X.w) X.A (call (.type "tuple") (.ref a :: vs)) (EP X pins σ Q) X.xe s₂) X.xe { s₄ with gens := s₄.gens.push gs, toks := tk, heap := h₅ })) X.xe { t2 with heap := h3, toks := tk } := by
    intro code h3 tk ps' hx hsz hP3 hmore ht3
    obtain ⟨bm, ob, e1, e2, e3, e4, e5, e6, e7, e8⟩ := TB.bm
    have hcP : cStatics ≠ P := fun e => by
      obtain ⟨_, hns, _⟩ := I2.nolimit
      obtain ⟨o', es, ep, ho, hd, _⟩ := hns
      rw [e, hPs] at ho
      cases ho
      cases hd
    have hcl : cStatics < s1.heap.objs.size := let ⟨_, hns, _⟩ := I1.nolimit; hns.lt
    have sz1 : t1.heap.objs.size = s1.heap.objs.size + 1 := Heap.size_push ..
    have sz2 : t2.heap.objs.size = t1.heap.objs.size + 1 := Heap.size_push ..
    have keep3 : ∀ b u, b ≠ P → t2.heap.get? b = some u → h3.get? b = some u := fun b u hb e => hx b u hb e
    refine wpAny_builtinsFor (m := X.mg) (by rw [I2.ok.glob]; exact (I2.mod.glob.keeps I2.bk).extBut hx TB.gP) e1 e2 (keep3 _ _ e4 (I2.bk _ _ e5)) e6 e7 e8 ?_
    refine ⟨it, [it], [it], ps.length, (fun i v => i < ps.length ∧ ∃ t, v = .int (0 + i * 1) t), (fun i h => IsRangeIter h it (0 + (i : Nat) * 1) (((ps.length : Nat) : Int) - (i : Nat)) 1), isKid ps wh, (fun i y => ∃ t, y = Value.int (i : Nat) t), rfl, fun A' hA => bounded (Walks.range hA it 0 1 ps.length), ?_, ?_, I2.nolimit.extBut hx hcP, ?_, ?_, ?_⟩
    · exact keep3 it _ (Ne.symm hPit) itIs
    · intro b hb
      rw [List.mem_singleton.mp hb]
      exact Nat.lt_of_lt_of_le (show t1.heap.objs.size < t2.heap.objs.size by rw [sz2]; exact Nat.lt_succ_self _) hsz
    · intro z
      have z' : cStatics = t1.heap.objs.size := List.mem_singleton.mp z
      rw [sz1] at z'
      exact absurd (show cStatics < s1.heap.objs.size from hcl) (by rw [z']; exact Nat.not_lt.mpr (Nat.le_succ _))
    · intro href hhref
      have hcell : ∀ (cc : Addr) (v : Value), t2.heap.IsCell cc (some v) → (∀ (s₂ : Shared), (∀ b ∈ List.range h3.objs.size, b ∉ [it] → ∀ o, href.get? b = some o → s₂.heap.get? b = some o) → s₂.heap.IsCell cc (some v)) := by
        rintro cc v ⟨o, ho, hd⟩ s₂ hk
        have n1 : cc ≠ P := fun z => by rw [z, hPs] at ho; cases ho; cases hd
        have n2 : cc ≠ it := fun z => by
          have e0 : t2.heap.get? it = some _ := itIs
          rw [z, e0] at ho; cases ho; cases hd
        have h3o := keep3 cc o n1 ho
        exact ⟨o, hk cc (List.mem_range.mpr (Heap.lt_size h3o)) (fun z => n2 (List.mem_singleton.mp z)) o (hhref cc o h3o), hd⟩
      have hraw : ∀ (s₂ : Shared), (∀ b ∈ List.range h3.objs.size, b ∉ [it] → ∀ o, href.get? b = some o → s₂.heap.get? b = some o) → FolkRaw s₂.heap ah ps := by
        intro s₂ hk
        have tupUp : ∀ (b : Addr) (items : Array Value), IsTup t2.heap b items → IsTup s₂.heap b items := by
          rintro b items ⟨o, ho, hc, nn, hd⟩
          have n1 : b ≠ P := fun z => by rw [z, hPs] at ho; cases ho; cases hc
          have n2 : b ≠ it := fun z => by
            have e0 : t2.heap.get? it = some _ := itIs
            rw [z, e0] at ho; cases ho; cases hd
          have h3o := keep3 b o n1 ho
          exact ⟨o, hk b (List.mem_range.mpr (Heap.lt_size h3o)) (fun z => n2 (List.mem_singleton.mp z)) o (hhref b o h3o), hc, nn, hd⟩
        obtain ⟨its, a1, a2, a3⟩ := fr2
        refine ⟨its, tupUp _ _ a1, a2, fun i p hp => ?_⟩
        obtain ⟨ai, itsi, t, u, b1, b2, b3⟩ := a3 i p hp
        exact ⟨ai, itsi, t, u, b1, tupUp _ _ b2, b3⟩
      refine ⟨fun A' E' i v s₂ m₂ hA hPv hn hm hk => ?_, fun A' E' i v s₂ m₂ hA hPv hp hn hm hk => ?_⟩
      · obtain ⟨hin, t, rfl⟩ := hPv
        refine wpAny_tests_one ?_
        cases hpi : ps[i]? with
        | none => exact absurd hin (Nat.not_lt.mpr (List.getElem?_eq_none_iff.mp hpi))
        | some p =>
          have hm' : m₂ "child" = some (.int ((i : Nat) : Int) t) := by
            have z1 : (0 : Int) + (i : Int) * 1 = (i : Int) := by omega
            rw [z1] at hm; exact hm
          have hik : isKid ps wh i = (p.1 == wh || p.2 == wh) := by unfold isKid; rw [hpi]
          rw [hik]
          have hil : i < ps.length := (List.getElem?_eq_some_iff.mp hpi).1
          exact kid_test S.kind S.loc hfh hfw (clh.trans eh1) (clw.trans ew1) hn hm' (hcell ch _ eh2 s₂ hk) (hcell cw _ ew2 s₂ hk) (hraw s₂ hk) hpi (by omega)
      · obtain ⟨_, t, rfl⟩ := hPv
        refine wpAny_Name (wpAny_loadName_local S.kind S.loc hn hm ?_)
        exact ⟨⟨t, by rw [show (0 : Int) + (i : Int) * 1 = (i : Int) by omega]⟩, GxR.keeps_refl _⟩
    · intro g h5 tk5 gs hgb hag hsz5 hk5 W5 hat
      refine Calls.spliced_nil ?_
      rw [filt_range] at W5
      refine call_tuple_gen W5.in4_3 (fun i s' st => st.1.typeIs) hat (fun b hb => ?_) (by simp) (fun s' acc hm hacc => ?_) (Nat.le_trans (List.length_filter_le _ _) (by rw [List.length_range]; exact small (by omega)))
      · show b < h5.objs.size
        have hag' : h3.objs.size < g := hag
        have g5 : g < h5.objs.size := by rw [hsz5]; exact Nat.lt_succ_self _
        rcases List.mem_cons.mp hb with z | z
        · rw [z]; exact g5
        · rcases List.mem_cons.mp z with z | z
          · have z' : b = h3.objs.size := z
            rw [z']; exact Nat.lt_trans hag' g5
          · have z' : b < h3.objs.size := List.mem_range.mp z
            exact Nat.lt_trans z' (Nat.lt_trans hag' g5)
      · obtain ⟨more, em⟩ := hmore
        have nwr : ∀ b u, t2.heap.get? b = some u → b ≠ it → b ∉ h3.objs.size :: [it] := fun b u e hb hm2 => by
          have hl := Heap.lt_size e
          rcases List.mem_cons.mp hm2 with z | z
          · rw [z] at hl
            exact absurd (Nat.lt_of_lt_of_le hl hsz) (Nat.lt_irrefl _)
          · exact hb (List.mem_singleton.mp z)
        have itFree : FpOk X pins H1 it := (I1.kept (t' := s1.toks + 1 + 1) (h' := t1.heap) (fun b o e => Heap.get?_push_of_some _ e)).fpOk (Nat.le_refl _) (by
          exact (I1.kept (t' := s1.toks + 1 + 1) (h' := t1.heap) (fun b o e => Heap.get?_push_of_some _ e)).hok.fresh (Nat.le_refl _))
        -- over the state ahead of the iterator
        have I1' : Inv X pins σ H1 t1 := I1.kept (t' := s1.toks + 1 + 1) (h' := t1.heap) (fun b o e => Heap.get?_push_of_some _ e)
        have up2 : ∀ b o, b ≠ P → t1.heap.get? b = some o → s'.heap.get? b = some o := fun b o hb e => by
          have hbi : b ≠ it := Nat.ne_of_lt (Heap.lt_size e)
          have e2 : t2.heap.get? b = some o := Heap.get?_push_of_some _ e
          exact hm.heap b o (nwr b o e2 hbi) (hk5 b o (keep3 b o hb e2))
        have J := GxR.inv_tab (more := more) (h' := s'.heap) (g' := s'.gens) (d' := s'.drawn) (t' := s'.toks) I1' hP0 up2
          (by rw [← em]; exact hm.heap P _ (nwr P _ hPs hPit) (hk5 P _ hP3)) (AllBare.movedS (I2.bare.push hgb) hm)
        have eta := GxR.sh_eta t1 s' hm.os
        rw [eta] at J
        have vals := kids_acc hacc
        have sizeA : ((kidsN ps wh).map fun i : Nat => V.int i).length ≤ sizeLine := by
          rw [List.length_map]
          unfold kidsN
          exact Nat.le_trans (List.length_filter_le _ _) (by rw [List.length_range]; exact small (by omega))
        have JL := J.laid (a := s'.heap.objs.size) (o := .tup ((kidsN ps wh).map fun i : Nat => V.int i)) (t' := s'.toks) (h' := s'.heap.push { cls := .type "tuple", data := .seq acc }) (fun b u q => Heap.get?_push_of_some _ q) (Nat.le_refl _)
          ⟨sizeA, acc.toList, vals, ⟨_, Heap.get?_push_size _ rfl, rfl, 0, by simp⟩⟩
        have newT : upd H1 P (.tbl (ps0 ++ more)) s'.heap.objs.size = none := J.hok.fresh (Nat.le_refl _)
        have tripl : TriplesOk (ps0 ++ more).toList := by rw [← em]; exact ht3
        have R2 := R.tbl (ps' := ps0 ++ more) hP0 tripl
        refine ⟨.ref s'.heap.objs.size, _, JL, rfl, go φ ψ _ _ ((Post.tbl hP0).trans (Post.lay newT)) (R2.lay newT) ⟨rfl, .tup (SqT.of upd_same) ?_⟩⟩
        unfold kidsD
        have all : ∀ l : List Nat, Reps X.K φ ψ (upd (upd H1 P (.tbl (ps0 ++ more))) s'.heap.objs.size (.tup ((kidsN ps wh).map fun i : Nat => V.int i))) (l.map fun i : Nat => D.int i) (l.map fun i : Nat => V.int i) := fun l => by
          induction l with
          | nil => exact .nil
          | cons i l ih => exact .cons (.int _) ih
        exact all _
  refine ⟨I2.nolimit, ?_⟩
  cases hf : codeAmong gpos ps0.toList with
  | none =>
    refine wpAny_genexprCodeX hcode (cd.code hPs htr0) (cd.tab hPs) hf fun c' h' tk hx hge hlt hco' _ htab' _ => ?_
    obtain ⟨o1, vs1, f1, tf, fl, tg, inF, tx, tt, op, _, _, _, _, _, _, _, _, _, htr, _⟩ := hco'
    exact cont _ h' tk _ hx (Nat.le_trans hge (Nat.le_of_lt hlt)) htab'.2 ⟨_, rfl⟩ htr
  | some cv =>
    refine wpAny_genexprCode_hit hcode (cd.code hPs htr0) hf ?_
    exact cont cv t2.heap t2.toks ps0 (Heap.ExtBut.refl _ _) (Nat.le_refl _) hPs ⟨#[], by simp⟩ htr0
end
end Pw
end
section
set_option Elab.async false
set_option linter.all false
set_option maxRecDepth 100000
set_option maxHeartbeats 2000000
/-! model level: sorted of a dict whose keys are tuples -/
namespace Pv
open PySem PySem.Spec PyProof.Rows L2
section
variable {X : Cx}
def rSortDT : List V → Hp → VK → Prop := fun vs H Q => ∃ (a : Addr) (kvs : List (List Key × V)) (sh : List Bool), vs = [V.ref a] ∧ Rd H a (.dT kvs) ∧ sh ≠ [] ∧ (∀ p ∈ kvs, p.1.map Sum.isRight = sh) ∧
  ∀ (L' : List Ent) (p : Addr), (L'.map (·.2)).Perm (kvs.map (·.1)) → L'.Pairwise (fun e f => kLt f.2 e.2 = false) → (∀ e ∈ L', H e.1 = some (.tup (e.2.map kV))) → H p = none → Q (.ref p) (upd H p (.lst (L'.map fun e => V.ref e.1)))
theorem kt_all {H : Hp} : ∀ {kvs : List (List Key × V)} {xs : List (List Key × Addr × Value)}, KT H kvs xs → kvs.map (·.1) = xs.map (·.1) ∧ ∀ x ∈ xs, H x.2.1 = some (.tup (x.1.map kV)) := by
  intro kvs xs r
  induction r with
  | nil => exact ⟨rfl, fun x hx => nomatch hx⟩
  | @cons p q ps qs h t ih =>
    refine ⟨by rw [List.map_cons, List.map_cons, ih.1, h.1], fun x hx => ?_⟩
    rcases List.mem_cons.mp hx with z | z
    · rw [z, ← h.1]; exact h.2.1
    · exact ih.2 x z
theorem cr_sortDT (hc : X.calm = true) : CallR X (.builtin "sorted") rSortDT := by
  intro pins s σ H vs us Q I r h
  obtain ⟨a, kvs, sh, rfl, hd, hne, hs, q⟩ := h
  rw [Vals.ref1 r]
  obtain ⟨z, lo, ks, pr, o, es, ep, ho, hx, hdt, he, hn⟩ := (show ObjOk X.prog X.w H s.heap a (.dT kvs) from hd.ok I.hok)
  have l1 : es.size = ks.length := size_of_entries he
  have l2 : kvs.length = ks.length := Paired.length pr
  obtain ⟨ek, hk1⟩ := kt_all pr
  refine Calls.call_function_entry kind_sorted plain_sorted entry_sorted (args_sorted1 _) ?_
  unfold Builtin.«sorted»
  refine wpAny_bind (m := checkCount "sorted" 1 1 _) (wpAny_pure ?_)
  refine wpAny_bind (PySem.W.kdu_collect (A := X.A.in1) (kdl_raw lo hx hdt) (I.ok.hd hc) ho (by omega) fun h' tk acc hk hacc => ?_)
  let L : List Ent := ks.map fun x => (x.2.1, x.1)
  have ea : acc.toList = L.map refE := by
    have hl : acc.toList.length = ks.length := by rw [Array.length_toList, hacc.1]; exact l1
    apply List.ext_getElem?
    intro j
    show acc.toList[j]? = ((ks.map fun x => (x.2.1, x.1)).map refE)[j]?
    rw [List.map_map, List.getElem?_map]
    cases hj : acc.toList[j]? with
    | none =>
      have := List.getElem?_eq_none_iff.mp hj
      rw [List.getElem?_eq_none (by omega)]; rfl
    | some v =>
      obtain ⟨en, hen, hv⟩ := hacc.2 j v (by rw [← Array.getElem?_toList]; exact hj)
      have qe := entry_at he j
      rw [hen] at qe
      cases hb : ks[j]? with
      | none => rw [hb] at qe; exact nomatch (show some en = none from qe)
      | some b =>
        rw [hb] at qe
        have e2 : en = entryOfKey (tupleKind (mixKind X.prog X.w)) b := Option.some.inj qe
        rw [hv, e2]; rfl
  have lenL : L.length ≤ sizeLine := by show (ks.map _).length ≤ _; rw [List.length_map]; omega
  have I1 : Inv X pins σ H { s with heap := h', toks := tk } := I.kept hk
  rw [ea]
  refine wpAny_bind (wpAny_newList ?_ (by rw [List.length_map]; exact lenL))
  have at1 : (h'.push (seqObj "list" (L.map refE).toArray 0)).get? h'.objs.size = some (seqObj "list" (L.map refE).toArray 0) := Heap.get?_push_size _ rfl
  have kp0 : Kps h' (h'.push (seqObj "list" (L.map refE).toArray 0)) := fun b u e => Heap.get?_push_of_some _ e
  have mixL : ∀ e ∈ L, H e.1 = some (.tup (e.2.map kV)) := fun e hme => by
    obtain ⟨x, hxm, rfl⟩ := List.mem_map.mp hme
    exact hk1 x hxm
  have shL : ∀ e ∈ L, e.2.map Sum.isRight = sh := fun e hme => by
    obtain ⟨x, hxm, rfl⟩ := List.mem_map.mp hme
    have : x.1 ∈ kvs.map (·.1) := by rw [ek]; exact List.mem_map.mpr ⟨x, hxm, rfl⟩
    obtain ⟨p, hp, e1⟩ := List.mem_map.mp this
    show x.1.map Sum.isRight = sh
    rw [← e1]; exact hs p hp
  show wpAny _ _ _ _ _ { s with heap := h'.push (seqObj "list" (L.map refE).toArray 0), toks := tk }
  refine wpAny_bind (wpAny_holding (wpAny_call_entry slot_list_sort ⟨_, at1, rfl⟩ entry_list_sort
    (sort_mix (P := X.prog) (w := X.w) (s := { s with heap := h'.push (seqObj "list" (L.map refE).toArray 0), toks := tk }) at1 (fun e hme => mix_keep (inv_mix I1 (SqT.of (mixL e hme))) kp0) shL hne lenL fun L' p2 pw => ⟨.none, rfl, ?_⟩) (args_list_sort _)))
  obtain ⟨c, hc'⟩ := sortedHeap_at (vs := L.map refE) (out := (L'.map refE).toArray) at1
  have kp : Kps h' (sortedHeap (h'.push (seqObj "list" (L.map refE).toArray 0)) h'.objs.size (L.map refE) (L'.map refE).toArray) := fun b u e => by
    have lt : b < h'.objs.size := Heap.lt_size e
    rw [sortedHeap_old (Nat.ne_of_lt lt) (by rw [size_push']; exact Nat.lt_succ_of_lt lt)]
    exact kp0 b u e
  have pk : (L'.map (·.2)).Perm (kvs.map (·.1)) := by
    have := p2.map (·.2)
    rw [ek]
    refine this.trans (.of_eq ?_)
    show (ks.map fun x => (x.2.1, x.1)).map (·.2) = _
    rw [List.map_map]; rfl
  exact wpAny_pure ⟨_, rfl, .ref _, upd H h'.objs.size (.lst (L'.map fun e => V.ref e.1)), I1.laid (t' := tk) kp (Nat.le_refl _) ⟨by rw [List.length_map, p2.length_eq]; exact lenL, L'.map refE, c, vals_mix L', hc'⟩, rfl, q L' _ pk pw (fun e hme => mixL e (p2.mem_iff.mp hme)) (I1.hok.fresh (Nat.le_refl _))⟩
end
end Pv
end
section
set_option Elab.async false
set_option linter.all false
set_option maxRecDepth 100000
set_option maxHeartbeats 2000000
/-! Dicts. -/
namespace Pw
open PySem PySem.Spec PyProof.Rows L2 Pv
section
variable {κ : Type} [DecidableEq κ]
def valX (kvs : List (κ × D)) (k : κ) : Option D := (kvs.find? fun kv => decide (kv.1 = k)).map (·.2)
def putX (kvs : List (κ × D)) (k : κ) (d : D) : List (κ × D) :=
  if (kvs.any fun kv => decide (kv.1 = k)) = true then kvs.map (fun kv => if kv.1 = k then (kv.1, d) else kv) else kvs ++ [(k, d)]
/-- the pairs of a dict and what they stand for -/
def PR (K : FRG) (φ ψ : List Addr) (H : Hp) (kvs : List (κ × D)) (vs : List (κ × V)) : Prop := kvs.map (·.1) = vs.map (·.1) ∧ Reps K φ ψ H (kvs.map (·.2)) (vs.map (·.2))
variable {K : FRG} {φ ψ : List Addr} {H : Hp}
theorem PR.len {kvs : List (κ × D)} {vs : List (κ × V)} (h : PR K φ ψ H kvs vs) : kvs.length = vs.length := by
  have := congrArg List.length h.1
  simpa using this
theorem PR.uncons {p : κ × D} {q : κ × V} {kvs : List (κ × D)} {vs : List (κ × V)} (h : PR K φ ψ H (p :: kvs) (q :: vs)) : p.1 = q.1 ∧ Rep K φ ψ H p.2 q.2 ∧ PR K φ ψ H kvs vs := by
  obtain ⟨h1, h2⟩ := h
  rw [List.map_cons, List.map_cons] at h1 h2
  cases h2 with
  | cons a b => exact ⟨(List.cons.inj h1).1, a, (List.cons.inj h1).2, b⟩
theorem PR.cons {p : κ × D} {q : κ × V} {kvs : List (κ × D)} {vs : List (κ × V)} (h1 : p.1 = q.1) (h2 : Rep K φ ψ H p.2 q.2) (h : PR K φ ψ H kvs vs) : PR K φ ψ H (p :: kvs) (q :: vs) :=
  ⟨by rw [List.map_cons, List.map_cons, h1, h.1], .cons h2 h.2⟩
theorem PR.val {k : κ} : ∀ {kvs : List (κ × D)} {vs : List (κ × V)}, PR K φ ψ H kvs vs → (∀ d, valX kvs k = some d → ∃ v, valV vs k = some v ∧ Rep K φ ψ H d v) ∧ (valX kvs k = none → valV vs k = none)
  | [], [], _ => ⟨(fun d e => by cases e), fun _ => rfl⟩
  | [], _ :: _, h => by have := h.len; simp at this
  | _ :: _, [], h => by have := h.len; simp at this
  | p :: kvs, q :: vs, h => by
    obtain ⟨e1, e2, e3⟩ := h.uncons
    obtain ⟨i1, i2⟩ := PR.val (k := k) e3
    by_cases hk : p.1 = k
    · refine ⟨fun d e => ⟨q.2, valV_pos (e1 ▸ hk), ?_⟩, fun e => ?_⟩
      · simp [valX, List.find?_cons, hk] at e
        rw [← e]; exact e2
      · simp [valX, List.find?_cons, hk] at e
    · have hq : ¬ q.1 = k := fun z => hk (e1.trans z)
      have ev : valX (p :: kvs) k = valX kvs k := by simp [valX, List.find?_cons, hk]
      rw [ev, valV_neg hq]
      exact ⟨i1, i2⟩
theorem PR.any {k : κ} {kvs : List (κ × D)} {vs : List (κ × V)} (h : PR K φ ψ H kvs vs) : (kvs.any fun kv => decide (kv.1 = k)) = vs.any fun kv => decide (kv.1 = k) := by
  have a : ∀ (l : List (κ × D)), (l.any fun kv => decide (kv.1 = k)) = (l.map (·.1)).any fun x => decide (x = k) := fun l => by rw [List.any_map]; rfl
  have b : ∀ (l : List (κ × V)), (l.any fun kv => decide (kv.1 = k)) = (l.map (·.1)).any fun x => decide (x = k) := fun l => by rw [List.any_map]; rfl
  rw [a, b, h.1]
theorem PR.repl {k : κ} {d : D} {v : V} (r : Rep K φ ψ H d v) : ∀ {kvs : List (κ × D)} {vs : List (κ × V)}, PR K φ ψ H kvs vs → PR K φ ψ H (kvs.map (fun kv => if kv.1 = k then (kv.1, d) else kv)) (vs.map (fun kv => if kv.1 = k then (kv.1, v) else kv))
  | [], [], h => h
  | [], _ :: _, h => by have := h.len; simp at this
  | _ :: _, [], h => by have := h.len; simp at this
  | p :: kvs, q :: vs, h => by
    obtain ⟨e1, e2, e3⟩ := h.uncons
    rw [List.map_cons, List.map_cons]
    by_cases hk : p.1 = k
    · rw [if_pos hk, if_pos (e1 ▸ hk)]
      exact .cons e1 r (PR.repl r e3)
    · rw [if_neg hk, if_neg (fun z => hk (e1.trans z))]
      exact .cons e1 e2 (PR.repl r e3)
theorem PR.put {k : κ} {d : D} {v : V} {kvs : List (κ × D)} {vs : List (κ × V)} (h : PR K φ ψ H kvs vs) (r : Rep K φ ψ H d v) : PR K φ ψ H (putX kvs k d) (putK vs k v) := by
  unfold putX putK
  rw [h.any]
  split
  · exact h.repl r
  · exact ⟨by rw [List.map_append, List.map_append, h.1]; rfl, by rw [List.map_append, List.map_append]; exact h.2.app (.cons r .nil)⟩
end
/-! ### {} -/
def eNewK : Ex := fun _ m => some (.f (.dk []), m)
def eNewT : Ex := fun _ m => some (.f (.dt []), m)
section
variable {X : Cx} {tb : List Addr} {pos : Pos}
theorem ex_newK : PE X (.Dict [] [] pos) (T X.K tb eNewK) := pe_mono pe_dnewK fun σ H Q ⟨φ, ψ, ρ, m, w, m', R, E, e, k⟩ p hp => by
  cases e; exact Go.dk (vs := []) k R rfl .nil hp
theorem ex_newT : PE X (.Dict [] [] pos) (T X.K tb eNewT) := pe_mono pe_dnewT fun σ H Q ⟨φ, ψ, ρ, m, w, m', R, E, e, k⟩ p hp => by
  cases e; exact Go.dt (vs := []) k R rfl .nil hp
/-! ### d[a, b, ..] = e -/
def sPutT (o : Ex) (i : Ax) (a : Ex) : Sx := fun ρ m => (a ρ m).bind fun p => (o ρ p.2).bind fun q => (i ρ q.2).bind fun r => (vl p.1).bind fun d => (vls r.1).bind fun ds => (allK ds).bind fun k => match q.1 with
  | .r n => match r.2[n]? with
    | some (.dt kvs) => if kvs.length < 1000000 ∧ ds.length ≤ 1000000 then some (.nx, ρ, r.2.set n (.dt (putX kvs k d))) else none
    | _ => none
  | _ => none
theorem bs_putT {o a : Expr} {es : List Expr} {x1} {fo fa : Ex} {fi : Ax} {ipos pos' : Pos} (hu : X.A.units + 1 < cLine) (ho : PE X o (T X.K tb fo)) (hi : PA X es (Ta X.K tb fi)) (ha : PE X a (T X.K tb fa))
    (hs : swapsWith a (some (.Subscript o (.Tuple es x1 ipos) pos')) pos.line X.env = pure false := by rfl) : PS X (.Assign [.Subscript o (.Tuple es x1 ipos) pos'] a pos) (Ts X.K tb (sPutT fo fi fa)) := by
  refine ps_mono (ps_dput hu ho (pe_tup hi) ha hs) fun D σ H ⟨φ, ψ, ρ, m, o', ρ', m', R, E, e, k⟩ => ?_
  obtain ⟨⟨w1, m1⟩, e1, e⟩ := bnd e
  obtain ⟨⟨w2, m2⟩, e2, e⟩ := bnd e
  obtain ⟨⟨ws, m3⟩, e3, e⟩ := bnd e
  obtain ⟨d, ev, e⟩ := bnd e
  obtain ⟨ds, es', e⟩ := bnd e
  obtain ⟨ky, ek, e⟩ := bnd e
  refine ⟨φ, ψ, ρ, m, w1, m1, R, E, e1, fun φ1 ψ1 H1 v P1 R1 V1 => ⟨φ1, ψ, ρ, m1, w2, m2, V1.rel R1, E.mono (V1.post P1) R, e2, fun φ2 ψ2 H2 x P2 R2 V2 => ⟨φ2, ψ, ρ, m2, ws, m3, V2.rel R2, E.mono ((V1.post P1).trans (V2.post P2)) R, e3, fun φ3 H3 vs P3 R3 V3 => ?_⟩⟩⟩
  split at e
  · rename_i n hq
    split at e
    · rename_i kvs hm
      split at e
      · rename_i hl
        cases e
        have rs := vls_c V3 es'
        have kk := allK_rep rs ek
        have S2 := (V2.s R2).mono P3 (V2.rel R2)
        have hq' : w2 = .r n := hq
        subst hq'
        obtain ⟨b, hb, rfl⟩ := S2
        obtain ⟨us, hus, u1, u2⟩ := R3.obj n _ b hm hb
        refine ⟨small (by rw [← rs.length]; exact hl.2), fun p hp => ⟨b, _, rfl, .inr ⟨us, ky, p, ?_, rfl, ?_, ?_, rfl⟩, ?_⟩⟩
        · rw [upd_ne (ne_of_none hus hp)]; exact hus
        · rw [upd_same, kk]
        · exact smallT (by rw [← (show PR X.K φ3 ψ H3 kvs us from ⟨u1, u2⟩).len]; exact hl.1)
        · have Pl : Post φ3 ψ H3 φ3 ψ _ := Post.lay (o := .tup vs) hp
          have Rl := R3.lay (o := .tup vs) hp
          have mem := List.mem_of_getElem? hb
          have Pw' : Post φ3 ψ _ φ3 ψ _ := Post.wr (o := .dT (putK us ky v)) mem (Rl.trk mem)
          have V1' := (vl_rep (V1.s R1) ev).mono (((V2.post P2).trans P3).trans (Pl.trans Pw')) (V1.rel R1)
          have P := ((V1.post P1).trans ((V2.post P2).trans P3)).trans (Pl.trans Pw')
          have pr : PR X.K φ3 ψ (upd (upd H3 p (.tup vs)) b (.dT (putK us ky v))) kvs us := ⟨u1, u2.mono (Pl.trans Pw') R3⟩
          have pp := pr.put (k := ky) V1'
          exact k φ3 ψ _ P (Rl.wr hb ⟨putK us ky v, upd_same, pp.1, pp.2⟩) rfl σ (E.mono P R)
      · cases e
    · cases e
  · cases e
/-! ### sorted(d) -/
def sortDD : List D → Option W
  | [.dt kvs] => if kvs.length ≤ 1000000 ∧ oneSh (kvs.map (·.1)) = true then some (.f (.lst ((sortM kLt (kvs.map (·.1))).map tD))) else none
  | _ => none
theorem sortD_s : CallS X.K tb rSortDT sortDD := fun φ ψ H m vs ds w Q R r e k => by
  unfold sortDD at e
  split at e
  · rename_i kvs
    split at e
    · rename_i hl
      cases e
      cases r with
      | cons h r =>
        cases r
        obtain ⟨a, us, rfl, hq, u1, u2⟩ := h.dt
        have shp : ∃ sh : List Bool, sh ≠ [] ∧ ∀ p ∈ us, p.1.map Sum.isRight = sh := by
          obtain ⟨sh, h1, h2⟩ := shape (es := us.map fun p => ((0 : Addr), p.1)) (L := us.map fun p => ((0 : Addr), p.1)) (by rw [List.map_map]; rw [u1] at hl; exact hl.2) (fun e he => he)
          exact ⟨sh, h1, fun p hp => h2 ((0 : Addr), p.1) (List.mem_map.mpr ⟨p, hp, rfl⟩)⟩
        obtain ⟨sh, h1, h2⟩ := shp
        refine ⟨a, us, sh, rfl, .inl hq, h1, h2, fun L' p p1 pw hL hp => ?_⟩
        rw [← u1] at p1
        have en : L'.map (·.2) = sortM kLt (kvs.map (·.1)) := sortedM_uniq lin_k (List.pairwise_map.mpr pw) (sortM_sorted lin_k _) (p1.trans (sortM_perm _).symm)
        have ed : (sortM kLt (kvs.map (·.1))).map tD = L'.map fun e => tD e.2 := by rw [← en, List.map_map]; rfl
        rw [ed] at k
        exact Go.lst k R (reps_ents L' fun e he => SqT.of (hL e he)) hp
    · cases e
  · cases e
end
theorem lt1 {n : Nat} (h : n + 100 < cLine) : n + 1 < cLine := by omega
end Pw
end
section
set_option Elab.async false
set_option linter.all false
set_option maxRecDepth 100000
set_option maxHeartbeats 2000000
/-! extend, pop, [::-1], list(range), o[i] += e. -/
namespace Pw
open PySem PySem.Spec PyProof.Rows L2 Pv
section
variable {X : Cx} {K : FRG} {tb : List Addr} {pos : Pos}
/-! ### methods of lists -/
def extD : W → List W → Mem → Option (W × Mem)
  | .r n, [w], m => match m[n]?, vl w with
    | some (.lst ds), some (.lst es) => if ds.length + es.length ≤ 1000000 then some (.v .non, m.set n (.lst (ds ++ es))) else none
    | _, _ => none
  | _, _, _ => none
theorem ext_s : MtS K tb rExtend extD := fun φ ψ H m x vs w ws w' m' Q R hx r e k => by
  unfold extD at e
  split at e
  · split at e
    · rename_i hm ev
      split at e
      · rename_i hl
        cases e
        cases r with
        | cons h r =>
          cases r
          obtain ⟨q, h1, rfl⟩ := hx
          obtain ⟨vs, hq, rl⟩ := R.obj _ _ q hm h1
          have hmem := List.mem_of_getElem? h1
          cases vl_rep h ev with
          | lst a1 a2 hb rz =>
            refine ⟨q, _, vs, _, rfl, rfl, hq, hb, small (by rw [← rl.length, ← rz.length]; exact hl), k φ ψ _ _ (Post.wr hmem (R.trk hmem)) (R.wrL h1 (rl.app rz)) ⟨rfl, .non⟩⟩
      · cases e
    · cases e
  · cases e
theorem ex_extend {o a : Expr} {fo : Ex} {f : Ax} {apos cpos : Pos} {es : List Expr} (ho : PE X o (T X.K tb fo)) (ha : PA X (a :: es) (Ta X.K tb f))
    (hbase : attributeBase o "extend" X.env (eval o X.env) = eval o X.env := by rfl)
    (hfew : ((backTo cpos (starEach (a :: es) X.env)).all (fun x => !x.1) && (backToKw cpos (keywordEach [] X.env)).all (fun x => x.1.isSome)
      && decide ((a :: es).length + ([] : List Keyword).length + (if ([] : List Keyword).isEmpty then 0 else 1) < 30)) = true := by rfl)
    (hline : (apos.endLine == cpos.line) = true := by rfl) (hst : starEach (a :: es) X.env = (false, eval a X.env) :: starEach es X.env := by rfl) (hplain : (backTo cpos (starEach es X.env)).any (·.1) = false := by rfl) :
    PE X (.Call (.Attribute o "extend" apos) (a :: es) [] cpos) (T X.K tb (eMt isLst extD fo f)) :=
  ex_mt (fun φ ψ H m d v R h e => isLst_ty R h e) ext_s PySem.F.plainAttrs_list PySem.F.slot_list_extend PySem.F.type_list_extend mt_extend ho ha hbase hfew hline hst hplain
/-- a method without arguments -/
def eMt0 (ck : W → Mem → Bool) (g : W → List W → Mem → Option (W × Mem)) (o : Ex) : Ex := fun ρ m => (o ρ m).bind fun p => if ck p.1 p.2 = true then g p.1 [] p.2 else none
theorem ex_mt0 {T' id : String} {name : Str} {apos cpos : Pos} {fo : Ex} {r : V → List V → Hp → VK → Prop} {g : W → List W → Mem → Option (W × Mem)} {ck : W → Mem → Bool} {o : Expr}
    (hck : ∀ φ ψ H m d v, Rel X.K tb φ ψ H m → RepS X.K φ ψ H d v → ck d m = true → tyV X.K T' v H) (hs : MtS X.K tb r g)
    (pa : PlainAttrs T') (slot : Slot T' name id) (hty : typeOf (.builtin id) = pure (.type "method_descriptor")) (hm : MtR X id r) (ho : PE X o (T X.K tb fo))
    (hbase : attributeBase o name X.env (eval o X.env) = eval o X.env := by rfl) (hline : (apos.endLine == cpos.line) = true := by rfl) :
    PE X (.Call (.Attribute o name apos) [] [] cpos) (T X.K tb (eMt0 ck g fo)) := by
  refine pe_mono (pe_bm0 pa slot hty hm ho hbase hline) fun σ H Q ⟨φ, ψ, ρ, m, w, m', R, E, e, k⟩ => ?_
  obtain ⟨⟨w1, m1⟩, e1, e⟩ := bnd e
  split at e
  · rename_i hc
    refine ⟨φ, ψ, ρ, m, w1, m1, R, E, e1, fun φ1 ψ1 H1 x P1 R1 V1 => ⟨hck φ1 ψ H1 m1 w1 x (V1.rel R1) (V1.s R1) hc, ?_⟩⟩
    exact hs φ1 ψ H1 m1 x [] w1 [] w m' Q (V1.rel R1) (V1.s R1) .nil e fun φ3 ψ3 H3 v P3 R3 V3 => k φ3 ψ3 H3 v ((V1.post P1).trans P3) R3 V3
  · cases e
def popD : W → List W → Mem → Option (W × Mem)
  | .r n, [], m => match m[n]? with
    | some (.lst ds) => (ds[ds.length - 1]?).bind fun d => some (.v d, m.set n (.lst ds.dropLast))
    | _ => none
  | _, _, _ => none
theorem Reps.dropLast {φ ψ : List Addr} {H : Hp} {ds : List D} {vs : List V} (r : Reps K φ ψ H ds vs) : Reps K φ ψ H ds.dropLast vs.dropLast := by
  rw [List.dropLast_eq_take, List.dropLast_eq_take, ← r.length]
  exact r.take _
theorem pop_s : MtS K tb rPop popD := fun φ ψ H m x vs w ws w' m' Q R hx r e k => by
  unfold popD at e
  split at e
  · split at e
    · rename_i hm
      obtain ⟨d, ed, e⟩ := bnd e
      cases e
      cases r
      obtain ⟨q, h1, rfl⟩ := hx
      obtain ⟨vs, hq, rl⟩ := R.obj _ _ q hm h1
      have hmem := List.mem_of_getElem? h1
      obtain ⟨v, ev, hv⟩ := rl.get ed
      have P := Post.wr (ψ := ψ) (o := .lst vs.dropLast) hmem (R.trk hmem)
      exact ⟨q, vs, v, rfl, rfl, hq, by rw [← rl.length]; exact ev, k φ ψ _ _ P (R.wrL h1 rl.dropLast) ⟨rfl, hv.mono P R⟩⟩
    · cases e
  · cases e
theorem ex_pop {o : Expr} {fo : Ex} {apos cpos : Pos} (ho : PE X o (T X.K tb fo))
    (hbase : attributeBase o "pop" X.env (eval o X.env) = eval o X.env := by rfl) (hline : (apos.endLine == cpos.line) = true := by rfl) :
    PE X (.Call (.Attribute o "pop" apos) [] [] cpos) (T X.K tb (eMt0 isLst popD fo)) :=
  ex_mt0 (fun φ ψ H m d v R h e => isLst_ty R h e) pop_s PySem.F.plainAttrs_list PySem.F.slot_list_pop PySem.F.type_list_pop mt_pop ho hbase hline
/-! ### [::-1] of a list -/
def revD : D → Option W
  | .lst ds => some (.f (.lst ds.reverse))
  | .fl ds => some (.f (.lst ds.reverse))
  | _ => none
theorem ex_rev {e : Expr} {fa : Ex} {k0 : Nat} {p1 p2 p3 : Pos} (he : PE X e (T X.K tb fa)) : PE X (.Subscript e (.Slice none none (some (.UnaryOp .USub (.Constant (.int 1) k0 p1) p2)) p3) pos) (T X.K tb (eUn revD fa)) := by
  refine pe_mono (pe_revL he) fun σ H Q ⟨φ, ψ, ρ, m, w, m', R, E, e, k⟩ => ?_
  obtain ⟨⟨w1, m1⟩, e1, e⟩ := bnd e
  obtain ⟨d, ed, e⟩ := bnd e
  obtain ⟨w2, e2, e⟩ := bnd e
  cases e
  refine ⟨φ, ψ, ρ, m, w1, m1, R, E, e1, fun φ1 ψ1 H1 x P1 R1 V1 => ?_⟩
  have C := gt_c (V1.rel R1) (V1.s R1) ed
  have kk : Go X.K tb φ1 ψ H1 m1 w Q := fun φ3 ψ3 H3 v P3 R3 V3 => k φ3 ψ3 H3 v ((V1.post P1).trans P3) R3 V3
  have e2 : revD d = some w := e2
  unfold revD at e2
  split at e2
  · cases e2
    obtain ⟨a, vs, rfl, hq, q⟩ := C.lst
    exact ⟨a, vs, rfl, SqL.of hq, fun p hp => Go.lst kk (V1.rel R1) q.rev hp⟩
  · cases e2
    obtain ⟨a, vs, rfl, hq, q⟩ := C.fl
    exact ⟨a, vs, rfl, hq, fun p hp => Go.lst kk (V1.rel R1) q.rev hp⟩
  · cases e2
/-! ### list(range(n)) -/
def lrgD : D → Option W
  | .int n => if 0 ≤ n ∧ n ≤ 1000000 then some (.f (.lst ((List.range n.toNat).map fun i => .int (i : Nat)))) else none
  | _ => none
theorem ex_lrg {a : Expr} {fa : Ex} {p p2 q : Pos} (hc : X.calm = true) (hg : Gl X "list") (hm : X.mg "list" = none) (hg2 : Gl X "range") (hm2 : X.mg "range" = none) (ha : PE X a (T X.K tb fa))
    (h1 : starEach [a] X.env = (false, eval a X.env) :: starEach [] X.env := by rfl) (h2 : starEach [.Call (.Name "range" p2) [a] [] q] X.env = (false, eval (.Call (.Name "range" p2) [a] [] q) X.env) :: starEach [] X.env := by rfl) :
    PE X (.Call (.Name "list" p) [.Call (.Name "range" p2) [a] [] q] [] pos) (T X.K tb (eUn lrgD fa)) := by
  refine pe_mono (pe_listRg hc hg hm (prg_1 hg2 hm2 ha h1) h2) fun σ H Q ⟨φ, ψ, ρ, m, w, m', R, E, e, k⟩ => ?_
  obtain ⟨⟨w1, m1⟩, e1, e⟩ := bnd e
  obtain ⟨d, ed, e⟩ := bnd e
  obtain ⟨w2, e2, e⟩ := bnd e
  cases e
  refine ⟨φ, ψ, ρ, m, w1, m1, R, E, e1, fun φ1 ψ1 H1 x P1 R1 V1 => ?_⟩
  have C := gt_c (V1.rel R1) (V1.s R1) ed
  have kk : Go X.K tb φ1 ψ H1 m1 w Q := fun φ3 ψ3 H3 v P3 R3 V3 => k φ3 ψ3 H3 v ((V1.post P1).trans P3) R3 V3
  have e2 : lrgD d = some w := e2
  unfold lrgD at e2
  split at e2
  · split at e2
    · rename_i n _ hn
      cases e2
      refine ⟨n, C.int, RgOk.of_le (by omega) (by omega) (by omega) hn.1, fun p hp => ?_⟩
      refine Go.lst kk (V1.rel R1) ?_ hp
      have : rgV 0 n = ((List.range n.toNat).map fun i : Nat => (i : Int)).map V.int := by
        unfold rgV
        rw [List.map_map]
        simp
      rw [this, show (List.range n.toNat).map (fun i : Nat => D.int (i : Nat)) = ((List.range n.toNat).map fun i : Nat => (i : Int)).map D.int by rw [List.map_map]; rfl]
      exact reps_ints _
    · cases e2
  · cases e2
/-! ### o[i] += e, lists of numbers -/
theorem get_list : PGet X (rIxL X.K) := by
  intro pins s σ H x y v u Q I rx ry h
  obtain ⟨p, xs, i, z, rfl, rfl, hq, he, q⟩ := h
  cases rx
  obtain ⟨t, rfl⟩ := ry
  obtain ⟨its, r, pl, hz⟩ := I.list hq
  obtain ⟨j, h1, h2, h3, h4, h5⟩ := atI_get he
  obtain ⟨w, ew, rw'⟩ := r.get h2
  have hl := r.length
  have hn := line63
  have fin : EP X pins σ Q w s := ⟨z, H, I, rw', q⟩
  by_cases h0 : 0 ≤ i
  · have hj : i.toNat = j := by
      rw [seqIndex_of h0 h5] at h1
      exact Option.some.inj h1
    exact wpAny_getItem_list pl.isList h0 (by omega) (by rw [hj]; simpa using ew) fin
  · have hj : (i + (its.toArray.size : Int)).toNat = j := by
      rw [seqIndex_neg (by omega) h4] at h1
      rw [List.size_toArray, ← hl]
      exact Option.some.inj h1
    exact wpAny_getItem_list_neg pl.isList (by omega) (by rw [List.size_toArray] <;> omega) (by omega) (by rw [hj]; simpa using ew) fin
def augD (g : Int → Int → Int) : W → D → D → Mem → Mem → Option Mem
  | .r n, .int i, .int y, m, m' => match m[n]?, m'[n]? with
    | some (.lst ds), some (.lst ds') => match atI ds i, ixN ds'.length i with
      | some (.int x), some j => some (m'.set n (.lst (ds'.set j (.int (g x y)))))
      | _, _ => none
    | _, _ => none
  | _, _, _, _, _ => none
/-- the old one first, then e -/
def sAug (g : Int → Int → Int) (o i a : Ex) : Sx := fun ρ m => (o ρ m).bind fun p => (i ρ p.2).bind fun q => (gt q.1 q.2).bind fun i => (a ρ q.2).bind fun r => (gt r.1 r.2).bind fun y => (augD g p.1 i y q.2 r.2).bind fun m' => some (.nx, ρ, m')
theorem bs_aug {g : Int → Int → Int} {op : Operator} {o i a : Expr} {fo fi fa : Ex} {tpos : Pos} (hp : PIp X op (ipI g)) (ho : PE X o (T X.K tb fo)) (hi : PE X i (T X.K tb fi)) (ha : PE X a (T X.K tb fa))
    (hs : ∀ ov iv new, augStore i ov iv new = (do holding [new, ov, iv] (setItem ov iv new); release [new, ov, iv] []; pure .next) := by intros; rfl) :
    PS X (.AugAssign (.Subscript o i tpos) op a pos) (Ts X.K tb (sAug g fo fi fa)) := by
  refine ps_mono (ps_augS ho hi get_list ha hp set_list hs) fun D σ H ⟨φ, ψ, ρ, m, o', ρ', m', R, E, e, k⟩ => ?_
  obtain ⟨⟨w1, m1⟩, e1, e⟩ := bnd e
  obtain ⟨⟨w2, m2⟩, e2, e⟩ := bnd e
  obtain ⟨d2, eg, e⟩ := bnd e
  obtain ⟨⟨w3, m3⟩, e3, e⟩ := bnd e
  obtain ⟨d3, ey, e⟩ := bnd e
  obtain ⟨m4, e4, e⟩ := bnd e
  cases e
  have e4 : augD g w1 d2 d3 m2 m3 = some m' := e4
  unfold augD at e4
  split at e4
  · rename_i n i y _ _ _ _ _
    split at e4
    · rename_i ds ds' hm hm'
      split at e4
      · rename_i x j hx hj
        cases e4
        refine ⟨φ, ψ, ρ, m, _, m1, R, E, e1, fun φ1 ψ1 H1 v1 P1 R1 V1 => ⟨φ1, ψ, ρ, m1, w2, m2, V1.rel R1, E.mono (V1.post P1) R, e2, fun φ2 ψ2 H2 v2 P2 R2 V2 => ?_⟩⟩
        have R2' := V2.rel R2
        have P2' := V2.post P2
        have P12 := (V1.post P1).trans P2'
        have h2 := (gt_c R2' (V2.s R2) eg).int
        subst h2
        have V1' := (V1.s R1).mono P2' (V1.rel R1)
        obtain ⟨q, h1, rfl⟩ := V1'
        obtain ⟨vs, hq, r⟩ := R2'.obj _ _ q hm h1
        obtain ⟨xv, hxv, hrep⟩ := r.at hx
        refine ⟨q, vs, i, xv, rfl, rfl, SqL.of hq, hxv, ?_⟩
        cases hrep
        refine ⟨φ2, ψ, ρ, m2, w3, m3, R2', E.mono P12 R, e3, fun φ3 ψ3 H3 v3 P3 R3 V3 => ?_⟩
        have R3' := V3.rel R3
        have P3' := V3.post P3
        have P := P12.trans P3'
        have h3 := (gt_c R3' (V3.s R3) ey).int
        subst h3
        refine ⟨x, y, rfl, rfl, ?_⟩
        have h1' : φ3[n]? = some q := pre_get P3'.pre h1
        obtain ⟨vs', hq', r'⟩ := R3'.obj _ _ q hm' h1'
        have hmem := List.mem_of_getElem? h1'
        have Pw : Post φ3 ψ H3 φ3 ψ _ := Post.wr (o := .lst (vs'.set j (.int (g x y)))) hmem (R3'.trk hmem)
        refine ⟨q, vs', i, j, rfl, rfl, hq', by rw [← r'.length]; exact hj, ?_⟩
        exact k φ3 ψ _ (P.trans Pw) (R3'.wrL h1' (r'.set (.int _) j)) rfl σ (E.mono (P.trans Pw) R)
      · cases e4
    · cases e4
  · cases e4
end
end Pw
end
section
set_option Elab.async false
set_option linter.all false
set_option maxRecDepth 100000
set_option maxHeartbeats 2000000
/-! max and min of a list of numbers, or of two. -/
namespace Pw
open PySem PySem.Spec PyProof.Rows L2 Pv
section
variable {X : Cx} {K : FRG} {tb : List Addr}
def rMaxL (K : FRG) : List V → Hp → VK → Prop := fun xs H Q => ∃ (a : Addr) (ns : List Int), xs = [.ref a] ∧ SqL K H a (ns.map V.int) ∧ 0 < ns.length ∧ ∀ M, M ∈ ns → (∀ z ∈ ns, z ≤ M) → Q (.int M) H
def rMinL (K : FRG) : List V → Hp → VK → Prop := fun xs H Q => ∃ (a : Addr) (ns : List Int), xs = [.ref a] ∧ SqL K H a (ns.map V.int) ∧ 0 < ns.length ∧ ∀ M, M ∈ ns → (∀ z ∈ ns, M ≤ z) → Q (.int M) H
theorem cr_maxL (hc : X.calm = true) : CallR X (.builtin "max") (rMaxL X.K) := by
  intro pins s σ H vs us Q I r h
  obtain ⟨a, ns, rfl, hs, hne, q⟩ := h
  obtain rfl := Vals.ref1 r
  obtain ⟨its, rv, hl, _⟩ := I.list hs
  have hi := rv.ints
  have hl' := hl.isList
  obtain ⟨xs, e⟩ := hi.allInts.items
  have hns : ns = xs.toList.map (·.1) := by
    rw [← hi.numsOf, ← nums_intItems, ← e]
  have hsz : 0 < xs.size := by
    have h3 := hne; rw [hns, List.length_map, Array.length_toList] at h3; exact h3
  rw [e] at hl'
  refine max_intList (I.ok.hd hc) hl' hsz fun v h' tk hv hk => ?_
  obtain ⟨t, rfl⟩ := intItems_at hv
  obtain ⟨h1, h2⟩ := argBest_gt (numAt xs) (xs.size - 1)
  refine ⟨.int _, H, I.kept hk, ⟨t, rfl⟩, q _ ?_ fun a ha => ?_⟩
  · rw [hns, numAt_eq]; exact getD_mem (by rw [List.length_map, Array.length_toList]; omega)
  · rw [hns] at ha
    obtain ⟨j, hj, rfl⟩ := mem_getD ha
    rw [List.length_map, Array.length_toList] at hj
    rw [← numAt_eq]; exact h2 j (by omega)
theorem cr_minL (hc : X.calm = true) : CallR X (.builtin "min") (rMinL X.K) := by
  intro pins s σ H vs us Q I r h
  obtain ⟨a, ns, rfl, hs, hne, q⟩ := h
  obtain rfl := Vals.ref1 r
  obtain ⟨its, rv, hl, _⟩ := I.list hs
  have hi := rv.ints
  have hl' := hl.isList
  obtain ⟨xs, e⟩ := hi.allInts.items
  have hns : ns = xs.toList.map (·.1) := by
    rw [← hi.numsOf, ← nums_intItems, ← e]
  have hsz : 0 < xs.size := by
    have h3 := hne; rw [hns, List.length_map, Array.length_toList] at h3; exact h3
  rw [e] at hl'
  refine min_intList (I.ok.hd hc) hl' hsz fun v h' tk hv hk => ?_
  obtain ⟨t, rfl⟩ := intItems_at hv
  obtain ⟨h1, h2⟩ := argBest_lt (numAt xs) (xs.size - 1)
  refine ⟨.int _, H, I.kept hk, ⟨t, rfl⟩, q _ ?_ fun a ha => ?_⟩
  · rw [hns, numAt_eq]; exact getD_mem (by rw [List.length_map, Array.length_toList]; omega)
  · rw [hns] at ha
    obtain ⟨j, hj, rfl⟩ := mem_getD ha
    rw [List.length_map, Array.length_toList] at hj
    rw [← numAt_eq]; exact h2 j (by omega)
/-- the greatest of a list that isn't empty -/
def topD (g : Int → Int → Int) : List D → Option W
  | [x] => (itmL x).bind fun ds => (allI ds).bind fun is => match is with
    | [] => none
    | i :: is => some (.v (.int (is.foldl g i)))
  | _ => none
theorem fold_maxI : ∀ (l : List Int) (i : Int), (l.foldl maxI i = i ∨ l.foldl maxI i ∈ l) ∧ i ≤ l.foldl maxI i ∧ ∀ z ∈ l, z ≤ l.foldl maxI i
  | [], i => ⟨.inl rfl, Int.le_refl _, fun z h => nomatch h⟩
  | a :: l, i => by
    obtain ⟨h1, h2, h3⟩ := fold_maxI l (maxI i a)
    have m1 : maxI i a = i ∨ maxI i a = a := by unfold maxI; split <;> simp
    have m2 : i ≤ maxI i a ∧ a ≤ maxI i a := by unfold maxI; split <;> omega
    rw [List.foldl_cons]
    refine ⟨?_, by omega, fun z hz => ?_⟩
    · rcases h1 with h1 | h1
      · rcases m1 with m1 | m1
        · exact .inl (h1.trans m1)
        · exact .inr (by rw [h1, m1]; exact List.mem_cons_self)
      · exact .inr (List.mem_cons_of_mem _ h1)
    · rcases List.mem_cons.mp hz with z | z
      · subst z; omega
      · exact h3 _ z
theorem fold_minI : ∀ (l : List Int) (i : Int), (l.foldl minI i = i ∨ l.foldl minI i ∈ l) ∧ l.foldl minI i ≤ i ∧ ∀ z ∈ l, l.foldl minI i ≤ z
  | [], i => ⟨.inl rfl, Int.le_refl _, fun z h => nomatch h⟩
  | a :: l, i => by
    obtain ⟨h1, h2, h3⟩ := fold_minI l (minI i a)
    have m1 : minI i a = i ∨ minI i a = a := by unfold minI; split <;> simp
    have m2 : minI i a ≤ i ∧ minI i a ≤ a := by unfold minI; split <;> omega
    rw [List.foldl_cons]
    refine ⟨?_, by omega, fun z hz => ?_⟩
    · rcases h1 with h1 | h1
      · rcases m1 with m1 | m1
        · exact .inl (h1.trans m1)
        · exact .inr (by rw [h1, m1]; exact List.mem_cons_self)
      · exact .inr (List.mem_cons_of_mem _ h1)
    · rcases List.mem_cons.mp hz with z | z
      · subst z; omega
      · exact h3 _ z
theorem topMax_s : CallS K tb (rMaxL K) (topD maxI) := fun φ ψ H m vs ds w Q R r e k => by
  unfold topD at e
  split at e
  · obtain ⟨xs, e1, e⟩ := bnd e
    obtain ⟨is, e2, e⟩ := bnd e
    split at e
    · cases e
    · rename_i i is
      cases e
      cases r with
      | cons h r =>
        cases r
        obtain ⟨l, vs, rfl, hq, q⟩ := itmL_sq h e1
        obtain rfl := allI_rep q e2
        refine ⟨_, _, rfl, hq, by simp, fun M hM hT => ?_⟩
        obtain ⟨a1, a2, a3⟩ := fold_maxI is i
        have : M = is.foldl maxI i := by
          have b1 : M ≤ is.foldl maxI i := by
            rcases List.mem_cons.mp hM with z | z
            · omega
            · exact a3 M z
          have b2 : is.foldl maxI i ≤ M := by
            rcases a1 with z | z
            · rw [z]; exact hT i List.mem_cons_self
            · exact hT _ (List.mem_cons_of_mem _ z)
          omega
        rw [this]
        exact Go.val k R (.int _)
  · cases e
theorem topMin_s : CallS K tb (rMinL K) (topD minI) := fun φ ψ H m vs ds w Q R r e k => by
  unfold topD at e
  split at e
  · obtain ⟨xs, e1, e⟩ := bnd e
    obtain ⟨is, e2, e⟩ := bnd e
    split at e
    · cases e
    · rename_i i is
      cases e
      cases r with
      | cons h r =>
        cases r
        obtain ⟨l, vs, rfl, hq, q⟩ := itmL_sq h e1
        obtain rfl := allI_rep q e2
        refine ⟨_, _, rfl, hq, by simp, fun M hM hT => ?_⟩
        obtain ⟨a1, a2, a3⟩ := fold_minI is i
        have : M = is.foldl minI i := by
          have b1 : is.foldl minI i ≤ M := by
            rcases List.mem_cons.mp hM with z | z
            · omega
            · exact a3 M z
          have b2 : M ≤ is.foldl minI i := by
            rcases a1 with z | z
            · rw [z]; exact hT i List.mem_cons_self
            · exact hT _ (List.mem_cons_of_mem _ z)
          omega
        rw [this]
        exact Go.val k R (.int _)
  · cases e
end
end Pw
end
section
set_option Elab.async false
set_option linter.all false
set_option maxRecDepth 100000
set_option maxHeartbeats 2000000
/-! Dicts with numbers or texts as keys; lists of lists. -/
namespace Pw
open PySem PySem.Spec PyProof.Rows L2 Pv
def keyOf : D → Option Key
  | .int i => some (.inl i)
  | .str x => some (.inr x)
  | _ => none
theorem keyOf_v {K : FRG} {φ ψ : List Addr} {H : Hp} {d : D} {v : V} {k : Key} (h : RepC K φ ψ H d v) (e : keyOf d = some k) : v = kV k := by
  unfold keyOf at e
  split at e
  · cases e; exact h.int
  · cases e; exact h.str
  · cases e
section
variable {X : Cx} {K : FRG} {tb : List Addr} {pos : Pos}
theorem pe_or {e : Expr} {t t' : TE} (h : PE X e t) (h' : PE X e t') : PE X e (fun σ H Q => t σ H Q ∨ t' σ H Q) := ⟨fun pins s σ H Q I q => q.elim (h.run pins s σ H Q I) (h'.run pins s σ H Q I)⟩
theorem ps_or {e : Stmt} {t t' : TS} (h : PS X e t) (h' : PS X e t') : PS X e (fun D σ H => t D σ H ∨ t' D σ H) := ⟨fun pins s σ H Q I q => q.elim (h.run pins s σ H Q I) (h'.run pins s σ H Q I)⟩
/-! ### in -/
def rInK (neg : Bool) : R2 := fun y x H Q => ∃ a o, x = .ref a ∧ DGet H a y o ∧ Q (.bl (o.isSome != neg)) H
theorem op_inK (hu : X.A.units + 1 < cLine) : OpR X (compareOp .In) (rInK false) := by
  intro pins s σ H x y v u Q I rx ry h
  obtain ⟨a, o, rfl, g, q⟩ := h
  cases ry
  exact d_in hu I g rx fun s' I' => ⟨.bl o.isSome, H, I', rfl, by simpa using q⟩
theorem op_notInK (hu : X.A.units + 1 < cLine) : OpR X (compareOp .NotIn) (rInK true) := by
  intro pins s σ H x y v u Q I rx ry h
  obtain ⟨a, o, rfl, g, q⟩ := h
  cases ry
  exact d_notIn hu I g rx fun s' I' => ⟨.bl (!o.isSome), H, I', rfl, by simpa using q⟩
def inKD (neg : Bool) : D → D → Option W := fun x y => match y with
  | .dk kvs => (keyOf x).bind fun k => some (.v (.bl ((valX kvs k).isSome != neg)))
  | _ => none
theorem inK_s {neg : Bool} : OpS K tb (rInK neg) (inKD neg) := fun φ ψ H m x y dx dy w Q R hx hy e k => by
  unfold inKD at e
  split at e
  · obtain ⟨ky, e1, e⟩ := bnd e
    cases e
    obtain ⟨a, vs, rfl, hq, q1, q2⟩ := hy.dk
    have := keyOf_v hx e1
    subst this
    refine ⟨a, _, rfl, DGet.k hq, ?_⟩
    rename_i kvs
    have pv := PR.val (k := ky) (show PR K φ ψ H kvs vs from ⟨q1, q2⟩)
    have : (valX kvs ky).isSome = (valV vs ky).isSome := by
      cases e2 : valX kvs ky with
      | none => rw [pv.2 e2]; rfl
      | some d => obtain ⟨v, e3, _⟩ := pv.1 d e2; rw [e3]; rfl
    rw [this] at k
    exact Go.val k R (.bl _)
  · cases e
/-! ### d[k] -/
def ixKD : D → D → Option W := fun x y => match x with
  | .dk kvs => (keyOf y).bind fun k => (valX kvs k).bind fun d => some (.v d)
  | _ => none
theorem ex_ixK {a b : Expr} {fa fb : Ex} (hu : X.A.units + 1 < cLine) (ha : PE X a (T X.K tb fa)) (hb : PE X b (T X.K tb fb)) (hs : NoSl b := by exact fun _ _ => rfl) : PE X (.Subscript a b pos) (T X.K tb (eOp ixKD fa fb)) := by
  refine pe_mono (pe_dget hu ha hb hs) fun σ H Q ⟨φ, ψ, ρ, m, w, m', R, E, e, k⟩ => ?_
  obtain ⟨⟨w1, m1⟩, e1, e⟩ := bnd e
  obtain ⟨⟨w2, m2⟩, e2, e⟩ := bnd e
  obtain ⟨x, ex, e⟩ := bnd e
  obtain ⟨y, ey, e⟩ := bnd e
  obtain ⟨w3, eg, e⟩ := bnd e
  cases e
  refine ⟨φ, ψ, ρ, m, w1, m1, R, E, e1, fun φ1 ψ1 H1 xv P1 R1 V1 => ⟨φ1, ψ, ρ, m1, w2, m2, V1.rel R1, E.mono (V1.post P1) R, e2, fun φ2 ψ2 H2 yv P2 R2 V2 => ?_⟩⟩
  have R2' := V2.rel R2
  have P2' := V2.post P2
  have C1 := gt_c R2' ((V1.s R1).mono P2' (V1.rel R1)) ex
  have C2 := gt_c R2' (V2.s R2) ey
  have eg' : ixKD x y = some w := eg
  cases x with
  | dk kvs =>
    have eg' : ((keyOf y).bind fun k => (valX kvs k).bind fun d => some (W.v d)) = some w := eg'
    obtain ⟨ky, e3, eg'⟩ := bnd eg'
    obtain ⟨d, e4, eg'⟩ := bnd eg'
    cases eg'
    obtain ⟨a, vs, rfl, hq, q1, q2⟩ := C1.dk
    have := keyOf_v C2 e3
    subst this
    obtain ⟨v, e5, hv⟩ := (PR.val (k := ky) (show PR X.K φ2 ψ H2 kvs vs from ⟨q1, q2⟩)).1 d e4
    refine ⟨a, v, rfl, by rw [← e5]; exact DGet.k hq, ?_⟩
    exact Go.val (fun φ3 ψ3 H3 v P3 R3 V3 => k φ3 ψ3 H3 v (((V1.post P1).trans P2').trans P3) R3 V3) R2' hv
  | _ => cases eg'
/-! ### d.get(k, x) -/
def eGet (o i x : Ex) : Ex := fun ρ m => (o ρ m).bind fun p => (gt p.1 p.2).bind fun d0 => match d0 with
  | .dk _ => (i ρ p.2).bind fun q => (x ρ q.2).bind fun r => (gt p.1 r.2).bind fun d => match d with
    | .dk kvs => (gt q.1 r.2).bind fun y => (keyOf y).bind fun k => (vl r.1).bind fun z => some (.v ((valX kvs k).getD z), r.2)
    | _ => none
  | _ => none
theorem ex_get {o a b : Expr} {fo fa fb : Ex} {apos cpos : Pos} (hu : X.A.units + 1 < cLine) (ho : PE X o (T X.K tb fo)) (ha : PE X a (T X.K tb fa)) (hb : PE X b (T X.K tb fb)) (mm : M2 X o "get" apos a b cpos) :
    PE X (.Call (.Attribute o "get" apos) [a, b] [] cpos) (T X.K tb (eGet fo fa fb)) := by
  refine pe_mono (pe_dget2 hu ho ha hb mm) fun σ H Q ⟨φ, ψ, ρ, m, w, m', R, E, e, k⟩ => ?_
  obtain ⟨⟨w1, m1⟩, e1, e⟩ := bnd e
  obtain ⟨d0, e0, e⟩ := bnd e
  split at e
  · obtain ⟨⟨w2, m2⟩, e2, e⟩ := bnd e
    obtain ⟨⟨w3, m3⟩, e3, e⟩ := bnd e
    obtain ⟨d, ed, e⟩ := bnd e
    split at e
    · rename_i kvs0 _ _ kvs
      obtain ⟨y, ey, e⟩ := bnd e
      obtain ⟨ky, ek, e⟩ := bnd e
      obtain ⟨z, ez, e⟩ := bnd e
      cases e
      refine ⟨φ, ψ, ρ, m, w1, m1, R, E, e1, fun φ1 ψ1 H1 xv P1 R1 V1 => ?_⟩
      have R1' := V1.rel R1
      obtain ⟨a, vs0, rfl, hq0, _, _⟩ := (gt_c R1' (V1.s R1) e0).dk
      refine ⟨a, rfl, .inl ⟨vs0, .inl hq0⟩, φ1, ψ, ρ, m1, w2, m2, R1', E.mono (V1.post P1) R, e2, fun φ2 ψ2 H2 yv P2 R2 V2 => ⟨φ2, ψ, ρ, m2, w3, _, V2.rel R2, E.mono ((V1.post P1).trans (V2.post P2)) R, e3, fun φ3 ψ3 H3 zv P3 R3 V3 => ?_⟩⟩
      have R3' := V3.rel R3
      have P3' := V3.post P3
      have P23 := (V2.post P2).trans P3'
      obtain ⟨a', vs, ea, hq, q1, q2⟩ := (gt_c R3' ((V1.s R1).mono P23 R1') ed).dk
      cases ea
      have := keyOf_v (gt_c R3' ((V2.s R2).mono P3' (V2.rel R2)) ey) ek
      subst this
      refine ⟨_, DGet.k hq, ?_⟩
      have hz := vl_rep (V3.s R3) ez
      have pv := PR.val (k := ky) (show PR X.K φ3 ψ H3 kvs vs from ⟨q1, q2⟩)
      refine Go.val (fun φ4 ψ4 H4 v P4 R4 V4 => k φ4 ψ4 H4 v (((V1.post P1).trans P23).trans P4) R4 V4) R3' ?_
      cases e4 : valX kvs ky with
      | none => rw [pv.2 e4]; exact hz
      | some d => obtain ⟨v, e5, hv⟩ := pv.1 d e4; rw [e5]; exact hv
    · cases e
  · cases e
/-! ### d[k] = e -/
def sPutK (o i a : Ex) : Sx := fun ρ m => (a ρ m).bind fun p => (o ρ p.2).bind fun q => (i ρ q.2).bind fun r => (vl p.1).bind fun d => (gt r.1 r.2).bind fun y => (keyOf y).bind fun k => match q.1 with
  | .r n => match r.2[n]? with
    | some (.dk kvs) => if kvs.length < 1000000 then some (.nx, ρ, r.2.set n (.dk (putX kvs k d))) else none
    | _ => none
  | _ => none
theorem bs_putK {o i a : Expr} {fo fi fa : Ex} {pos' : Pos} (hu : X.A.units + 1 < cLine) (ho : PE X o (T X.K tb fo)) (hi : PE X i (T X.K tb fi)) (ha : PE X a (T X.K tb fa))
    (hs : swapsWith a (some (.Subscript o i pos')) pos.line X.env = pure false := by rfl) : PS X (.Assign [.Subscript o i pos'] a pos) (Ts X.K tb (sPutK fo fi fa)) := by
  refine ps_mono (ps_dput hu ho hi ha hs) fun D σ H ⟨φ, ψ, ρ, m, o', ρ', m', R, E, e, k⟩ => ?_
  obtain ⟨⟨w1, m1⟩, e1, e⟩ := bnd e
  obtain ⟨⟨w2, m2⟩, e2, e⟩ := bnd e
  obtain ⟨⟨w3, m3⟩, e3, e⟩ := bnd e
  obtain ⟨d, ev, e⟩ := bnd e
  obtain ⟨y, ey, e⟩ := bnd e
  obtain ⟨ky, ek, e⟩ := bnd e
  refine ⟨φ, ψ, ρ, m, w1, m1, R, E, e1, fun φ1 ψ1 H1 v P1 R1 V1 => ⟨φ1, ψ, ρ, m1, w2, m2, V1.rel R1, E.mono (V1.post P1) R, e2, fun φ2 ψ2 H2 x P2 R2 V2 => ⟨φ2, ψ, ρ, m2, w3, m3, V2.rel R2, E.mono ((V1.post P1).trans (V2.post P2)) R, e3, fun φ3 ψ3 H3 yv P3 R3 V3 => ?_⟩⟩⟩
  have R3' := V3.rel R3
  have P3' := V3.post P3
  split at e
  · rename_i n hq
    split at e
    · rename_i kvs hm
      split at e
      · rename_i hl
        cases e
        have := keyOf_v (gt_c R3' (V3.s R3) ey) ek
        subst this
        have S2 := (V2.s R2).mono P3' (V2.rel R2)
        have hq' : w2 = .r n := hq
        subst hq'
        obtain ⟨b, hb, rfl⟩ := S2
        obtain ⟨us, hus, u1, u2⟩ := R3'.obj n _ b hm hb
        have mem := List.mem_of_getElem? hb
        have Pw' : Post φ3 ψ H3 φ3 ψ _ := Post.wr (o := .dK (putK us ky v)) mem (R3'.trk mem)
        have V1' := (vl_rep (V1.s R1) ev).mono (((V2.post P2).trans P3').trans Pw') (V1.rel R1)
        have P := ((V1.post P1).trans ((V2.post P2).trans P3')).trans Pw'
        have pr : PR X.K φ3 ψ (upd H3 b (.dK (putK us ky v))) kvs us := ⟨u1, u2.mono Pw' R3'⟩
        have pp := pr.put (k := ky) V1'
        exact ⟨b, _, rfl, DPut.k hus (smallT (by rw [← (show PR X.K φ3 ψ H3 kvs us from ⟨u1, u2⟩).len]; exact hl)), k φ3 ψ _ P (R3'.wr hb ⟨putK us ky v, upd_same, pp.1, pp.2⟩) rfl σ (E.mono P R)⟩
      · cases e
    · cases e
  · cases e
end
/-! ### {k: v for ..} -/
open Classical in
noncomputable def dcL (it : Itm) (xs : List D) (t : Gx) (c : Tx) (fk fv : Ex) (ρ : Env) : List D → List (Key × D) → Mem → Option (List (Key × D) × Mem)
  | [], acc, m => if itemsAt it m = some xs then some (acc, m) else none
  | d :: ds, acc, m => if itemsAt it m = some xs then (t d ρ).bind fun ρ1 => (c ρ1 m).bind fun p => if p.1 = true then (fk ρ1 p.2).bind fun q => (vl q.1).bind fun y => (keyOf y).bind fun k => (fv ρ1 q.2).bind fun r => (vl r.1).bind fun z =>
      if acc.length < 1000000 then dcL it xs t c fk fv ρ ds (putX acc k z) r.2 else none else dcL it xs t c fk fv ρ ds acc p.2
    else none
noncomputable def eDc (src : Ix) (t : Gx) (c : Tx) (fk fv : Ex) (vs : List Nat) : Ex := fun ρ m => (src ρ m).bind fun p => (itemsAt p.1 p.2).bind fun xs => (dcL p.1 xs t c fk fv (wipeD ρ vs) xs [] p.2).bind fun q => some (.f (.dk q.1), q.2)
theorem sd_sqT' {K : FRG} {H : Hp} {p a : Addr} {vs : List (Key × V)} {xs : List V} {o : HO} (h : H p = some (.dK vs)) (q : SqT K H a xs) : SqT K (upd H p o) a xs := by
  rcases q with (q | ⟨o, q⟩) | q
  · exact .inl (.inl (by rw [upd_ne fun z => by rw [z, h] at q; cases q]; exact q))
  · exact .inl (.inr ⟨o, by rw [upd_ne fun z => by rw [z, h] at q; cases q]; exact q⟩)
  · exact .inr q
theorem sd_fz' {K : FRG} {H : Hp} {p a : Addr} {vs : List (Key × V)} {xs : List V} {o : HO} (h : H p = some (.dK vs)) (q : Fz K H a xs) : Fz K (upd H p o) a xs := by
  rcases q with ⟨u, q⟩ | q
  · exact .inl ⟨u, by rw [upd_ne fun z => by rw [z, h] at q; cases q]; exact q⟩
  · exact .inr q
section
variable {K : FRG} {tb φ ψ : List Addr} {H : Hp} {m : Mem}
theorem Reps.sdk {p : Addr} {vs : List (Key × V)} {o : HO} (hp : p ∈ ψ) (h : H p = some (.dK vs)) {ds : List D} {us : List V} (r : Reps K φ ψ H ds us) : Reps K φ ψ (upd H p o) ds us :=
  r.map (fun _ _ => sd_sqT' h) (fun _ _ => sd_fz' h) fun a xs h1 h2 q _ => ⟨h1, h2, by rw [upd_ne (fun z => h2 (by rw [z]; exact hp))]; exact q⟩
theorem Rep.sdk {p : Addr} {vs : List (Key × V)} {o : HO} (hp : p ∈ ψ) (h : H p = some (.dK vs)) {d : D} {u : V} (r : Rep K φ ψ H d u) : Rep K φ ψ (upd H p o) d u :=
  r.map (fun _ _ => sd_sqT' h) (fun _ _ => sd_fz' h) fun a xs h1 h2 q _ => ⟨h1, h2, by rw [upd_ne (fun z => h2 (by rw [z]; exact hp))]; exact q⟩
theorem Rel.sdk {p : Addr} {vs : List (Key × V)} {o : HO} (R : Rel K tb φ ψ H m) (hp : p ∈ ψ) (h : H p = some (.dK vs)) : Rel K tb φ ψ (upd H p o) m := by
  refine ⟨R.len, R.nd, fun n mo a e1 e2 => ?_, fun q hq => TabG.keep (R.tab q hq) (upd_ne fun z => by
    obtain ⟨ps, e, _⟩ := R.tab q hq
    rw [z, h] at e; cases e), fun q hq z => ?_, R.ap⟩
  · have ne : a ≠ p := fun z => R.ap p hp (z ▸ List.mem_of_getElem? e2)
    have q := R.obj n mo a e1 e2
    cases mo with
    | lst ds => obtain ⟨vs', q1, q2⟩ := q; exact ⟨vs', by rw [upd_ne ne]; exact q1, q2.sdk hp h⟩
    | dk kvs => obtain ⟨vs', q1, q2, q3⟩ := q; exact ⟨vs', by rw [upd_ne ne]; exact q1, q2, q3.sdk hp h⟩
    | dt kvs => obtain ⟨vs', q1, q2, q3⟩ := q; exact ⟨vs', by rw [upd_ne ne]; exact q1, q2, q3.sdk hp h⟩
    | rl b k => exact ⟨by rw [upd_ne ne]; exact q.1, q.2⟩
  · by_cases hb : q = p
    · rw [hb, upd_same] at z; cases z
    · rw [upd_ne hb] at z; exact R.sd q hq z
end
theorem dc_go {K : FRG} {tb : List Addr} {src : Ix} {g : TG} {t : Gx} {c : Tx} {fk fv : Ex} {vs : List Nat} {σ : L2.St} {H : Hp} {Q : VK} (ht : TgS K tb g t) (hw : TgW g vs) (h : T K tb (eDc src t c fk fv vs) σ H Q) :
    tDc (Ti K tb src) g (Tt K tb c) (T K tb fk) (T K tb fv) vs σ H Q := by
  obtain ⟨φ, ψ, ρ, m, d, mF, R, E, e, k⟩ := h
  obtain ⟨⟨it, m1⟩, e1, e⟩ := bnd e
  obtain ⟨xs, e2, e⟩ := bnd e
  obtain ⟨⟨accF, m9⟩, e3, e⟩ := bnd e
  cases e
  refine ⟨φ, ψ, ρ, m, it, m1, R, E, e1, fun φ1 H1 J P1 R1 IR A hA => ?_⟩
  have nAS : A ∉ ψ := R1.freshS hA
  let Z : Nat → Hp → Prop := fun i H2 => ∃ φ2 m2 acc accV, Post φ1 ψ H1 φ2 (A :: ψ) H2 ∧ Rel K tb φ2 (A :: ψ) H2 m2 ∧ H2 A = some (.dK accV) ∧ PR K φ2 (A :: ψ) H2 acc accV ∧ dcL it xs t c fk fv (wipeD ρ vs) (xs.drop i) acc m2 = some (accF, m9)
  refine ⟨fun i n H2 => n = xs.length - i ∧ i ≤ xs.length ∧ Z i H2, ⟨xs.length, by simp, Nat.zero_le _, φ1, m1, [], [], Post.nw hA, R1.nw hA, upd_same, ⟨rfl, .nil⟩, by simpa using e3⟩, ?_⟩
  rintro i n H2 ⟨rfl, hi2, φ2, m2, acc, accV, P2, R2, hA2, rA, ef⟩
  by_cases hlt : i < xs.length
  · rw [List.drop_eq_getElem_cons hlt] at ef
    unfold dcL at ef
    split at ef
    · rename_i hx
      obtain ⟨ρ3, e3', ef⟩ := bnd ef
      obtain ⟨⟨b4, m4⟩, e4, ef⟩ := bnd ef
      obtain ⟨hgo, hy⟩ := (IR φ2 (A :: ψ) H2 m2 xs P2 R2 hx).1 i xs[i] (List.getElem?_eq_getElem hlt)
      refine .inr ⟨hgo, fun H' => i + 1 ≤ xs.length ∧ Z (i + 1) H', fun H' q => ⟨xs.length - (i + 1), by omega, rfl, q⟩, fun x H3 y => ?_⟩
      obtain ⟨P3, R3, V3, same⟩ := hy x H3 y
      have hA3 : H3 A = some (.dK accV) := same A _ hA2
      have rA3 : PR K φ2 (A :: ψ) H3 acc accV := ⟨rA.1, rA.2.mono P3 R2⟩
      have E3 : RE K φ2 (A :: ψ) H3 (wipeD ρ vs) (wipe σ vs) := (E.mono (P1.trans (P2.trans P3)) R).wipe vs
      have st := ht φ2 (A :: ψ) H3 m2 (wipeD ρ vs) (wipe σ vs) _ x ρ3 (fun σ3 H3' => Tt K tb c σ3 H3' fun b H4 => if b = true then T K tb fk σ3 H4 fun y H5 => T K tb fv σ3 H5 fun z H6 => ∃ kvs k, y = kV k ∧ H6 A = some (.dK kvs) ∧ kvs.length < sizeLine ∧ (fun H' => i + 1 ≤ xs.length ∧ Z (i + 1) H') (upd H6 A (.dK (putK kvs k z))) else (fun H' => i + 1 ≤ xs.length ∧ Z (i + 1) H') H4) R3 E3 V3 e3' fun σ3 E3' => ?_
      · have st2 := hw _ _ _ _ st
        simp only [wipe_wipe] at st2
        exact st2
      · refine ⟨φ2, A :: ψ, ρ3, m2, b4, m4, R3, E3', e4, fun φ4 H4 P4 R4 => ?_⟩
        have hA4 : H4 A = some (.dK accV) := P4.frm A _ (R3.ap A List.mem_cons_self) hA3 fun _ z => nomatch z
        have rA4 : PR K φ4 (A :: ψ) H4 acc accV := ⟨rA3.1, rA3.2.mono P4 R3⟩
        have P14 := P2.trans (P3.trans P4)
        cases b4 with
        | false => exact iteF ⟨hlt, φ4, m4, acc, accV, P14, R4, hA4, rA4, ef⟩
        | true =>
          obtain ⟨⟨w5, m5⟩, e5, ef⟩ := bnd ef
          obtain ⟨y5, ev, ef⟩ := bnd ef
          obtain ⟨ky, ek, ef⟩ := bnd ef
          obtain ⟨⟨w6, m6⟩, e6, ef⟩ := bnd ef
          obtain ⟨z6, ez, ef⟩ := bnd ef
          split at ef
          · rename_i hl
            refine iteT ⟨φ4, A :: ψ, ρ3, m4, w5, m5, R4, E3'.mono P4 R3, e5, fun φ5 ψ5 H5 v P5 R5 V5 => ?_⟩
            have R5' := V5.rel R5
            have P5' := V5.post P5
            have hA5 : H5 A = some (.dK accV) := P5'.frm A _ (R4.ap A List.mem_cons_self) hA4 fun _ z => nomatch z
            have rA5 : PR K φ5 (A :: ψ) H5 acc accV := ⟨rA4.1, rA4.2.mono P5' R4⟩
            have y5' := vl_rep (V5.s R5) ev
            refine ⟨φ5, A :: ψ, ρ3, m5, w6, m6, R5', E3'.mono (P4.trans P5') R3, e6, fun φ6 ψ6 H6 u P6 R6 V6 => ?_⟩
            have R6' := V6.rel R6
            have P6' := V6.post P6
            have hA6 : H6 A = some (.dK accV) := P6'.frm A _ (R5'.ap A List.mem_cons_self) hA5 fun _ z => nomatch z
            have rA6 : PR K φ6 (A :: ψ) H6 acc accV := ⟨rA5.1, rA5.2.mono P6' R5'⟩
            have z6' := vl_rep (V6.s R6) ez
            have pp := rA6.put (k := ky) z6'
            exact ⟨accV, ky, keyOf_v (.inl y5') ek, hA6, smallT (by rw [← rA6.len]; exact hl), hlt, φ6, m6, putX acc ky z6, putK accV ky u, Post.sdw List.mem_cons_self (R6'.ap A List.mem_cons_self) (R6'.sd A List.mem_cons_self) (P14.trans (P5'.trans P6')) hA, R6'.sdk List.mem_cons_self hA6, upd_same, ⟨pp.1, pp.2.sdk List.mem_cons_self hA6⟩, ef⟩
          · cases ef
    · cases ef
  · rw [List.drop_of_length_le (by omega)] at ef
    unfold dcL at ef
    split at ef
    · rename_i hx
      cases ef
      refine .inl ⟨(IR φ2 (A :: ψ) H2 _ xs P2 R2 hx).2 i (by omega), ?_⟩
      exact k φ2 (A :: ψ) H2 _ (P1.trans P2) R2 ⟨A, .dk accF, rfl, rfl, nAS, rfl, accV, hA2, rA.1, rA.2⟩
    · cases ef
/-! ### lists of lists that change -/
section
variable {K : FRG} {tb φ φ' ψ ψ' : List Addr} {H H' : Hp} {m : Mem}
theorem Rel.perm (h : ∀ a, a ∈ ψ' ↔ a ∈ ψ) (R : Rel K tb φ ψ H m) : Rel K tb φ ψ' H m :=
  ⟨R.len, R.nd, fun n mo a e1 e2 => (R.obj n mo a e1 e2).fewer fun b h1 h2 => ⟨h1, fun z => h2 ((h b).mp z)⟩, R.tab, fun q hq => R.sd q ((h q).mp hq), fun q hq => R.ap q ((h q).mp hq)⟩
theorem Post.perm (h : ∀ a, a ∈ ψ' → a ∈ ψ) {φ0 ψ0 : List Addr} {H0 : Hp} (P : Post φ0 ψ0 H0 φ ψ H) : Post φ0 ψ0 H0 φ ψ' H := ⟨P.pre, P.new, fun a z => P.side a (h a z), P.frm, P.kp⟩
theorem Rel.own' {p : Addr} {mo : MO} (R : Rel K tb φ (p :: ψ) H m) (hp : p ∉ ψ) (q : ObjR K (φ ++ [p]) ψ H p mo) : Rel K tb (φ ++ [p]) ψ H (m ++ [mo]) := by
  have np := R.ap p List.mem_cons_self
  refine ⟨by simp [R.len], nodup_snoc R.nd np, fun n mo' a e1 e2 => ?_, R.tab, fun q hq => R.sd q (List.mem_cons_of_mem _ hq), fun q hq z => ?_⟩
  · rcases Nat.lt_trichotomy n m.length with hn | hn | hn
    · rw [List.getElem?_append_left hn] at e1
      rw [List.getElem?_append_left (by rw [R.len]; exact hn)] at e2
      exact (R.obj n mo' a e1 e2).fewer own_off fun _ k hk i hi => List.getElem?_append_left (by have := (List.getElem?_eq_some_iff.mp hk).1; omega)
    · subst hn
      rw [List.getElem?_append_right (Nat.le_refl _), Nat.sub_self] at e1
      rw [← R.len, List.getElem?_append_right (Nat.le_refl _), Nat.sub_self] at e2
      have e1' : mo = mo' := Option.some.inj e1
      have e2' : p = a := Option.some.inj e2
      rw [← e1', ← e2']; exact q
    · rw [List.getElem?_eq_none (by simp; omega)] at e1; cases e1
  · rcases List.mem_append.mp z with z | z
    · exact R.ap q (List.mem_cons_of_mem _ hq) z
    · rw [List.mem_singleton.mp z] at hq; exact hp hq
theorem own_all : ∀ (as : List Addr) {φ : List Addr} {m : Mem}, Rel K tb φ (as ++ ψ) H m → as.Nodup → (∀ a ∈ as, a ∉ ψ) → (∀ a ∈ as, H a = some (.lst [])) → Rel K tb (φ ++ as) ψ H (m ++ List.replicate as.length (.lst []))
  | [], φ, m, R, _, _, _ => by simpa using R
  | a :: as, φ, m, R, nd, na, ha => by
    obtain ⟨n1, n2⟩ := List.nodup_cons.mp nd
    have R1 : Rel K tb (φ ++ [a]) (as ++ ψ) H (m ++ [.lst []]) := Rel.own (ψ := as ++ ψ) R (fun z => by
      rcases List.mem_append.mp z with z | z
      · exact n1 z
      · exact na a List.mem_cons_self z) ⟨[], ha a List.mem_cons_self, .nil⟩
    have R2 := own_all as R1 n2 (fun b hb => na b (List.mem_cons_of_mem _ hb)) fun b hb => ha b (List.mem_cons_of_mem _ hb)
    simpa [List.replicate_succ] using R2
theorem post_all : ∀ (as : List Addr) {φ : List Addr} {φ0 : List Addr} {H0 : Hp}, Post φ0 ψ H0 φ (as ++ ψ) H → (∀ a ∈ as, a ∉ ψ) → Post φ0 ψ H0 (φ ++ as) ψ H
  | as, φ, φ0, H0, P, na => ⟨P.pre.trans (List.prefix_append _ _), fun a z => by
    rcases List.mem_append.mp z with z | z
    · exact P.new a z
    · rcases P.side a (List.mem_append_left _ z) with y | y
      · exact absurd y (na a z)
      · exact .inr y, fun a z => .inl z, P.frm, P.kp⟩
end
noncomputable def eLl (src : Ix) : Ex := fun ρ m => (src ρ m).bind fun p => (itemsAt p.1 p.2).bind fun xs => if xs.length ≤ 1000000 then some (.r (p.2.length + xs.length), p.2 ++ List.replicate xs.length (.lst []) ++ [.rl p.2.length xs.length]) else none
theorem ll_go {K : FRG} {tb : List Addr} {src : Ix} {g : TG} {t : Gx} {vs : List Nat} {σ : L2.St} {H : Hp} {Q : VK} (ht : TgS K tb g t) (htt : ∀ d ρ, ∃ ρ1, t d ρ = some ρ1) (hw : TgW g vs) (h : T K tb (eLl src) σ H Q) :
    tLc (Ti K tb src) g (Tt K tb tYes') (tLst tNil) vs σ H Q := by
  obtain ⟨φ, ψ, ρ, m, d, mF, R, E, e, k⟩ := h
  obtain ⟨⟨it, m1⟩, e1, e⟩ := bnd e
  obtain ⟨xs, e2, e⟩ := bnd e
  split at e
  rotate_left
  · cases e
  rename_i hlen
  cases e
  refine ⟨φ, ψ, ρ, m, it, m1, R, E, e1, fun φ1 H1 J P1 R1 IR A hA => ?_⟩
  have nAS : A ∉ ψ := R1.freshS hA
  let Z : Nat → Hp → Prop := fun i H2 => ∃ as : List Addr, as.length = i ∧ as.Nodup ∧ A ∉ as ∧ (∀ a ∈ as, a ∉ ψ) ∧ Post φ1 ψ H1 φ1 (as ++ A :: ψ) H2 ∧ Rel K tb φ1 (as ++ A :: ψ) H2 m1 ∧ H2 A = some (.lst (as.map .ref)) ∧ (∀ a ∈ as, H2 a = some (.lst []))
  refine ⟨fun i n H2 => n = xs.length - i ∧ i ≤ xs.length ∧ Z i H2, ⟨xs.length, by simp, Nat.zero_le _, [], rfl, List.nodup_nil, by simp, by simp, Post.nw hA, R1.nw hA, upd_same, by simp⟩, ?_⟩
  rintro i n H2 ⟨rfl, hi2, as, hal, hnd, hAa, haS, P2, R2, hA2, hin⟩
  by_cases hlt : i < xs.length
  · obtain ⟨hgo, hy⟩ := (IR φ1 (as ++ A :: ψ) H2 m1 xs P2 R2 e2).1 i xs[i] (List.getElem?_eq_getElem hlt)
    refine .inr ⟨hgo, fun H' => i + 1 ≤ xs.length ∧ Z (i + 1) H', fun H' q => ⟨xs.length - (i + 1), by omega, rfl, q⟩, fun x H3 y => ?_⟩
    obtain ⟨P3, R3, V3, same⟩ := hy x H3 y
    have hA3 : H3 A = some (.lst (as.map .ref)) := same A _ hA2
    have E3 : RE K φ1 (as ++ A :: ψ) H3 (wipeD ρ vs) (wipe σ vs) := (E.mono (P1.trans (P2.trans P3)) R).wipe vs
    obtain ⟨ρ3, e3'⟩ := htt xs[i] (wipeD ρ vs)
    have st := ht φ1 (as ++ A :: ψ) H3 m1 (wipeD ρ vs) (wipe σ vs) _ x ρ3 (fun σ3 H3' => Tt K tb tYes' σ3 H3' fun b H4 => if b = true then (tLst tNil) σ3 H4 fun y H5 => ∃ acc, H5 A = some (.lst acc) ∧ acc.length < sizeLine ∧ (fun H' => i + 1 ≤ xs.length ∧ Z (i + 1) H') (upd H5 A (.lst (acc ++ [y]))) else (fun H' => i + 1 ≤ xs.length ∧ Z (i + 1) H') H4) R3 E3 V3 e3' fun σ3 E3' => ?_
    · have st2 := hw _ _ _ _ st
      simp only [wipe_wipe] at st2
      exact st2
    · refine ⟨φ1, as ++ A :: ψ, ρ3, m1, true, m1, R3, E3', rfl, fun φ4 H4 P4 R4 => ?_⟩
      have R4' : Rel K tb φ4 (as ++ A :: ψ) H4 m1 := R4
      have P4' : Post φ1 (as ++ A :: ψ) H3 φ4 (as ++ A :: ψ) H4 := P4
      have hA4 : H4 A = some (.lst (as.map .ref)) := P4'.frm A _ (R3.ap A (by simp)) hA3 fun _ z => nomatch z
      have hin3 : ∀ a ∈ as, H3 a = some (.lst []) := fun a ha => same a _ (hin a ha)
      have hin4 : ∀ a ∈ as, H4 a = some (.lst []) := fun a ha => P4'.frm a _ (R3.ap a (by simp [ha])) (hin3 a ha) fun _ z => nomatch z
      have hφ : φ4 = φ1 := by
        have h1 := R4'.len
        have h2 := R1.len
        obtain ⟨t, ht⟩ := P4'.pre
        have h3 := congrArg List.length ht
        rw [List.length_append] at h3
        have : t = [] := List.eq_nil_of_length_eq_zero (by omega)
        rw [this, List.append_nil] at ht
        exact ht.symm
      subst hφ
      refine iteT ⟨by simp, fun p hp => ?_⟩
      have P14 : Post φ4 ψ H1 φ4 (as ++ A :: ψ) H4 := P2.trans (P3.trans P4')
      have h1p : H1 p = none := P14.kp p hp
      have pA : p ≠ A := fun z => by rw [z, hA4] at hp; cases hp
      have pas : p ∉ as := fun z => by rw [hin4 p z] at hp; cases hp
      have pS : p ∉ ψ := R1.freshS h1p
      have perm : ∀ a, a ∈ (as ++ [p]) ++ A :: ψ ↔ a ∈ p :: (as ++ A :: ψ) := fun a => by
        simp only [List.mem_append, List.mem_cons, List.mem_singleton, List.not_mem_nil, or_false]
        constructor
        · rintro ((h | h) | h | h) <;> simp [h]
        · rintro (h | h | h | h) <;> simp [h]
      have P5 : Post φ4 ψ H1 φ4 ((as ++ [p]) ++ A :: ψ) (upd H4 p (.lst [])) := (P14.trans (Post.nw hp)).perm fun a => (perm a).mp
      have R5 : Rel K tb φ4 ((as ++ [p]) ++ A :: ψ) (upd H4 p (.lst [])) m1 := (R4'.nw hp).perm perm
      have hA5 : (upd H4 p (.lst [])) A = some (.lst (as.map .ref)) := by rw [upd_ne (Ne.symm pA)]; exact hA4
      have mA : A ∈ (as ++ [p]) ++ A :: ψ := by simp
      refine ⟨as.map .ref, hA5, smallT (by rw [List.length_map, hal]; omega), hlt, as ++ [p], by simp [hal], ?_, ?_, ?_, Post.sdw mA (R5.ap A mA) (R5.sd A mA) P5 hA, R5.sdw mA hA5, by rw [upd_same, List.map_append]; rfl, fun a ha => ?_⟩
      · rw [List.nodup_append]
        exact ⟨hnd, by simp, fun a ha b hb => by rw [List.mem_singleton.mp hb]; exact fun z => pas (z ▸ ha)⟩
      · intro z
        rcases List.mem_append.mp z with z | z
        · exact hAa z
        · exact pA (List.mem_singleton.mp z).symm
      · intro a ha
        rcases List.mem_append.mp ha with z | z
        · exact haS a z
        · rw [List.mem_singleton.mp z]; exact pS
      · rcases List.mem_append.mp ha with z | z
        · rw [upd_ne (fun y : a = A => hAa (y ▸ z)), upd_ne (fun y : a = p => pas (y ▸ z))]; exact hin4 a z
        · rw [List.mem_singleton.mp z, upd_ne pA, upd_same]
  · obtain rfl : i = xs.length := by omega
    refine .inl ⟨(IR φ1 (as ++ A :: ψ) H2 _ xs P2 R2 e2).2 _ (Nat.le_refl _), ?_⟩
    have R4 := own_all (ψ := A :: ψ) as R2 hnd (fun a ha z => by
      rcases List.mem_cons.mp z with z | z
      · rw [z] at ha; exact hAa ha
      · exact haS a ha z) hin
    have P4 : Post φ1 ψ H1 (φ1 ++ as) (A :: ψ) H2 := ⟨P2.pre.trans (List.prefix_append _ _), fun a z => by
      rcases List.mem_append.mp z with z | z
      · exact P2.new a z
      · rcases P2.side a (List.mem_append_left _ z) with y | y
        · exact absurd y (haS a z)
        · exact .inr y, fun a z => P2.side a (List.mem_append_right _ z), P2.frm, P2.kp⟩
    have hl1 := R1.len
    have R5 := R4.own' (mo := .rl m1.length xs.length) nAS ⟨by
      rw [hA2]
      congr 2
      refine List.ext_getElem (by simp [hal]) fun j h1 h2 => ?_
      have hj : j < as.length := by simpa using h1
      simp only [List.getElem_map, List.getElem_range]
      congr 1
      rw [List.getD_eq_getElem?_getD, List.getElem?_append_left (by rw [List.length_append]; omega), List.getElem?_append_right (by omega), show m1.length + j - φ1.length = j by omega, List.getElem?_eq_getElem hj]
      rfl, by rw [List.getElem?_append_right (by rw [List.length_append]; omega), show m1.length + xs.length - (φ1 ++ as).length = 0 by rw [List.length_append]; omega]; rfl⟩
    rw [hal] at R5
    refine k (φ1 ++ as ++ [A]) ψ H2 _ (P1.trans (P4.own nAS)) R5 ⟨rfl, A, ?_, rfl⟩
    show (φ1 ++ as ++ [A])[m1.length + xs.length]? = some A
    rw [List.getElem?_append_right (by rw [List.length_append]; omega), show m1.length + xs.length - (φ1 ++ as).length = 0 by rw [List.length_append]; omega]; rfl
theorem ex_ll {X : Cx} {tb : List Addr} {lp : Pos} {tg iter : Expr} {scope : Scope} {own : List (Str × Nat)} {pos : Pos} {src : Ix} {g : TG} {t : Gx} (hc : X.calm = true) (hN : X.N.Nodup) (htg : TgS X.K tb g t) (htt : ∀ d ρ, ∃ ρ1, t d ρ = some ρ1) (hw : TgW g (own.map (·.2)))
    (hi : PI X tg iter (Ti X.K tb src)) (ok : BlkOk X.N X.env.scope scope own)
    (hg : ∀ (s : Shared) (H : Hp) (C : Addr) (cl : List (Str × Addr)) (fp : List Addr), PG (X.blk s H scope (compEnvC scope cl C X.env) fp) tg g) (hs : ∀ x, foldedSetIterable iter X.env x = pure x := by intro _; rfl) :
    PE X (.ListComp (.List [] lp) [⟨tg, iter, [], 0⟩] scope pos) (T X.K tb (eLl src)) :=
  pe_mono (pe_lc hc hN hi ok hg (fun _ _ _ _ _ => ts_nil) (fun _ _ _ _ _ => pe_lst pa_nil) hs) fun _ _ _ h => ll_go htg htt hw h
theorem bs_setLl {X : Cx} {tb : List Addr} (i : Nat) {y : Str} {py lp : Pos} {tg iter : Expr} {scope : Scope} {own : List (Str × Nat)} {pos spos : Pos} {src : Ix} {g : TG} {t : Gx} (hc : X.calm = true) (hN : X.N.Nodup) (htg : TgS X.K tb g t) (htt : ∀ d ρ, ∃ ρ1, t d ρ = some ρ1) (hw : TgW g (own.map (·.2)))
    (hi : PI X tg iter (Ti X.K tb src)) (ok : BlkOk X.N X.env.scope scope own)
    (hg : ∀ (s : Shared) (H : Hp) (C : Addr) (cl : List (Str × Addr)) (fp : List Addr), PG (X.blk s H scope (compEnvC scope cl C X.env) fp) tg g)
    (hsw : swapsWith (.ListComp (.List [] lp) [⟨tg, iter, [], 0⟩] scope pos) (some (.Name y py)) spos.line X.env = pure true) (hy : X.N[i]? = some y := by rfl) (hyl : X.env.scope.names.lookup y = some .local := by rfl)
    (hs : ∀ x, foldedSetIterable iter X.env x = pure x := by intro _; rfl) :
    PS X (.Assign [.Name y py] (.ListComp (.List [] lp) [⟨tg, iter, [], 0⟩] scope pos) spos) (Ts X.K tb (sSet i (eLl src))) :=
  ps_mono (ps_setLc hc hN hy hyl hsw hi ok hg (fun _ _ _ _ _ => ts_nil) (fun _ _ _ _ _ => pe_lst pa_nil) hs) fun D σ H h => ll_go htg htt hw (set_go (X := X) h)
/-- one of them -/
def eIxR (a b : Ex) : Ex := fun ρ m => (a ρ m).bind fun p => (b ρ p.2).bind fun q => (gt q.1 q.2).bind fun y => match p.1, y with
  | .r n, .int i => match q.2[n]? with
    | some (.rl b k) => (ixN k i).bind fun j => some (.r (b + j), q.2)
    | _ => none
  | _, _ => none
theorem ex_ixR {X : Cx} {tb : List Addr} {pos : Pos} {a b : Expr} {fa fb : Ex} (ha : PE X a (T X.K tb fa)) (hb : PE X b (T X.K tb fb)) (hs : PlainIx b := by exact fun _ _ => rfl) : PE X (.Subscript a b pos) (T X.K tb (eIxR fa fb)) := by
  refine pe_mono (pe_ix ix_list ha hb hs) fun σ H Q ⟨φ, ψ, ρ, m, w, m', R, E, e, k⟩ => ?_
  obtain ⟨⟨w1, m1⟩, e1, e⟩ := bnd e
  obtain ⟨⟨w2, m2⟩, e2, e⟩ := bnd e
  obtain ⟨y, ey, e⟩ := bnd e
  split at e
  · rename_i n i hn
    split at e
    · rename_i b k' hm
      obtain ⟨j, ej, e⟩ := bnd e
      cases e
      refine ⟨φ, ψ, ρ, m, w1, m1, R, E, e1, fun φ1 ψ1 H1 xv P1 R1 V1 => ⟨φ1, ψ, ρ, m1, w2, _, V1.rel R1, E.mono (V1.post P1) R, e2, fun φ2 ψ2 H2 yv P2 R2 V2 => ?_⟩⟩
      have R2' := V2.rel R2
      have P2' := V2.post P2
      have S1 := (V1.s R1).mono P2' (V1.rel R1)
      have hn' : w1 = .r n := hn
      subst hn'
      obtain ⟨c, hc, rfl⟩ := S1
      have hy := (gt_c R2' (V2.s R2) ey).int
      subst hy
      obtain ⟨o1, o2⟩ := R2'.obj n _ c hm hc
      have hlen := (List.getElem?_eq_some_iff.mp o2).1
      have hj : j < k' := by
        unfold ixN at ej
        split at ej
        · split at ej
          · cases ej; omega
          · cases ej
        · split at ej
          · cases ej; omega
          · cases ej
      have hjl : b + j < φ2.length := by omega
      have eg : φ2[b + j]? = some φ2[b + j] := List.getElem?_eq_getElem hjl
      refine ⟨c, _, i, .ref φ2[b + j], rfl, rfl, SqL.of o1, ?_, k φ2 ψ H2 _ ((V1.post P1).trans P2') R2' ⟨rfl, _, eg, rfl⟩⟩
      unfold atI
      rw [List.length_map, List.length_range, ej]
      simp only [Option.bind_some]
      rw [List.getElem?_map, List.getElem?_range hj]
      simp only [Option.map_some]
      rw [List.getD_eq_getElem?_getD, eg]; rfl
    · cases e
  · cases e
end Pw
end
section
set_option Elab.async false
set_option linter.all false
set_option maxRecDepth 100000
set_option maxHeartbeats 2000000
/-! Comprehensions of dicts in the text; reversed. -/
namespace Pw
open PySem PySem.Spec PyProof.Rows L2 Pv
section
variable {X : Cx} {tb : List Addr}
theorem ex_dc {kx vx tg iter : Expr} {ifs : List Expr} {scope : Scope} {own : List (Str × Nat)} {pos : Pos} {src : Ix} {g : TG} {t : Gx} {c : Tx} {fk fv : Ex} (hc : X.calm = true) (hN : X.N.Nodup) (htg : TgS X.K tb g t) (hw : TgW g (own.map (·.2)))
    (hi : PI X tg iter (Ti X.K tb src)) (ok : BlkOk X.N X.env.scope scope own)
    (hg : ∀ (s : Shared) (H : Hp) (C : Addr) (cl : List (Str × Addr)) (fp : List Addr), PG (X.blk s H scope (compEnvC scope cl C X.env) fp) tg g) (ht : ∀ (s : Shared) (H : Hp) (C : Addr) (cl : List (Str × Addr)) (fp : List Addr), PTs (X.blk s H scope (compEnvC scope cl C X.env) fp) ifs (Tt X.K tb c))
    (hk : ∀ (s : Shared) (H : Hp) (C : Addr) (cl : List (Str × Addr)) (fp : List Addr), PE (X.blk s H scope (compEnvC scope cl C X.env) fp) kx (T X.K tb fk))
    (he : ∀ (s : Shared) (H : Hp) (C : Addr) (cl : List (Str × Addr)) (fp : List Addr), PE (X.blk s H scope (compEnvC scope cl C X.env) fp) vx (T X.K tb fv)) (hs : ∀ x, foldedSetIterable iter X.env x = pure x := by intro _; rfl) :
    PE X (.DictComp kx vx [⟨tg, iter, ifs, 0⟩] scope pos) (T X.K tb (eDc src t c fk fv (own.map (·.2)))) :=
  pe_mono (pe_dc hc hN hi ok hg ht hk he hs) fun _ _ _ h => dc_go htg hw h
def revV : D → Option (List D)
  | .tup ds => some ds
  | .fl ds => some ds
  | .lst ds => some ds
  | _ => none
def iRev (a : Ex) : Ix := fun ρ m => (a ρ m).bind fun p => (vl p.1).bind fun d => (revV d).bind fun ds => some (.seq ds.reverse, p.2)
theorem rev_get {K : FRG} {φ ψ : List Addr} {H : Hp} {ds : List D} {vs : List V} {i : Nat} {d : D} (r : Reps K φ ψ H ds vs) (h : ds.reverse[i]? = some d) : i < vs.length ∧ ∃ v, vs[vs.length - 1 - i]? = some v ∧ Rep K φ ψ H d v := by
  have hl : i < ds.length := by
    have := (List.getElem?_eq_some_iff.mp h).1
    simpa using this
  rw [List.getElem?_reverse hl] at h
  obtain ⟨v, h1, h2⟩ := r.get h
  exact ⟨by rw [← r.length]; exact hl, v, by rw [← r.length]; exact h1, h2⟩
theorem ix_rev {tg a : Expr} {fa : Ex} {p pos : Pos} (hg : Gl X "reversed") (hm : X.mg "reversed" = none) (ha : PE X a (T X.K tb fa)) (hs : starEach [a] X.env = (false, eval a X.env) :: starEach [] X.env := by rfl) :
    PI X tg (.Call (.Name "reversed" p) [a] [] pos) (Ti X.K tb (iRev fa)) := by
  refine pi_mono (RT.pi_revA hg hm ha hs) fun σ H Q ⟨φ, ψ, ρ, m, it, m', R, E, e, k⟩ => ?_
  obtain ⟨⟨w1, m1⟩, e1, e⟩ := bnd e
  obtain ⟨d, ev, e⟩ := bnd e
  obtain ⟨ds, er, e⟩ := bnd e
  cases e
  refine ⟨φ, ψ, ρ, m, w1, _, R, E, e1, fun φ1 ψ1 H1 v P1 R1 V1 => ?_⟩
  have R1' := V1.rel R1
  have V := vl_rep (V1.s R1) ev
  unfold revV at er
  split at er
  · cases er
    cases V with
    | tup h r =>
      refine ⟨_, _, rfl, .inr ⟨h, k φ1 H1 _ (V1.post P1) R1' fun φ2 ψ2 H2 m2 xs P2 R2 ex => ?_⟩⟩
      cases ex
      have h2 := P2.sqT R1' h
      have r2 := r.mono P2 R1'
      refine ⟨fun i d hd => ?_, fun i hi => by rw [List.length_reverse] at hi; rw [r2.length] at hi; exact hi⟩
      obtain ⟨hl, w, hw, rw'⟩ := rev_get r2 hd
      refine ⟨⟨hl, _, w, h2, hw⟩, fun x H3 hy => ?_⟩
      obtain ⟨rfl, hy⟩ := hy
      exact ⟨.refl, R2, rw'.is (Option.some.inj (hw.symm.trans (hy _ h2))), fun _ _ z => z⟩
  · cases er
    cases V with
    | fl h r =>
      refine ⟨_, _, rfl, .inl ⟨h.sq, k φ1 H1 _ (V1.post P1) R1' fun φ2 ψ2 H2 m2 xs P2 R2 ex => ?_⟩⟩
      cases ex
      have h2 := (P2.fz R1' h).sq
      have r2 := r.mono P2 R1'
      refine ⟨fun i d hd => ?_, fun i hi => by rw [List.length_reverse] at hi; rw [r2.length] at hi; exact hi⟩
      obtain ⟨hl, w, hw, rw'⟩ := rev_get r2 hd
      refine ⟨⟨hl, _, w, h2, hw⟩, fun x H3 hy => ?_⟩
      obtain ⟨rfl, hy⟩ := hy
      exact ⟨.refl, R2, rw'.is (Option.some.inj (hw.symm.trans (hy _ h2))), fun _ _ z => z⟩
  · cases er
    cases V with
    | lst g1 g2 h r =>
      refine ⟨_, _, rfl, .inl ⟨SqL.of h, k φ1 H1 _ (V1.post P1) R1' fun φ2 ψ2 H2 m2 xs P2 R2 ex => ?_⟩⟩
      cases ex
      have h2 : SqL X.K H2 _ _ := SqL.of (P2.off g1 g2 h fun _ z => nomatch z).2.2
      have r2 := r.mono P2 R1'
      refine ⟨fun i d hd => ?_, fun i hi => by rw [List.length_reverse] at hi; rw [r2.length] at hi; exact hi⟩
      obtain ⟨hl, w, hw, rw'⟩ := rev_get r2 hd
      refine ⟨⟨hl, _, w, h2, hw⟩, fun x H3 hy => ?_⟩
      obtain ⟨rfl, hy⟩ := hy
      exact ⟨.refl, R2, rw'.is (Option.some.inj (hw.symm.trans (hy _ h2))), fun _ _ z => z⟩
  · cases er
end
end Pw
end
section
set_option Elab.async false
set_option linter.all false
set_option maxRecDepth 100000
set_option maxHeartbeats 2000000
/-! repr of a tuple, some of whose parts change. -/
namespace Pw
open PySem PySem.Spec PyProof.Rows L2 Pv
theorem RepCs.dps {K : FRG} {φ ψ : List Addr} {H : Hp} : ∀ {ds : List D} {vs : List V} {ps : List PyData}, RepCs K φ ψ H ds vs → pyDs ds = some ps → DpAll K H vs ps
  | [], _, _, .nil, e => by rw [pyDs] at e; cases e; exact .nil
  | d :: ds, _, _, .cons h r, e => by
    rw [pyDs] at e
    obtain ⟨p, e1, e⟩ := bnd e
    obtain ⟨ps, e2, e⟩ := bnd e
    cases e
    exact .cons (h.dp e1) (RepCs.dps r e2)
def eReprT (f : Ax) : Ex := fun ρ m => (f ρ m).bind fun p => (gts p.1 p.2).bind fun ds => if ds.length ≤ 1000000 then (reprD [.tup ds]).bind fun w => some (w, p.2) else none
theorem RepCs.len {K : FRG} {φ ψ : List Addr} {H : Hp} : ∀ {ds : List D} {vs : List V}, RepCs K φ ψ H ds vs → ds.length = vs.length
  | _, _, .nil => rfl
  | _, _, .cons _ r => by simp [RepCs.len r]
theorem ex_reprT {X : Cx} {tb : List Addr} {es : List Expr} {x1} {f : Ax} {p tpos pos : Pos} (hc : CallR X (.builtin "repr") (fun xs H Q => ∃ x d, xs = [x] ∧ Dp X.K H x d ∧ shownOk d = true ∧ Q (.str d.shown) H)) (hg : Gl X "repr") (hm : X.mg "repr" = none) (hv : bootBuiltins "repr" = some (.builtin "repr")) (ha : PA X es (Ta X.K tb f))
    (he : starEach [.Tuple es x1 tpos] X.env = (false, eval (.Tuple es x1 tpos) X.env) :: starEach [] X.env := by rfl) (hpl : (backTo pos (starEach [] X.env)).any (·.1) = false := by rfl) :
    PE X (.Call (.Name "repr" p) [.Tuple es x1 tpos] [] pos) (T X.K tb (eReprT f)) := by
  refine pe_mono (pe_callB hc hg hm hv (pa_cons (pe_tup ha) pa_nil he) (by decide) (by decide) he hpl) fun σ H Q ⟨φ, ψ, ρ, m, w, m', R, E, e, k⟩ => ?_
  obtain ⟨⟨ws, m1⟩, e1, e⟩ := bnd e
  obtain ⟨ds, ed, e⟩ := bnd e
  split at e
  rotate_left
  · cases e
  rename_i hl
  obtain ⟨w2, e2, e⟩ := bnd e
  cases e
  refine ⟨φ, ψ, ρ, m, ws, _, R, E, e1, fun φ1 H1 vs P1 R1 V1 => ?_⟩
  have c0 := gts_c R1 V1 ed
  refine ⟨small (by rw [← c0.len]; exact hl), fun q hq => ?_⟩
  have Pl : Post φ1 ψ H1 φ1 ψ (upd H1 q (.tup vs)) := Post.lay hq
  have Rl := R1.lay (o := .tup vs) hq
  have c1 := gts_c Rl (V1.mono Pl R1) ed
  unfold reprD at e2
  simp only at e2
  obtain ⟨pd, ep, e2⟩ := bnd e2
  rw [pyD] at ep
  obtain ⟨ps, eps, ep⟩ := bnd ep
  cases ep
  split at e2
  · rename_i hs
    cases e2
    refine ⟨_, .tuple ps, rfl, .tup (SqT.of upd_same) (c1.dps eps), hs, ?_⟩
    exact Go.val (fun φ3 ψ3 H3 v P3 R3 V3 => k φ3 ψ3 H3 v ((P1.trans Pl).trans P3) R3 V3) Rl (.str _)
  · cases e2
end Pw
end
section
set_option Elab.async false
set_option linter.all false
set_option maxRecDepth 100000
set_option maxHeartbeats 1000000
/-! Generator expressions whose body is any that the rules speak of: the context of the body. -/
namespace Gn
open PySem PySem.Spec PyProof.Rows L2
/-- the context of a generator expression's body: A1 the around in which it is woken -/
abbrev genCx (X : Cx) (A1 : Around) (G : Expr) (it : Addr) (s : Shared) (H : Hp) (cenv : PySem.Env) (fp : List Addr) : Cx :=
  { X with A := A1.over (.compLoop G 0 (.ref it) .none cenv) [], s_0 := s, H_0 := H, env := cenv, outer := X.stack, stack := cenv :: X.stack, ex := fp, fn := fun _ => false, pn := [], xe := fun _ _ => False }
section
variable {X : Cx} {pins : List (Addr × Obj)} {σ : L2.St} {H : Hp} {s : Shared}
theorem clo_mem {scope : Scope} {own : List (Str × Nat)} (I : Inv X pins σ H s) (ok : BlkOk X.N X.env.scope scope own) {y : Str} {c : Addr} (hm : (y, c) ∈ cloFrom X.env.cells scope.names []) : X.env.cells.lookup y = some c ∧ c < s.heap.objs.size := by
  have hfree : ∀ y ∈ scope.names, y.2 = .free → ∃ c, X.env.cells.lookup y.1 = some c := fun y hy e => by
    rcases ok.free y hy e with k | k
    · exact I.ok.has _ (.inl k)
    · exact I.ok.has _ (.inr k)
  rcases cloFrom_mem hm with hm | ⟨h1, rfl⟩
  · cases hm
  · obtain ⟨c, hc⟩ := hfree _ h1 rfl
    rw [hc]
    obtain ⟨w, z⟩ := I.cell _ _ hc
    exact ⟨rfl, z.lt⟩
theorem gen_start {A1 : Around} {G1 G2 : Expr} {cl : List Comprehension} {sc0 : Scope} {gpos : Pos} {it : Addr} {scope : Scope} {own : List (Str × Nat)} {fp : List Addr} {code : Value} {h5 : Heap} {gens' : Array GenState} {tk : Nat} {m : Str → Option Value} {pins' : List (Addr × Obj)}
    (I : Inv X pins σ H s) (ok : BlkOk X.N X.env.scope scope own) (hN : X.N.Nodup) (hcell : ∀ y ∈ scope.names, y.2 ≠ .cell) (hfp : ∀ b ∈ fp, FpOk X pins H b ∧ b < s.heap.objs.size)
    (hh : A1.handled = none) (hfr : A1.frames = X.A.frames)
    (kp : ∀ b o, s.heap.get? b = some o → h5.get? b = some o) (hn : h5.Ns s.heap.objs.size m) (hb : AllBare gens')
    (hp : ∀ p ∈ pins', h5.get? p.1 = some p.2 ∧ H p.1 = none ∧ p.1 ≠ s.heap.objs.size ∧ p.1 ∉ frs X.stack ∧ ∀ v, p.2.data ≠ .cell v) :
    Inv (genCx X A1 (.GeneratorExp G1 cl sc0 gpos) it s H (genEnv scope (cloFrom X.env.cells scope.names []) s.heap.objs.size code builtinsNs X.env) fp) pins' (wipe σ (own.map (·.2))) H { s with heap := h5, gens := gens', toks := tk } := by
  have look : ∀ {y}, scope.names.lookup y = some .free → ∃ c, (cloFrom X.env.cells scope.names []).lookup y = some c ∧ X.env.cells.lookup y = some c := fun {y} hl => by
    have hy : (y, NameKind.free) ∈ scope.names := PySem.mem_of_lookup hl
    obtain ⟨c', e'⟩ := mem_lookup (cloFrom_has (cells := X.env.cells) (acc := []) hy)
    exact ⟨c', e', (clo_mem I ok (PySem.mem_of_lookup e')).1⟩
  have okB : (genCx X A1 (.GeneratorExp G1 cl sc0 gpos) it s H (genEnv scope (cloFrom X.env.cells scope.names []) s.heap.objs.size code builtinsNs X.env) fp).Ok := by
    refine ⟨I.ok.mod, ok.kind, I.ok.glob, rfl, Nat.le_refl _, fun y z c e1 e2 => ?_, fun y hy => ?_, fun y c z e => ?_, fun _ => ?_, ?_, .inr ⟨rfl, rfl⟩, fun b hb => ⟨?_, fun y c e z => ?_⟩, I.bs, Nat.le_trans I.ok.bsz I.sz, fun b o e hb => ?_, fun b hb z => ?_, I.stack, I.stkFree⟩
    · exact I.ok.inj y z c (clo_mem I ok (PySem.mem_of_lookup e1)).1 (clo_mem I ok (PySem.mem_of_lookup e2)).1
    · rcases hy with hy | hy
      · exact absurd rfl (hcell _ (PySem.mem_of_lookup hy))
      · obtain ⟨c, h1, _⟩ := look hy
        exact ⟨c, h1⟩
    · cases z
    · exact hh
    · have e : (A1.over (.compLoop (.GeneratorExp G1 cl sc0 gpos) 0 (.ref it) .none (genEnv scope (cloFrom X.env.cells scope.names []) s.heap.objs.size code builtinsNs X.env)) []).frames = pushEnvs (Code.envs (.compLoop (.GeneratorExp G1 cl sc0 gpos) 0 (.ref it) .none (genEnv scope (cloFrom X.env.cells scope.names []) s.heap.objs.size code builtinsNs X.env))) (pushEnvs (envsOf []) A1.frames) := rfl
      rw [hfr, I.ok.frames] at e
      exact e
    · exact Nat.ne_of_lt (hfp b hb).2
    · exact (hfp b hb).1.2.2.2.2.1 y c (clo_mem I ok (PySem.mem_of_lookup e)).1 z
    · rcases (hfp b hb).1.2.2.2.1 with z | z
      · exact I.ok.noex b o e z
      · exact absurd (Nat.lt_of_lt_of_le (Heap.lt_size e) (Nat.le_trans I.ok.bsz z)) (Nat.lt_irrefl _)
    · rcases List.mem_cons.mp (I.stkSub b z) with z | z
      · exact (hfp b hb).1.2.1 z
      · exact (hfp b hb).1.2.2.1 z
  refine ⟨okB, rfl, hb, Un.kept kp, ⟨m, hn, fun i y av e1 e2 e3 => ?_⟩, fun y c e => ?_, I.hok.fresh (Nat.le_refl _), fun y c e => ?_, fun p hp' => ?_, I.hok.kept kp, by rw [wipe_length]; exact I.len⟩
  · obtain ⟨e2, hne⟩ := wipe_some e2
    have e3 : Vis scope y := e3
    have hfr : scope.names.lookup y = some .free := by
      have no : ∀ k, scope.names.lookup y = some k → ¬ (k = .local ∨ k = .cell) := fun k e hh => by
        rcases ok.own _ (PySem.mem_of_lookup e) hh with e' | e'
        · obtain ⟨p, hp, hpy⟩ := List.mem_map.mp e'
          have e3 := ok.ix p hp
          have : p.1 = y := hpy
          rw [this] at e3
          exact hne (List.mem_map.mpr ⟨p, hp, nodup_ix hN e3 e1⟩)
        · exact e' (List.mem_of_getElem? e1)
      rcases e3 with e3 | e3 | e3
      · exact absurd (.inl rfl) (no _ e3)
      · exact absurd (.inr rfl) (no _ e3)
      · exact e3
    obtain ⟨m0, hn0, hl⟩ := I.loc
    have hvis : Vis X.env.scope y := (ok.free _ (PySem.mem_of_lookup hfr) rfl).elim (fun k => .inr (.inl k)) (fun k => .inr (.inr k))
    obtain ⟨w, r, q⟩ := hl i y av e1 e2 hvis
    refine ⟨w, r, .inr ⟨.inr hfr, ?_⟩⟩
    obtain ⟨c, h1, h2⟩ := look hfr
    rcases q with ⟨k, _⟩ | ⟨_, c', e', z⟩
    · have k : X.env.scope.names.lookup y = some .local := k
      rcases ok.free _ (PySem.mem_of_lookup hfr) rfl with k' | k' <;> rw [show X.env.scope.names.lookup y = _ from k'] at k <;> cases k
    · rw [h2] at e'; cases e'
      exact ⟨c, h1, z.keeps kp⟩
  · obtain ⟨w, z⟩ := I.cell y c (clo_mem I ok (PySem.mem_of_lookup e)).1
    exact ⟨w, z.keeps kp⟩
  · exact I.freeC y c (clo_mem I ok (PySem.mem_of_lookup e)).1
  · exact hp p hp'
end
end Gn
end
section
set_option Elab.async false
set_option linter.all false
set_option maxRecDepth 100000
set_option maxHeartbeats 1000000
/-! The loop of a generator expression, piece by piece between two yields. -/
namespace Gn
open PySem PySem.Spec PyProof.Rows L2
/-- what the loop is asked: W by turn, measure, what is out, heap; Z what whoever wakes it learns of an item, C when it is woken again -/
structure Lp (g : TG) (tt : TT) (te : TE) (vs : List Nat) (σ : L2.St) (J : It) (W : Nat → Nat → List V → Hp → Prop) (Done : List V → Hp → Prop) (Z C : V → Hp → Prop) : Prop where
  turn : ∀ i m ys H, W i m ys H → (J.stop i H ∧ Done ys H) ∨ (J.go i H ∧ 1 ≤ m ∧ ∃ Nx : List V → Hp → Prop, (∀ ys' H', Nx ys' H' → ∃ m', m' < m ∧ W (i + 1) m' ys' H') ∧
    ∀ x H', J.yld i H x H' → g x (wipe σ vs) H' fun σ2 H2 => wipe σ2 vs = wipe σ vs ∧ tt σ2 H2 fun b H3 => if b = true then te σ2 H3 fun y H4 => Z y H4 ∧ (C y H4 → Nx (ys ++ [y]) H4) else Nx ys H3)
/-- the around in which it is woken -/
structure Ar (X : Cx) (A1 : Around) : Prop where
  hd : A1.handled = X.A.handled
  fr : A1.frames = X.A.frames
  gd : A1.guards = X.A.guards
  dp : A1.depth = X.A.depth
  un : A1.units ≤ X.A.units + 4
theorem Ar.in2 {X : Cx} : Ar X X.A.in1.in1 := ⟨rfl, rfl, rfl, rfl, by show X.A.units + 1 + 1 ≤ _; omega⟩
theorem Ar.in4 {X : Cx} : Ar X X.A.in1.in1.in1.in1 := ⟨rfl, rfl, rfl, rfl, by show X.A.units + 1 + 1 + 1 + 1 ≤ _; omega⟩
theorem Ar.room {X : Cx} {A1 : Around} {k : Nat} {G1 : Expr} {cl : List Comprehension} {sc : Scope} {gpos : Pos} {it : Value} {cenv : PySem.Env} (h : Ar X A1) (r : Room (k + 1) X.A) : Room k (A1.over (.compLoop (.GeneratorExp G1 cl sc gpos) 0 it .none cenv) []) := by
  refine ⟨h.hd.trans r.hd, ?_, ?_⟩
  · have := r.dp
    have e : (A1.over (.compLoop (.GeneratorExp G1 cl sc gpos) 0 it .none cenv) []).depth = A1.depth + 0 + 1 := rfl
    rw [e, h.dp]; omega
  · have := r.un
    have := h.un
    have e : (A1.over (.compLoop (.GeneratorExp G1 cl sc gpos) 0 it .none cenv) []).units = A1.units + 0 + 3 := rfl
    rw [e]; omega
theorem Ar.guards {X : Cx} {A1 : Around} {G1 : Expr} {cl : List Comprehension} {sc : Scope} {gpos : Pos} {it : Value} {cenv : PySem.Env} (h : Ar X A1) (r : X.A.guards = some []) : (A1.over (.compLoop (.GeneratorExp G1 cl sc gpos) 0 it .none cenv) []).guards = some [] := by
  have e : (A1.over (.compLoop (.GeneratorExp G1 cl sc gpos) 0 it .none cenv) []).guards = A1.guards := rfl
  rw [e, h.gd, r]
section
variable {X : Cx} (PR : List V → List (Addr × Obj) → Prop) (Back : Value → Shared → Shared → Prop)
def genEnd (X : Cx) (τ : L2.St) (N0 : Nat) (Done : List V → Hp → Prop) : Nat → Shared → Shared → Prop := fun n _ s1 => ∃ ys H' pins, n + ys.length = N0 ∧ PR ys pins ∧ Inv X pins τ H' s1 ∧ Done ys H'
def genY (X : Cx) (τ : L2.St) (N0 : Nat) (Z C : V → Hp → Prop) : Protocol := fun n _ v s1 kap => ∃ ys y H' pins, n + 1 + ys.length = N0 ∧ RelV y v ∧ Z y H' ∧ PR ys pins ∧ Inv X pins τ H' s1 ∧ ∀ s'', Back v s1 s'' → C y H' → kap (.send .none) s''
end
theorem thnS {M : Model} {A A1 : Around} {α : Type} {m : Sem α} {Q : α → Shared → Prop} {Q' : α → Shared → Prop} {E : Value → Shared → Prop} {s : Shared} (h : wpAny M A m Q (fun _ _ => False) s) (hQ : ∀ a s', Q a s' → Q' a s') : wpAny M A m Q' E s := wpAny_mono h hQ fun _ _ z => False.elim z
theorem gen_loop {X : Cx} {A1 : Around} {elt tg iter : Expr} {ifs : List Expr} {scope : Scope} {gpos : Pos} {it : Addr} {s4 : Shared} {H0 : Hp} {cenv : PySem.Env} {fp : List Addr} {J : It} {tn : Nat → Heap → Prop} {g : TG} {tt : TT} {te : TE} {vs : List Nat} {σ : L2.St}
    {W : Nat → Nat → List V → Hp → Prop} {Done : List V → Hp → Prop} {Z C : V → Hp → Prop} {PR : List V → List (Addr × Obj) → Prop} {Back : Value → Shared → Shared → Prop} {N0 : Nat}
    (hc : X.calm = true) (hco : cenv.scope.isCoroutine = false)
    (T : Turn X.prog X.w X.K tg J fp it tn)
    (pg : PG (genCx X A1 (.GeneratorExp elt [⟨tg, iter, ifs, 0⟩] scope gpos) it s4 H0 cenv fp) tg g)
    (pt : PTs (genCx X A1 (.GeneratorExp elt [⟨tg, iter, ifs, 0⟩] scope gpos) it s4 H0 cenv fp) ifs tt)
    (pe : PE (genCx X A1 (.GeneratorExp elt [⟨tg, iter, ifs, 0⟩] scope gpos) it s4 H0 cenv fp) elt te)
    (L : Lp g tt te vs σ J W Done Z C)
    (hPR : ∀ ys pins, PR ys pins → ∀ p ∈ pins, ∀ b ∈ fp, p.1 ≠ b)
    (hBack : ∀ ys y v s1 s2 H' pins, PR ys pins → RelV y v → Inv (genCx X A1 (.GeneratorExp elt [⟨tg, iter, ifs, 0⟩] scope gpos) it s4 H0 cenv fp) pins (wipe σ vs) H' s1 → Back v s1 s2 →
      ∃ pins', PR (ys ++ [y]) pins' ∧ Inv (genCx X A1 (.GeneratorExp elt [⟨tg, iter, ifs, 0⟩] scope gpos) it s4 H0 cenv fp) pins' (wipe σ vs) H' s2 ∧ ∀ b ∈ fp, ∀ o, s1.heap.get? b = some o → s2.heap.get? b = some o) :
    ∀ (m n i : Nat) (ys : List V) (s₀ s : Shared) (H : Hp) (pins : List (Addr × Obj)), m ≤ n → n + ys.length = N0 → W i m ys H → PR ys pins → Inv (genCx X A1 (.GeneratorExp elt [⟨tg, iter, ifs, 0⟩] scope gpos) it s4 H0 cenv fp) pins (wipe σ vs) H s → tn i s.heap → (∀ b ∈ fp, H b = none) →
      Seg (model X.prog X.w) A1 (fun n s₀ r s₁ => r = .ok .next ∧ genEnd PR (genCx X A1 (.GeneratorExp elt [⟨tg, iter, ifs, 0⟩] scope gpos) it s4 H0 cenv fp) (wipe σ vs) N0 Done n s₀ s₁) (genY PR Back (genCx X A1 (.GeneratorExp elt [⟨tg, iter, ifs, 0⟩] scope gpos) it s4 H0 cenv fp) (wipe σ vs) N0 Z C) n s₀
        (.compLoop (.GeneratorExp elt [⟨tg, iter, ifs, 0⟩] scope gpos) 0 (.ref it) .none cenv) ((model X.prog X.w).den (.compLoop (.GeneratorExp elt [⟨tg, iter, ifs, 0⟩] scope gpos) 0 (.ref it) .none cenv)) [] s := by
  intro m
  induction m using Nat.strongRecOn with
  | ind m ih =>
    intro n i ys s₀ s H pins hmn hN0 w0 hpr I st nf
    have stat : ∀ {pins' : List (Addr × Obj)} {σ' : L2.St} {H' : Hp} {s' : Shared}, Inv (genCx X A1 (.GeneratorExp elt [⟨tg, iter, ifs, 0⟩] scope gpos) it s4 H0 cenv fp) pins' σ' H' s' → (∀ p ∈ pins', ∀ b ∈ fp, p.1 ≠ b) → (∀ b ∈ fp, H' b = none) → ∀ b ∈ fp, FpOk (genCx X A1 (.GeneratorExp elt [⟨tg, iter, ifs, 0⟩] scope gpos) it s4 H0 cenv fp) pins' H' b := fun {pins' σ' H' s'} I' hp hn b hb =>
      ⟨hn b hb, (I'.ok.exf b hb).1, I'.ok.exfs b hb, .inl hb, fun x c e => (I'.ok.exf b hb).2 x c e, fun p hp' => hp p (by simpa using hp') b hb⟩
    show Seg _ A1 _ _ _ s₀ _ ((compTurn (.GeneratorExp elt [⟨tg, iter, ifs, 0⟩] scope gpos) 0 (.ref it) .none cenv).onRaise (leaving cenv)) [] s
    rw [compTurn_gen, Sem.onRaise_eq_wrap]
    refine seg_bind_wrap (wpAny_standAt ?_)
    rcases L.turn i m ys H w0 with ⟨stop, done⟩ | ⟨go, m1, Nx, hNx, step⟩
    · have td := T.done (genCx X A1 (.GeneratorExp elt [⟨tg, iter, ifs, 0⟩] scope gpos) it s4 H0 cenv fp) rfl rfl rfl hc i pins s _ H (fun _ _ => False) I (stat I (hPR ys pins hpr) nf) st stop
      refine seg_bind_wrap (thnS (A1 := A1) td fun r s6 ⟨hr, I6⟩ => ?_)
      subst hr
      exact seg_end (.ok .next) ⟨rfl, ys, H, pins, hN0, hpr, I6, done⟩
    · have ti := T.item (genCx X A1 (.GeneratorExp elt [⟨tg, iter, ifs, 0⟩] scope gpos) it s4 H0 cenv fp) rfl rfl rfl hc i pins s _ H (fun _ _ => False) I (stat I (hPR ys pins hpr) nf) st go
      refine seg_bind_wrap (thnS (A1 := A1) ti fun r s6 ⟨u, hr, h6⟩ => ?_)
      subst hr
      refine seg_bind_wrap (thnS (A1 := A1) h6 fun _ s7 ⟨x, H7, I7, r7, y7, st7, n7⟩ => ?_)
      have I7' := I7.pinned (stat I7 (hPR ys pins hpr) n7) (T.obj _ _ st7)
      refine seg_bind_wrap (thnS (A1 := A1) (pg.run _ s7 _ H7 x u _ I7' r7 (step x H7 y7)) fun _ s8 ⟨σ8, H8, I8, hw8, q8⟩ => ?_)
      refine seg_bind_wrap (thnS (A1 := A1) (pt.run _ s8 σ8 H8 _ I8 q8) fun b s9 ⟨H9, I9, q9⟩ => ?_)
      -- the turn's end
      have hl : (wipe σ vs).length = σ8.length := by rw [← hw8, wipe_length]
      have fin : ∀ {s' : Shared} {H' : Hp}, Inv (genCx X A1 (.GeneratorExp elt [⟨tg, iter, ifs, 0⟩] scope gpos) it s4 H0 cenv fp) (pins ++ pinsAt fp s7.heap) σ8 H' s' → Inv (genCx X A1 (.GeneratorExp elt [⟨tg, iter, ifs, 0⟩] scope gpos) it s4 H0 cenv fp) pins (wipe σ vs) H' s' ∧ tn (i + 1) s'.heap ∧ ∀ b ∈ fp, H' b = none := fun {s' H'} I' => by
        have pin' : ∀ b ∈ fp, ∀ o, s7.heap.get? b = some o → s'.heap.get? b = some o ∧ H' b = none := fun b hb o e =>
          let z := I'.pin (b, o) (List.mem_append_right _ (List.mem_append_right _ (mem_pinsAt hb e)))
          ⟨z.1, z.2.1⟩
        refine ⟨I'.unpinned.weak hl (fun j v e => ?_), T.keep _ _ _ st7 fun b hb o e => (pin' b hb o e).1, fun b hb => ?_⟩
        · rw [← hw8] at e
          exact (wipe_some e).1
        · obtain ⟨o, e, _⟩ := T.obj _ _ st7 b hb
          exact (pin' b hb o e).2
      cases b with
      | false =>
        simp only [Bool.false_eq_true, if_false] at q9 ⊢
        obtain ⟨m', hm, w'⟩ := hNx ys H9 q9
        obtain ⟨a1, a2, a3⟩ := fin I9
        exact seg_again rfl (ih m' hm n (i + 1) ys s₀ s9 H9 pins (by omega) hN0 w' hpr a1 a2 a3)
      | true =>
        simp only [if_true] at q9 ⊢
        have hy : ∀ v, yieldOut cenv v = yieldValue v := fun v => by simp only [yieldOut, hco, Bool.false_eq_true, if_false]
        simp only [hy]
        rw [Sem.bind_eq_wrap', Sem.bind_eq_wrap', Sem.wrap_wrap, Sem.wrap_wrap]
        refine seg_wrap (thnS (A1 := A1) (pe.run _ s9 σ8 H9 _ I9 q9) fun z s10 ⟨yv, H10, I10, r10, hZ, hC⟩ => ?_)
        obtain ⟨a1, a2, a3⟩ := fin I10
        obtain ⟨n', rfl⟩ : ∃ n', n = n' + 1 := ⟨n - 1, by omega⟩
        refine seg_at (seg_yield rfl rfl rfl ⟨ys, yv, H10, pins, by omega, r10, hZ, hpr, a1, fun s'' hb hcc => ?_⟩)
        obtain ⟨m', hm, w'⟩ := hNx _ H10 (hC hcc)
        obtain ⟨pins', p1, p2, p3⟩ := hBack ys yv z s10 s'' H10 pins hpr r10 a1 hb
        exact seg_again rfl (ih m' hm n' (i + 1) (ys ++ [yv]) s'' s'' H10 pins' (by omega) (by rw [List.length_append]; simp; omega) w' p1 p2 (T.keep _ _ _ a2 p3) a3)
end Gn
end
section
set_option Elab.async false
set_option linter.all false
set_option maxRecDepth 100000
set_option maxHeartbeats 1000000
/-! A generator expression is made; it begins. -/
namespace Gn
open PySem PySem.Spec PyProof.Rows L2
/-- the generator's own object -/
abbrev gObj (env : PySem.Env) (g tk : Nat) : Obj := { cls := .type "generator", data := .fields #[.int g 0, .str "<genexpr>" (tk + 1), .str (env.qual ++ "<genexpr>") (tk + 1 + 1)] }
structure GSc (scope : Scope) : Prop where
  co : scope.isCoroutine = false
  cell : ∀ y ∈ scope.names, y.2 ≠ .cell
  dot : scope.names.lookup (".0" : Str) = some NameKind.local
section
variable {X : Cx} {pins : List (Addr × Obj)} {σ : L2.St} {H : Hp} {s : Shared}
theorem gen_eval {elt tg iter : Expr} {ifs : List Expr} {scope : Scope} {gpos : Pos} {wi : TI} {c P : Addr} {Q' : Value → Shared → Prop} {k : Nat} {own : List (Str × Nat)} {Kp : It → Hp → Prop}
    (hr : Room k X.A) (TB : GxR.TabB X.base X.mg c P) (hcode : X.env.code = .ref c) (S : GSc scope) (ok : BlkOk X.N X.env.scope scope own) (I : Inv X pins σ H s) (hi : PI X tg iter wi) (hs : ∀ v, genFold iter X.env v = pure v)
    (h : wi σ H fun J H1 => GxR.TabG H1 P ∧ ∀ H2, GxR.Tabbed P H1 H2 → Kp J H2)
    (hQ : ∀ (it : Addr) (fp : List Addr) (tn : Nat → Heap → Prop) (J : It) (H2 : Hp) (s4 : Shared) (code : Value) (h' : Heap) (m : Str → Option Value), Inv X pins σ H2 s4 → Turn X.prog X.w X.K tg J fp it tn → tn 0 s4.heap → (∀ b ∈ fp, FpOk X pins H2 b ∧ b < s4.heap.objs.size) → Kp J H2 →
      h'.Ns s4.heap.objs.size m → (∀ b o, s4.heap.get? b = some o → h'.get? b = some o) → h'.objs.size = s4.heap.objs.size + 1 →
      Q' (.ref h'.objs.size) { s4 with
        gens := s4.gens.push (.fresh (.compStart (.GeneratorExp elt [⟨tg, iter, ifs, 0⟩] scope gpos) 0 (.ref it) .none (genEnv scope (cloFrom X.env.cells scope.names []) s4.heap.objs.size code builtinsNs X.env))),
        toks := s4.toks + 1 + 1 + 1, heap := h'.push (gObj X.env s4.gens.size s4.toks) }) :
    wpAny (model X.prog X.w) X.A (eval (.GeneratorExp elt [⟨tg, iter, ifs, 0⟩] scope gpos) X.env) Q' X.xe s := by
  have hfree : ∀ y ∈ scope.names, y.2 = .free → ∃ c, X.env.cells.lookup y.1 = some c := fun y hy e => by
    rcases ok.free y hy e with k | k
    · exact I.ok.has _ (.inl k)
    · exact I.ok.has _ (.inr k)
  refine wpAny_GeneratorExp_make S.co (closure_ok hfree) S.cell S.dot ok.kind hr.depth ?_ hs
  refine thn (hi.run pins s σ H _ I h) fun xv s1 hx => thn hx fun itv s2 h2 => ?_
  obtain ⟨it, fp, tn, J, H1, e, I2, T, st2, f2, ⟨ps, hP, ht⟩, q⟩ := h2
  subst e
  refine ⟨I2.nolimit, ?_⟩
  have hPs : s2.heap.get? P = some { cls := .none, data := .fields ps } := I2.hok P _ hP
  have cd : PySem.W.CodeHd s2.heap c P := TB.code.keeps fun b u e => I2.bk b u e
  have nP : ∀ b ∈ fp, b ≠ P := fun b hb z => by
    have := (f2 b hb).1
    rw [z, hP] at this; cases this
  -- behind the code's look
  have cont : ∀ (code : Value) (s3 : Shared) (H2 : Hp), Inv X pins σ H2 s3 → GxR.Tabbed P H1 H2 → (∀ b ∈ fp, ∀ o, s2.heap.get? b = some o → s3.heap.get? b = some o) →
      wpAny (model X.prog X.w) X.A (builtinsFor X.env.globals X.env.builtins) (fun bi s₄ =>
        ∀ h', h'.Ns s₄.heap.objs.size (fun y => if y = ".0" then some (.ref it) else none) → Heap.SameBut s₄.heap.objs.size (s₄.heap.push { cls := .type "frame", data := .dict #[] }) h' →
          Q' (.ref h'.objs.size) { s₄ with
            gens := s₄.gens.push (.fresh (.compStart (.GeneratorExp elt [⟨tg, iter, ifs, 0⟩] scope gpos) 0 (.ref it) .none (genEnv scope (cloFrom X.env.cells scope.names []) s₄.heap.objs.size code bi X.env))),
            toks := s₄.toks + 1 + 1 + 1,
            heap := h'.push { cls := .type "generator", data := .fields #[.int s₄.gens.size 0, .str "<genexpr>" (s₄.toks + 1), .str (X.env.qual ++ "<genexpr>") (s₄.toks + 1 + 1)] } }) X.xe s3 := by
    intro code s3 H2 I3 tab keep
    obtain ⟨bm, ob, e1, e2, e3, e4, e5, e6, e7, e8⟩ := TB.bm
    refine wpAny_builtinsFor (m := X.mg) (by rw [I3.ok.glob]; exact I3.mod.glob.keeps I3.bk) e1 e2 (I3.bk _ _ e5) e6 e7 e8 ?_
    intro h' hn' hs'
    have keep' : ∀ b o, s3.heap.get? b = some o → h'.get? b = some o := fun b o e => hs'.extBut b o (Nat.ne_of_lt (Heap.lt_size e)) (Heap.get?_push_of_some _ e)
    have hsz : h'.objs.size = s3.heap.objs.size + 1 := by rw [hs'.1, Heap.size_push]
    refine hQ it fp tn J H2 s3 code h' _ I3 T (T.keep _ _ _ st2 keep) (fun b hb => ?_) (q H2 tab) hn' keep' hsz
    obtain ⟨o, eo, _⟩ := T.obj _ _ st2 b hb
    refine ⟨⟨?_, (f2 b hb).2⟩, Heap.lt_size (keep b hb o eo)⟩
    rw [tab.2 b (nP b hb)]
    exact (f2 b hb).1
  cases hf : codeAmong gpos ps.toList with
  | none =>
    refine wpAny_genexprCodeX hcode (cd.code hPs ht) (cd.tab hPs) hf fun c' h' tk hx hge hlt hco' _ htab' _ => ?_
    obtain ⟨o1, vs1, f1, tf, fl, tg', inF, tx, tt, op, _, _, _, _, _, _, _, _, _, htr, _⟩ := hco'
    have J2 := GxR.inv_tab (more := #[rawInt gpos.line, rawInt gpos.col, .ref c']) (h' := h') (g' := s2.gens) (d' := s2.drawn) (t' := tk) I2 hP (fun b o hb e => hx b o hb e) htab'.2 I2.bare
    exact cont _ { s2 with heap := h', toks := tk } _ J2 ⟨⟨_, upd_same, htr⟩, fun b hb => upd_ne hb⟩ fun b hb o e => hx b o (nP b hb) e
  | some cv =>
    refine wpAny_genexprCode_hit hcode (cd.code hPs ht) hf ?_
    exact cont cv s2 H1 I2 ⟨⟨ps, hP, ht⟩, fun _ _ => rfl⟩ fun b hb o e => e
end
/-- it begins -/
theorem gen_begin {X : Cx} {A1 : Around} {elt tg iter : Expr} {ifs : List Expr} {scope : Scope} {gpos : Pos} {it : Addr} {cenv : PySem.Env} {J : It} {fp : List Addr} {tn : Nat → Heap → Prop} {R : GenEnd} {Y : Protocol} {n : Nat} {s₀ s : Shared}
    (T : Turn X.prog X.w X.K tg J fp it tn) (st : tn 0 s.heap)
    (loop : Seg (model X.prog X.w) A1 R Y n s₀ (.compLoop (.GeneratorExp elt [⟨tg, iter, ifs, 0⟩] scope gpos) 0 (.ref it) .none cenv) ((model X.prog X.w).den (.compLoop (.GeneratorExp elt [⟨tg, iter, ifs, 0⟩] scope gpos) 0 (.ref it) .none cenv)) [] s) :
    Seg (model X.prog X.w) A1 R Y n s₀ (.compStart (.GeneratorExp elt [⟨tg, iter, ifs, 0⟩] scope gpos) 0 (.ref it) .none cenv) ((model X.prog X.w).den (.compStart (.GeneratorExp elt [⟨tg, iter, ifs, 0⟩] scope gpos) 0 (.ref it) .none cenv)) [] s := by
  show Seg _ A1 _ _ _ s₀ _ ((compStart (.GeneratorExp elt [⟨tg, iter, ifs, 0⟩] scope gpos) 0 (.ref it) .none cenv).onRaise (leaving cenv)) [] s
  unfold compStart
  rw [Sem.onRaise_eq_wrap]
  show Seg _ A1 _ _ _ s₀ _ ((ask >>= _).wrap _ _ _ _) [] s
  refine seg_bind_wrap (wpAny_askSetting ?_)
  split
  · exact seg_again rfl loop
  · first
      | exact seg_bind_wrap (wpAny_rule (seg_bind_wrap (wpAny_standAt (seg_bind_wrap (T.self _ 0 s _ _ st (seg_again rfl loop))))))
      | (refine seg_bind_wrap (wpAny_rule ?_); show Seg _ A1 _ _ _ s₀ _ ((standAt iter.pos >>= _).wrap _ _ _ _) [] s; exact seg_bind_wrap (wpAny_standAt (seg_bind_wrap (T.self _ 0 s _ _ st (seg_again rfl loop)))))
section
variable {prog : Program} {w : World} {A : Around} {a : Addr} {g : Nat} {P : Nat → Shared → Shared → Prop} {Y : Protocol} {Rc : Result → Shared → Prop}
/-- all(generator): it is woken until it says no -/
theorem all_loop (hh : A.handled = none) (hroom : A.depth < recursionLimit)
    (hP : ∀ n s₀ s₁, P n s₀ s₁ → ∀ h', (∀ b o, s₁.heap.get? b = some o → h'.get? b = some o) → Rc (.ok (.ret (.bool true))) { s₁.setGen g .finished with heap := h' })
    (hY : ∀ n s₀ v s₁ kap, Y n s₀ v s₁ kap → s₁.heap.IsGen a g ∧ s₁.heap.NoLimit ∧ ∃ c, v = .bool c ∧ (c = false → ∀ gs', gs'.bare = true → Rc (.ok (.ret (.bool false))) (s₁.setGen g gs')) ∧ (c = true → ∀ gs', gs'.bare = true → kap (.send .none) ((s₁.setGen g gs').setGen g .running))) :
    ∀ (n : Nat) (s : Shared) (gs : GenState), s.heap.IsGen a g → s.heap.NoLimit → s.gens[g]? = some gs → gs.Goes (model prog w) A.in1.in1 (fun n s₀ r s₁ => r = .ok .next ∧ P n s₀ s₁) Y n (.send .none) (s.setGen g .running) →
      codeAny (model prog w) A (.builtin "all.loop" ⟨[.ref a], []⟩) Rc s := by
  intro n
  induction n with
  | zero =>
    intro s gs hg hl hgs hgo
    have hlt : g + 1 ≤ s.gens.size := (Array.getElem?_eq_some_iff.mp hgs).1
    refine codeAny_builtin F.entry_all_loop ?_
    rw [Around.under_plainId F.plain_all_loop _]
    show wpAny _ A.in1 (pyNext (.ref a) >>= _) _ _ s
    refine wpAny_bind (GenW.wpAny_gsz hlt ?_)
    refine wpAny_pyNext_genexpQ (A := A.in1) hh hl hroom hg hgs hgo (fun v s₁ gs' hb hv hsz => ?_) (fun s₁ hp h' hk hsz => ?_)
    · obtain ⟨y1, y2, c, rfl, y3, y4⟩ := hY _ _ _ _ _ hv
      refine wpAny_bind (wpAny_holding (wpAny_truthy_bool ?_))
      refine wpAny_bind (wpAny_letGo ?_)
      cases c with
      | true => exact False.elim (y4 rfl gs' hb)
      | false =>
        simp only [Bool.false_eq_true, if_false]
        exact wpAny_bind (wpAny_rule (wpAny_pure (y3 rfl gs' hb)))
    · exact wpAny_bind (wpAny_rule (wpAny_pure (hP _ _ _ hp h' hk)))
  | succ n ih =>
    intro s gs hg hl hgs hgo
    have hlt : g + 1 ≤ s.gens.size := (Array.getElem?_eq_some_iff.mp hgs).1
    refine codeAny_builtin F.entry_all_loop ?_
    rw [Around.under_plainId F.plain_all_loop _]
    show wpAny _ A.in1 (pyNext (.ref a) >>= _) _ _ s
    refine wpAny_bind (GenW.wpAny_gsz hlt ?_)
    refine wpAny_pyNext_genexpQ (A := A.in1) hh hl hroom hg hgs hgo (fun v s₁ gs' hb hv hsz => ?_) (fun s₁ hp h' hk hsz => ?_)
    · obtain ⟨y1, y2, c, rfl, y3, y4⟩ := hY _ _ _ _ _ hv
      refine wpAny_bind (wpAny_holding (wpAny_truthy_bool ?_))
      refine wpAny_bind (wpAny_letGo ?_)
      cases c with
      | true =>
        simp only [if_true]
        refine wpAny_pure ⟨plainId_quiet F.plain_all_loop _, ih _ gs' y1 y2 ?_ (y4 rfl gs' hb)⟩
        rw [GenW.setGen_size] at hsz
        simp [Shared.setGen, show g < s₁.gens.size from hsz]
      | false =>
        simp only [Bool.false_eq_true, if_false]
        exact wpAny_bind (wpAny_rule (wpAny_pure (y3 rfl gs' hb)))
    · exact wpAny_bind (wpAny_rule (wpAny_pure (hP _ _ _ hp h' hk)))
/-- any(generator): it is woken until it says yes -/
theorem any_loop (hh : A.handled = none) (hroom : A.depth < recursionLimit)
    (hP : ∀ n s₀ s₁, P n s₀ s₁ → ∀ h', (∀ b o, s₁.heap.get? b = some o → h'.get? b = some o) → Rc (.ok (.ret (.bool false))) { s₁.setGen g .finished with heap := h' })
    (hY : ∀ n s₀ v s₁ kap, Y n s₀ v s₁ kap → s₁.heap.IsGen a g ∧ s₁.heap.NoLimit ∧ ∃ c, v = .bool c ∧ (c = true → ∀ gs', gs'.bare = true → Rc (.ok (.ret (.bool true))) (s₁.setGen g gs')) ∧ (c = false → ∀ gs', gs'.bare = true → kap (.send .none) ((s₁.setGen g gs').setGen g .running))) :
    ∀ (n : Nat) (s : Shared) (gs : GenState), s.heap.IsGen a g → s.heap.NoLimit → s.gens[g]? = some gs → gs.Goes (model prog w) A.in1.in1 (fun n s₀ r s₁ => r = .ok .next ∧ P n s₀ s₁) Y n (.send .none) (s.setGen g .running) →
      codeAny (model prog w) A (.builtin "any.loop" ⟨[.ref a], []⟩) Rc s := by
  intro n
  induction n with
  | zero =>
    intro s gs hg hl hgs hgo
    have hlt : g + 1 ≤ s.gens.size := (Array.getElem?_eq_some_iff.mp hgs).1
    refine codeAny_builtin F.entry_any_loop ?_
    rw [Around.under_plainId F.plain_any_loop _]
    show wpAny _ A.in1 (pyNext (.ref a) >>= _) _ _ s
    refine wpAny_bind (GenW.wpAny_gsz hlt ?_)
    refine wpAny_pyNext_genexpQ (A := A.in1) hh hl hroom hg hgs hgo (fun v s₁ gs' hb hv hsz => ?_) (fun s₁ hp h' hk hsz => ?_)
    · obtain ⟨y1, y2, c, rfl, y3, y4⟩ := hY _ _ _ _ _ hv
      refine wpAny_bind (wpAny_holding (wpAny_truthy_bool ?_))
      refine wpAny_bind (wpAny_letGo ?_)
      cases c with
      | false => exact False.elim (y4 rfl gs' hb)
      | true =>
        simp only [if_true]
        exact wpAny_bind (wpAny_rule (wpAny_pure (y3 rfl gs' hb)))
    · exact wpAny_bind (wpAny_rule (wpAny_pure (hP _ _ _ hp h' hk)))
  | succ n ih =>
    intro s gs hg hl hgs hgo
    have hlt : g + 1 ≤ s.gens.size := (Array.getElem?_eq_some_iff.mp hgs).1
    refine codeAny_builtin F.entry_any_loop ?_
    rw [Around.under_plainId F.plain_any_loop _]
    show wpAny _ A.in1 (pyNext (.ref a) >>= _) _ _ s
    refine wpAny_bind (GenW.wpAny_gsz hlt ?_)
    refine wpAny_pyNext_genexpQ (A := A.in1) hh hl hroom hg hgs hgo (fun v s₁ gs' hb hv hsz => ?_) (fun s₁ hp h' hk hsz => ?_)
    · obtain ⟨y1, y2, c, rfl, y3, y4⟩ := hY _ _ _ _ _ hv
      refine wpAny_bind (wpAny_holding (wpAny_truthy_bool ?_))
      refine wpAny_bind (wpAny_letGo ?_)
      cases c with
      | false =>
        simp only [Bool.false_eq_true, if_false]
        refine wpAny_pure ⟨plainId_quiet F.plain_any_loop _, ih _ gs' y1 y2 ?_ (y4 rfl gs' hb)⟩
        rw [GenW.setGen_size] at hsz
        simp [Shared.setGen, show g < s₁.gens.size from hsz]
      | true =>
        simp only [if_true]
        exact wpAny_bind (wpAny_rule (wpAny_pure (y3 rfl gs' hb)))
    · exact wpAny_bind (wpAny_rule (wpAny_pure (hP _ _ _ hp h' hk)))
end
end Gn
end
section
set_option Elab.async false
set_option linter.all false
set_option maxRecDepth 100000
set_option maxHeartbeats 1000000
/-! all(..), any(..) of a generator expression. -/
namespace Gn
open PySem PySem.Spec PyProof.Rows L2
/-- yes: what it is if each one says so -/
def tAllG (P : Addr) (yes : Bool) (wi : TI) (g : TG) (tt : TT) (te : TE) (vs : List Nat) : TE := fun σ H Q => wi σ H fun J H1 => GxR.TabG H1 P ∧ ∀ H2, GxR.Tabbed P H1 H2 → ∃ W : Nat → Nat → Hp → Prop, (∃ m, W 0 m H2) ∧ ∀ i m H, W i m H →
  (J.stop i H ∧ Q (.bl yes) H) ∨ (J.go i H ∧ 1 ≤ m ∧ ∃ Nx : Hp → Prop, (∀ H', Nx H' → ∃ m', m' < m ∧ W (i + 1) m' H') ∧ ∀ x H', J.yld i H x H' → g x (wipe σ vs) H' fun σ2 H2 => wipe σ2 vs = wipe σ vs ∧ tt σ2 H2 fun b H3 =>
    if b = true then te σ2 H3 fun y H4 => (∃ c, y = .bl c ∧ (c = !yes → Q (.bl (!yes)) H4)) ∧ (y = .bl yes → Nx H4) else Nx H3)
theorem Inv.same {X : Cx} {pins : List (Addr × Obj)} {σ : L2.St} {H : Hp} {s s' : Shared} (I : Inv X pins σ H s) (ho : s'.os = s.os) (hb : AllBare s'.gens) (hh : s'.heap = s.heap) : Inv X pins σ H s' :=
  ⟨I.ok, ho.trans I.os, hb, by rw [hh]; exact I.base, by rw [hh]; exact I.loc, by rw [hh]; exact I.cell, I.free, I.freeC, by rw [hh]; exact I.pin, by rw [hh]; exact I.hok, I.len⟩
abbrev GCx (X : Cx) (elt tg iter : Expr) (ifs : List Expr) (scope : Scope) (gpos : Pos) (A1 : Around) (it : Addr) (s : Shared) (H : Hp) (C : Addr) (code : Value) (fp : List Addr) : Cx :=
  genCx X A1 (.GeneratorExp elt [⟨tg, iter, ifs, 0⟩] scope gpos) it s H (genEnv scope (cloFrom X.env.cells scope.names []) C code builtinsNs X.env) fp
section
variable {X : Cx} {elt tg iter : Expr} {ifs : List Expr} {scope : Scope} {gpos p pos : Pos} {own : List (Str × Nat)} {wi : TI} {g : TG} {tt : TT} {te : TE} {c P : Addr} {k : Nat}
/-- what stands when the generator is made, for all and any -/
theorem all_ready {pins : List (Addr × Obj)} {σ : L2.St} {Q : VK} {yes : Bool} {it : Addr} {fp : List Addr} {tn : Nat → Heap → Prop} {J : It} {H2 : Hp} {s4 : Shared} {code : Value} {h' : Heap} {m : Str → Option Value} {W : Nat → Nat → Hp → Prop} {m0 : Nat}
    (hr : Room k X.A) (hc : X.calm = true) (hN : X.N.Nodup) (S : GSc scope) (ok : BlkOk X.N X.env.scope scope own)
    (hg : ∀ (A1 : Around) (it : Addr) (s : Shared) (H : Hp) (C : Addr) (code : Value) (fp : List Addr), PG (GCx X elt tg iter ifs scope gpos A1 it s H C code fp) tg g)
    (ht : ∀ (A1 : Around) (it : Addr) (s : Shared) (H : Hp) (C : Addr) (code : Value) (fp : List Addr), Ar X A1 → PTs (GCx X elt tg iter ifs scope gpos A1 it s H C code fp) ifs tt)
    (he : ∀ (A1 : Around) (it : Addr) (s : Shared) (H : Hp) (C : Addr) (code : Value) (fp : List Addr), Ar X A1 → PE (GCx X elt tg iter ifs scope gpos A1 it s H C code fp) elt te)
    (I4 : Inv X pins σ H2 s4) (T : Turn X.prog X.w X.K tg J fp it tn) (st4 : tn 0 s4.heap) (f4 : ∀ b ∈ fp, FpOk X pins H2 b ∧ b < s4.heap.objs.size) (hn' : h'.Ns s4.heap.objs.size m) (keep' : ∀ b o, s4.heap.get? b = some o → h'.get? b = some o) (hsz : h'.objs.size = s4.heap.objs.size + 1) (w0 : W 0 m0 H2)
    (turn : ∀ i m H, W i m H → (J.stop i H ∧ Q (.bl yes) H) ∨ (J.go i H ∧ 1 ≤ m ∧ ∃ Nx : Hp → Prop, (∀ H', Nx H' → ∃ m', m' < m ∧ W (i + 1) m' H') ∧ ∀ x H', J.yld i H x H' → g x (wipe σ (own.map (·.2))) H' fun σ2 H2 => wipe σ2 (own.map (·.2)) = wipe σ (own.map (·.2)) ∧ tt σ2 H2 fun b H3 =>
      if b = true then te σ2 H3 fun y H4 => (∃ c, y = .bl c ∧ (c = !yes → Q (.bl (!yes)) H4)) ∧ (y = .bl yes → Nx H4) else Nx H3)) :
    ∃ (Pf : Nat → Shared → Shared → Prop) (Y : Protocol),
      (∀ n s₀ s₁, Pf n s₀ s₁ → ∀ h'', (∀ b o, s₁.heap.get? b = some o → h''.get? b = some o) → EP X pins σ Q (.bool yes) { s₁.setGen s4.gens.size .finished with heap := h'' }) ∧
      (∀ n s₀ v s₁ kap, Y n s₀ v s₁ kap → s₁.heap.IsGen h'.objs.size s4.gens.size ∧ s₁.heap.NoLimit ∧ ∃ c, v = .bool c ∧ (c = !yes → ∀ gs', gs'.bare = true → EP X pins σ Q (.bool (!yes)) (s₁.setGen s4.gens.size gs')) ∧ (c = yes → ∀ gs', gs'.bare = true → kap (.send .none) ((s₁.setGen s4.gens.size gs').setGen s4.gens.size .running))) ∧
      ∃ n, (GenState.fresh (.compStart (.GeneratorExp elt [⟨tg, iter, ifs, 0⟩] scope gpos) 0 (.ref it) .none (genEnv scope (cloFrom X.env.cells scope.names []) s4.heap.objs.size code builtinsNs X.env))).Goes (model X.prog X.w) X.A.in1.in1 (fun n s₀ r s₁ => r = .ok .next ∧ Pf n s₀ s₁) Y n (.send .none)
        (Shared.setGen { s4 with
          gens := s4.gens.push (.fresh (.compStart (.GeneratorExp elt [⟨tg, iter, ifs, 0⟩] scope gpos) 0 (.ref it) .none (genEnv scope (cloFrom X.env.cells scope.names []) s4.heap.objs.size code builtinsNs X.env))),
          toks := s4.toks + 1 + 1 + 1, heap := h'.push (gObj X.env s4.gens.size s4.toks) } s4.gens.size .running) := by
  let ob := gObj X.env s4.gens.size s4.toks
  let PR : List V → List (Addr × Obj) → Prop := fun _ pins => pins = [(h'.objs.size, ob)]
  let Back : Value → Shared → Shared → Prop := fun _ s1 s2 => s2.os = s1.os ∧ s2.heap = s1.heap ∧ AllBare s2.gens
  let Xg := GCx X elt tg iter ifs scope gpos X.A.in1.in1 it s4 H2 s4.heap.objs.size code fp
  have keep5 : ∀ b o, s4.heap.get? b = some o → (h'.push ob).get? b = some o := fun b o e => Heap.get?_push_of_some _ (keep' b o e)
  have nfs : h'.objs.size ∉ frs X.stack := fun hb => by
    rcases List.mem_cons.mp (I4.stkSub _ hb) with z | z
    · have := I4.lt
      rw [← z, hsz] at this
      exact absurd this (Nat.not_lt.mpr (Nat.le_succ _))
    · exact I4.nofs (by rw [hsz]; exact Nat.le_succ _) z
  have bareF : AllBare (Shared.setGen { s4 with
          gens := s4.gens.push (.fresh (.compStart (.GeneratorExp elt [⟨tg, iter, ifs, 0⟩] scope gpos) 0 (.ref it) .none (genEnv scope (cloFrom X.env.cells scope.names []) s4.heap.objs.size code builtinsNs X.env))),
          toks := s4.toks + 1 + 1 + 1, heap := h'.push ob } s4.gens.size .running).gens := allBare_setGen (I4.bare.push rfl) rfl
  have I5 := gen_start (A1 := X.A.in1.in1) (G1 := elt) (G2 := elt) (cl := [⟨tg, iter, ifs, 0⟩]) (sc0 := scope) (gpos := gpos) (it := it) (fp := fp) (code := code) (h5 := h'.push ob) (tk := s4.toks + 1 + 1 + 1) (pins' := [(h'.objs.size, ob)]) I4 ok hN S.cell f4 hr.hd rfl keep5 (hn'.push _) bareF (fun p hp => by
    rw [List.mem_singleton.mp hp]
    refine ⟨Heap.get?_push_size _ rfl, I4.hok.fresh (by rw [hsz]; exact Nat.le_succ _), by show h'.objs.size ≠ s4.heap.objs.size; rw [hsz]; exact Nat.succ_ne_self _, nfs, fun v z => by cases z⟩)
  have out : ∀ {pins' : List (Addr × Obj)} {H' : Hp} {s1 s2 : Shared}, Inv Xg pins' (wipe σ (own.map (·.2))) H' s1 → s2.os = s1.os → AllBare s2.gens → (∀ b o, s1.heap.get? b = some o → s2.heap.get? b = some o) → Inv X pins σ H' s2 := fun {pins' H' s1 s2} I6 ho hb hk =>
    I4.call' (ch := fp) (ho.trans I6.os) (I6.base.trans (Un.kept hk)) (I6.hok.kept hk) hb fun b hb => ⟨(f4 b hb).1.2.2.2.1, (f4 b hb).1.2.1, (f4 b hb).1.2.2.2.2.1, (f4 b hb).1.2.2.2.2.2⟩
  refine ⟨genEnd PR Xg (wipe σ (own.map (·.2))) m0 (fun _ H => Q (.bl yes) H), genY PR Back Xg (wipe σ (own.map (·.2))) m0 (fun y H => ∃ c, y = .bl c ∧ (c = !yes → Q (.bl (!yes)) H)) (fun y H => y = .bl yes), fun n s₀ s₁ hp h'' hk => ?_, fun n s₀ v s₁ kap hy => ?_, m0, rfl, ?_⟩
  · obtain ⟨ys, H', pins', _, hpr, I6, q⟩ := hp
    exact ⟨.bl yes, H', out I6 rfl (allBare_setGen I6.bare rfl) hk, rfl, q⟩
  · obtain ⟨ys, y, H', pins', _, rv, ⟨cc, rfl, z⟩, hpr, I6, cont⟩ := hy
    obtain rfl : v = Value.bool cc := rv
    have hpr : pins' = [(h'.objs.size, ob)] := hpr
    subst hpr
    have pin := I6.pin (h'.objs.size, ob) (by simp)
    refine ⟨⟨_, _, _, pin.1, rfl, rfl, rfl⟩, I6.nolimit, cc, rfl, fun e gs' hb => ?_, fun e gs' hb => ?_⟩
    · subst e
      exact ⟨.bl (!yes), H', out I6 rfl (allBare_setGen I6.bare hb) (fun _ _ e => e), rfl, z rfl⟩
    · subst e
      exact cont _ ⟨rfl, rfl, allBare_setGen (s := s₁.setGen s4.gens.size gs') (allBare_setGen I6.bare hb) rfl⟩ rfl
  · refine gen_begin T (T.keep _ _ _ st4 fun b hb o e => keep5 b o e) ?_
    refine gen_loop (W := fun i m _ H => W i m H) (PR := PR) (Back := Back) (N0 := m0) hc S.co T (hg _ _ _ _ _ _ _) (ht _ _ _ _ _ _ _ Ar.in2) (he _ _ _ _ _ _ _ Ar.in2) ⟨fun i m ys H w => ?_⟩ (fun ys pins' hpr p hp b hb => ?_) (fun ys y v s1 s2 H' pins' hpr rv I6 bk => ?_) m0 m0 0 [] _ _ H2 [(h'.objs.size, ob)] (Nat.le_refl _) (by simp) w0 rfl I5 (T.keep _ _ _ st4 fun b hb o e => keep5 b o e) (fun b hb => (f4 b hb).1.1)
    · rcases turn i m H w with q | ⟨q1, q2, Nx, q3, q4⟩
      · exact .inl q
      · refine .inr ⟨q1, q2, fun _ H => Nx H, fun ys' H' n => q3 H' n, fun x H' yy => ?_⟩
        exact q4 x H' yy
    · have hpr : pins' = [(h'.objs.size, ob)] := hpr
      rw [hpr] at hp
      rw [List.mem_singleton.mp hp]
      have := (f4 b hb).2
      show h'.objs.size ≠ b
      exact Nat.ne_of_gt (by rw [hsz]; exact Nat.lt_succ_of_lt this)
    · obtain ⟨b1, b2, b3⟩ := bk
      exact ⟨pins', hpr, Inv.same I6 b1 b3 b2, fun b hb o e => by rw [b2]; exact e⟩
variable (hr : Room k X.A) (hc : X.calm = true) (hN : X.N.Nodup) (TB : GxR.TabB X.base X.mg c P) (hcode : X.env.code = .ref c) (S : GSc scope) (ok : BlkOk X.N X.env.scope scope own) (hi : PI X tg iter wi)
    (hg : ∀ (A1 : Around) (it : Addr) (s : Shared) (H : Hp) (C : Addr) (code : Value) (fp : List Addr), PG (GCx X elt tg iter ifs scope gpos A1 it s H C code fp) tg g)
    (ht : ∀ (A1 : Around) (it : Addr) (s : Shared) (H : Hp) (C : Addr) (code : Value) (fp : List Addr), Ar X A1 → PTs (GCx X elt tg iter ifs scope gpos A1 it s H C code fp) ifs tt)
    (he : ∀ (A1 : Around) (it : Addr) (s : Shared) (H : Hp) (C : Addr) (code : Value) (fp : List Addr), Ar X A1 → PE (GCx X elt tg iter ifs scope gpos A1 it s H C code fp) elt te)
include hr hc hN TB hcode S ok hi hg ht he in
theorem pe_allG (hgl : Gl X "all") (hm : X.mg "all" = none) (hb : bootBuiltins "all" = some (.builtin "all")) (hs : ∀ v, genFold iter X.env v = pure v := by intro _; rfl)
    (hst : starEach [.GeneratorExp elt [⟨tg, iter, ifs, 0⟩] scope gpos] X.env = (false, eval (.GeneratorExp elt [⟨tg, iter, ifs, 0⟩] scope gpos) X.env) :: starEach [] X.env := by rfl) :
    PE X (.Call (.Name "all" p) [.GeneratorExp elt [⟨tg, iter, ifs, 0⟩] scope gpos] [] pos) (tAllG P true wi g tt te (own.map (·.2))) := by
  refine ⟨fun pins s σ H Q I h => ?_⟩
  refine wpAny_Call_Name_kw (ld_blt I hgl hm hb ?_)
  refine PyProof.Rows.callWith_builtin1 ?_ hst (by rfl)
  rw [hst]
  show wpAny _ _ (spliced ((false, eval (.GeneratorExp elt [⟨tg, iter, ifs, 0⟩] scope gpos) X.env) :: backTo pos (starEach [] X.env))) _ _ s
  refine Calls.spliced_cons (gen_eval hr TB hcode S ok I hi hs h fun it fp tn J H2 s4 code h' m I4 T st4 f4 q hn' keep' hsz => ?_)
  obtain ⟨W, ⟨m0, w0⟩, turn⟩ := q
  obtain ⟨Pf, Y, hP, hY, n, go⟩ := all_ready hr hc hN S ok hg ht he I4 T st4 f4 hn' keep' hsz w0 turn
  refine Calls.spliced_nil ?_
  have isg : (h'.push (gObj X.env s4.gens.size s4.toks)).IsGen h'.objs.size s4.gens.size := ⟨_, _, _, Heap.get?_push_size _ rfl, rfl, rfl, rfl⟩
  refine call_function_tree F.kind_all F.plain_all F.entry_all (F.args_all1 _) ?_
  unfold Builtin.«all»
  refine wpAny_bind (m := oneArg "all" _) (wpAny_pure ?_)
  refine wpAny_bind (wpAny_pyIter_gen isg ?_)
  refine wpAny_pure ⟨plainId_quiet F.plain_all_loop _, all_loop (P := Pf) (Y := Y) hr.hd hr.depth (fun n s₀ s₁ q => hP n s₀ s₁ q) (fun n s₀ v s₁ kap q => hY n s₀ v s₁ kap q) n _ _ isg (I4.nolimit.keeps fun b o e => Heap.get?_push_of_some _ (keep' b o e)) (Array.getElem?_push_size ..) go⟩
include hr hc hN TB hcode S ok hi hg ht he in
theorem pe_anyG (hgl : Gl X "any") (hm : X.mg "any" = none) (hb : bootBuiltins "any" = some (.builtin "any")) (hs : ∀ v, genFold iter X.env v = pure v := by intro _; rfl)
    (hst : starEach [.GeneratorExp elt [⟨tg, iter, ifs, 0⟩] scope gpos] X.env = (false, eval (.GeneratorExp elt [⟨tg, iter, ifs, 0⟩] scope gpos) X.env) :: starEach [] X.env := by rfl) :
    PE X (.Call (.Name "any" p) [.GeneratorExp elt [⟨tg, iter, ifs, 0⟩] scope gpos] [] pos) (tAllG P false wi g tt te (own.map (·.2))) := by
  refine ⟨fun pins s σ H Q I h => ?_⟩
  refine wpAny_Call_Name_kw (ld_blt I hgl hm hb ?_)
  refine PyProof.Rows.callWith_builtin1 ?_ hst (by rfl)
  rw [hst]
  show wpAny _ _ (spliced ((false, eval (.GeneratorExp elt [⟨tg, iter, ifs, 0⟩] scope gpos) X.env) :: backTo pos (starEach [] X.env))) _ _ s
  refine Calls.spliced_cons (gen_eval hr TB hcode S ok I hi hs h fun it fp tn J H2 s4 code h' m I4 T st4 f4 q hn' keep' hsz => ?_)
  obtain ⟨W, ⟨m0, w0⟩, turn⟩ := q
  obtain ⟨Pf, Y, hP, hY, n, go⟩ := all_ready hr hc hN S ok hg ht he I4 T st4 f4 hn' keep' hsz w0 turn
  refine Calls.spliced_nil ?_
  have isg : (h'.push (gObj X.env s4.gens.size s4.toks)).IsGen h'.objs.size s4.gens.size := ⟨_, _, _, Heap.get?_push_size _ rfl, rfl, rfl, rfl⟩
  refine call_function_tree F.kind_any F.plain_any F.entry_any (F.args_any1 _) ?_
  unfold Builtin.«any»
  refine wpAny_bind (m := oneArg "any" _) (wpAny_pure ?_)
  refine wpAny_bind (wpAny_pyIter_gen isg ?_)
  refine wpAny_pure ⟨plainId_quiet F.plain_any_loop _, any_loop (P := Pf) (Y := Y) hr.hd hr.depth (fun n s₀ s₁ q => hP n s₀ s₁ q) (fun n s₀ v s₁ kap q => hY n s₀ v s₁ kap q) n _ _ isg (I4.nolimit.keeps fun b o e => Heap.get?_push_of_some _ (keep' b o e)) (Array.getElem?_push_size ..) go⟩
end
end Gn
end
section
set_option Elab.async false
set_option linter.all false
set_option maxRecDepth 100000
set_option maxHeartbeats 1000000
/-! tuple(..) of a generator expression. -/
namespace Gn
open PySem PySem.Spec PyProof.Rows L2
section
variable {P : Program} {w : World} {outer : List PySem.Env} {H : Hp} {sc s : Shared} {ex : List Addr} {Q : List V → Hp → Prop} {A : Around} {a : Addr} {g : Nat} {c : Code} {E : Value → Shared → Prop}
/-- what wakes it: the list at S fills -/
def Wake (P : Program) (w : World) (A1 : Around) (outer : List PySem.Env) (H : Hp) (sc : Shared) (ex : List Addr) (Q : List V → Hp → Prop) (a : Addr) (g : Nat) (c : Code) (s : Shared) : Prop := ∀ (S : Addr) (s2 : Shared), s.heap.objs.size ≤ S → (∀ b o, s.heap.get? b = some o → s2.heap.get? b = some o) → (∃ c, s2.heap.get? S = some (lstObj #[] c)) → s2.os = s.os → AllBare s2.gens →
  Seg (model P w) A1 (REnd P w outer H sc ex S a g Q E0) (YItem sc S a g) sizeLine s2 c ((model P w).den c) [] s2
theorem collectG {Qc : List Value → Shared → Prop} (hh : A.handled = none) (hd : A.depth < recursionLimit) (ha : a < s.heap.objs.size) (hg : s.heap.IsGen a g) (hl : s.heap.NoLimit) (hgs : s.gens[g]? = some (.fresh c)) (hb : AllBare s.gens)
    (wake : Wake P w A.in1.in1 outer H sc ex Q a g c s)
    (hQ : ∀ S s' acc c H' ys, s.heap.objs.size ≤ S → s'.heap.get? S = some (lstObj acc c) → Vals ys acc.toList → ys.length ≤ sizeLine → s'.os = sc.os → AllBare s'.gens → Un (frs outer) ex H H' sc.heap s'.heap → HOk P w H' s'.heap → H' S = none → Q ys H' → Qc acc.toList s') :
    wpAny (model P w) A (collect (.ref a)) Qc E s := by
  have hSa : s.heap.objs.size ≠ a := Nat.ne_of_gt ha
  have hcl : cStatics < s.heap.objs.size := let ⟨_, hn, _⟩ := hl; hn.lt
  have hSc : s.heap.objs.size ≠ cStatics := Nat.ne_of_gt hcl
  unfold collect
  refine wpAny_bind (wpAny_runValue (codeAny_builtin F.entry_proto_collect ?_))
  rw [Around.under_plainId F.plain_proto_collect _]
  show wpAny _ A.in1 (newList [] >>= fun l => again (.builtin "list.__iadd__" ⟨[l, .ref a], []⟩)) _ _ s
  refine wpAny_bind (wpAny_newObj_type ?_)
  refine wpAny_pure ⟨plainId_quiet F.plain_list_iadd _, codeAny_builtin F.entry_list_iadd ?_⟩
  rw [Around.under_plainId F.plain_list_iadd _]
  show wpAny _ A.in1 (Builtin.List.listExtendWith (.ref s.heap.objs.size) (.ref a) (.ref s.heap.objs.size)) _ _ _
  unfold Builtin.List.listExtendWith
  have up : ∀ (h : Heap) (f : Obj → Obj), (∀ b o, s.heap.get? b = some o → h.get? b = some o) → ∀ b o, s.heap.get? b = some o → (h.update s.heap.objs.size f).get? b = some o := fun h f q b o e =>
    (Heap.get?_update_other _ _ (Ne.symm (Nat.ne_of_lt (Heap.lt_size e)))).trans (q b o e)
  have k1 : ∀ b o, s.heap.get? b = some o → (s.heap.push { cls := .type "list", data := .seq ([] : List Value).toArray }).get? b = some o := fun b o e => Heap.get?_push_of_some _ e
  have gty : ∀ {h : Heap}, (∀ b o, s.heap.get? b = some o → h.get? b = some o) → h.IsGen a g := fun {h} q => hg.keeps q
  refine wpAny_bind (wpAny_typeOf (Heap.IsGen.typeIs (s := { s with heap := _ }) (gty k1)) ?_)
  have h1 : Builtin.List.listSameRef (.ref s.heap.objs.size) (.ref a) = false := by simp [Builtin.List.listSameRef, hSa]
  have h2 : (Value.type "generator" == Value.type "list") = false := by decide
  have h3 : (Value.type "generator" == Value.type "tuple") = false := by decide
  simp only [h1, h2, h3, Bool.or_false, Bool.false_eq_true, if_false]
  refine wpAny_bind (wpAny_pyIter_gen (s := { s with heap := _ }) (gty k1) ?_)
  refine wpAny_bind (wpAny_holding ?_)
  unfold Builtin.List.listLengthHint
  refine wpAny_bind (wpAny_specialOf (Heap.IsGen.typeIs (s := { s with heap := _ }) (gty k1)) F.gen_no_len ?_)
  show wpAny _ A.in1 (specialOf (Value.ref a) (Str.ofString "__length_hint__") >>= _) _ _ _
  refine wpAny_bind (wpAny_specialOf (Heap.IsGen.typeIs (s := { s with heap := _ }) (gty k1)) F.gen_no_hint ?_)
  refine wpAny_pure ?_
  show wpAny _ A.in1 (rule "list.extend.makes-room" >>= fun _ => Builtin.List.listTouch (.ref s.heap.objs.size) >>= fun _ =>
    again (.builtin "list.extend.loop" ⟨[.ref s.heap.objs.size, .ref a, .ref s.heap.objs.size], []⟩)) _ _ _
  refine wpAny_bind (wpAny_rule ?_)
  have hS₁ : (s.heap.push { cls := .type "list", data := .seq ([] : List Value).toArray }).get? s.heap.objs.size = some { cls := .type "list", data := .seq ([] : List Value).toArray } := Heap.get?_push_size _ rfl
  refine wpAny_bind ?_
  show wpAny _ A.in1 (updateSeq s.heap.objs.size (·.push .none) >>= fun _ => updateSeq s.heap.objs.size (·.pop)) _ _ _
  refine wpAny_bind (wpAny_updateSeq hS₁ rfl ?_)
  have hS₂ := Heap.get?_update_self (Obj.mapSeq (·.push Value.none)) hS₁ rfl
  refine wpAny_updateSeq hS₂ rfl ?_
  have hS₃ := Heap.get?_update_self (Obj.mapSeq (·.pop)) hS₂ rfl
  have k4 := up _ (Obj.mapSeq (·.pop)) (up _ (Obj.mapSeq (·.push Value.none)) k1)
  refine wpAny_pure ⟨plainId_quiet F.plain_extend_loop _, ?_⟩
  refine drain (P := P) (w := w) (outer := outer) (H := H) (sc := sc) (ex := ex) (Q := Q) (EX := E0) (A := A) (g := g) hh hd hSa hSc
    (fun s' acc c H' ys q1 q2 q3 q4 q5 q6 q7 q8 q9 => ?_) (fun e s' hc => ?_) sizeLine _ (gty k4) (hl.keeps k4) ⟨_, hgs, rfl, ?_⟩
  · show wpAny _ A (load s.heap.objs.size >>= _) _ _ s'
    refine wpAny_bind (wpAny_load q1 ?_)
    exact wpAny_pure (hQ _ s' acc c H' ys (Nat.le_refl _) q1 q2 q3 q4 q5 q6 q7 q8 q9)
  · obtain ⟨_, _, _, _, _, _, _, _, _, _, _, _, z⟩ := hc
    exact z.elim
  · exact wake _ _ (Nat.le_refl _) k4 ⟨_, hS₃⟩ rfl (allBare_setGen (s := { s with heap := _ }) hb rfl)
end
end Gn
end
section
set_option Elab.async false
set_option linter.all false
set_option maxRecDepth 100000
set_option maxHeartbeats 1000000
/-! tuple(..) of a generator expression: the rule. -/
namespace Gn
open PySem PySem.Spec PyProof.Rows L2
def tTupG (P : Addr) (wi : TI) (g : TG) (tt : TT) (te : TE) (vs : List Nat) : TE := fun σ H Q => wi σ H fun J H1 => GxR.TabG H1 P ∧ ∀ H2, GxR.Tabbed P H1 H2 → ∃ W : Nat → Nat → List V → Hp → Prop, (∃ m, m ≤ sizeLine ∧ W 0 m [] H2) ∧ ∀ i m ys H, W i m ys H →
  (J.stop i H ∧ ∀ q, H q = none → Q (.ref q) (upd H q (.tup ys))) ∨ (J.go i H ∧ 1 ≤ m ∧ ∃ Nx : List V → Hp → Prop, (∀ ys' H', Nx ys' H' → ∃ m', m' < m ∧ W (i + 1) m' ys' H') ∧ ∀ x H', J.yld i H x H' → g x (wipe σ vs) H' fun σ2 H2 => wipe σ2 vs = wipe σ vs ∧ tt σ2 H2 fun b H3 =>
    if b = true then te σ2 H3 fun y H4 => True ∧ (True → Nx (ys ++ [y]) H4) else Nx ys H3)
section
variable {P : Program} {w : World} {outer : List PySem.Env} {H : Hp} {sc s : Shared} {ex : List Addr} {Q : List V → Hp → Prop} {A : Around} {a : Addr} {g : Nat} {c : Code} {E : Value → Shared → Prop}
theorem code_tuple_newG {Q₁ : Value → Shared → Prop} (hh : A.handled = none) (hd : A.depth < recursionLimit) (ha : a < s.heap.objs.size) (hg : s.heap.IsGen a g) (hl : s.heap.NoLimit) (hgs : s.gens[g]? = some (.fresh c)) (hb : AllBare s.gens)
    (wake : Wake P w A.in1.in1.in1 outer H sc ex Q a g c s)
    (h : ∀ (s' : Shared) (acc : Array Value) (H' : Hp) (ys : List V), Vals ys acc.toList → ys.length ≤ sizeLine → s'.os = sc.os → AllBare s'.gens → Un (frs outer) ex H H' sc.heap s'.heap → HOk P w H' s'.heap → Q ys H' → Q₁ (.ref s'.heap.objs.size) { s' with heap := s'.heap.push { cls := .type "tuple", data := .seq acc } }) :
    codeAny (model P w) A (.call (.builtin "tuple.__new__") ⟨[.type "tuple", .ref a], []⟩) (wants Q₁ E) s := by
  refine codeAny_of_tree ?_
  show wpAny _ A.in1 (do checkBuiltinCall "tuple.__new__" ⟨[.type "tuple", .ref a], []⟩; again (.builtin "tuple.__new__" ⟨[.type "tuple", .ref a], []⟩)) _ _ s
  refine wpAny_bind (wpAny_of_eq (F.newCall_tuple_1 _) (wpAny_pure ⟨plainId_quiet F.plain_tuple_new _, codeAny_builtin F.entry_tuple_new ?_⟩))
  rw [Around.under_plainId F.plain_tuple_new _]
  have hsub := sub_tuple_self
  have hinit := init_tuple_lookup
  have hmh := madeHere_tuple
  have hTI := Heap.IsGen.typeIs (s := s) hg
  wp_walk using wpAny_typeOf hTI, collectG (A := A.in1) hh hd ha hg hl hgs hb wake
  intro S s' acc c' H' ys q0 q1 q2 q3 q4 q5 q6 q7 q8 q9
  show wpAny _ _ (Builtin.Tuple.tupleExact acc.toList.toArray >>= fun v => ret v) _ _ _
  unfold Builtin.Tuple.tupleExact
  refine wpAny_bind (wpAny_newObj_type ?_ (by show acc.toList.toArray.size ≤ sizeLine; rw [List.size_toArray, ← q2.length]; exact q3))
  refine wpAny_pure ?_
  have e : acc.toList.toArray = acc := by simp
  rw [e]
  exact h s' acc H' ys q2 q3 q4 q5 q6 q7 q9
theorem call_tupleG {Q' : Value → Shared → Prop} (hh : A.handled = none) (hd : A.depth < recursionLimit) (ha : a < s.heap.objs.size) (hg : s.heap.IsGen a g) (hl : s.heap.NoLimit) (hgs : s.gens[g]? = some (.fresh c)) (hb : AllBare s.gens)
    (wake : Wake P w A.in1.in1.in1.in1 outer H sc ex Q a g c s)
    (h : ∀ (s' : Shared) (acc : Array Value) (H' : Hp) (ys : List V), Vals ys acc.toList → ys.length ≤ sizeLine → s'.os = sc.os → AllBare s'.gens → Un (frs outer) ex H H' sc.heap s'.heap → HOk P w H' s'.heap → Q ys H' → Q' (.ref s'.heap.objs.size) { s' with heap := s'.heap.push { cls := .type "tuple", data := .seq acc } }) :
    wpAny (model P w) A (call (.type "tuple") [.ref a]) Q' E s := by
  refine callType_codes (Q₁ := fun obj s₁ => s₁.TypeIs obj "tuple" ∧ Q' obj s₁) F.called_tuple (F.typeCall_tuple_1 _) F.entry_object_init
    (code_tuple_newG (A := A.in1) hh hd ha hg hl hgs hb wake fun s' acc H' ys q1 q2 q3 q4 q5 q6 q7 => ⟨⟨_, Heap.get?_push_size _ rfl, rfl⟩, h s' acc H' ys q1 q2 q3 q4 q5 q6 q7⟩) fun obj s₁ h₁ => ?_
  exact ⟨h₁.1, F.args_object_init_2 obj _, object_init_meets F.called_tuple.init.lookup F.called_tuple.made (by decide) P w A.in1 _ s₁ ⟨h₁.1, rfl, h₁.2⟩⟩
end
section
variable {X : Cx} {elt tg iter : Expr} {ifs : List Expr} {scope : Scope} {gpos p pos : Pos} {own : List (Str × Nat)} {wi : TI} {g : TG} {tt : TT} {te : TE} {c P : Addr} {k : Nat}
theorem tup_ready {pins : List (Addr × Obj)} {σ : L2.St} {cont : List V → Hp → Prop} {it : Addr} {fp : List Addr} {tn : Nat → Heap → Prop} {J : It} {H2 : Hp} {s4 : Shared} {code : Value} {h' : Heap} {m : Str → Option Value} {W : Nat → Nat → List V → Hp → Prop} {m0 : Nat}
    (hr : Room k X.A) (hc : X.calm = true) (hN : X.N.Nodup) (S : GSc scope) (ok : BlkOk X.N X.env.scope scope own)
    (hg : ∀ (A1 : Around) (it : Addr) (s : Shared) (H : Hp) (C : Addr) (code : Value) (fp : List Addr), PG (GCx X elt tg iter ifs scope gpos A1 it s H C code fp) tg g)
    (ht : ∀ (A1 : Around) (it : Addr) (s : Shared) (H : Hp) (C : Addr) (code : Value) (fp : List Addr), Ar X A1 → PTs (GCx X elt tg iter ifs scope gpos A1 it s H C code fp) ifs tt)
    (he : ∀ (A1 : Around) (it : Addr) (s : Shared) (H : Hp) (C : Addr) (code : Value) (fp : List Addr), Ar X A1 → PE (GCx X elt tg iter ifs scope gpos A1 it s H C code fp) elt te)
    (I4 : Inv X pins σ H2 s4) (T : Turn X.prog X.w X.K tg J fp it tn) (st4 : tn 0 s4.heap) (f4 : ∀ b ∈ fp, FpOk X pins H2 b ∧ b < s4.heap.objs.size) (hn' : h'.Ns s4.heap.objs.size m) (keep' : ∀ b o, s4.heap.get? b = some o → h'.get? b = some o) (hsz : h'.objs.size = s4.heap.objs.size + 1) (hm0 : m0 ≤ sizeLine) (w0 : W 0 m0 [] H2)
    (L : Lp g tt te (own.map (·.2)) σ J W cont (fun _ _ => True) (fun _ _ => True)) :
    Wake X.prog X.w X.A.in1.in1.in1.in1 X.stack H2 s4 fp cont h'.objs.size s4.gens.size (.compStart (.GeneratorExp elt [⟨tg, iter, ifs, 0⟩] scope gpos) 0 (.ref it) .none (genEnv scope (cloFrom X.env.cells scope.names []) s4.heap.objs.size code builtinsNs X.env))
      { s4 with
        gens := s4.gens.push (.fresh (.compStart (.GeneratorExp elt [⟨tg, iter, ifs, 0⟩] scope gpos) 0 (.ref it) .none (genEnv scope (cloFrom X.env.cells scope.names []) s4.heap.objs.size code builtinsNs X.env))),
        toks := s4.toks + 1 + 1 + 1, heap := h'.push (gObj X.env s4.gens.size s4.toks) } := by
  intro Sa s2 hS keep2 hSl hos hbare
  obtain ⟨cS, hSl⟩ := hSl
  let ob := gObj X.env s4.gens.size s4.toks
  have hS1 : h'.objs.size < Sa := Nat.lt_of_lt_of_le (by rw [Heap.size_push]; exact Nat.lt_succ_self _) hS
  have hS4 : s4.heap.objs.size < Sa := Nat.lt_trans (by rw [hsz]; exact Nat.lt_succ_self _) hS1
  let PR : List V → List (Addr × Obj) → Prop := fun ys pins => ∃ acc c, Vals ys acc.toList ∧ pins = [(Sa, lstObj acc c), (h'.objs.size, ob)]
  let Xg := GCx X elt tg iter ifs scope gpos X.A.in1.in1.in1.in1 it s4 H2 s4.heap.objs.size code fp
  have keep5 : ∀ b o, s4.heap.get? b = some o → s2.heap.get? b = some o := fun b o e => keep2 b o (Heap.get?_push_of_some _ (keep' b o e))
  have nfsG : ∀ b, s4.heap.objs.size ≤ b → b ∉ frs X.stack := fun b hb hm => by
    rcases List.mem_cons.mp (I4.stkSub _ hm) with z | z
    · have := I4.lt
      rw [← z] at this
      exact absurd this (Nat.not_lt.mpr hb)
    · exact I4.nofs hb z
  obtain ⟨h2, g2, d2, t2, o2⟩ := s2
  have ho2 : o2 = s4.os := hos
  subst ho2
  have I5 : Inv Xg [(Sa, lstObj #[] cS), (h'.objs.size, ob)] (wipe σ (own.map (·.2))) H2 { s4 with heap := h2, gens := g2, toks := t2, drawn := d2 } := by
    have := gen_start (A1 := X.A.in1.in1.in1.in1) (G1 := elt) (G2 := elt) (cl := [⟨tg, iter, ifs, 0⟩]) (sc0 := scope) (gpos := gpos) (it := it) (fp := fp) (code := code) (h5 := h2) (tk := t2) (gens' := g2) (m := m) (pins' := [(Sa, lstObj #[] cS), (h'.objs.size, ob)]) I4 ok hN S.cell f4 hr.hd rfl keep5 (Heap.Ns.keeps (hn'.push _) keep2) hbare (fun p hp => by
      rcases List.mem_cons.mp hp with z | z
      · rw [z]
        exact ⟨hSl, I4.hok.fresh (Nat.le_of_lt hS4), Nat.ne_of_gt hS4, nfsG _ (Nat.le_of_lt hS4), fun v z => by cases z⟩
      · rw [List.mem_singleton.mp z]
        exact ⟨keep2 _ _ (Heap.get?_push_size _ rfl), I4.hok.fresh (by rw [hsz]; exact Nat.le_succ _), by show h'.objs.size ≠ s4.heap.objs.size; rw [hsz]; exact Nat.succ_ne_self _, nfsG _ (by rw [hsz]; exact Nat.le_succ _), fun v z => by cases z⟩)
    exact Inv.same this rfl hbare rfl
  have apart : Apart Xg Sa := ⟨Nat.le_of_lt hS4, Nat.ne_of_gt hS4, fun x c e z => by
    have := (clo_mem I4 ok (PySem.mem_of_lookup e)).2
    rw [z] at this
    exact absurd (Nat.lt_trans this hS4) (Nat.lt_irrefl _)⟩
  have st5 : tn 0 h2 := T.keep _ _ _ st4 fun b hb o e => keep5 b o e
  refine seg_imp (R := fun n s₀ r s₁ => r = .ok .next ∧ genEnd PR Xg (wipe σ (own.map (·.2))) sizeLine cont n s₀ s₁) (Y := genY PR (fun v s1 s2 => Slept Sa v s1 s2) Xg (wipe σ (own.map (·.2))) sizeLine (fun _ _ => True) (fun _ _ => True)) (fun n s₀ r s1 hR => ?_) (fun n s₀ v s1 kap kap' hk hY => ?_) sizeLine ?_
  · obtain ⟨hr', ys, H', pins', hn0, ⟨acc, c', rv, rfl⟩, I6, q⟩ := hR
    have pS := I6.pin (Sa, lstObj acc c') (by simp)
    exact .inl ⟨.inr hr', H', ys, acc, c', I6.os, I6.bare, I6.base, I6.hok, pS.2.1, pS.1, rv, by omega, q⟩
  · obtain ⟨ys, y, H', pins', hn0, rv, _, ⟨acc, c', rvs, rfl⟩, I6, cont'⟩ := hY
    have pS := I6.pin (Sa, lstObj acc c') (by simp)
    have pG := I6.pin (h'.objs.size, ob) (by simp)
    refine ⟨I6.os, I6.bare, I6.nolimit, ⟨_, _, _, pG.1, rfl, rfl, rfl⟩, ⟨acc, c', pS.1, ?_⟩, fun s' hs' => hk _ _ (cont' s' hs' trivial)⟩
    have e1 : ys.length = acc.toList.length := rvs.length
    have e2 : acc.toList.length = acc.size := Array.length_toList
    rw [← e2, ← e1]
    exact hn0
  · refine gen_begin T st5 ?_
    refine gen_loop (PR := PR) (Back := fun v s1 s2 => Slept Sa v s1 s2) (N0 := sizeLine) hc S.co T (hg _ _ _ _ _ _ _) (ht _ _ _ _ _ _ _ Ar.in4) (he _ _ _ _ _ _ _ Ar.in4) L (fun ys pins' hpr p hp b hb => ?_) (fun ys y v s1 s2 H' pins' hpr rv I6 bk => ?_) m0 sizeLine 0 [] _ _ H2 [(Sa, lstObj #[] cS), (h'.objs.size, ob)] hm0 (by simp) w0 ⟨#[], cS, .nil, rfl⟩ I5 st5 (fun b hb => (f4 b hb).1.1)
    · obtain ⟨acc, c', _, rfl⟩ := hpr
      have lt := (f4 b hb).2
      rcases List.mem_cons.mp hp with z | z
      · rw [z]; exact Nat.ne_of_gt (Nat.lt_trans lt hS4)
      · rw [List.mem_singleton.mp z]
        show h'.objs.size ≠ b
        exact Nat.ne_of_gt (by rw [hsz]; exact Nat.lt_succ_of_lt lt)
    · obtain ⟨acc, c', rvs, rfl⟩ := hpr
      have gi : GI Xg Sa [(h'.objs.size, ob)] ys (wipe σ (own.map (·.2))) H' s1 := ⟨acc, c', rvs, I6⟩
      obtain ⟨acc', c'', rvs', I7⟩ := gi.woken (fun p hp => absurd (show p ∈ ([] : List (Addr × Obj)) from hp) (by simp)) (fun p hp => by rw [List.mem_singleton.mp hp]; exact Nat.ne_of_lt hS1) apart rv bk
      exact ⟨_, ⟨acc', c'', rvs', rfl⟩, I7, fun b hb o e => bk.keep b o (Nat.ne_of_lt (Nat.lt_trans (f4 b hb).2 hS4)) e⟩
theorem pe_tupG (hr : Room k X.A) (hc : X.calm = true) (hN : X.N.Nodup) (TB : GxR.TabB X.base X.mg c P) (hcode : X.env.code = .ref c) (S : GSc scope) (ok : BlkOk X.N X.env.scope scope own) (hi : PI X tg iter wi)
    (hg : ∀ (A1 : Around) (it : Addr) (s : Shared) (H : Hp) (C : Addr) (code : Value) (fp : List Addr), PG (GCx X elt tg iter ifs scope gpos A1 it s H C code fp) tg g)
    (ht : ∀ (A1 : Around) (it : Addr) (s : Shared) (H : Hp) (C : Addr) (code : Value) (fp : List Addr), Ar X A1 → PTs (GCx X elt tg iter ifs scope gpos A1 it s H C code fp) ifs tt)
    (he : ∀ (A1 : Around) (it : Addr) (s : Shared) (H : Hp) (C : Addr) (code : Value) (fp : List Addr), Ar X A1 → PE (GCx X elt tg iter ifs scope gpos A1 it s H C code fp) elt te)
    (hgl : Gl X "tuple") (hm : X.mg "tuple" = none) (hs : ∀ v, genFold iter X.env v = pure v := by intro _; rfl)
    (hst : starEach [.GeneratorExp elt [⟨tg, iter, ifs, 0⟩] scope gpos] X.env = (false, eval (.GeneratorExp elt [⟨tg, iter, ifs, 0⟩] scope gpos) X.env) :: starEach [] X.env := by rfl) :
    PE X (.Call (.Name "tuple" p) [.GeneratorExp elt [⟨tg, iter, ifs, 0⟩] scope gpos] [] pos) (tTupG P wi g tt te (own.map (·.2))) := by
  refine ⟨fun pins s σ H Q I h => ?_⟩
  refine wpAny_Call_Name_kw (ld_blt I hgl hm PyProof.Rows.boot_tuple ?_)
  refine PyProof.Rows.callWith_type1 ?_ hst (by rfl)
  rw [hst]
  show wpAny _ _ (spliced ((false, eval (.GeneratorExp elt [⟨tg, iter, ifs, 0⟩] scope gpos) X.env) :: backTo pos (starEach [] X.env))) _ _ s
  refine Calls.spliced_cons (gen_eval hr TB hcode S ok I hi hs h fun it fp tn J H2 s4 code h' m I4 T st4 f4 q hn' keep' hsz => ?_)
  obtain ⟨W, ⟨m0, hm0, w0⟩, turn⟩ := q
  have wake := tup_ready (code := code) (cont := fun ys H => ∀ q, H q = none → Q (.ref q) (upd H q (.tup ys))) hr hc hN S ok hg ht he I4 T st4 f4 hn' keep' hsz hm0 w0 ⟨turn⟩
  refine Calls.spliced_nil ?_
  have isg : (h'.push (gObj X.env s4.gens.size s4.toks)).IsGen h'.objs.size s4.gens.size := ⟨_, _, _, Heap.get?_push_size _ rfl, rfl, rfl, rfl⟩
  refine call_tupleG hr.hd hr.depth (by rw [Heap.size_push]; exact Nat.lt_succ_self _) isg (I4.nolimit.keeps fun b o e => Heap.get?_push_of_some _ (keep' b o e)) (Array.getElem?_push_size ..) (I4.bare.push rfl) wake fun s' acc H' ys q1 q2 q3 q4 q5 q6 q7 => ?_
  have I6 : Inv X pins σ H' s' := I4.call' (ch := fp) q3 q5 q6 q4 fun b hb => ⟨(f4 b hb).1.2.2.2.1, (f4 b hb).1.2.1, (f4 b hb).1.2.2.2.2.1, (f4 b hb).1.2.2.2.2.2⟩
  have JL := I6.laid (a := s'.heap.objs.size) (o := .tup ys) (t' := s'.toks) (h' := s'.heap.push { cls := .type "tuple", data := .seq acc }) (fun b u q => Heap.get?_push_of_some _ q) (Nat.le_refl _)
    ⟨q2, acc.toList, q1, ⟨_, Heap.get?_push_size _ rfl, rfl, 0, by simp⟩⟩
  exact ⟨.ref s'.heap.objs.size, _, JL, rfl, q7 _ (I6.hok.fresh (Nat.le_refl _))⟩
end
end Gn
end
section
set_option Elab.async false
set_option linter.all false
set_option maxRecDepth 100000
set_option maxHeartbeats 2000000
/-! all, any, tuple of generator expressions, over the mirrors. -/
namespace Pw
open PySem PySem.Spec PyProof.Rows L2
open Classical in
noncomputable def allL (yes : Bool) (it : Itm) (xs : List D) (t : Gx) (c : Tx) (f : Ex) (ρ : Env) : List D → Mem → Option (Bool × Mem)
  | [], m => if itemsAt it m = some xs then some (yes, m) else none
  | d :: ds, m => if itemsAt it m = some xs then (t d ρ).bind fun ρ1 => (c ρ1 m).bind fun p => if p.1 = true then (f ρ1 p.2).bind fun q => match q.1 with
      | .v (.bl b) => if b = yes then allL yes it xs t c f ρ ds q.2 else some (!yes, q.2)
      | _ => none
      else allL yes it xs t c f ρ ds p.2
    else none
noncomputable def eAll (yes : Bool) (src : Ix) (t : Gx) (c : Tx) (f : Ex) (vs : List Nat) : Ex := fun ρ m => (src ρ m).bind fun p => (itemsAt p.1 p.2).bind fun xs => (allL yes p.1 xs t c f (wipeD ρ vs) xs p.2).bind fun q => some (.v (.bl q.1), q.2)
theorem tabbed_eq {P : Addr} {H H' : Hp} (h : GxR.Tabbed P H H') : ∃ ps', H' = upd H P (.tbl ps') ∧ TriplesOk ps'.toList := by
  obtain ⟨⟨ps', e', tr'⟩, oth⟩ := h
  refine ⟨ps', funext fun b => ?_, tr'⟩
  by_cases hb : b = P
  · rw [hb, upd_same, e']
  · rw [upd_ne hb, oth b hb]
theorem all_go {K : FRG} {tb : List Addr} {P : Addr} {yes : Bool} {src : Ix} {g : TG} {t : Gx} {c : Tx} {f : Ex} {vs : List Nat} {σ : L2.St} {H : Hp} {Q : VK} (hP : P ∈ tb) (ht : TgS K tb g t) (hw : TgW g vs) (h : T K tb (eAll yes src t c f vs) σ H Q) :
    Gn.tAllG P yes (Ti K tb src) g (Tt K tb c) (T K tb f) vs σ H Q := by
  obtain ⟨φ, ψ, ρ, m, d, mF, R, E, e, k⟩ := h
  obtain ⟨⟨it, m1⟩, e1, e⟩ := bnd e
  obtain ⟨xs, e2, e⟩ := bnd e
  obtain ⟨⟨bF, m9⟩, e3, e⟩ := bnd e
  cases e
  refine ⟨φ, ψ, ρ, m, it, m1, R, E, e1, fun φ1 H1 J P1 R1 IR => ⟨R1.tab P hP, fun H2' tab => ?_⟩⟩
  obtain ⟨ps, hps, _⟩ := R1.tab P hP
  obtain ⟨ps', rfl, tr'⟩ := tabbed_eq tab
  have Pt : Post φ1 ψ H1 φ1 ψ (upd H1 P (.tbl ps')) := Post.tbl hps
  have Rt := R1.tbl (ps' := ps') hps tr'
  let Z : Nat → Hp → Prop := fun i H2 => ∃ φ2 m2, Post φ1 ψ H1 φ2 ψ H2 ∧ Rel K tb φ2 ψ H2 m2 ∧ allL yes it xs t c f (wipeD ρ vs) (xs.drop i) m2 = some (bF, m9)
  refine ⟨fun i n H2 => n = xs.length - i ∧ i ≤ xs.length ∧ Z i H2, ⟨xs.length, by simp, Nat.zero_le _, φ1, m1, Pt, Rt, by simpa using e3⟩, ?_⟩
  rintro i n H2 ⟨rfl, hi2, φ2, m2, P2, R2, ef⟩
  by_cases hlt : i < xs.length
  · rw [List.drop_eq_getElem_cons hlt] at ef
    unfold allL at ef
    split at ef
    · rename_i hx
      obtain ⟨ρ3, e3', ef⟩ := bnd ef
      obtain ⟨⟨b4, m4⟩, e4, ef⟩ := bnd ef
      obtain ⟨hgo, hy⟩ := (IR φ2 ψ H2 m2 xs P2 R2 hx).1 i xs[i] (List.getElem?_eq_getElem hlt)
      refine .inr ⟨hgo, by omega, fun H' => i + 1 ≤ xs.length ∧ Z (i + 1) H', fun H' q => ⟨xs.length - (i + 1), by omega, rfl, q⟩, fun x H3 y => ?_⟩
      obtain ⟨P3, R3, V3, same⟩ := hy x H3 y
      have E3 : RE K φ2 ψ H3 (wipeD ρ vs) (wipe σ vs) := (E.mono (P1.trans (P2.trans P3)) R).wipe vs
      have st := ht φ2 ψ H3 m2 (wipeD ρ vs) (wipe σ vs) _ x ρ3 (fun σ3 H3' => Tt K tb c σ3 H3' fun b H4 => if b = true then T K tb f σ3 H4 fun y H5 => (∃ c, y = .bl c ∧ (c = !yes → Q (.bl (!yes)) H5)) ∧ (y = .bl yes → (fun H' => i + 1 ≤ xs.length ∧ Z (i + 1) H') H5) else (fun H' => i + 1 ≤ xs.length ∧ Z (i + 1) H') H4) R3 E3 V3 e3' fun σ3 E3' => ?_
      · have st2 := hw _ _ _ _ st
        simp only [wipe_wipe] at st2
        exact st2
      · refine ⟨φ2, ψ, ρ3, m2, b4, m4, R3, E3', e4, fun φ4 H4 P4 R4 => ?_⟩
        have P14 := P2.trans (P3.trans P4)
        cases b4 with
        | false => exact iteF ⟨hlt, φ4, m4, P14, R4, ef⟩
        | true =>
          obtain ⟨⟨w5, m5⟩, e5, ef⟩ := bnd (show (f ρ3 m4).bind _ = _ from ef)
          refine iteT ⟨φ4, ψ, ρ3, m4, w5, m5, R4, E3'.mono P4 R3, e5, fun φ5 ψ5 H5 v P5 R5 V5 => ?_⟩
          cases w5 with
          | v d =>
            cases d with
            | bl b =>
              have ef' : (if b = yes then allL yes it xs t c f (wipeD ρ vs) (xs.drop (i + 1)) m5 else some (!yes, m5)) = some (bF, m9) := ef
              obtain ⟨rfl, V5⟩ := V5
              cases V5
              refine ⟨⟨b, rfl, fun hb => ?_⟩, fun hb => ?_⟩
              · rw [if_neg (by rw [hb]; cases yes <;> decide)] at ef'
                cases ef'
                exact k φ5 _ H5 _ (P1.trans (P14.trans P5)) R5 ⟨rfl, .bl _⟩
              · have hb : b = yes := V.bl.inj hb
                rw [if_pos hb] at ef'
                exact ⟨hlt, φ5, m5, P14.trans P5, R5, ef'⟩
            | _ => cases ef
          | _ => cases ef
    · cases ef
  · rw [List.drop_of_length_le (by omega)] at ef
    unfold allL at ef
    split at ef
    · rename_i hx
      cases ef
      exact .inl ⟨(IR φ2 ψ H2 _ xs P2 R2 hx).2 i (by omega), k φ2 ψ H2 _ (P1.trans P2) R2 ⟨rfl, .bl _⟩⟩
    · cases ef
noncomputable def eTupG (src : Ix) (t : Gx) (c : Tx) (f : Ex) (vs : List Nat) : Ex := fun ρ m => (src ρ m).bind fun p => (itemsAt p.1 p.2).bind fun xs => if xs.length ≤ 1000000 then (lcL p.1 xs t c f (wipeD ρ vs) xs [] p.2).bind fun q => some (.v (.tup q.1), q.2) else none
theorem tup_go {K : FRG} {tb : List Addr} {P : Addr} {src : Ix} {g : TG} {t : Gx} {c : Tx} {f : Ex} {vs : List Nat} {σ : L2.St} {H : Hp} {Q : VK} (hP : P ∈ tb) (ht : TgS K tb g t) (hw : TgW g vs) (h : T K tb (eTupG src t c f vs) σ H Q) :
    Gn.tTupG P (Ti K tb src) g (Tt K tb c) (T K tb f) vs σ H Q := by
  obtain ⟨φ, ψ, ρ, m, d, mF, R, E, e, k⟩ := h
  obtain ⟨⟨it, m1⟩, e1, e⟩ := bnd e
  obtain ⟨xs, e2, e⟩ := bnd e
  split at e
  rotate_left
  · cases e
  rename_i hlen
  obtain ⟨⟨accF, m9⟩, e3, e⟩ := bnd e
  cases e
  refine ⟨φ, ψ, ρ, m, it, m1, R, E, e1, fun φ1 H1 J P1 R1 IR => ⟨R1.tab P hP, fun H2' tab => ?_⟩⟩
  obtain ⟨ps, hps, _⟩ := R1.tab P hP
  obtain ⟨ps', rfl, tr'⟩ := tabbed_eq tab
  have Pt : Post φ1 ψ H1 φ1 ψ (upd H1 P (.tbl ps')) := Post.tbl hps
  have Rt := R1.tbl (ps' := ps') hps tr'
  let Z : Nat → List V → Hp → Prop := fun i ys H2 => ∃ φ2 m2 acc, Post φ1 ψ H1 φ2 ψ H2 ∧ Rel K tb φ2 ψ H2 m2 ∧ Reps K φ2 ψ H2 acc ys ∧ lcL it xs t c f (wipeD ρ vs) (xs.drop i) acc m2 = some (accF, m9)
  refine ⟨fun i n ys H2 => n = xs.length - i ∧ i ≤ xs.length ∧ Z i ys H2, ⟨xs.length, small hlen, by simp, Nat.zero_le _, φ1, m1, [], Pt, Rt, .nil, by simpa using e3⟩, ?_⟩
  rintro i n ys H2 ⟨rfl, hi2, φ2, m2, acc, P2, R2, rA, ef⟩
  by_cases hlt : i < xs.length
  · rw [List.drop_eq_getElem_cons hlt] at ef
    unfold lcL at ef
    split at ef
    · rename_i hx
      obtain ⟨ρ3, e3', ef⟩ := bnd ef
      obtain ⟨⟨b4, m4⟩, e4, ef⟩ := bnd ef
      obtain ⟨hgo, hy⟩ := (IR φ2 ψ H2 m2 xs P2 R2 hx).1 i xs[i] (List.getElem?_eq_getElem hlt)
      refine .inr ⟨hgo, by omega, fun ys' H' => i + 1 ≤ xs.length ∧ Z (i + 1) ys' H', fun ys' H' q => ⟨xs.length - (i + 1), by omega, rfl, q⟩, fun x H3 y => ?_⟩
      obtain ⟨P3, R3, V3, same⟩ := hy x H3 y
      have rA3 := rA.mono P3 R2
      have E3 : RE K φ2 ψ H3 (wipeD ρ vs) (wipe σ vs) := (E.mono (P1.trans (P2.trans P3)) R).wipe vs
      have st := ht φ2 ψ H3 m2 (wipeD ρ vs) (wipe σ vs) _ x ρ3 (fun σ3 H3' => Tt K tb c σ3 H3' fun b H4 => if b = true then T K tb f σ3 H4 fun y H5 => True ∧ (True → (fun ys' H' => i + 1 ≤ xs.length ∧ Z (i + 1) ys' H') (ys ++ [y]) H5) else (fun ys' H' => i + 1 ≤ xs.length ∧ Z (i + 1) ys' H') ys H4) R3 E3 V3 e3' fun σ3 E3' => ?_
      · have st2 := hw _ _ _ _ st
        simp only [wipe_wipe] at st2
        exact st2
      · refine ⟨φ2, ψ, ρ3, m2, b4, m4, R3, E3', e4, fun φ4 H4 P4 R4 => ?_⟩
        have P14 := P2.trans (P3.trans P4)
        have rA4 := rA3.mono P4 R3
        cases b4 with
        | false => exact iteF ⟨hlt, φ4, m4, acc, P14, R4, rA4, ef⟩
        | true =>
          obtain ⟨⟨w5, m5⟩, e5, ef⟩ := bnd ef
          obtain ⟨y5, ev, ef⟩ := bnd ef
          split at ef
          · rename_i hl
            refine iteT ⟨φ4, ψ, ρ3, m4, w5, m5, R4, E3'.mono P4 R3, e5, fun φ5 ψ5 H5 v P5 R5 V5 => ⟨trivial, fun _ => ?_⟩⟩
            have R5' := V5.rel R5
            have P5' := V5.post P5
            exact ⟨hlt, φ5, m5, acc ++ [y5], P14.trans P5', R5', (rA4.mono P5' R4).snoc (vl_rep (V5.s R5) ev), ef⟩
          · cases ef
    · cases ef
  · rw [List.drop_of_length_le (by omega)] at ef
    unfold lcL at ef
    split at ef
    · rename_i hx
      cases ef
      refine .inl ⟨(IR φ2 ψ H2 _ xs P2 R2 hx).2 i (by omega), fun q hq => ?_⟩
      exact Go.tup (fun φ3 ψ3 H3 v P3 R3 V3 => k φ3 ψ3 H3 v (P1.trans (P2.trans P3)) R3 V3) R2 rA hq
    · cases ef
section
variable {X : Cx} {tb : List Addr} {elt tg iter : Expr} {ifs : List Expr} {scope : Scope} {gpos p pos : Pos} {own : List (Str × Nat)} {src : Ix} {g : TG} {t : Gx} {c : Tx} {f : Ex} {cd P : Addr} {k : Nat}
  (hr : Room (k + 1) X.A) (hgd : X.A.guards = some []) (hc : X.calm = true) (hN : X.N.Nodup) (TB : GxR.TabB X.base X.mg cd P) (hP : P ∈ tb) (hcode : X.env.code = .ref cd) (S : Gn.GSc scope) (htg : TgS X.K tb g t) (hw : TgW g (own.map (·.2))) (hi : PI X tg iter (Ti X.K tb src)) (ok : BlkOk X.N X.env.scope scope own)
  (hg : ∀ (A1 : Around) (it : Addr) (s : Shared) (H : Hp) (C : Addr) (code : Value) (fp : List Addr), PG (Gn.GCx X elt tg iter ifs scope gpos A1 it s H C code fp) tg g)
  (ht : ∀ (A1 : Around) (it : Addr) (s : Shared) (H : Hp) (C : Addr) (code : Value) (fp : List Addr), (Gn.GCx X elt tg iter ifs scope gpos A1 it s H C code fp).A.guards = some [] → Room k (Gn.GCx X elt tg iter ifs scope gpos A1 it s H C code fp).A → PTs (Gn.GCx X elt tg iter ifs scope gpos A1 it s H C code fp) ifs (Tt X.K tb c))
  (he : ∀ (A1 : Around) (it : Addr) (s : Shared) (H : Hp) (C : Addr) (code : Value) (fp : List Addr), (Gn.GCx X elt tg iter ifs scope gpos A1 it s H C code fp).A.guards = some [] → Room k (Gn.GCx X elt tg iter ifs scope gpos A1 it s H C code fp).A → PE (Gn.GCx X elt tg iter ifs scope gpos A1 it s H C code fp) elt (T X.K tb f))
include hr hgd hc hN TB hP hcode S htg hw hi ok hg ht he in
theorem ex_allG (hgl : Gl X "all") (hm : X.mg "all" = none) (hb : bootBuiltins "all" = some (.builtin "all")) (hs : ∀ v, genFold iter X.env v = pure v := by intro _; rfl)
    (hst : starEach [.GeneratorExp elt [⟨tg, iter, ifs, 0⟩] scope gpos] X.env = (false, eval (.GeneratorExp elt [⟨tg, iter, ifs, 0⟩] scope gpos) X.env) :: starEach [] X.env := by rfl) :
    PE X (.Call (.Name "all" p) [.GeneratorExp elt [⟨tg, iter, ifs, 0⟩] scope gpos] [] pos) (T X.K tb (eAll true src t c f (own.map (·.2)))) :=
  pe_mono (Gn.pe_allG hr hc hN TB hcode S ok hi hg (fun A1 it s H C code fp a => ht A1 it s H C code fp (a.guards hgd) (a.room hr)) (fun A1 it s H C code fp a => he A1 it s H C code fp (a.guards hgd) (a.room hr)) hgl hm hb hs hst) fun _ _ _ h => all_go hP htg hw h
include hr hgd hc hN TB hP hcode S htg hw hi ok hg ht he in
theorem ex_anyG (hgl : Gl X "any") (hm : X.mg "any" = none) (hb : bootBuiltins "any" = some (.builtin "any")) (hs : ∀ v, genFold iter X.env v = pure v := by intro _; rfl)
    (hst : starEach [.GeneratorExp elt [⟨tg, iter, ifs, 0⟩] scope gpos] X.env = (false, eval (.GeneratorExp elt [⟨tg, iter, ifs, 0⟩] scope gpos) X.env) :: starEach [] X.env := by rfl) :
    PE X (.Call (.Name "any" p) [.GeneratorExp elt [⟨tg, iter, ifs, 0⟩] scope gpos] [] pos) (T X.K tb (eAll false src t c f (own.map (·.2)))) :=
  pe_mono (Gn.pe_anyG hr hc hN TB hcode S ok hi hg (fun A1 it s H C code fp a => ht A1 it s H C code fp (a.guards hgd) (a.room hr)) (fun A1 it s H C code fp a => he A1 it s H C code fp (a.guards hgd) (a.room hr)) hgl hm hb hs hst) fun _ _ _ h => all_go hP htg hw h
include hr hgd hc hN TB hP hcode S htg hw hi ok hg ht he in
theorem ex_tupG (hgl : Gl X "tuple") (hm : X.mg "tuple" = none) (hs : ∀ v, genFold iter X.env v = pure v := by intro _; rfl)
    (hst : starEach [.GeneratorExp elt [⟨tg, iter, ifs, 0⟩] scope gpos] X.env = (false, eval (.GeneratorExp elt [⟨tg, iter, ifs, 0⟩] scope gpos) X.env) :: starEach [] X.env := by rfl) :
    PE X (.Call (.Name "tuple" p) [.GeneratorExp elt [⟨tg, iter, ifs, 0⟩] scope gpos] [] pos) (T X.K tb (eTupG src t c f (own.map (·.2)))) :=
  pe_mono (Gn.pe_tupG hr hc hN TB hcode S ok hi hg (fun A1 it s H C code fp a => ht A1 it s H C code fp (a.guards hgd) (a.room hr)) (fun A1 it s H C code fp a => he A1 it s H C code fp (a.guards hgd) (a.room hr)) hgl hm hs hst) fun _ _ _ h => tup_go hP htg hw h
end
end Pw
end
section
set_option Elab.async false
set_option linter.all false
set_option maxRecDepth 100000
set_option maxHeartbeats 2000000
/-! Numbers of the module; zip of two lists. -/
namespace Pw
open PySem PySem.Spec PyProof.Rows L2 Pv
section
variable {X : Cx} {tb : List Addr}
/-- a number that stands in the module under a name -/
def GlI (mg : Str → Option Value) (x : Str) (i : Int) : Prop := ∃ u, mg x = some u ∧ RelV (.int i) u
theorem ex_glob {x : Str} {i : Int} {pos : Pos} (hg : Gl X x) (hm : GlI X.mg x i) (hd : (x == ("__debug__" : Str)) = false := by decide) : PE X (.Name x pos) (T X.K tb (eC (.int i))) := by
  obtain ⟨u, h1, h2⟩ := hm
  exact pe_mono (pe_glob hg h1 h2 hd) fun σ H Q ⟨φ, ψ, ρ, m, w, m', R, E, e, k⟩ => by
    cases e
    exact Go.val k R (.int i)
/-- a list, as a loop's source -/
def srcLV : D → Option Itm
  | .fl ds => some (.seq ds)
  | .lst ds => some (.seq ds)
  | _ => none
def srcL : W → Mem → Option Itm
  | .v d, _ => srcLV d
  | .f d, _ => srcLV d
  | .r n, m => match m[n]? with
    | some (.lst _) => some (.lst n)
    | _ => none
/-- the list at a through all that comes -/
def LsR (K : FRG) (tb φ ψ : List Addr) (H : Hp) (it : Itm) (a : Addr) : Prop := ∀ φ2 ψ2 H2 m2 xs, Post φ ψ H φ2 ψ2 H2 → Rel K tb φ2 ψ2 H2 m2 → itemsAt it m2 = some xs → ∃ vs, SqL K H2 a vs ∧ Reps K φ2 ψ2 H2 xs vs
theorem srcLV_r {K : FRG} {tb φ ψ : List Addr} {H : Hp} {m : Mem} {d : D} {v : V} {it : Itm} (R : Rel K tb φ ψ H m) (h : Rep K φ ψ H d v) (e : srcLV d = some it) : ∃ a vs, v = .ref a ∧ SqL K H a vs ∧ LsR K tb φ ψ H it a := by
  unfold srcLV at e
  split at e
  · cases e
    cases h with
    | fl h r =>
      refine ⟨_, _, rfl, h.sq, fun φ2 ψ2 H2 m2 xs P2 R2 ex => ?_⟩
      cases ex
      exact ⟨_, (P2.fz R h).sq, r.mono P2 R⟩
  · cases e
    cases h with
    | lst g1 g2 h r =>
      refine ⟨_, _, rfl, SqL.of h, fun φ2 ψ2 H2 m2 xs P2 R2 ex => ?_⟩
      cases ex
      exact ⟨_, SqL.of (P2.off g1 g2 h fun _ z => nomatch z).2.2, r.mono P2 R⟩
  · cases e
theorem srcL_r {K : FRG} {tb φ ψ : List Addr} {H : Hp} {m : Mem} {w : W} {v : V} {it : Itm} (R : Rel K tb φ ψ H m) (h : RepS K φ ψ H w v) (e : srcL w m = some it) : ∃ a vs, v = .ref a ∧ SqL K H a vs ∧ LsR K tb φ ψ H it a := by
  cases w with
  | v d => exact srcLV_r R h e
  | f d => exact srcLV_r R h e
  | r n =>
    unfold srcL at e
    simp only at e
    split at e
    · rename_i ds0 hm
      cases e
      obtain ⟨q, h1, rfl⟩ := h
      obtain ⟨vs, hq, r⟩ := R.obj n _ q hm h1
      refine ⟨q, _, rfl, SqL.of hq, fun φ2 ψ2 H2 m2 xs P2 R2 ex => ?_⟩
      have hm2 : m2[n]? = some (.lst xs) := by
        unfold itemsAt at ex
        split at ex
        · rename_i h9
          cases ex
          exact h9
        · cases ex
      obtain ⟨vs2, hq2, r2⟩ := R2.obj n _ q hm2 (pre_get P2.pre h1)
      exact ⟨vs2, SqL.of hq2, r2⟩
    · cases e
def iZip (f : Ax) : Ix := fun ρ m => (f ρ m).bind fun p => match p.1 with
  | [w1, w2] => (srcL w1 p.2).bind fun i1 => (srcL w2 p.2).bind fun i2 => some (.zip i1 i2, p.2)
  | _ => none
theorem ix_zip {e e2 : Expr} {fa : Ax} {p pos tpos : Pos} {elts : List Expr} {kk : Nat} (hg : Gl X "zip") (hm : X.mg "zip" = none) (ha : PA X [e, e2] (Ta X.K tb fa))
    (hs : starEach [e, e2] X.env = (false, eval e X.env) :: starEach [e2] X.env := by rfl) (hpl : (backTo pos (starEach [e2] X.env)).any (·.1) = false := by rfl) :
    PI X (.Tuple elts kk tpos) (.Call (.Name "zip" p) [e, e2] [] pos) (Ti X.K tb (iZip fa)) := by
  refine pi_mono (pi_zip hg hm ha hs hpl) fun σ H Q ⟨φ, ψ, ρ, m, it, m', R, E, ez, k⟩ => ?_
  obtain ⟨⟨ws, m1⟩, e1, ez⟩ := bnd ez
  simp only at ez
  split at ez
  · rename_i w1 w2
    obtain ⟨i1, s1, ez⟩ := bnd ez
    obtain ⟨i2, s2, ez⟩ := bnd ez
    cases ez
    refine ⟨φ, ψ, ρ, m, _, _, R, E, e1, fun φ1 H1 vs P1 R1 V1 => ?_⟩
    cases V1 with
    | cons v1 V1 =>
      cases V1 with
      | cons v2 V1 =>
        cases V1
        obtain ⟨a, xs, rfl, q1, l1⟩ := srcL_r R1 v1 s1
        obtain ⟨b, ys, rfl, q2, l2⟩ := srcL_r R1 v2 s2
        refine ⟨a, b, xs, ys, rfl, q1, q2, k φ1 H1 _ P1 R1 fun φ2 ψ2 H2 m2 zs P2 R2 ex => ?_⟩
        obtain ⟨us, u1, ex⟩ := bnd ex
        obtain ⟨vs, u2, ex⟩ := bnd ex
        cases ex
        obtain ⟨xs2, h1, r1⟩ := l1 φ2 ψ2 H2 m2 us P2 R2 u1
        obtain ⟨ys2, h2, r2⟩ := l2 φ2 ψ2 H2 m2 vs P2 R2 u2
        refine ⟨fun i d hd => ?_, fun i hi => ⟨xs2, ys2, h1, h2, ?_⟩⟩
        · rw [List.getElem?_zipWith] at hd
          cases hx : us[i]? with
          | none => simp [hx] at hd
          | some x =>
            cases hy : vs[i]? with
            | none => simp [hx, hy] at hd
            | some y =>
              simp [hx, hy] at hd
              subst hd
              obtain ⟨x', hx', rx⟩ := r1.get hx
              obtain ⟨y', hy', ry⟩ := r2.get hy
              refine ⟨⟨xs2, ys2, x', y', h1, h2, hx', hy'⟩, fun z H3 hz => ?_⟩
              obtain ⟨T, x3, y3, rfl, hT, rfl, f1, f2⟩ := hz
              have e3 : x3 = x' := Option.some.inj ((f1 _ h1).symm.trans hx')
              have e4 : y3 = y' := Option.some.inj ((f2 _ h2).symm.trans hy')
              subst e3 e4
              have Pl : Post φ2 ψ2 H2 φ2 ψ2 (upd H2 T (.tup [x3, y3])) := Post.lay hT
              refine ⟨Pl, R2.lay hT, .tup (SqT.of upd_same) (.cons (rx.mono Pl R2) (.cons (ry.mono Pl R2) .nil)), fun b o hb => ?_⟩
              have hne : b ≠ T := fun z => by rw [z, hT] at hb; cases hb
              rw [upd_ne hne]
              exact hb
        · rw [List.length_zipWith] at hi
          have := r1.length
          have := r2.length
          omega
  · cases ez
end
end Pw
end
section
set_option Elab.async false
set_option linter.all false
set_option maxRecDepth 100000
set_option maxHeartbeats 2000000
/-! model level: sorted of a dict whose keys are numbers, any number of them -/
namespace Pv
open PySem PySem.Spec PyProof.Rows L2
section
variable {X : Cx}
def rSortDI : List V → Hp → VK → Prop := fun xs H Q => ∃ (a : Addr) (kvs : List (Key × V)) (ks : List Int), xs = [V.ref a] ∧ Rd H a (.dK kvs) ∧ kvs.map (·.1) = ks.map Sum.inl ∧
    ∀ (ys : List Int) (p : Addr), ys.Perm ks → ys.Pairwise (· ≤ ·) → H p = none → Q (.ref p) (upd H p (.lst (ys.map V.int)))
theorem ints_each' {vs : List Value} {ns : List Int} (hl : vs.length = ns.length) (h : ∀ (j : Nat) (v : Value), vs[j]? = some v → ∃ x t, ns[j]? = some x ∧ v = Value.int x t) : IntsAre vs ns := by
  induction vs generalizing ns with
  | nil => cases ns with
    | nil => exact .nil
    | cons _ _ => simp at hl
  | cons u vs ih => cases ns with
    | nil => simp at hl
    | cons k ns =>
      obtain ⟨x, t, e1, e2⟩ := h 0 u rfl
      have e1' : k = x := Option.some.inj e1
      subst e1'
      subst e2
      refine .cons _ _ (ih (by simpa using hl) fun j v e => ?_)
      obtain ⟨x, t, a, b⟩ := h (j + 1) v (by simpa using e)
      exact ⟨x, t, by simpa using a, b⟩
theorem cr_sortDI (hcalm : X.calm = true) : CallR X (.builtin "sorted") rSortDI := by
  intro pins s σ H xs us Q I r q
  obtain ⟨a, kvs, ks, ex, hd, hks, q⟩ := q
  subst ex
  obtain ⟨u, eu, rx⟩ := vals1 r
  subst eu
  cases rx
  obtain ⟨z, lo, vs, rel, dd⟩ := dk_rd I.hok hd
  obtain ⟨ep, hat⟩ := dd.dictAt
  have hkeys : vs.map (·.1) = ks.map Sum.inl := rel.keys.symm.trans hks
  have hl : vs.length = ks.length := by
    have e := congrArg List.length hkeys
    rw [List.length_map, List.length_map] at e
    exact e
  have hl2 : kvs.length = ks.length := by
    have e := congrArg List.length hks
    rw [List.length_map, List.length_map] at e
    exact e
  have h16 : vs.length ≤ sizeLine := by rw [hl, ← hl2]; exact z
  refine Calls.call_function_entry PyProof.Rows.kind_sorted PyProof.Rows.plain_sorted PyProof.Rows.entry_sorted (PyProof.Rows.args_sorted1 _) ?_
  unfold Builtin.«sorted»
  refine wpAny_bind (m := checkCount "sorted" 1 1 _) (wpAny_pure ?_)
  refine wpAny_bind (PySem.W.kdu_collect (A := X.A.in1) (PySem.W.kdl_dict (knd := mixKind X.prog X.w) (kvs := vs) (ep := ep) lo) (I.ok.hd hcalm) hat h16 fun h' tk acc hk hacc => ?_)
  have hal : acc.toList.length = ks.length := by rw [Array.length_toList, hacc.1, hl]
  have hS : IntsAre acc.toList ks := ints_each' hal fun j v e => by
    obtain ⟨k, x, e1, e2⟩ := hacc.2 j v (by rw [← Array.getElem?_toList]; exact e)
    have e3 : (vs.map (·.1))[j]? = some k := by rw [List.getElem?_map, e1]; rfl
    rw [hkeys, List.getElem?_map] at e3
    cases e4 : ks[j]? with
    | none => rw [e4] at e3; cases e3
    | some y =>
      rw [e4] at e3
      have e5 : Sum.inl y = k := Option.some.inj e3
      subst e5
      rcases keyIs_shape (show keyIs (Sum.inl y) v = true from e2) with ⟨i, t, ek, ev⟩ | ⟨z, t, ek, ev⟩
      · cases ek
        exact ⟨y, t, rfl, ev⟩
      · cases ek
  have I1 : Inv X pins σ H { s with heap := h', toks := tk } := I.kept hk
  have hz : acc.toList.length ≤ sizeLine := by rw [hal, ← hl]; exact h16
  refine wpAny_bind (wpAny_newList ?_ hz)
  have hoL : (h'.push (seqObj "list" acc.toList.toArray 0)).get? h'.objs.size = some (seqObj "list" acc.toList.toArray 0) := Heap.get?_push_size _ rfl
  show wpAny _ _ _ _ _ { s with heap := h'.push (seqObj "list" acc.toList.toArray 0), toks := tk }
  refine wpAny_bind (wpAny_holding (wpAny_call_entry PyProof.Rows.slot_list_sort ⟨_, hoL, rfl⟩ PyProof.Rows.entry_list_sort
    (SrtO.list_sort_ord SrtO.swo_int (s := { s with heap := h'.push (seqObj "list" acc.toList.toArray 0), toks := tk }) hoL hz (fun h2 => SrtO.ints_sortable hS h2) fun out h1 h2 => ⟨.none, rfl, ?_⟩) (PyProof.Rows.args_list_sort _)))
  obtain ⟨k1, k2, k3⟩ := SrtO.ints_out hS h1 h2
  obtain ⟨e', he'⟩ := PyProof.Rows.sortedHeap_at (vs := acc.toList) (out := out.toArray) hoL
  have hlen : ((out.map SrtO.iv).map V.int).length ≤ sizeLine := by
    rw [List.length_map, k2.length_eq, ← hal]
    exact hz
  refine wpAny_pure ⟨_, rfl, .ref h'.objs.size, upd H h'.objs.size (.lst ((out.map SrtO.iv).map V.int)), I1.laid (t' := tk) (fun b u e => ?_) (Nat.le_refl _)
    (show ObjOk X.prog X.w _ _ _ (.lst ((out.map SrtO.iv).map V.int)) from ⟨hlen, out, e', vals_of_ints k1, he'⟩), rfl, q _ _ k2 k3 (I1.hok.fresh (Nat.le_refl _))⟩
  have hb : b < h'.objs.size := Heap.lt_size e
  rw [PyProof.Rows.sortedHeap_old (Nat.ne_of_lt hb) (by rw [size_push']; exact Nat.lt_succ_of_lt hb)]
  exact Heap.get?_push_of_some _ e
end
end Pv
end
section
set_option Elab.async false
set_option linter.all false
set_option maxRecDepth 100000
set_option maxHeartbeats 2000000
/-! Dicts of truths written down; enumerate; sorted of a dict with numbers as keys. -/
namespace Pw
open PySem PySem.Spec PyProof.Rows L2 Pv
section
variable {X : Cx} {tb : List Addr}
def dispD (kvs : List (Key × Bool)) : List (Key × D) := kvs.foldl (fun acc kv => putX acc kv.1 (.bl kv.2)) []
def eDispB (kvs : List (Key × Bool)) : Ex := fun ρ m => some (.f (.dk (dispD kvs)), m)
abbrev dispT (kvs : List (Key × Bool)) : List (TE × TE) := kvs.map fun kv => (tC (kV kv.1), tC (.bl kv.2))
theorem pairs_c {σ : L2.St} : ∀ (kvs : List (Key × Bool)) {H : Hp} {Q : List (V × V) → Hp → Prop}, Q (kvs.map fun kv => (kV kv.1, .bl kv.2)) H → tPairs (dispT kvs) σ H Q
  | [], _, _, h => h
  | kv :: kvs, _, _, h => pairs_c kvs h
theorem disp_pr {K : FRG} {φ ψ : List Addr} {H : Hp} : ∀ (kvs : List (Key × Bool)) (acc : List (Key × D)) (us : List (Key × V)), PR K φ ψ H acc us → PR K φ ψ H (kvs.foldl (fun acc kv => putX acc kv.1 (.bl kv.2)) acc) (mergeK us (kvs.map fun kv => (kv.1, V.bl kv.2)))
  | [], _, _, h => h
  | kv :: kvs, acc, us, h => disp_pr kvs _ _ (h.put (k := kv.1) (.bl kv.2))
theorem upd_twice {H : Hp} {p : Addr} {o o' : HO} : upd (upd H p o) p o' = upd H p o' := funext fun b => by
  by_cases h : b = p
  · subst h; rw [upd_same, upd_same]
  · rw [upd_ne h, upd_ne h, upd_ne h]
theorem ex_dispB {pos : Pos} {keys : List (Option Expr)} {values : List Expr} (kvs : List (Key × Bool)) (h : PPs X pos keys values (dispT kvs)) (hall : keys.all (·.isSome) = true) (hl : keys.length = values.length) (h0 : keys ≠ []) (h15 : keys.length ≤ 15) (hk : kvs.length ≤ 15) :
    PE X (.Dict keys values pos) (T X.K tb (eDispB kvs)) := by
  refine pe_mono (pe_disp h hall hl h0 h15) fun σ H Q ⟨φ, ψ, ρ, m, w, m', R, E, e, k⟩ => ?_
  cases e
  intro p hp
  refine pairs_c kvs ⟨upd_same, kvs.map fun kv => (kv.1, V.bl kv.2), by rw [List.map_map]; rfl, by rw [List.length_map]; exact hk, ?_⟩
  rw [upd_twice]
  obtain ⟨a, b⟩ := disp_pr (K := X.K) (φ := φ) (ψ := ψ) (H := H) kvs [] [] ⟨rfl, .nil⟩
  exact Go.dk k R a b hp
/-- enumerate -/
def enumD (ds : List D) : List D := ds.mapIdx fun i d => D.tup [.int (i : Int), d]
def lstV : D → Option (List D)
  | .fl ds => some ds
  | .lst ds => some ds
  | _ => none
def iEnm (f : Ax) : Ix := fun ρ m => (f ρ m).bind fun p => match p.1 with
  | [w] => (vl w).bind fun d => (lstV d).bind fun ds => some (.seq (enumD ds), p.2)
  | _ => none
theorem lstV_src {d : D} {ds : List D} (h : lstV d = some ds) : srcLV d = some (.seq ds) := by
  unfold lstV at h
  split at h
  · cases h; rfl
  · cases h; rfl
  · cases h
theorem ix_enum {e : Expr} {fa : Ax} {p pos tpos : Pos} {elts : List Expr} {kk : Nat} (hg : Gl X "enumerate") (hm : X.mg "enumerate" = none) (ha : PA X [e] (Ta X.K tb fa)) (hs : starEach [e] X.env = [(false, eval e X.env)] := by rfl) :
    PI X (.Tuple elts kk tpos) (.Call (.Name "enumerate" p) [e] [] pos) (Ti X.K tb (iEnm fa)) := by
  refine pi_mono (pi_enum hg hm ha hs) fun σ H Q ⟨φ, ψ, ρ, m, it, m', R, E, ez, k⟩ => ?_
  obtain ⟨⟨ws, m1⟩, e1, ez⟩ := bnd ez
  simp only at ez
  split at ez
  · rename_i w1
    obtain ⟨d, s1, ez⟩ := bnd ez
    obtain ⟨ds, s2, ez⟩ := bnd ez
    cases ez
    refine ⟨φ, ψ, ρ, m, _, _, R, E, e1, fun φ1 H1 vs P1 R1 V1 => ?_⟩
    cases V1 with
    | cons v1 V1 =>
      cases V1
      obtain ⟨a, xs, rfl, q1, l1⟩ := srcLV_r R1 (vl_rep v1 s1) (lstV_src s2)
      refine ⟨a, xs, rfl, q1, k φ1 H1 _ P1 R1 fun φ2 ψ2 H2 m2 zs P2 R2 ex => ?_⟩
      cases ex
      obtain ⟨xs2, h1, r1⟩ := l1 φ2 ψ2 H2 m2 ds P2 R2 rfl
      refine ⟨fun i d hd => ?_, fun i hi => ⟨xs2, h1, by unfold enumD at hi; rw [List.length_mapIdx] at hi; rw [← r1.length]; exact hi⟩⟩
      unfold enumD at hd
      rw [List.getElem?_mapIdx] at hd
      cases hx : ds[i]? with
      | none => simp [hx] at hd
      | some x =>
        simp [hx] at hd
        subst hd
        obtain ⟨x', hx', rx⟩ := r1.get hx
        refine ⟨⟨xs2, x', h1, hx'⟩, fun z H3 hz => ?_⟩
        obtain ⟨T, x3, rfl, hT, rfl, f1⟩ := hz
        have e3 : x3 = x' := Option.some.inj ((f1 _ h1).symm.trans hx')
        subst e3
        have Pl : Post φ2 ψ2 H2 φ2 ψ2 (upd H2 T (.tup [.int (i : Nat), x3])) := Post.lay hT
        refine ⟨Pl, R2.lay hT, .tup (SqT.of upd_same) (.cons (.int _) (.cons (rx.mono Pl R2) .nil)), fun b o hb => ?_⟩
        have hne : b ≠ T := fun z => by rw [z, hT] at hb; cases hb
        rw [upd_ne hne]
        exact hb
  · cases ez
/-- numbers alone -/
def keysI : List (Key × D) → Option (List Int)
  | [] => some []
  | (.inl i, _) :: r => (keysI r).map (i :: ·)
  | (.inr _, _) :: _ => none
theorem keysI_map : ∀ {kvs : List (Key × D)} {is : List Int}, keysI kvs = some is → kvs.map (·.1) = is.map Sum.inl
  | [], _, h => by cases h; rfl
  | (.inl i, d) :: r, is, h => by
    rw [keysI] at h
    obtain ⟨js, e1, rfl⟩ := Option.map_eq_some_iff.mp h
    rw [List.map_cons, List.map_cons, keysI_map e1]
  | (.inr x, d) :: r, is, h => by rw [keysI] at h; cases h
def sortKD : List D → Option W
  | [.dk kvs] => (keysI kvs).bind fun is => some (.f (.lst ((sortM iLt is).map .int)))
  | _ => none
theorem sortK_s : CallS X.K tb rSortDI sortKD := fun φ ψ H m vs ds w Q R r e k => by
  unfold sortKD at e
  split at e
  · rename_i kvs
    obtain ⟨is, hi, e⟩ := bnd e
    cases e
    cases r with
    | cons h r =>
      cases r
      obtain ⟨a, us, rfl, hq, u1, u2⟩ := h.dk
      refine ⟨a, us, is, rfl, .inl hq, by rw [← u1]; exact keysI_map hi, fun ys p h1 h2 hp => ?_⟩
      have en : ys = sortM iLt is := sortedM_uniq lin_i (h2.imp fun {x y} h => by simp only [iLt, decide_eq_false_iff_not]; omega) (sortM_sorted lin_i is) (h1.trans (sortM_perm is).symm)
      rw [en]
      exact Go.lst k R (reps_ints _) hp
  · cases e
end
end Pw
end
section
set_option Elab.async false
set_option linter.all false
set_option maxRecDepth 100000
set_option maxHeartbeats 2000000
/-! isinstance(x, T), T a built-in type. -/
namespace Pw
open PySem PySem.Spec PyProof.Rows L2 Pv
def tyS : D → Option String
  | .non => some "NoneType"
  | .bl _ => some "bool"
  | .int _ => some "int"
  | .str _ => some "str"
  | .tup _ => some "tuple"
  | .fl _ => some "list"
  | .lst _ => some "list"
  | .dk _ => some "dict"
  | .dt _ => some "dict"
  | .rl _ _ => some "list"
/-- the types that are asked for, each with those that it takes -/
inductive Ty where
  | int | bool | str | tuple | list | dict
def Ty.name : Ty → String
  | .int => "int"
  | .bool => "bool"
  | .str => "str"
  | .tuple => "tuple"
  | .list => "list"
  | .dict => "dict"
def isD : Ty → D → Bool
  | .int, .bl _ => true
  | .int, .int _ => true
  | .bool, .bl _ => true
  | .str, .str _ => true
  | .tuple, .tup _ => true
  | .list, .fl _ => true
  | .list, .lst _ => true
  | .list, .rl _ _ => true
  | .dict, .dk _ => true
  | .dict, .dt _ => true
  | _, _ => false
theorem kit_is (t : Ty) (d : D) {a : String} (h : tyS d = some a) : kitB a t.name = some (isD t d) := by
  cases t <;> cases d <;> (cases h; first | (refine (?_ : kitB _ _ = some true); decide +kernel) | (refine (?_ : kitB _ _ = some false); decide +kernel))
def isiD (t : Ty) : List D → Option W
  | [d] => some (.v (.bl (isD t d)))
  | _ => none
section
variable {X : Cx} {tb : List Addr}
theorem tyx_tup {K : FRG} {H : Hp} {a : Addr} {vs : List V} (h : SqT K H a vs) : TyX K H (.ref a) (.type "tuple") := by
  rcases h with (h | ⟨o, h⟩) | ⟨o, its, n, h1, h2, _⟩
  · exact .base (.tup h)
  · exact .fTuple h
  · exact .kTuple h1 h2
theorem tyx_fz {K : FRG} {H : Hp} {a : Addr} {vs : List V} (h : Fz K H a vs) : TyX K H (.ref a) (.type "list") := by
  rcases h with ⟨o, h⟩ | ⟨o, its, n, h1, h2, _⟩
  · exact .base (.frz h)
  · exact .kList h1 h2
theorem tyx_rep {K : FRG} {φ ψ : List Addr} {H : Hp} {d : D} {v : V} (h : Rep K φ ψ H d v) : ∃ a, tyS d = some a ∧ TyX K H v (.type a) := by
  cases h with
  | non => exact ⟨_, rfl, .base .non⟩
  | bl b => exact ⟨_, rfl, .base (.bl b)⟩
  | int i => exact ⟨_, rfl, .base (.int i)⟩
  | str x => exact ⟨_, rfl, .base (.str x)⟩
  | tup h _ => exact ⟨_, rfl, tyx_tup h⟩
  | fl h _ => exact ⟨_, rfl, tyx_fz h⟩
  | lst _ _ h _ => exact ⟨_, rfl, .base (.lst h)⟩
  | dk _ _ h _ _ => exact ⟨_, rfl, .base (.dK h)⟩
  | dt _ _ h _ _ => exact ⟨_, rfl, .base (.dT h)⟩
theorem tyx_c {K : FRG} {φ ψ : List Addr} {H : Hp} {d : D} {v : V} (h : RepC K φ ψ H d v) : ∃ a, tyS d = some a ∧ TyX K H v (.type a) := by
  rcases h with h | ⟨a, mo, rfl, rfl, q⟩
  · exact tyx_rep h
  · cases mo with
    | lst ds => obtain ⟨vs, q1, _⟩ := q; exact ⟨_, rfl, .base (.lst q1)⟩
    | dk kvs => obtain ⟨vs, q1, _⟩ := q; exact ⟨_, rfl, .base (.dK q1)⟩
    | dt kvs => obtain ⟨vs, q1, _⟩ := q; exact ⟨_, rfl, .base (.dT q1)⟩
    | rl b k => exact ⟨_, rfl, .base (.lst q.1)⟩
def eIs (t : Ty) (a : Ex) : Ex := fun ρ m => (a ρ m).bind fun p => (gt p.1 p.2).bind fun d => some (.v (.bl (isD t d)), p.2)
theorem ex_isi (t : Ty) {e : Expr} {fa : Ex} {x : Str} {p q pos : Pos} (hg : Gl X "isinstance") (hm : X.mg "isinstance" = none) (hgT : Gl X x) (hmT : X.mg x = none) (hvT : bootBuiltins x = some (.type t.name)) (ha : PE X e (T X.K tb fa)) (hn : x ≠ "__name__" := by decide) (hd : (x == ("__debug__" : Str)) = false := by decide)
    (h1 : starEach [e, .Name x q] X.env = (false, eval e X.env) :: starEach [.Name x q] X.env := by rfl) (h2 : starEach [.Name x q] X.env = (false, eval (.Name x q) X.env) :: starEach [] X.env := by rfl) (hpl : (backTo pos (starEach [.Name x q] X.env)).any (·.1) = false := by rfl) :
    PE X (.Call (.Name "isinstance" p) [e, .Name x q] [] pos) (T X.K tb (eIs t fa)) := by
  refine pe_mono (pe_callB call_isi hg hm PyProof.Rows.boot_isinstance (pa_cons ha (pa_cons (pe_bltn (v := .ty t.name) hgT hmT hvT rfl hn hd) pa_nil h2) h1) (by decide) (by decide) h1 hpl) fun σ H Q ⟨φ, ψ, ρ, m, w, m', R, E, e, k⟩ => ?_
  obtain ⟨⟨w1, m1⟩, e1, e⟩ := bnd e
  obtain ⟨d, eg, e⟩ := bnd e
  cases e
  refine ⟨φ, ψ, ρ, m, w1, _, R, E, e1, fun φ1 ψ1 H1 v P1 R1 V1 => ?_⟩
  have R1' := V1.rel R1
  obtain ⟨a, ea, ty⟩ := tyx_c (gt_c R1' (V1.s R1) eg)
  exact ⟨v, .ty t.name, .type a, .type t.name, _, rfl, .ty _, ty, kit_ty (kit_is t d ea), k φ1 ψ H1 _ (V1.post P1) R1' ⟨rfl, .bl _⟩⟩
end
end Pw
end
section
set_option Elab.async false
set_option linter.all false
set_option maxRecDepth 100000
set_option maxHeartbeats 2000000
/-! Dicts written down, of any keys and values. -/
namespace Pw
open PySem PySem.Spec PyProof.Rows L2 Pv
def pairsX : List (Ex × Ex) → Env → Mem → Option (List (Key × D) × Mem)
  | [], _, m => some ([], m)
  | (a, b) :: r, ρ, m => (a ρ m).bind fun p => (vl p.1).bind fun y => (keyOf y).bind fun k => (b ρ p.2).bind fun q => (vl q.1).bind fun z => (pairsX r ρ q.2).bind fun u => some ((k, z) :: u.1, u.2)
def putsX (kvs : List (Key × D)) (acc : List (Key × D)) : List (Key × D) := kvs.foldl (fun acc kv => putX acc kv.1 kv.2) acc
def eDisp (ps : List (Ex × Ex)) : Ex := fun ρ m => (pairsX ps ρ m).bind fun q => if q.1.length ≤ 15 then some (.f (.dk (putsX q.1 [])), q.2) else none
section
variable {X : Cx} {tb : List Addr}
theorem pairs_go {K : FRG} {σ : L2.St} : ∀ (ps : List (Ex × Ex)) {φ ψ : List Addr} {H : Hp} {ρ : Env} {m m' : Mem} {kvs : List (Key × D)} {Q : List (V × V) → Hp → Prop}, Rel K tb φ ψ H m → RE K φ ψ H ρ σ → pairsX ps ρ m = some (kvs, m') →
    (∀ φ2 H2 us, Post φ ψ H φ2 ψ H2 → Rel K tb φ2 ψ H2 m' → PR K φ2 ψ H2 kvs us → Q (us.map fun kv => (kV kv.1, kv.2)) H2) → tPairs (ps.map fun p => (T K tb p.1, T K tb p.2)) σ H Q
  | [], φ, ψ, H, ρ, m, m', kvs, Q, R, E, e, k => by
    cases e
    exact k φ H [] .refl R ⟨rfl, .nil⟩
  | (a, b) :: r, φ, ψ, H, ρ, m, m', kvs, Q, R, E, e, k => by
    obtain ⟨⟨w1, m1⟩, e1, e⟩ := bnd e
    obtain ⟨y, ey, e⟩ := bnd e
    obtain ⟨ky, ek, e⟩ := bnd e
    obtain ⟨⟨w2, m2⟩, e2, e⟩ := bnd e
    obtain ⟨z, ez, e⟩ := bnd e
    obtain ⟨⟨kr, m3⟩, e3, e⟩ := bnd e
    cases e
    show T K tb a σ H fun x H1 => T K tb b σ H1 fun y H2 => tPairs (r.map fun p => (T K tb p.1, T K tb p.2)) σ H2 fun ps H3 => Q ((x, y) :: ps) H3
    refine ⟨φ, ψ, ρ, m, w1, m1, R, E, e1, fun φ1 ψ1 H1 v P1 R1 V1 => ?_⟩
    have R1' := V1.rel R1
    have P1' := V1.post P1
    have hy := vl_rep (V1.s R1) ey
    have hv : v = kV ky := keyOf_v (.inl hy) ek
    refine ⟨φ1, ψ, ρ, m1, w2, m2, R1', E.mono P1' R, e2, fun φ2 ψ2 H2 u P2 R2 V2 => ?_⟩
    have R2' := V2.rel R2
    have P2' := V2.post P2
    have hz := vl_rep (V2.s R2) ez
    refine pairs_go r R2' ((E.mono P1' R).mono P2' R1') e3 fun φ3 H3 us P3 R3 pr => ?_
    rw [hv]
    exact k φ3 H3 ((ky, u) :: us) (P1'.trans (P2'.trans P3)) R3 (PR.cons rfl (hz.mono P3 R2') pr)
theorem puts_pr {K : FRG} {φ ψ : List Addr} {H : Hp} : ∀ {kvs : List (Key × D)} {us : List (Key × V)}, PR K φ ψ H kvs us → ∀ (acc : List (Key × D)) (vs : List (Key × V)), PR K φ ψ H acc vs → PR K φ ψ H (putsX kvs acc) (mergeK vs us)
  | [], [], _, _, _, h => h
  | [], _ :: _, h, _, _, _ => by have := h.len; simp at this
  | _ :: _, [], h, _, _, _ => by have := h.len; simp at this
  | (k, d) :: kvs, (k', v) :: us, h, acc, vs, ha => by
    obtain ⟨e1, e2, e3⟩ := h.uncons
    have e1' : k = k' := e1
    subst e1'
    exact puts_pr e3 _ _ (ha.put (k := k) e2)
theorem ex_disp {pos : Pos} {keys : List (Option Expr)} {values : List Expr} (ps : List (Ex × Ex)) (h : PPs X pos keys values (ps.map fun p => (T X.K tb p.1, T X.K tb p.2))) (hall : keys.all (·.isSome) = true) (hl : keys.length = values.length) (h0 : keys ≠ []) (h15 : keys.length ≤ 15) :
    PE X (.Dict keys values pos) (T X.K tb (eDisp ps)) := by
  refine pe_mono (pe_disp h hall hl h0 h15) fun σ H Q ⟨φ, ψ, ρ, m, w, m', R, E, e, k⟩ => ?_
  obtain ⟨⟨kvs, m1⟩, e1, e⟩ := bnd e
  simp only at e
  split at e
  · rename_i hk
    cases e
    intro p hp
    have np : p ∉ ψ := R.freshS hp
    have Pn : Post φ ψ H φ (p :: ψ) (upd H p (.dK [])) := Post.nw hp
    have Rn : Rel X.K tb φ (p :: ψ) (upd H p (.dK [])) m := R.nw hp
    refine pairs_go ps Rn (E.mono Pn R) e1 fun φ2 H2 us P2 R2 pr => ?_
    have hA : H2 p = some (.dK []) := P2.frm p _ (Rn.ap p List.mem_cons_self) upd_same fun _ z => nomatch z
    refine ⟨hA, us, rfl, by rw [← pr.len]; exact hk, ?_⟩
    have pp := puts_pr pr [] [] ⟨rfl, .nil⟩
    exact k φ2 (p :: ψ) _ _ (Post.sdw List.mem_cons_self (R2.ap p List.mem_cons_self) (R2.sd p List.mem_cons_self) (Pn.trans P2) hp) (R2.sdk List.mem_cons_self hA) ⟨p, .dk _, rfl, rfl, np, rfl, _, upd_same, pp.1, pp.2.sdk List.mem_cons_self hA⟩
  · cases e
end
end Pw
end
section
set_option Elab.async false
set_option linter.all false
set_option maxRecDepth 100000
set_option maxHeartbeats 2000000
/-! xs.index(i) of numbers; is, is not with True, False, None. -/
namespace Pw
open PySem PySem.Spec PyProof.Rows L2 Pv
section
variable {X : Cx} {tb : List Addr}
def isLA : W → Mem → Bool := fun w m => match gt w m with
  | some d => (itmL d).isSome
  | none => false
theorem isLA_ty {K : FRG} {φ ψ : List Addr} {H : Hp} {m : Mem} {w : W} {v : V} (R : Rel K tb φ ψ H m) (h : RepS K φ ψ H w v) (e : isLA w m = true) : tyV K "list" v H := by
  unfold isLA at e
  split at e
  · rename_i d hd
    obtain ⟨ds, hi⟩ := Option.isSome_iff_exists.mp e
    obtain ⟨l, vs, rfl, q, _⟩ := itmL_sq (gt_c R h hd) hi
    exact .inl ⟨rfl, _, q⟩
  · cases e
def idxD : W → List W → Mem → Option (W × Mem) := fun w ws m => match ws with
  | [a] => (gt w m).bind fun d => (itmL d).bind fun ds => (allI ds).bind fun is => (gt a m).bind fun x => match x with
    | .int i => (is.findIdx? fun j => j == i).bind fun k => some (.v (.int (k : Int)), m)
    | _ => none
  | _ => none
theorem idx_s : MtS X.K tb (rIndex X.K) idxD := fun φ ψ H m x vs w ws w' m' Q R h hs e k => by
  unfold idxD at e
  split at e
  · obtain ⟨d, e1, e⟩ := bnd e
    obtain ⟨ds, e2, e⟩ := bnd e
    obtain ⟨is, e3, e⟩ := bnd e
    obtain ⟨y, e4, e⟩ := bnd e
    split at e
    · rename_i i
      obtain ⟨j, e5, e⟩ := bnd e
      cases e
      cases hs with
      | cons ha r =>
        cases r
        obtain ⟨l, us, rfl, q, rs⟩ := itmL_sq (gt_c R h e1) e2
        obtain rfl := allI_rep rs e3
        have hv := (gt_c R ha e4).int
        subst hv
        obtain ⟨hj, hji, hjn⟩ := List.findIdx?_eq_some_iff_getElem.mp e5
        refine ⟨l, _, _, j, .int is[j], rfl, rfl, q, rfl, List.all_eq_true.mpr fun z hz => ?_, by rw [List.getElem?_map, List.getElem?_eq_getElem hj]; rfl, hji, fun n z hn hz => ?_, Go.val k R (.int _)⟩
        · obtain ⟨n, _, rfl⟩ := List.mem_map.mp hz; rfl
        · have hn' : n < is.length := by omega
          rw [List.getElem?_map, List.getElem?_eq_getElem hn'] at hz
          cases hz
          have := hjn n hn
          simpa [eqV] using this
    · cases e
  · cases e
theorem ex_index {o a : Expr} {fo : Ex} {f : Ax} {apos cpos : Pos} {es : List Expr} (ho : PE X o (T X.K tb fo)) (ha : PA X (a :: es) (Ta X.K tb f))
    (hbase : attributeBase o "index" X.env (eval o X.env) = eval o X.env := by rfl)
    (hfew : ((backTo cpos (starEach (a :: es) X.env)).all (fun x => !x.1) && (backToKw cpos (keywordEach [] X.env)).all (fun x => x.1.isSome)
      && decide ((a :: es).length + ([] : List Keyword).length + (if ([] : List Keyword).isEmpty then 0 else 1) < 30)) = true := by rfl)
    (hline : (apos.endLine == cpos.line) = true := by rfl) (hst : starEach (a :: es) X.env = (false, eval a X.env) :: starEach es X.env := by rfl) (hplain : (backTo cpos (starEach es X.env)).any (·.1) = false := by rfl) :
    PE X (.Call (.Attribute o "index" apos) (a :: es) [] cpos) (T X.K tb (eMt isLA idxD fo f)) :=
  ex_mt (fun φ ψ H m d v R h e => isLA_ty R h e) idx_s PySem.F.plainAttrs_list PySem.F.slot_list_index PySem.F.type_list_index mt_index ho ha hbase hfew hline hst hplain
end
end Pw
end
section
set_option Elab.async false
set_option linter.all false
set_option maxRecDepth 100000
set_option maxHeartbeats 2000000
/-! is, is not with True, False, None. -/
namespace Pw
open PySem PySem.Spec PyProof.Rows L2 Pv
section
variable {X : Cx} {tb : List Addr}
def rIsB (neg : Bool) : R2 := fun x y H Q => ∃ c, y = .bl c ∧ Q (.bl (decide (x = .bl c) != neg)) H
theorem same_b {M : Model} {A : Around} {E : Value → Shared → Prop} {s : Shared} {x : V} {u : Value} {c : Bool} {R : Bool → Shared → Prop} (r : RelV x u) (q : R (decide (x = .bl c)) s) : wpAny M A (isSame u (.bool c)) R E s := by
  have eq_ : ∀ {u : Value} {b : Bool}, plainIs u (.bool c) = true → (u == Value.bool c) = b → R b s → wpAny M A (isSame u (.bool c)) R E s := fun h1 h2 q => wpAny_isSame_plain h1 (by rw [h2]; exact q)
  cases x with
  | ref a => cases r; exact eq_ rfl rfl q
  | non => cases r; exact eq_ rfl rfl q
  | bl b => cases r; exact eq_ rfl (by cases b <;> cases c <;> rfl) q
  | int i => obtain ⟨t, rfl⟩ := r; exact eq_ rfl rfl q
  | str x => obtain ⟨t, rfl⟩ := r; exact eq_ rfl rfl q
  | byt x => obtain ⟨t, rfl⟩ := r; exact eq_ rfl rfl q
  | flt x => obtain ⟨t, rfl⟩ := r; exact eq_ rfl rfl q
  | ty n => cases r; exact eq_ rfl rfl q
theorem op_isB : OpR X (compareOp .Is) (rIsB false) := by
  intro pins s σ H x y v u Q I rx ry h
  obtain ⟨c, rfl, q⟩ := h
  cases ry
  show wpAny _ _ ((isSame v (Value.bool c)) >>= fun z => pure (Value.bool z)) _ _ s
  refine wpAny_bind (same_b rx (wpAny_pure (fin_bl I q ?_)))
  simp
theorem op_notB : OpR X (compareOp .IsNot) (rIsB true) := by
  intro pins s σ H x y v u Q I rx ry h
  obtain ⟨c, rfl, q⟩ := h
  cases ry
  show wpAny _ _ ((isSame v (Value.bool c)) >>= fun z => pure (Value.bool (!z))) _ _ s
  refine wpAny_bind (same_b rx (wpAny_pure (fin_bl I q ?_)))
  simp
def sameB : D → Bool → Bool
  | .bl b, c => b == c
  | _, _ => false
def sameN : D → Bool
  | .non => true
  | _ => false
theorem sameB_v {K : FRG} {φ ψ : List Addr} {H : Hp} {d : D} {v : V} {c : Bool} (h : RepC K φ ψ H d v) : decide (v = .bl c) = sameB d c := by
  rcases h with h | ⟨a, mo, rfl, rfl, q⟩
  · cases h with
    | bl b => cases b <;> cases c <;> rfl
    | _ => exact decide_eq_false fun z => nomatch z
  · cases mo <;> exact decide_eq_false fun z => nomatch z
theorem sameN_v {K : FRG} {φ ψ : List Addr} {H : Hp} {d : D} {v : V} (h : RepC K φ ψ H d v) : decide (v = .non) = sameN d := by
  rcases h with h | ⟨a, mo, rfl, rfl, q⟩
  · cases h with
    | non => rfl
    | _ => exact decide_eq_false fun z => nomatch z
  · cases mo <;> exact decide_eq_false fun z => nomatch z
def isBD (neg : Bool) : D → D → Option W
  | d, .bl c => some (.v (.bl (sameB d c != neg)))
  | _, _ => none
def isND (neg : Bool) : D → D → Option W
  | d, .non => some (.v (.bl (sameN d != neg)))
  | _, _ => none
theorem isB_s {neg : Bool} : OpS X.K tb (rIsB neg) (isBD neg) := fun φ ψ H m x y dx dy w Q R hx hy e k => by
  unfold isBD at e
  split at e
  · rename_i c
    cases e
    have := hy.bl
    subst this
    refine ⟨c, rfl, ?_⟩
    rw [sameB_v hx]
    exact Go.val k R (.bl _)
  · cases e
theorem isN_s : OpS X.K tb (fun x y H Q => y = .non ∧ Q (.bl (decide (x = .non))) H) (isND false) := fun φ ψ H m x y dx dy w Q R hx hy e k => by
  unfold isND at e
  split at e
  · cases e
    have := hy.non
    subst this
    refine ⟨rfl, ?_⟩
    rw [sameN_v hx]
    have := Go.val k R (.bl _)
    rwa [Bool.bne_false] at this
  · cases e
theorem notN_s : OpS X.K tb (fun x y H Q => y = .non ∧ Q (.bl (!decide (x = .non))) H) (isND true) := fun φ ψ H m x y dx dy w Q R hx hy e k => by
  unfold isND at e
  split at e
  · cases e
    have := hy.non
    subst this
    refine ⟨rfl, ?_⟩
    rw [sameN_v hx]
    have := Go.val k R (.bl _)
    rwa [Bool.bne_true] at this
  · cases e
end
end Pw
end
section
set_option Elab.async false
set_option linter.all false
set_option maxRecDepth 100000
set_option maxHeartbeats 2000000
/-! pop(i), x += e, list(range(a, b)), tuple(range(..)), what is never come to, index in a tuple. -/
namespace Pw
open PySem PySem.Spec PyProof.Rows L2 Pv
section
variable {X : Cx} {K : FRG} {tb : List Addr} {pos : Pos}
/-! ### pop(i) -/
def popAtD : W → List W → Mem → Option (W × Mem)
  | .r n, [.v (.int i)], m => match m[n]? with
    | some (.lst ds) => if ds.length ≤ 1000000 then (ixN ds.length i).bind fun k => (ds[k]?).bind fun d => some (.v d, m.set n (.lst (ds.eraseIdx k))) else none
    | _ => none
  | _, _, _ => none
theorem Reps.erase {φ ψ : List Addr} {H : Hp} : ∀ {ds : List D} {vs : List V} (k : Nat), Reps K φ ψ H ds vs → Reps K φ ψ H (ds.eraseIdx k) (vs.eraseIdx k)
  | _, _, _, .nil => .nil
  | _, _, 0, .cons _ r => r
  | _, _, k + 1, .cons h r => .cons h (Reps.erase k r)
theorem popAt_s : MtS K tb rPopAt popAtD := fun φ ψ H m x vs w ws w' m' Q R hx r e k => by
  unfold popAtD at e
  split at e
  · split at e
    · rename_i ds hm
      split at e
      · rename_i hl
        obtain ⟨j, ej, e⟩ := bnd e
        obtain ⟨d, ed, e⟩ := bnd e
        cases e
        cases r with
        | cons h r =>
          cases r
          cases h
          obtain ⟨q, h1, rfl⟩ := hx
          obtain ⟨vs, hq, rl⟩ := R.obj _ _ q hm h1
          have hmem := List.mem_of_getElem? h1
          obtain ⟨v, ev, hv⟩ := rl.get ed
          obtain ⟨s1, s2, s3, s4⟩ := ixN_seq ej
          have P := Post.wr (ψ := ψ) (o := .lst (vs.eraseIdx j)) hmem (R.trk hmem)
          exact ⟨q, vs, _, j, v, rfl, rfl, hq, by omega, by omega, by rw [← rl.length]; exact s1, ev, k φ ψ _ _ P (R.wrL h1 (rl.erase j)) ⟨rfl, hv.mono P R⟩⟩
      · cases e
    · cases e
  · cases e
theorem ex_popAt {o a : Expr} {fo : Ex} {f : Ax} {apos cpos : Pos} {es : List Expr} (ho : PE X o (T X.K tb fo)) (ha : PA X (a :: es) (Ta X.K tb f))
    (hbase : attributeBase o "pop" X.env (eval o X.env) = eval o X.env := by rfl)
    (hfew : ((backTo cpos (starEach (a :: es) X.env)).all (fun x => !x.1) && (backToKw cpos (keywordEach [] X.env)).all (fun x => x.1.isSome)
      && decide ((a :: es).length + ([] : List Keyword).length + (if ([] : List Keyword).isEmpty then 0 else 1) < 30)) = true := by rfl)
    (hline : (apos.endLine == cpos.line) = true := by rfl) (hst : starEach (a :: es) X.env = (false, eval a X.env) :: starEach es X.env := by rfl) (hplain : (backTo cpos (starEach es X.env)).any (·.1) = false := by rfl) :
    PE X (.Call (.Attribute o "pop" apos) (a :: es) [] cpos) (T X.K tb (eMt isLst popAtD fo f)) :=
  ex_mt (fun φ ψ H m d v R h e => isLst_ty R h e) popAt_s PySem.F.plainAttrs_list PySem.F.slot_list_pop PySem.F.type_list_pop mt_popAt ho ha hbase hfew hline hst hplain
/-! ### x += e, numbers -/
def sAugN (g : Int → Int → Int) (i : Nat) (a : Ex) : Sx := fun ρ m => match ρ[i]? with
  | some (some (.v (.int x))) => (a ρ m).bind fun p => (gt p.1 p.2).bind fun y => match y with
    | .int y => some (.nx, ρ.set i (some (.v (.int (g x y)))), p.2)
    | _ => none
  | _ => none
theorem bs_augN {g : Int → Int → Int} {op : Operator} {a : Expr} {fa : Ex} (i : Nat) {x : Str} {pos' : Pos} (hp : PIp X op (ipI g)) (hN : X.N.Nodup) (ha : PE X a (T X.K tb fa)) (hi : X.N[i]? = some x := by rfl) (hx : Loc X.env.scope x := by first | exact Or.inl rfl | exact Or.inr rfl)
    (hf : X.fn x = true ∨ X.env.scope.names.lookup x = some .local := by first | exact .inl rfl | exact .inr rfl | assumption) : PS X (.AugAssign (.Name x pos') op a pos) (Ts X.K tb (sAugN g i fa)) := by
  refine ps_mono (ps_aug hN hi hx ha hp hf) fun D σ H ⟨φ, ψ, ρ, m, o', ρ', m', R, E, e, k⟩ => ?_
  unfold sAugN at e
  split at e
  · rename_i x0 hx0
    obtain ⟨⟨w1, m1⟩, e1, e⟩ := bnd e
    obtain ⟨d, ed, e⟩ := bnd e
    split at e
    · rename_i y
      cases e
      obtain ⟨v, h1, h2⟩ := E.val i _ hx0
      cases h2
      refine ⟨_, h1, φ, ψ, ρ, m, w1, _, R, E, e1, fun φ1 ψ1 H1 u P1 R1 V1 => ⟨x0, y, rfl, (gt_c (V1.rel R1) (V1.s R1) ed).int, ?_⟩⟩
      exact k φ1 ψ H1 (V1.post P1) (V1.rel R1) rfl _ ((E.mono (V1.post P1) R).set i (d := .v (.int (g x0 y))) (Rep.int _))
    · cases e
  · cases e
/-! ### list(range(a, b)), tuple(range(..)) -/
def rgD (a b : Int) : List D := (List.range (b - a).toNat).map fun i => D.int (a + (i : Nat))
theorem reps_rg {φ ψ : List Addr} {H : Hp} (a b : Int) : Reps K φ ψ H (rgD a b) (rgV a b) := by
  have e1 : rgD a b = ((List.range (b - a).toNat).map fun i : Nat => a + (i : Int)).map D.int := by unfold rgD; rw [List.map_map]; rfl
  have e2 : rgV a b = ((List.range (b - a).toNat).map fun i : Nat => a + (i : Int)).map V.int := by unfold rgV; rw [List.map_map]; rfl
  rw [e1, e2]
  exact reps_ints _
def lrg2D : D → D → Option W
  | .int a, .int b => if 0 ≤ a ∧ a ≤ 1000000 ∧ 0 ≤ b ∧ b ≤ 1000000 then some (.f (.lst (rgD a b))) else none
  | _, _ => none
theorem ex_lrg2 {a b : Expr} {fa fb : Ex} {p p2 q : Pos} (hc : X.calm = true) (hg : Gl X "list") (hm : X.mg "list" = none) (hg2 : Gl X "range") (hm2 : X.mg "range" = none) (ha : PE X a (T X.K tb fa)) (hb : PE X b (T X.K tb fb))
    (h1 : starEach [a, b] X.env = (false, eval a X.env) :: starEach [b] X.env := by rfl) (h3 : starEach [b] X.env = (false, eval b X.env) :: starEach [] X.env := by rfl) (h4 : (backTo q (starEach [b] X.env)).any (·.1) = false := by rfl)
    (h2 : starEach [.Call (.Name "range" p2) [a, b] [] q] X.env = (false, eval (.Call (.Name "range" p2) [a, b] [] q) X.env) :: starEach [] X.env := by rfl) :
    PE X (.Call (.Name "list" p) [.Call (.Name "range" p2) [a, b] [] q] [] pos) (T X.K tb (eOp lrg2D fa fb)) := by
  refine pe_mono (pe_listRg hc hg hm (prg_2 hg2 hm2 ha hb h1 h3 h4) h2) fun σ H Q ⟨φ, ψ, ρ, m, w, m', R, E, e, k⟩ => ?_
  obtain ⟨⟨w1, m1⟩, e1, e⟩ := bnd e
  obtain ⟨⟨w2, m2⟩, e2, e⟩ := bnd e
  obtain ⟨x, ex, e⟩ := bnd e
  obtain ⟨y, ey, e⟩ := bnd e
  obtain ⟨w3, eg, e⟩ := bnd e
  cases e
  refine ⟨φ, ψ, ρ, m, w1, m1, R, E, e1, fun φ1 ψ1 H1 xv P1 R1 V1 => ⟨φ1, ψ, ρ, m1, w2, _, V1.rel R1, E.mono (V1.post P1) R, e2, fun φ2 ψ2 H2 yv P2 R2 V2 => ?_⟩⟩
  have R2' := V2.rel R2
  have P2' := V2.post P2
  have C1 := gt_c R2' ((V1.s R1).mono P2' (V1.rel R1)) ex
  have C2 := gt_c R2' (V2.s R2) ey
  have kk : Go X.K tb φ2 ψ H2 m2 w Q := fun φ3 ψ3 H3 v P3 R3 V3 => k φ3 ψ3 H3 v ((V1.post P1).trans (P2'.trans P3)) R3 V3
  have eg : lrg2D x y = some w := eg
  unfold lrg2D at eg
  split at eg
  · split at eg
    · rename_i i j _ _ hn
      cases eg
      exact ⟨i, j, C1.int, C2.int, RgOk.of_le (by omega) (by omega) (by omega) (by omega), fun p hp => Go.lst kk R2' (reps_rg i j) hp⟩
    · cases eg
  · cases eg
def trgD : D → Option W
  | .int b => if 0 ≤ b ∧ b ≤ 1000000 then some (.v (.tup (rgD 0 b))) else none
  | _ => none
theorem ex_trg {a : Expr} {fa : Ex} {p p2 q : Pos} (hc : X.calm = true) (hg : Gl X "tuple") (hm : X.mg "tuple" = none) (hg2 : Gl X "range") (hm2 : X.mg "range" = none) (ha : PE X a (T X.K tb fa))
    (h1 : starEach [a] X.env = (false, eval a X.env) :: starEach [] X.env := by rfl) (h2 : starEach [.Call (.Name "range" p2) [a] [] q] X.env = (false, eval (.Call (.Name "range" p2) [a] [] q) X.env) :: starEach [] X.env := by rfl) :
    PE X (.Call (.Name "tuple" p) [.Call (.Name "range" p2) [a] [] q] [] pos) (T X.K tb (eUn trgD fa)) := by
  refine pe_mono (pe_tupRg hc hg hm (prg_1 hg2 hm2 ha h1) h2) fun σ H Q ⟨φ, ψ, ρ, m, w, m', R, E, e, k⟩ => ?_
  obtain ⟨⟨w1, m1⟩, e1, e⟩ := bnd e
  obtain ⟨d, ed, e⟩ := bnd e
  obtain ⟨w2, e2, e⟩ := bnd e
  cases e
  refine ⟨φ, ψ, ρ, m, w1, m1, R, E, e1, fun φ1 ψ1 H1 x P1 R1 V1 => ?_⟩
  have C := gt_c (V1.rel R1) (V1.s R1) ed
  have kk : Go X.K tb φ1 ψ H1 m1 w Q := fun φ3 ψ3 H3 v P3 R3 V3 => k φ3 ψ3 H3 v ((V1.post P1).trans P3) R3 V3
  have e2 : trgD d = some w := e2
  unfold trgD at e2
  split at e2
  · split at e2
    · rename_i n _ hn
      cases e2
      exact ⟨n, C.int, RgOk.of_le (by omega) (by omega) (by omega) hn.1, fun p hp => Go.tup kk (V1.rel R1) (reps_rg 0 n) hp⟩
    · cases e2
  · cases e2
/-! ### what is never come to -/
def sFail : Sx := fun _ _ => none
theorem bs_fail {st : Stmt} : PS X st (Ts X.K tb sFail) := ⟨fun pins s σ H D I ⟨φ, ψ, ρ, m, o, ρ', m', R, E, e, k⟩ => nomatch e⟩
/-! ### index in a tuple of numbers -/
theorem mt_tup_indexI : MtR X "tuple.index" (fun x xs H Q => ∃ p, ∃ ys : List Int, ∃ z j, x = .ref p ∧ xs = [.int z] ∧ SqT X.K H p (ys.map V.int) ∧ ys[j]? = some z ∧ (∀ m, m < j → ys[m]? ≠ some z) ∧ Q (.int (j : Nat)) H) := by
  intro pins s σ H x xs v us Q I rx rs h
  obtain ⟨p, ys, z, j, rfl, rfl, hq, hy, hno, q⟩ := h
  cases rx
  obtain ⟨u, rfl, t, rfl⟩ := vals1 rs
  obtain ⟨its, r, pl, hz⟩ := I.tuple hq
  obtain ⟨⟨cls, dd, dt, sl⟩, ho, hc, n, hd⟩ := pl
  simp only at hc hd
  subst hc
  subst hd
  have hl : its.toArray.size = ys.length := by rw [List.size_toArray, ← r.length, List.length_map]
  have hj : j < its.toArray.size := by rw [hl]; exact (List.getElem?_eq_some_iff.mp hy).1
  have at' : ∀ (m : Nat) (hm : m < its.toArray.size), ∃ y t', ys[m]? = some y ∧ its.toArray[m] = Value.int y t' := fun m hm => by
    have hm' : m < ys.length := by rw [← hl]; exact hm
    obtain ⟨w, hw, t', hw'⟩ := r.get (i := m) (x := .int ys[m]) (by simp [hm'])
    refine ⟨ys[m], t', List.getElem?_eq_getElem hm', ?_⟩
    have e := (List.getElem?_eq_some_iff.mp hw).2
    rw [← hw', ← e]
    simp
  refine call_meets PySem.F.slot_tuple_index ⟨_, ho, rfl⟩ PySem.F.entry_tuple_index (PySem.F.args_tuple_index_2 _ _) (TI.tuple_indexAt p its.toArray n dd sl (.int z t) (eqU (.int z)) j hj ?_ ?_)
    ⟨ho, fun w hw => mem_eqAt (x := .int z) ⟨t, rfl⟩ rfl r (by rw [List.all_eq_true]; intro y hy; obtain ⟨n, _, rfl⟩ := List.mem_map.mp hy; rfl) w (by simpa using hw), ⟨.int (j : Nat), H, I.tok _, ⟨_, rfl⟩, q⟩⟩
  · obtain ⟨y, t', h1, h2⟩ := at' j hj
    rw [hy] at h1
    cases h1
    rw [h2]
    show (z == z) = true
    exact beq_self_eq_true z
  · intro m hm hmj
    obtain ⟨y, t', h1, h2⟩ := at' m hm
    rw [h2]
    show (y == z) = false
    exact beq_eq_false_iff_ne.mpr fun e => hno m hmj (e ▸ h1)
end
end Pw
end
section
set_option Elab.async false
set_option linter.all false
set_option maxRecDepth 100000
set_option maxHeartbeats 2000000
/-! sorted(t), t a tuple: of numbers, of tuples of numbers and texts. -/
namespace Pv
open PySem PySem.Spec PyProof.Rows L2
section
variable {prog : Program} {w : World} {A : Around} {E : Value → Shared → Prop} {s : Shared}
/-- what is gathered of a list stands so -/
abbrev gath (s : Shared) (vs : List Value) : Heap := Heap.update (s.heap.push (seqObj "list" #[] 0)) s.heap.objs.size (Obj.mapSeq (· ++ vs.toArray))
theorem collect_tup {l : Addr} {vs : List Value} {Q : List Value → Shared → Prop} (hl : IsTup s.heap l vs.toArray) (hsz : vs.length ≤ sizeLine) (h : Q vs { s with heap := gath s vs }) : wpAny (model prog w) A (collect (.ref l)) Q E s := by
  obtain ⟨o, ho, hc, n, hd⟩ := id hl
  have ho' : (s.heap.push (seqObj "list" #[] 0)).get? l = some o := Heap.get?_push_of_some _ ho
  unfold collect
  refine wpAny_bind (wpAny_runValue (codeAny_builtin entry_proto_collect' (?_ : wpAny _ _ (do again (.builtin "list.__iadd__" ⟨[← newList [], .ref l], []⟩)) _ _ s)))
  refine wpAny_bind (wpAny_newList (wpAny_pure ⟨Code.quiet_builtin _ (by decide +kernel), codeAny_builtin entry_list_iadd'
    (?_ : wpAny _ _ (Builtin.List.listExtendWith (.ref s.heap.objs.size) (.ref l) (.ref s.heap.objs.size)) _ _ { s with heap := s.heap.push (seqObj "list" #[] 0) })⟩))
  unfold Builtin.List.listExtendWith
  refine wpAny_bind (wpAny_typeOf (T := "tuple") ⟨o, ho', hc⟩ ?_)
  rw [if_pos (by simp)]
  refine wpAny_bind (listItems_at ho' hd (wpAny_bind (listItems_at (xs := #[]) (n := 0) (Heap.get?_push_size _ rfl) rfl ?_)))
  rw [if_neg (by simp)]
  refine wpAny_bind (listUpdate_at (n := 0) (xs := #[]) (Heap.get?_push_size _ rfl) rfl (wpAny_pure ?_) (Nat.zero_le _) (by
    show (#[] ++ vs.toArray).size ≤ sizeLine + 1
    rw [Array.size_append, List.size_toArray]
    simp
    omega))
  refine wpAny_bind (wpAny_load (get?_update_seq (Heap.get?_push_size _ rfl) _) ?_)
  show wpAny _ _ (pure ((#[] : Array Value) ++ vs.toArray).toList) Q E _
  have z : ((#[] : Array Value) ++ vs.toArray).toList = vs := by simp
  rw [z]
  exact wpAny_pure h
theorem gath_size (vs : List Value) : (gath s vs).objs.size = s.heap.objs.size + 1 := by
  show ((s.heap.push (seqObj "list" #[] 0)).update _ _).objs.size = _
  rw [Heap.size_update, size_push']
theorem gath_at (vs : List Value) : ((gath s vs).push (seqObj "list" vs.toArray 0)).get? (s.heap.objs.size + 1) = some (seqObj "list" vs.toArray 0) := by
  rw [← gath_size vs]; exact Heap.get?_push_size _ rfl
theorem gath_keep (vs : List Value) : Kps s.heap ((gath s vs).push (seqObj "list" vs.toArray 0)) := fun b u e => by
  have lt : b < s.heap.objs.size := Heap.lt_size e
  refine Heap.get?_push_of_some _ (?_ : ((s.heap.push (seqObj "list" #[] 0)).update _ _).get? b = some u)
  rw [Heap.get?_update_ne _ _ _ _ (Nat.ne_of_lt lt)]
  exact Heap.get?_push_of_some _ e
theorem gath_sorted (vs : List Value) (out : Array Value) : Kps s.heap (sortedHeap ((gath s vs).push (seqObj "list" vs.toArray 0)) (s.heap.objs.size + 1) vs out) := fun b u e => by
  have lt : b < s.heap.objs.size := Heap.lt_size e
  rw [sortedHeap_old (Nat.ne_of_lt (Nat.lt_succ_of_lt lt)) (by rw [size_push', gath_size]; exact Nat.lt_succ_of_lt (Nat.lt_succ_of_lt lt))]
  exact gath_keep vs b u e
end
section
variable {X : Cx}
def rSortTI (K : PySem.W.Frag) : List V → Hp → VK → Prop := fun vs H Q => ∃ (a : Addr) (is : List Int), vs = [V.ref a] ∧ SqT K H a (is.map V.int) ∧
  ∀ (js : List Int) (p : Addr), js.Perm is → js.Pairwise (· ≤ ·) → H p = none → Q (.ref p) (upd H p (.lst (js.map V.int)))
theorem cr_sortTI : CallR X (.builtin "sorted") (rSortTI X.K) := by
  intro pins s σ H vs us Q I r h
  obtain ⟨a, is, rfl, hs, q⟩ := h
  rw [Vals.ref1 r]
  obtain ⟨its, rv, pl, hz⟩ := I.tuple hs
  have hi := rv.ints
  have hl := rv.length
  rw [List.length_map] at hl hz
  refine Calls.call_function_entry kind_sorted plain_sorted entry_sorted (args_sorted1 _) ?_
  unfold Builtin.«sorted»
  refine wpAny_bind (m := checkCount "sorted" 1 1 _) (wpAny_pure (wpAny_bind (collect_tup pl (by omega) (wpAny_bind (wpAny_newList ?_ (by omega))))))
  show wpAny _ _ _ _ _ { s with heap := (gath s its).push (seqObj "list" its.toArray 0) }
  rw [gath_size]
  refine wpAny_bind (wpAny_holding (wpAny_call_entry slot_list_sort ⟨_, gath_at its, rfl⟩ entry_list_sort
    (SrtO.list_sort_ord (s := { s with heap := (gath s its).push (seqObj "list" its.toArray 0) }) SrtO.swo_int (gath_at its) (by omega) (fun h2 => SrtO.ints_sortable hi h2) fun out h1 h2 => ⟨.none, rfl, ?_⟩) (args_list_sort _)))
  obtain ⟨k1, k2, k3⟩ := SrtO.ints_out hi h1 h2
  obtain ⟨ep, he'⟩ := sortedHeap_at (vs := its) (out := out.toArray) (gath_at its)
  exact wpAny_pure ⟨_, rfl, .ref _, upd H (s.heap.objs.size + 1) (.lst ((out.map SrtO.iv).map V.int)), I.laid (t' := s.toks) (gath_sorted its out.toArray) (Nat.le_succ _) ⟨by rw [List.length_map, k2.length_eq]; omega, out, ep, vals_of_ints k1, he'⟩, rfl, q _ _ k2 k3 (I.hok.fresh (Nat.le_succ _))⟩
def rSortTM (K : PySem.W.Frag) : List V → Hp → VK → Prop := fun vs H Q => ∃ (a : Addr) (L : List Ent) (sh : List Bool), vs = [V.ref a] ∧ SqT K H a (L.map fun e => V.ref e.1) ∧ (∀ e ∈ L, SqT K H e.1 (e.2.map kV)) ∧ sh ≠ [] ∧ (∀ e ∈ L, e.2.map Sum.isRight = sh) ∧
  ∀ (L' : List Ent) (p : Addr), L'.Perm L → L'.Pairwise (fun e f => kLt f.2 e.2 = false) → H p = none → Q (.ref p) (upd H p (.lst (L'.map fun e => V.ref e.1)))
theorem cr_sortTM : CallR X (.builtin "sorted") (rSortTM X.K) := by
  intro pins s σ H vs us Q I r h
  obtain ⟨a, L, sh, rfl, hl, hk, hne, hs, q⟩ := h
  rw [Vals.ref1 r]
  obtain ⟨its, rv, pl, hz⟩ := I.tuple hl
  obtain rfl := refs_mix rv
  rw [List.length_map] at hz
  refine Calls.call_function_entry kind_sorted plain_sorted entry_sorted (args_sorted1 _) ?_
  unfold Builtin.«sorted»
  refine wpAny_bind (m := checkCount "sorted" 1 1 _) (wpAny_pure (wpAny_bind (collect_tup pl (by rw [List.length_map]; exact hz) (wpAny_bind (wpAny_newList ?_ (by rw [List.length_map]; exact hz))))))
  show wpAny _ _ _ _ _ { s with heap := (gath s (L.map refE)).push (seqObj "list" (L.map refE).toArray 0) }
  rw [gath_size]
  refine wpAny_bind (wpAny_holding (wpAny_call_entry slot_list_sort ⟨_, gath_at (L.map refE), rfl⟩ entry_list_sort
    (sort_mix (P := X.prog) (w := X.w) (s := { s with heap := (gath s (L.map refE)).push (seqObj "list" (L.map refE).toArray 0) }) (gath_at (L.map refE)) (fun e he => mix_keep (inv_mix I (hk e he)) (gath_keep (L.map refE))) hs hne hz fun L' p2 pw => ⟨.none, rfl, ?_⟩) (args_list_sort _)))
  obtain ⟨c, hc'⟩ := sortedHeap_at (vs := L.map refE) (out := (L'.map refE).toArray) (gath_at (L.map refE))
  exact wpAny_pure ⟨_, rfl, .ref _, upd H (s.heap.objs.size + 1) (.lst (L'.map fun e => V.ref e.1)), I.laid (t' := s.toks) (gath_sorted (L.map refE) (L'.map refE).toArray) (Nat.le_succ _) ⟨by rw [List.length_map, p2.length_eq]; exact hz, L'.map refE, c, vals_mix L', hc'⟩, rfl, q L' _ p2 pw (I.hok.fresh (Nat.le_succ _))⟩
theorem cr_sortB : CallR X (.builtin "sorted") (fun vs H Q => (rSortedI X.K vs H Q ∨ rSortLM X.K vs H Q) ∨ (rSortTI X.K vs H Q ∨ rSortTM X.K vs H Q)) := fun pins s σ H vs us Q I r h =>
  h.elim (fun h => cr_sortA pins s σ H vs us Q I r h) fun h => h.elim (fun h => cr_sortTI pins s σ H vs us Q I r h) fun h => cr_sortTM pins s σ H vs us Q I r h
end
end Pv
end
section
set_option Elab.async false
set_option linter.all false
set_option maxRecDepth 100000
set_option maxHeartbeats 2000000
/-! sorted(t), t a list or a tuple. -/
namespace Pw
open PySem PySem.Spec PyProof.Rows L2 Pv
def sortBD : List D → Option W
  | [.tup ds] => match allI ds with
    | some is => if is.length ≤ 1000000 then some (.f (.lst ((sortM iLt is).map .int))) else none
    | none => (allT ds).bind fun ks => if ks.length ≤ 1000000 ∧ oneSh ks = true then some (.f (.lst ((sortM kLt ks).map tD))) else none
  | xs => sortedD xs
theorem sortB_s {K : FRG} {tb : List Addr} : CallS K tb (fun vs H Q => (rSortedI K vs H Q ∨ rSortLM K vs H Q) ∨ (rSortTI K vs H Q ∨ rSortTM K vs H Q)) sortBD := fun φ ψ H m vs ds w Q R r e k => by
  unfold sortBD at e
  split at e
  · rename_i xs
    right
    cases r with
    | cons hx r =>
      cases r
      obtain ⟨l, us, rfl, hq, rs⟩ := hx.tup
      cases hI : allI xs with
      | some is =>
        rw [hI] at e
        dsimp only at e
        split at e
        · cases e
          obtain rfl := allI_rep rs hI
          left
          refine ⟨l, is, rfl, hq, fun ns p h1 h2 hp => ?_⟩
          have en : ns = sortM iLt is := sortedM_uniq lin_i (h2.imp fun {x y} h => by simp only [iLt, decide_eq_false_iff_not]; omega) (sortM_sorted lin_i is) (h1.trans (sortM_perm is).symm)
          rw [en]
          exact Go.lst k R (reps_ints _) hp
        · cases e
      | none =>
        rw [hI] at e
        dsimp only at e
        obtain ⟨ks, e7, e⟩ := bnd e
        split at e
        · rename_i hb
          obtain ⟨hb, ho⟩ := hb
          cases e
          obtain ⟨es, rfl, rfl, hs⟩ := allT_rep rs e7
          right
          obtain ⟨sh', hne, hsh⟩ := shape ho (fun e he => he)
          refine ⟨l, es, sh', rfl, hq, hs, hne, hsh, fun L' p p1 pw hp => ?_⟩
          have en : L'.map (·.2) = sortM kLt (es.map (·.2)) := sortedM_uniq lin_k (List.pairwise_map.mpr pw) (sortM_sorted lin_k _) ((p1.map (·.2)).trans (sortM_perm _).symm)
          have ed : (sortM kLt (es.map (·.2))).map tD = L'.map fun e => tD e.2 := by rw [← en, List.map_map]; rfl
          rw [ed] at k
          exact Go.lst k R (reps_ents L' fun e he => hs e (p1.mem_iff.mp he)) hp
        · cases e
  · exact .inl (sorted_s φ ψ H m vs ds w Q R r e k)
end Pw
end
section
set_option Elab.async false
set_option linter.all false
set_option maxRecDepth 100000
set_option maxHeartbeats 2000000
/-! a, b, .. = a tuple or a list. -/
namespace Pw
open PySem PySem.Spec PyProof.Rows L2 Pv
def gTL (gs : List Gx) : Gx := fun d ρ => match d with
  | .tup ds => gL gs ds ρ
  | .lst ds => gL gs ds ρ
  | .fl ds => gL gs ds ρ
  | _ => none
abbrev gTorL (K : FRG) (n : Nat) (gs : TGs) : TG := fun v σ H Q => gTup K n gs v σ H Q ∨ gUnl K n gs v σ H Q
theorem tg_tl {K : FRG} {tb : List Addr} {gs : TGs} {ts : List Gx} {n : Nat} (hn : ts.length = n) (h : TgsS K tb gs ts) : TgS K tb (gTorL K n gs) (gTL ts) := fun φ ψ H m ρ σ d v ρ' Q R E V e k => by
  cases V with
  | tup hq r => exact .inl ⟨_, _, rfl, hq, by rw [← r.length, gL_len e]; exact hn, h φ ψ H m ρ σ _ _ ρ' Q R E r e k⟩
  | fl hq r => exact .inr ⟨_, _, rfl, hq.sq, by rw [← r.length, gL_len e]; exact hn, h φ ψ H m ρ σ _ _ ρ' Q R E r e k⟩
  | lst h1 h2 hq r => exact .inr ⟨_, _, rfl, SqL.of hq, by rw [← r.length, gL_len e]; exact hn, h φ ψ H m ρ σ _ _ ρ' Q R E r e k⟩
  | _ => cases e
theorem pg_tl {X : Cx} {pos : Pos} {es : List Expr} {k : Nat} {t : TGs} {n : Nat} (hc : X.calm = true) (h : PGs X es t)
    (hn : (assignEach es X.env).length = n := by rfl) (hst : (assignEach es X.env).findIdx? (·.1) = none := by rfl) : PG X (.Tuple es k pos) (gTorL X.K n t) :=
  ⟨fun pins s σ H v u Q I r hw => hw.elim (fun hw => (pg_tup hc h hn hst).run pins s σ H v u Q I r hw) fun hw => (pg_unl hc h hn hst).run pins s σ H v u Q I r hw⟩
end Pw
end
section
set_option Elab.async false
set_option linter.all false
set_option maxRecDepth 100000
set_option maxHeartbeats 2000000
/-! str(i), s.join(xs), texts and tuples of texts of the module. -/
namespace Pw
open PySem PySem.Spec PyProof.Rows L2 Pv
section
variable {X : Cx} {K : FRG} {tb : List Addr} {pos : Pos}
def strD : List D → Option W
  | [.int i] => if i.natAbs.log2 < 1900 then some (.v (.str (toString i))) else none
  | _ => none
theorem str_s : CallS K tb (fun xs H Q => ∃ i, xs = [V.int i] ∧ i.natAbs.log2 < 1920 ∧ Q (.str (toString i)) H) strD := fun φ ψ H m vs ds w Q R r e k => by
  unfold strD at e
  split at e
  · split at e
    · rename_i i hi
      cases e
      cases r with
      | cons h r =>
        cases r
        exact ⟨i, by rw [h.int], by omega, Go.val k R (.str _)⟩
    · cases e
  · cases e
/-- all are texts -/
def allS : List D → Option (List Str)
  | [] => some []
  | .str x :: ds => (allS ds).bind fun xs => some (x :: xs)
  | _ => none
theorem allS_rep {φ ψ : List Addr} {H : Hp} : ∀ {ds : List D} {vs : List V} {xs : List Str}, Reps K φ ψ H ds vs → allS ds = some xs → vs = xs.map V.str
  | [], _, _, .nil, e => by cases e; rfl
  | .str x :: ds, _, _, .cons h r, e => by
    rw [allS] at e
    obtain ⟨ys, e1, e⟩ := bnd e
    cases e
    cases h
    rw [allS_rep r e1]; rfl
  | .non :: _, _, _, _, e => by simp [allS] at e
  | .bl _ :: _, _, _, _, e => by simp [allS] at e
  | .int _ :: _, _, _, _, e => by simp [allS] at e
  | .tup _ :: _, _, _, _, e => by simp [allS] at e
  | .fl _ :: _, _, _, _, e => by simp [allS] at e
  | .lst _ :: _, _, _, _, e => by simp [allS] at e
  | .dk _ :: _, _, _, _, e => by simp [allS] at e
  | .dt _ :: _, _, _, _, e => by simp [allS] at e
  | .rl _ _ :: _, _, _, _, e => by simp [allS] at e
def isStr : W → Mem → Bool
  | .v (.str _), _ => true
  | _, _ => false
theorem isStr_ty {φ ψ : List Addr} {H : Hp} {m : Mem} {w : W} {v : V} (R : Rel K tb φ ψ H m) (h : RepS K φ ψ H w v) (e : isStr w m = true) : tyV K "str" v H := by
  unfold isStr at e
  split at e
  · cases h; rfl
  · cases e
def joinD : W → List W → Mem → Option (W × Mem) := fun w ws m => match w, ws with
  | .v (.str a), [b] => (gt b m).bind fun d => (itmD d).bind fun ds => (allS ds).bind fun ys => if (ys.map (·.length)).sum + ys.length * a.length ≤ 16000000 then some (.v (.str (Txt.join a ys)), m) else none
  | _, _ => none
theorem join_s : MtS K tb (fun x xs H Q => ∃ a p, ∃ ys : List Str, x = V.str a ∧ xs = [V.ref p] ∧ (SqL K H p (ys.map V.str) ∨ SqT K H p (ys.map V.str)) ∧
    (ys.map (·.length)).sum + ys.length * a.length ≤ 16777216 ∧ Q (.str (Txt.join a ys)) H) joinD := fun φ ψ H m x vs w ws w' m' Q R hx r e k => by
  unfold joinD at e
  split at e
  · obtain ⟨d, e1, e⟩ := bnd e
    obtain ⟨ds, e2, e⟩ := bnd e
    obtain ⟨ys, e3, e⟩ := bnd e
    split at e
    · rename_i hl
      cases e
      cases hx
      cases r with
      | cons h r =>
        cases r
        obtain ⟨l, us, rfl, hq, rs⟩ := itm_sq (gt_c R h e1) e2
        obtain rfl := allS_rep rs e3
        exact ⟨_, l, ys, rfl, rfl, hq, by omega, Go.val k R (.str _)⟩
    · cases e
  · cases e
theorem ex_join {o a : Expr} {fo : Ex} {f : Ax} {apos cpos : Pos} {es : List Expr} (ho : PE X o (T X.K tb fo)) (ha : PA X (a :: es) (Ta X.K tb f))
    (hbase : attributeBase o "join" X.env (eval o X.env) = eval o X.env := by rfl)
    (hfew : ((backTo cpos (starEach (a :: es) X.env)).all (fun x => !x.1) && (backToKw cpos (keywordEach [] X.env)).all (fun x => x.1.isSome)
      && decide ((a :: es).length + ([] : List Keyword).length + (if ([] : List Keyword).isEmpty then 0 else 1) < 30)) = true := by rfl)
    (hline : (apos.endLine == cpos.line) = true := by rfl) (hst : starEach (a :: es) X.env = (false, eval a X.env) :: starEach es X.env := by rfl) (hplain : (backTo cpos (starEach es X.env)).any (·.1) = false := by rfl) :
    PE X (.Call (.Attribute o "join" apos) (a :: es) [] cpos) (T X.K tb (eMt isStr joinD fo f)) :=
  ex_mt (fun φ ψ H m d v R h e => isStr_ty R h e) join_s PySem.F.plainAttrs_str PySem.F.slot_str_join PySem.F.type_str_join mt_join ho ha hbase hfew hline hst hplain
/-- a text that stands in the module under a name -/
def GlS (mg : Str → Option Value) (x : Str) (y : Str) : Prop := ∃ u, mg x = some u ∧ RelV (.str y) u
theorem ex_globS {x y : Str} {pos : Pos} (hg : Gl X x) (hm : GlS X.mg x y) (hd : (x == ("__debug__" : Str)) = false := by decide) : PE X (.Name x pos) (T X.K tb (eC (.str y))) := by
  obtain ⟨u, h1, h2⟩ := hm
  exact pe_mono (pe_glob hg h1 h2 hd) fun σ H Q ⟨φ, ψ, ρ, m, w, m', R, E, e, k⟩ => by
    cases e
    exact Go.val k R (.str y)
theorem reps_strs {φ ψ : List Addr} {H : Hp} : ∀ ys : List Str, Reps K φ ψ H (ys.map D.str) (ys.map V.str)
  | [] => .nil
  | y :: ys => .cons (.str y) (reps_strs ys)
/-- a tuple of texts of the module -/
def GlT (K : FRG) (mg : Str → Option Value) (x : Str) (ys : List Str) : Prop := ∃ (a : Addr) (o : Obj) (its : Array Value) (n : Nat), mg x = some (.ref a) ∧ K.lookup a = some o ∧ o.cls = .type "tuple" ∧ o.data = .seq its n ∧ its.size ≤ 1000000 ∧ Vals (ys.map V.str) its.toList
theorem ex_globT {x : Str} {ys : List Str} {pos : Pos} (hg : Gl X x) (hm : GlT X.K X.mg x ys) (hd : (x == ("__debug__" : Str)) = false := by decide) : PE X (.Name x pos) (T X.K tb (eC (.tup (ys.map .str)))) := by
  obtain ⟨a, o, its, n, h1, h2, h3, h4, h5, h6⟩ := hm
  exact pe_mono (pe_glob hg h1 (v := .ref a) rfl hd) fun σ H Q ⟨φ, ψ, ρ, m, w, m', R, E, e, k⟩ => by
    cases e
    exact Go.val k R (.tup (.inr ⟨o, its, n, h2, h3, h4, small h5, h6⟩) (reps_strs ys))
end
end Pw
end
section
set_option Elab.async false
set_option linter.all false
set_option maxRecDepth 100000
set_option maxHeartbeats 4000000
namespace K91
open PySem PySem.Spec PyProof.Rows L2 Pw
def topS (i : Nat) : Stmt := PySem.Challenge.pw_thronewalk_k91_texts_told.main.body.getD i (.Pass ⟨0, 0, 0, 0⟩)
abbrev s_name : Stmt := topS 23
abbrev N_name : List Str := ["_law_who"]
abbrev P_name : List Str := ["_law_who"]
theorem sc_name : FnScope N_name P_name (defScope s_name) := ⟨rfl, rfl, rfl, by decide +kernel, rfl, by decide +kernel, by decide +kernel⟩
abbrev s_news_words : Stmt := topS 26
abbrev N_news_words : List Str := ["_law_news_here"]
abbrev P_news_words : List Str := ["_law_news_here"]
theorem sc_news_words : FnScope N_news_words P_news_words (defScope s_news_words) := ⟨rfl, rfl, rfl, by decide +kernel, rfl, by decide +kernel, by decide +kernel⟩
abbrev s_text : Stmt := topS 24
abbrev N_text : List Str := ["_law_rows_here", "_law_row_here"]
abbrev P_text : List Str := ["_law_rows_here"]
theorem sc_text : FnScope N_text P_text (defScope s_text) := ⟨rfl, rfl, rfl, by decide +kernel, rfl, by decide +kernel, by decide +kernel⟩
abbrev s_l_book_text : Stmt := topS 27
abbrev N_l_book_text : List Str := ["_law_book_here", "_law_news_here"]
abbrev P_l_book_text : List Str := ["_law_book_here"]
theorem sc_l_book_text : FnScope N_l_book_text P_l_book_text (defScope s_l_book_text) := ⟨rfl, rfl, rfl, by decide +kernel, rfl, by decide +kernel, by decide +kernel⟩
abbrev s_l_house_text : Stmt := topS 25
abbrev N_l_house_text : List Str := ["_law_house_here", "_law_rows_here", "_law_day_here", "_law_father", "_law_mother", "_law_man", "_law_wed"]
abbrev P_l_house_text : List Str := ["_law_house_here"]
theorem sc_l_house_text : FnScope N_l_house_text P_l_house_text (defScope s_l_house_text) := ⟨rfl, rfl, rfl, by decide +kernel, rfl, by decide +kernel, by decide +kernel⟩
abbrev s_take : Stmt := topS 14
abbrev N_take : List Str := ["_law_state", "_law_below", "_law_cell", "_law_found"]
abbrev P_take : List Str := ["_law_state", "_law_below"]
theorem sc_take : FnScope N_take P_take (defScope s_take) := ⟨rfl, rfl, rfl, by decide +kernel, rfl, by decide +kernel, by decide +kernel⟩
abbrev s_row : Stmt := topS 19
abbrev N_row : List Str := ["_law_state", "_law_house_here", "_law_founder", "_law_men"]
abbrev P_row : List Str := ["_law_state", "_law_house_here"]
theorem sc_row : FnScope N_row P_row (defScope s_row) := ⟨rfl, rfl, rfl, by decide +kernel, rfl, by decide +kernel, by decide +kernel⟩
abbrev s_rows : Stmt := topS 21
abbrev N_rows : List Str := ["_law_state", "_law_house_here", "_law_rows_here", "_law_late", "_law_at", "_law_k", "_law_row_here"]
abbrev P_rows : List Str := ["_law_state", "_law_house_here"]
theorem sc_rows : FnScope N_rows P_rows (defScope s_rows) := ⟨rfl, rfl, rfl, by decide +kernel, rfl, by decide +kernel, by decide +kernel⟩
abbrev s_rows_text : Stmt := topS 28
abbrev N_rows_text : List Str := ["_law_rows_here", "_law_founder", "_law_men", "_law_wed", "_law_way"]
abbrev P_rows_text : List Str := ["_law_rows_here"]
theorem sc_rows_text : FnScope N_rows_text P_rows_text (defScope s_rows_text) := ⟨rfl, rfl, rfl, by decide +kernel, rfl, by decide +kernel, by decide +kernel⟩
abbrev s_news : Stmt := topS 17
abbrev N_news : List Str := ["_law_state", "_law_house_here", "_law_word", "_law_who", "_law_near", "_law_day_here", "_law_others", "_law_k"]
abbrev P_news : List Str := ["_law_state", "_law_house_here"]
theorem sc_news : FnScope N_news P_news (defScope s_news) := ⟨rfl, rfl, rfl, by decide +kernel, rfl, by decide +kernel, by decide +kernel⟩
abbrev s_book : Stmt := topS 18
abbrev N_book : List Str := ["_law_state", "_law_house_here", "_law_most", "_law_k"]
abbrev P_book : List Str := ["_law_state", "_law_house_here", "_law_most"]
theorem sc_book : FnScope N_book P_book (defScope s_book) := ⟨rfl, rfl, rfl, by decide +kernel, rfl, by decide +kernel, by decide +kernel⟩
abbrev s_day : Stmt := topS 20
abbrev N_day : List Str := ["_law_state", "_law_house_here", "_law_near"]
abbrev P_day : List Str := ["_law_state", "_law_house_here"]
theorem sc_day : FnScope N_day P_day (defScope s_day) := ⟨rfl, rfl, rfl, by decide +kernel, rfl, by decide +kernel, by decide +kernel⟩
abbrev s_parent : Stmt := topS 15
abbrev N_parent : List Str := ["_law_state", "_law_folk", "_law_day_here", "_law_man", "_law_some_here", "_law_k"]
abbrev P_parent : List Str := ["_law_state", "_law_folk", "_law_day_here", "_law_man"]
theorem sc_parent : FnScope N_parent P_parent (defScope s_parent) := ⟨rfl, rfl, rfl, by decide +kernel, rfl, by decide +kernel, by decide +kernel⟩
abbrev s_house : Stmt := topS 16
abbrev N_house : List Str := ["_law_state", "_law_most", "_law_many", "_law_day_here", "_law_folk", "_law_k", "_law_father", "_law_mother", "_law_man"]
abbrev P_house : List Str := ["_law_state", "_law_most"]
theorem sc_house : FnScope N_house P_house (defScope s_house) := ⟨rfl, rfl, rfl, by decide +kernel, rfl, by decide +kernel, by decide +kernel⟩
abbrev s_some : Stmt := topS 22
abbrev N_some : List Str := ["_law_state", "_law_few", "_law_great", "_law_house_here", "_law_book_here"]
abbrev P_some : List Str := ["_law_state", "_law_few"]
theorem sc_some : FnScope N_some P_some (defScope s_some) := ⟨rfl, rfl, rfl, by decide +kernel, rfl, by decide +kernel, by decide +kernel⟩
abbrev s_who_word : Stmt := topS 12
abbrev N_who_word : List Str := ["who"]
abbrev P_who_word : List Str := ["who"]
theorem sc_who_word : FnScope N_who_word P_who_word (defScope s_who_word) := ⟨rfl, rfl, rfl, by decide +kernel, rfl, by decide +kernel, by decide +kernel⟩
abbrev s_news_line : Stmt := topS 10
abbrev N_news_line : List Str := ["news", "words", "word", "day", "who", "other"]
abbrev P_news_line : List Str := ["news"]
theorem sc_news_line : FnScope N_news_line P_news_line (defScope s_news_line) := ⟨rfl, rfl, rfl, by decide +kernel, rfl, by decide +kernel, by decide +kernel⟩
abbrev s_text_of : Stmt := topS 8
abbrev N_text_of : List Str := ["lines", "line"]
abbrev P_text_of : List Str := ["lines"]
theorem sc_text_of : FnScope N_text_of P_text_of (defScope s_text_of) := ⟨rfl, rfl, rfl, by decide +kernel, rfl, by decide +kernel, by decide +kernel⟩
abbrev s_book_text : Stmt := topS 6
abbrev N_book_text : List Str := ["book", "news"]
abbrev P_book_text : List Str := ["book"]
theorem sc_book_text : FnScope N_book_text P_book_text (defScope s_book_text) := ⟨rfl, rfl, rfl, by decide +kernel, rfl, by decide +kernel, by decide +kernel⟩
abbrev s_folk_line : Stmt := topS 9
abbrev N_folk_line : List Str := ["folk", "day", "father", "mother", "man", "wed"]
abbrev P_folk_line : List Str := ["folk"]
theorem sc_folk_line : FnScope N_folk_line P_folk_line (defScope s_folk_line) := ⟨rfl, rfl, rfl, by decide +kernel, rfl, by decide +kernel, by decide +kernel⟩
abbrev s_house_text : Stmt := topS 5
abbrev N_house_text : List Str := ["house", "folk"]
abbrev P_house_text : List Str := ["house"]
theorem sc_house_text : FnScope N_house_text P_house_text (defScope s_house_text) := ⟨rfl, rfl, rfl, by decide +kernel, rfl, by decide +kernel, by decide +kernel⟩
abbrev s_row_line : Stmt := topS 11
abbrev N_row_line : List Str := ["row", "founder", "men", "wed", "way"]
abbrev P_row_line : List Str := ["row"]
theorem sc_row_line : FnScope N_row_line P_row_line (defScope s_row_line) := ⟨rfl, rfl, rfl, by decide +kernel, rfl, by decide +kernel, by decide +kernel⟩
abbrev s_rule_text : Stmt := topS 7
abbrev N_rule_text : List Str := ["rule", "row"]
abbrev P_rule_text : List Str := ["rule"]
theorem sc_rule_text : FnScope N_rule_text P_rule_text (defScope s_rule_text) := ⟨rfl, rfl, rfl, by decide +kernel, rfl, by decide +kernel, by decide +kernel⟩
abbrev s_law : Stmt := topS 29
abbrev N_law : List Str := ["_law_script", "_law_state", "_law_turn", "_law_rules", "_law_again", "_law_house_here", "_law_book_here", "_law_day_here", "_law_k", "_law_rows_here"]
abbrev P_law : List Str := ["_law_script"]
theorem sc_law : FnScope N_law P_law (defScope s_law) := ⟨rfl, rfl, rfl, by decide +kernel, rfl, by decide +kernel, by decide +kernel⟩
/-- where the defs stand, and that the built-ins are the built-ins -/
structure Ctx (K : FRG) (mg : Str → Option Value) (tb : List Addr) where
  f_name : Addr
  fd_name : FuncData
  cd_name : Value
  F_name : FunC K "_law_name" "_law_name" s_name f_name fd_name cd_name
  b_name : Binds K fd_name P_name []
  g_name : mg "_law_name" = some (.ref f_name)
  f_news_words : Addr
  fd_news_words : FuncData
  cd_news_words : Value
  F_news_words : FunC K "_law_news_words" "_law_news_words" s_news_words f_news_words fd_news_words cd_news_words
  b_news_words : Binds K fd_news_words P_news_words []
  g_news_words : mg "_law_news_words" = some (.ref f_news_words)
  f_text : Addr
  fd_text : FuncData
  cd_text : Value
  F_text : FunC K "_law_text" "_law_text" s_text f_text fd_text cd_text
  b_text : Binds K fd_text P_text []
  g_text : mg "_law_text" = some (.ref f_text)
  f_l_book_text : Addr
  fd_l_book_text : FuncData
  cd_l_book_text : Value
  F_l_book_text : FunC K "_law_book_text" "_law_book_text" s_l_book_text f_l_book_text fd_l_book_text cd_l_book_text
  b_l_book_text : Binds K fd_l_book_text P_l_book_text []
  g_l_book_text : mg "_law_book_text" = some (.ref f_l_book_text)
  f_l_house_text : Addr
  fd_l_house_text : FuncData
  cd_l_house_text : Value
  F_l_house_text : FunC K "_law_house_text" "_law_house_text" s_l_house_text f_l_house_text fd_l_house_text cd_l_house_text
  b_l_house_text : Binds K fd_l_house_text P_l_house_text []
  g_l_house_text : mg "_law_house_text" = some (.ref f_l_house_text)
  f_take : Addr
  fd_take : FuncData
  cd_take : Value
  F_take : FunC K "_law_take" "_law_take" s_take f_take fd_take cd_take
  b_take : Binds K fd_take P_take []
  g_take : mg "_law_take" = some (.ref f_take)
  f_row : Addr
  fd_row : FuncData
  cd_row : Value
  F_row : FunC K "_law_row" "_law_row" s_row f_row fd_row cd_row
  b_row : Binds K fd_row P_row []
  g_row : mg "_law_row" = some (.ref f_row)
  f_rows : Addr
  fd_rows : FuncData
  cd_rows : Value
  F_rows : FunC K "_law_rows" "_law_rows" s_rows f_rows fd_rows cd_rows
  b_rows : Binds K fd_rows P_rows []
  g_rows : mg "_law_rows" = some (.ref f_rows)
  f_rows_text : Addr
  fd_rows_text : FuncData
  cd_rows_text : Value
  F_rows_text : FunC K "_law_rows_text" "_law_rows_text" s_rows_text f_rows_text fd_rows_text cd_rows_text
  b_rows_text : Binds K fd_rows_text P_rows_text []
  g_rows_text : mg "_law_rows_text" = some (.ref f_rows_text)
  f_news : Addr
  fd_news : FuncData
  cd_news : Value
  F_news : FunC K "_law_news" "_law_news" s_news f_news fd_news cd_news
  b_news : Binds K fd_news P_news []
  g_news : mg "_law_news" = some (.ref f_news)
  f_book : Addr
  fd_book : FuncData
  cd_book : Value
  F_book : FunC K "_law_book" "_law_book" s_book f_book fd_book cd_book
  b_book : Binds K fd_book P_book []
  g_book : mg "_law_book" = some (.ref f_book)
  f_day : Addr
  fd_day : FuncData
  cd_day : Value
  F_day : FunC K "_law_day" "_law_day" s_day f_day fd_day cd_day
  b_day : Binds K fd_day P_day []
  g_day : mg "_law_day" = some (.ref f_day)
  f_parent : Addr
  fd_parent : FuncData
  cd_parent : Value
  F_parent : FunC K "_law_parent" "_law_parent" s_parent f_parent fd_parent cd_parent
  b_parent : Binds K fd_parent P_parent []
  g_parent : mg "_law_parent" = some (.ref f_parent)
  f_house : Addr
  fd_house : FuncData
  cd_house : Value
  F_house : FunC K "_law_house" "_law_house" s_house f_house fd_house cd_house
  b_house : Binds K fd_house P_house []
  g_house : mg "_law_house" = some (.ref f_house)
  f_some : Addr
  fd_some : FuncData
  cd_some : Value
  F_some : FunC K "_law_some" "_law_some" s_some f_some fd_some cd_some
  b_some : Binds K fd_some P_some []
  g_some : mg "_law_some" = some (.ref f_some)
  f_who_word : Addr
  fd_who_word : FuncData
  cd_who_word : Value
  F_who_word : FunC K "who_word" "who_word" s_who_word f_who_word fd_who_word cd_who_word
  b_who_word : Binds K fd_who_word P_who_word []
  g_who_word : mg "who_word" = some (.ref f_who_word)
  f_news_line : Addr
  fd_news_line : FuncData
  cd_news_line : Value
  F_news_line : FunC K "news_line" "news_line" s_news_line f_news_line fd_news_line cd_news_line
  b_news_line : Binds K fd_news_line P_news_line []
  g_news_line : mg "news_line" = some (.ref f_news_line)
  f_text_of : Addr
  fd_text_of : FuncData
  cd_text_of : Value
  F_text_of : FunC K "text_of" "text_of" s_text_of f_text_of fd_text_of cd_text_of
  b_text_of : Binds K fd_text_of P_text_of []
  g_text_of : mg "text_of" = some (.ref f_text_of)
  f_book_text : Addr
  fd_book_text : FuncData
  cd_book_text : Value
  F_book_text : FunC K "book_text" "book_text" s_book_text f_book_text fd_book_text cd_book_text
  b_book_text : Binds K fd_book_text P_book_text []
  g_book_text : mg "book_text" = some (.ref f_book_text)
  f_folk_line : Addr
  fd_folk_line : FuncData
  cd_folk_line : Value
  F_folk_line : FunC K "folk_line" "folk_line" s_folk_line f_folk_line fd_folk_line cd_folk_line
  b_folk_line : Binds K fd_folk_line P_folk_line []
  g_folk_line : mg "folk_line" = some (.ref f_folk_line)
  f_house_text : Addr
  fd_house_text : FuncData
  cd_house_text : Value
  F_house_text : FunC K "house_text" "house_text" s_house_text f_house_text fd_house_text cd_house_text
  b_house_text : Binds K fd_house_text P_house_text []
  g_house_text : mg "house_text" = some (.ref f_house_text)
  f_row_line : Addr
  fd_row_line : FuncData
  cd_row_line : Value
  F_row_line : FunC K "row_line" "row_line" s_row_line f_row_line fd_row_line cd_row_line
  b_row_line : Binds K fd_row_line P_row_line []
  g_row_line : mg "row_line" = some (.ref f_row_line)
  f_rule_text : Addr
  fd_rule_text : FuncData
  cd_rule_text : Value
  F_rule_text : FunC K "rule_text" "rule_text" s_rule_text f_rule_text fd_rule_text cd_rule_text
  b_rule_text : Binds K fd_rule_text P_rule_text []
  g_rule_text : mg "rule_text" = some (.ref f_rule_text)
  f_law : Addr
  fd_law : FuncData
  cd_law : Value
  F_law : FunC K "law" "law" s_law f_law fd_law cd_law
  b_law : Binds K fd_law P_law []
  g_law : mg "law" = some (.ref f_law)
  z_int : mg "int" = none
  z_isinstance : mg "isinstance" = none
  z_len : mg "len" = none
  z_max : mg "max" = none
  z_min : mg "min" = none
  z_range : mg "range" = none
  z_set : mg "set" = none
  z_sorted : mg "sorted" = none
  z_str : mg "str" = none
  z_tuple : mg "tuple" = none
  v_BIRTHS : GlT K mg "BIRTHS" ["unwed", "wed"]
  v_COUNTED : GlT K mg "COUNTED" ["all", "wed"]
  v_NOBODY : GlS mg "NOBODY" "-"
  v_SEXES : GlT K mg "SEXES" ["woman", "man"]
noncomputable def B_name : Sx := (sRet (eOp ixD (eLst (aCons (eCB strD (aCons (eVar 0) aNil)) (aCons (eC (.str "-")) aNil))) (eCB intD (aCons (eOp (eqD false) (eVar 0) (eUn negD (eC (.int 1)))) aNil))))
noncomputable abbrev F_name : Fx := runF P_name.length N_name.length B_name
noncomputable def B_news_words : Sx := (sRet (eOp addD (eLst (aCons (eOp ixD (eVar 0) (eC (.int 0))) (aCons (eCB strD (aCons (eOp ixD (eVar 0) (eC (.int 1))) aNil)) (aCons (eCB strD (aCons (eOp ixD (eVar 0) (eC (.int 2))) aNil)) aNil)))) (eOp mulD (eLst (aCons (eCall F_name (aCons (eOp ixD (eVar 0) (eC (.int 3))) aNil)) aNil)) (eCB intD (aCons (eOp (eqD false) (eOp ixD (eVar 0) (eC (.int 0))) (eC (.str "awaits"))) aNil)))))
noncomputable abbrev F_news_words : Fx := runF P_news_words.length N_news_words.length B_news_words
noncomputable def E_text_1 : Ex := eLc (iSeq (eVar 0)) (gN 1) tYes' (eOp addD (eMt isStr joinD (eC (.str " ")) (aCons (eVar 1) aNil)) (eC (.str "\n"))) [1]
noncomputable def B_text : Sx := (sRet (eMt isStr joinD (eC (.str "")) (aCons E_text_1 aNil)))
noncomputable abbrev F_text : Fx := runF P_text.length N_text.length B_text
noncomputable def E_l_book_text_1 : Ex := eLc (iSeq (eVar 0)) (gN 1) tYes' (eCall F_news_words (aCons (eVar 1) aNil)) [1]
noncomputable def B_l_book_text : Sx := (sRet (eCall F_text (aCons E_l_book_text_1 aNil)))
noncomputable abbrev F_l_book_text : Fx := runF P_l_book_text.length N_l_book_text.length B_l_book_text
noncomputable def L_l_house_text_1 : Sx := (sDrop (eMt isLst appD (eVar 1) (aCons (eLst (aCons (eCB strD (aCons (eVar 2) aNil)) (aCons (eCall F_name (aCons (eVar 3) aNil)) (aCons (eCall F_name (aCons (eVar 4) aNil)) (aCons (eOp ixD (eLst (aCons (eC (.str "woman")) (aCons (eC (.str "man")) aNil))) (eVar 5)) (aCons (eOp ixD (eLst (aCons (eC (.str "unwed")) (aCons (eC (.str "wed")) aNil))) (eVar 6)) aNil)))))) aNil)))
noncomputable def B_l_house_text : Sx := (sSeq (sSet 1 (eOwn (eLst aNil))) (sSeq (sFor (iSeq (eVar 0)) (gT [gN 2, gN 3, gN 4, gN 5, gN 6]) L_l_house_text_1 [2, 3, 4, 5, 6]) (sRet (eCall F_text (aCons (eVar 1) aNil)))))
noncomputable abbrev F_l_house_text : Fx := runF P_l_house_text.length N_l_house_text.length B_l_house_text
noncomputable def B_take : Sx := (sSeq (sFog [3] (sIf (tVal (eOp (cmpD gtI) (eOp ixD (eVar 0) (eC (.int 2))) (eC (.int 0)))) (sSeq (sSet 3 (eOp modD (eOp ixD (eVar 0) (eC (.int 2))) (eVar 1))) (sSeq (sPut (eVar 0) (eC (.int 2)) (eOp divD (eOp ixD (eVar 0) (eC (.int 2))) (eVar 1))) (sRet (eVar 3)))) sNil)) (sSeq (sSet 2 (eC (.int 0))) (sSeq (sIf (tVal (eOp (cmpD ltI) (eOp ixD (eVar 0) (eC (.int 1))) (eCB lenD (aCons (eOp ixD (eVar 0) (eC (.int 0))) aNil)))) (sSet 2 (eOp ixD (eOp ixD (eVar 0) (eC (.int 0))) (eOp ixD (eVar 0) (eC (.int 1))))) sNil) (sSeq (sPut (eVar 0) (eC (.int 1)) (eOp addD (eOp ixD (eVar 0) (eC (.int 1))) (eC (.int 1)))) (sSeq (sIf (tVal (eOp (cmpD geI) (eVar 2) (eOp powD (eC (.int 10)) (eC (.int 18))))) (sSeq (sPut (eVar 0) (eC (.int 2)) (eOp divD (eVar 2) (eVar 1))) (sRet (eOp modD (eVar 2) (eVar 1)))) sNil) (sSeq (sPut (eVar 0) (eC (.int 3)) (eOp modD (eOp addD (eOp addD (eOp mulD (eOp ixD (eVar 0) (eC (.int 3))) (eC (.int 48271))) (eOp modD (eVar 2) (eC (.int 2147483629)))) (eOp mulD (eC (.int 7)) (eOp ixD (eVar 0) (eC (.int 1))))) (eC (.int 2147483647)))) (sRet (eOp modD (eOp divD (eOp modD (eOp powD (eOp ixD (eVar 0) (eC (.int 3))) (eC (.int 3))) (eC (.int 2147483629))) (eC (.int 64))) (eVar 1)))))))))
noncomputable abbrev F_take : Fx := runF P_take.length N_take.length B_take
noncomputable def B_row : Sx := (sSeq (sSet 2 (eOp mulD (eCall F_take (aCons (eVar 0) (aCons (eCB lenD (aCons (eVar 1) aNil)) aNil))) (eCB intD (aCons (eOp (eqD false) (eCall F_take (aCons (eVar 0) (aCons (eC (.int 3)) aNil))) (eC (.int 0))) aNil)))) (sSeq (sSet 3 (eOp ixD (eLst (aCons (eC (.str "alike")) (aCons (eC (.str "first")) (aCons (eC (.str "first")) (aCons (eC (.str "only")) aNil))))) (eCall F_take (aCons (eVar 0) (aCons (eC (.int 4)) aNil))))) (sRet (eTup (aCons (eVar 2) (aCons (eVar 3) (aCons (eCB intD (aCons (eOp (eqD false) (eCall F_take (aCons (eVar 0) (aCons (eC (.int 3)) aNil))) (eC (.int 0))) aNil)) (aCons (eOp ixD (eLst (aCons (eC (.str "lines")) (aCons (eC (.str "lines")) (aCons (eC (.str "age")) (aCons (eC (.str "near")) aNil))))) (eCall F_take (aCons (eVar 0) (aCons (eC (.int 4)) aNil)))) aNil))))))))
noncomputable abbrev F_row : Fx := runF P_row.length N_row.length B_row
noncomputable def E_rows_1 : Ex := eLc (iSeq (eVar 2)) (gN 6) tYes' (eOp ixD (eOp ixD (eVar 1) (eOp ixD (eVar 6) (eC (.int 0)))) (eC (.int 0))) [6]
noncomputable def E_rows_2 : Ex := eLc (iSeq (eVar 2)) (gN 6) tYes' (eOp ixD (eOp ixD (eVar 1) (eOp ixD (eVar 6) (eC (.int 0)))) (eC (.int 0))) [6]
noncomputable def E_rows_3 : Ex := eLc (iRngA (aCons (eOp addD (eC (.int 1)) (eCall F_take (aCons (eVar 0) (aCons (eC (.int 3)) aNil)))) aNil)) (gN 5) tYes' (eCall F_row (aCons (eVar 0) (aCons (eVar 1) aNil))) [5]
noncomputable def B_rows : Sx := (sSeq (sSet 2 E_rows_3) (sSeq (sSet 3 (eCB (topD maxI) (aCons E_rows_2 aNil))) (sSeq (sSet 4 (eMt isLA idxD E_rows_1 (aCons (eVar 3) aNil))) (sRet (eCB tupleD (aCons (eOp addD (eSlc (eVar 2) (oSome (eVar 4)) oNone) (eSlc (eVar 2) oNone (oSome (eVar 4)))) aNil))))))
noncomputable abbrev F_rows : Fx := runF P_rows.length N_rows.length B_rows
noncomputable def E_rows_text_1 : Ex := eLc (iSeq (eVar 0)) (gT [gN 1, gN 2, gN 3, gN 4]) tYes' (eLst (aCons (eCB strD (aCons (eVar 1) aNil)) (aCons (eVar 2) (aCons (eOp ixD (eLst (aCons (eC (.str "all")) (aCons (eC (.str "wed")) aNil))) (eVar 3)) (aCons (eVar 4) aNil))))) [1, 2, 3, 4]
noncomputable def B_rows_text : Sx := (sRet (eCall F_text (aCons E_rows_text_1 aNil)))
noncomputable abbrev F_rows_text : Fx := runF P_rows_text.length N_rows_text.length B_rows_text
noncomputable def E_news_1 : Ex := eLc (iRngA (aCons (eCB lenD (aCons (eVar 1) aNil)) aNil)) (gN 7) (tAnd' (tVal (eOp (eqD false) (eOp ixD (eOp ixD (eVar 1) (eVar 7)) (eC (.int 3))) (eC (.int 1)))) (tVal (eOp (cmpD ltI) (eOp ixD (eOp ixD (eVar 1) (eVar 7)) (eC (.int 0))) (eVar 5)))) (eVar 7) [7]
noncomputable def B_news : Sx := (sSeq (sSet 2 (eOp ixD (eLst (aCons (eC (.str "dies")) (aCons (eC (.str "leaves")) (aCons (eC (.str "cuts")) (aCons (eC (.str "returns")) (aCons (eC (.str "awaits")) (aCons (eC (.str "cuts")) aNil))))))) (eCall F_take (aCons (eVar 0) (aCons (eC (.int 6)) aNil))))) (sSeq (sSet 3 (eCall F_take (aCons (eVar 0) (aCons (eCB lenD (aCons (eVar 1) aNil)) aNil)))) (sSeq (sSet 4 (eOp subD (eOp addD (eOp ixD (eOp ixD (eVar 1) (eCall F_take (aCons (eVar 0) (aCons (eCB lenD (aCons (eVar 1) aNil)) aNil)))) (eC (.int 0))) (eCall F_take (aCons (eVar 0) (aCons (eC (.int 3)) aNil)))) (eC (.int 1)))) (sSeq (sSet 5 (eCB (two maxI) (aCons (eOp ixD (eOp ixD (eVar 1) (eVar 3)) (eC (.int 0))) (aCons (eVar 4) aNil)))) (sSeq (sFog [6] (sIf (tAnd' (tVal (eOp (eqD false) (eVar 2) (eC (.str "awaits")))) (tVal (eOp (eqD false) (eOp ixD (eOp ixD (eVar 1) (eVar 3)) (eC (.int 3))) (eC (.int 0))))) (sSeq (sSet 5 (eCB (two maxI) (aCons (eOp addD (eOp ixD (eOp ixD (eVar 1) (eVar 3)) (eC (.int 0))) (eC (.int 1))) (aCons (eVar 4) aNil)))) (sSeq (sSet 6 (eOp addD (eLst (aCons (eUn negD (eC (.int 1))) aNil)) E_news_1)) (sRet (eTup (aCons (eVar 2) (aCons (eVar 5) (aCons (eVar 3) (aCons (eOp ixD (eVar 6) (eCall F_take (aCons (eVar 0) (aCons (eCB lenD (aCons (eVar 6) aNil)) aNil)))) aNil)))))))) sNil)) (sRet (eTup (aCons (eOp ixD (eLst (aCons (eVar 2) (aCons (eC (.str "leaves")) aNil))) (eCB intD (aCons (eOp (eqD false) (eVar 2) (eC (.str "awaits"))) aNil))) (aCons (eVar 5) (aCons (eVar 3) (aCons (eUn negD (eC (.int 1))) aNil)))))))))))
noncomputable abbrev F_news : Fx := runF P_news.length N_news.length B_news
noncomputable def E_book_1 : Ex := eLc (iRngA (aCons (eCall F_take (aCons (eVar 0) (aCons (eOp addD (eVar 2) (eC (.int 1))) aNil))) aNil)) (gN 3) tYes' (eCall F_news (aCons (eVar 0) (aCons (eVar 1) aNil))) [3]
noncomputable def B_book : Sx := (sRet (eCB tupleD (aCons (eCB sortSetD (aCons E_book_1 aNil)) aNil)))
noncomputable abbrev F_book : Fx := runF P_book.length N_book.length B_book
noncomputable def B_day : Sx := (sSeq (sSet 2 (eOp ixD (eOp ixD (eVar 1) (eCall F_take (aCons (eVar 0) (aCons (eCB lenD (aCons (eVar 1) aNil)) aNil)))) (eC (.int 0)))) (sRet (eCB (two minI) (aCons (eC (.int 99998)) (aCons (eOp ixD (eLst (aCons (eVar 2) (aCons (eOp addD (eVar 2) (eC (.int 1))) (aCons (eOp addD (eOp ixD (eOp ixD (eVar 1) (eUn negD (eC (.int 1)))) (eC (.int 0))) (eC (.int 400))) (aCons (eOp ixD (eOp ixD (eVar 1) (eUn negD (eC (.int 1)))) (eC (.int 0))) aNil))))) (eCall F_take (aCons (eVar 0) (aCons (eC (.int 4)) aNil)))) aNil)))))
noncomputable abbrev F_day : Fx := runF P_day.length N_day.length B_day
noncomputable def E_parent_1 : Ex := eLc (iRngA (aCons (eCB lenD (aCons (eVar 1) aNil)) aNil)) (gN 5) (tAnd' (tVal (eOp (eqD false) (eOp ixD (eOp ixD (eVar 1) (eVar 5)) (eC (.int 3))) (eVar 3))) (tVal (eOp (cmpD ltI) (eOp ixD (eOp ixD (eVar 1) (eVar 5)) (eC (.int 0))) (eVar 2)))) (eVar 5) [5]
noncomputable def B_parent : Sx := (sSeq (sSet 4 E_parent_1) (sSeq (sIf (tOr' (tVal (eOp (eqD false) (eVar 4) (eLst aNil))) (tVal (eOp (eqD false) (eCall F_take (aCons (eVar 0) (aCons (eC (.int 5)) aNil))) (eC (.int 0))))) (sRet (eUn negD (eC (.int 1)))) sNil) (sSeq (sIf (tVal (eOp (eqD false) (eCall F_take (aCons (eVar 0) (aCons (eC (.int 2)) aNil))) (eC (.int 0)))) (sSet 4 (eSlc (eVar 4) (oSome (eUn negD (eC (.int 3)))) oNone)) sNil) (sRet (eOp ixD (eVar 4) (eCall F_take (aCons (eVar 0) (aCons (eCB lenD (aCons (eVar 4) aNil)) aNil))))))))
noncomputable abbrev F_parent : Fx := runF P_parent.length N_parent.length B_parent
noncomputable def L_house_1 : Sx := (sSeq (sSet 3 (eCB (two minI) (aCons (eC (.int 99990)) (aCons (eOp addD (eVar 3) (eOp ixD (eLst (aCons (eC (.int 1)) (aCons (eC (.int 0)) (aCons (eC (.int 1)) (aCons (eC (.int 30)) (aCons (eC (.int 299)) (aCons (eC (.int 300)) (aCons (eC (.int 301)) (aCons (eC (.int 6570)) (aCons (eC (.int 2)) (aCons (eC (.int 1)) aNil))))))))))) (eCall F_take (aCons (eVar 0) (aCons (eC (.int 10)) aNil))))) aNil)))) (sSeq (sSet 6 (eCall F_parent (aCons (eVar 0) (aCons (eVar 4) (aCons (eVar 3) (aCons (eC (.int 1)) aNil)))))) (sSeq (sSet 7 (eCall F_parent (aCons (eVar 0) (aCons (eVar 4) (aCons (eVar 3) (aCons (eC (.int 0)) aNil)))))) (sSeq (sSet 8 (eCall F_take (aCons (eVar 0) (aCons (eC (.int 2)) aNil)))) (sDrop (eMt isLst appD (eVar 4) (aCons (eTup (aCons (eVar 3) (aCons (eVar 6) (aCons (eVar 7) (aCons (eVar 8) (aCons (eCB intD (aCons (eOp (cmpD gtI) (eCall F_take (aCons (eVar 0) (aCons (eC (.int 5)) aNil))) (eC (.int 0))) aNil)) aNil)))))) aNil)))))))
noncomputable def B_house : Sx := (sSeq (sSet 2 (eOp addD (eC (.int 1)) (eCall F_take (aCons (eVar 0) (aCons (eVar 1) aNil))))) (sSeq (sSet 3 (eOp ixD (eLst (aCons (eC (.int 0)) (aCons (eC (.int 7)) (aCons (eC (.int 30000)) aNil)))) (eCall F_take (aCons (eVar 0) (aCons (eC (.int 3)) aNil))))) (sSeq (sSet 4 (eOwn (eLst aNil))) (sSeq (sFor (iRngA (aCons (eVar 2) aNil)) (gN 5) L_house_1 [5, 6, 7, 8]) (sRet (eCB tupleD (aCons (eVar 4) aNil)))))))
noncomputable abbrev F_house : Fx := runF P_house.length N_house.length B_house
noncomputable def B_some : Sx := (sSeq (sSet 2 (eOp (eqD false) (eCall F_take (aCons (eVar 0) (aCons (eC (.int 8)) aNil))) (eC (.int 0)))) (sSeq (sSet 3 (eCall F_house (aCons (eVar 0) (aCons (eOp ixD (eLst (aCons (eVar 1) (aCons (eC (.int 60)) aNil))) (eCB intD (aCons (eVar 2) aNil))) aNil)))) (sSeq (sSet 4 (eCall F_book (aCons (eVar 0) (aCons (eVar 3) (aCons (eOp ixD (eLst (aCons (eC (.int 8)) (aCons (eC (.int 40)) aNil))) (eCB intD (aCons (eVar 2) aNil))) aNil))))) (sRet (eLst (aCons (eVar 3) (aCons (eVar 4) (aCons (eCall F_day (aCons (eVar 0) (aCons (eVar 3) aNil))) aNil))))))))
noncomputable abbrev F_some : Fx := runF P_some.length N_some.length B_some
noncomputable def B_who_word : Sx := (sRet (eIf (tVal (eOp (eqD false) (eVar 0) (eUn negD (eC (.int 1))))) (eC (.str "-")) (eCB strD (aCons (eVar 0) aNil))))
noncomputable abbrev F_who_word : Fx := runF P_who_word.length N_who_word.length B_who_word
noncomputable def B_news_line : Sx := (sSeq (sAsg (gT [gN 2, gN 3, gN 4, gN 5]) (eVar 0)) (sSeq (sSet 1 (eOwn (eLst (aCons (eVar 2) (aCons (eCB strD (aCons (eVar 3) aNil)) (aCons (eCB strD (aCons (eVar 4) aNil)) aNil)))))) (sSeq (sIf (tVal (eOp (eqD false) (eVar 2) (eC (.str "awaits")))) (sDrop (eMt isLst appD (eVar 1) (aCons (eCall F_who_word (aCons (eVar 5) aNil)) aNil))) sNil) (sRet (eMt isStr joinD (eC (.str " ")) (aCons (eVar 1) aNil))))))
noncomputable abbrev F_news_line : Fx := runF P_news_line.length N_news_line.length B_news_line
noncomputable def E_text_of_1 : Ex := eLc (iSeq (eVar 0)) (gN 1) tYes' (eOp addD (eVar 1) (eC (.str "\n"))) [1]
noncomputable def B_text_of : Sx := (sRet (eMt isStr joinD (eC (.str "")) (aCons E_text_of_1 aNil)))
noncomputable abbrev F_text_of : Fx := runF P_text_of.length N_text_of.length B_text_of
noncomputable def E_book_text_1 : Ex := eLc (iSeq (eVar 0)) (gN 1) tYes' (eCall F_news_line (aCons (eVar 1) aNil)) [1]
noncomputable def B_book_text : Sx := (sRet (eCall F_text_of (aCons E_book_text_1 aNil)))
noncomputable abbrev F_book_text : Fx := runF P_book_text.length N_book_text.length B_book_text
noncomputable def B_folk_line : Sx := (sSeq (sAsg (gT [gN 1, gN 2, gN 3, gN 4, gN 5]) (eVar 0)) (sRet (eMt isStr joinD (eC (.str " ")) (aCons (eLst (aCons (eCB strD (aCons (eVar 1) aNil)) (aCons (eCall F_who_word (aCons (eVar 2) aNil)) (aCons (eCall F_who_word (aCons (eVar 3) aNil)) (aCons (eOp ixD (eC (.tup ((["woman", "man"] : List Str).map .str))) (eVar 4)) (aCons (eOp ixD (eC (.tup ((["unwed", "wed"] : List Str).map .str))) (eVar 5)) aNil)))))) aNil))))
noncomputable abbrev F_folk_line : Fx := runF P_folk_line.length N_folk_line.length B_folk_line
noncomputable def E_house_text_1 : Ex := eLc (iSeq (eVar 0)) (gN 1) tYes' (eCall F_folk_line (aCons (eVar 1) aNil)) [1]
noncomputable def B_house_text : Sx := (sRet (eCall F_text_of (aCons E_house_text_1 aNil)))
noncomputable abbrev F_house_text : Fx := runF P_house_text.length N_house_text.length B_house_text
noncomputable def B_row_line : Sx := (sSeq (sAsg (gT [gN 1, gN 2, gN 3, gN 4]) (eVar 0)) (sRet (eMt isStr joinD (eC (.str " ")) (aCons (eLst (aCons (eCB strD (aCons (eVar 1) aNil)) (aCons (eVar 2) (aCons (eOp ixD (eC (.tup ((["all", "wed"] : List Str).map .str))) (eVar 3)) (aCons (eVar 4) aNil))))) aNil))))
noncomputable abbrev F_row_line : Fx := runF P_row_line.length N_row_line.length B_row_line
noncomputable def E_rule_text_1 : Ex := eLc (iSeq (eVar 0)) (gN 1) tYes' (eCall F_row_line (aCons (eVar 1) aNil)) [1]
noncomputable def B_rule_text : Sx := (sRet (eCall F_text_of (aCons E_rule_text_1 aNil)))
noncomputable abbrev F_rule_text : Fx := runF P_rule_text.length N_rule_text.length B_rule_text
noncomputable def E_law_1 : Ex := eLc (iSeq (eVar 3)) (gN 9) tYes' (eCall F_rule_text (aCons (eVar 9) aNil)) [9]
noncomputable def E_law_2 : Ex := eLc (iSeq (eVar 3)) (gN 9) tYes' (eCall F_rows_text (aCons (eVar 9) aNil)) [9]
noncomputable def L_law_1 : Sx := (sSeq (sIf (tOr' (tVal (eOp (eqD true) (eCall F_house_text (aCons (eVar 5) aNil)) (eCall F_l_house_text (aCons (eVar 5) aNil)))) (tVal (eOp (eqD true) (eCall F_book_text (aCons (eVar 6) aNil)) (eCall F_l_book_text (aCons (eVar 6) aNil))))) (sRet (eC (.bl false))) sNil) (sSeq (sIf (tVal (eOp (eqD true) E_law_1 E_law_2)) (sRet (eC (.bl false))) sNil) (sIf (tNot' (tTru (eIs .str (eCall F_house_text (aCons (eVar 5) aNil))))) (sRet (eC (.bl false))) sNil)))
noncomputable def E_law_3 : Ex := eLc (iRngA (aCons (eC (.int 3)) aNil)) (gN 8) tYes' (eCall F_rows (aCons (eVar 1) (aCons (eVar 5) aNil))) [8]
noncomputable def L_law_2 : Sx := (sSeq (sAsg (gTL [gN 5, gN 6, gN 7]) (eCall F_some (aCons (eVar 1) (aCons (eC (.int 16)) aNil)))) (sSeq (sSet 3 E_law_3) (sFor (iRngA (aCons (eC (.int 2)) aNil)) (gN 4) L_law_1 [4])))
noncomputable def B_law : Sx := (sSeq (sSet 1 (eOwn (eLst (aCons (eVar 0) (aCons (eC (.int 0)) (aCons (eC (.int 0)) (aCons (eC (.int 91)) aNil))))))) (sSeq (sFor (iRngA (aCons (eC (.int 3)) aNil)) (gN 2) L_law_2 [2, 3, 4, 5, 6, 7]) (sRet (eOp (eqD false) (eCall F_book_text (aCons (eTup aNil) aNil)) (eC (.str ""))))))
noncomputable abbrev F_law : Fx := runF P_law.length N_law.length B_law
section
variable {P : Program} {w : World} {K : FRG} {mg : Str → Option Value} {base : Heap} {tb : List Addr}
theorem ok_name (C : Ctx K mg tb) : FnG P w K mg base 1 C.f_name C.fd_name P_name (spF K tb P_name.length F_name) := by
  refine okG (k := 0) C.F_name sc_name fun A outer s H E hgd hr => ?_
  exact (bs_one (bs_ret (ex_ix (ex_lst (ax_cons (ex_callTy str_s call_str_int (by rfl) C.z_str (by decide +kernel) (ax_cons (ex_var 0) ax_nil)) (ax_cons ex_str ax_nil))) (ex_callTy int_s call_int1 (by rfl) C.z_int (by decide +kernel) (ax_cons (ex_cmp (op_eqA hr.units) eq_s (ex_var 0) (ex_un un_neg neg_s ex_int) (nomark _)) ax_nil)))))
theorem ok_news_words (C : Ctx K mg tb) : FnG P w K mg base 2 C.f_news_words C.fd_news_words P_news_words (spF K tb P_news_words.length F_news_words) := by
  have G_name : FnG P w K mg base 1 C.f_name C.fd_name P_name (spF K tb P_name.length F_name) := ok_name C
  refine okG (k := 1) C.F_news_words sc_news_words fun A outer s H E hgd hr => ?_
  exact (bs_one (bs_ret (ex_op op_addA add_s (ex_lst (ax_cons (ex_ix (ex_var 0) ex_int) (ax_cons (ex_callTy str_s call_str_int (by rfl) C.z_str (by decide +kernel) (ax_cons (ex_ix (ex_var 0) ex_int) ax_nil)) (ax_cons (ex_callTy str_s call_str_int (by rfl) C.z_str (by decide +kernel) (ax_cons (ex_ix (ex_var 0) ex_int) ax_nil)) ax_nil)))) (ex_op op_mulA mul_s (ex_lst (ax_cons (ex_callG (fun _ _ _ h => runF_len h) G_name hgd (hr.mono (by decide)) (by rfl) C.g_name C.F_name.kp C.b_name (ax_cons (ex_ix (ex_var 0) ex_int) ax_nil)) ax_nil)) (ex_callTy int_s call_int1 (by rfl) C.z_int (by decide +kernel) (ax_cons (ex_cmp (op_eqA hr.units) eq_s (ex_ix (ex_var 0) ex_int) ex_str (nomark _)) ax_nil))))))
theorem ok_text (C : Ctx K mg tb) : FnG P w K mg base 1 C.f_text C.fd_text P_text (spF K tb P_text.length F_text) := by
  refine okG (k := 0) C.F_text sc_text fun A outer s H E hgd hr => ?_
  exact (bs_one (bs_ret (ex_join ex_str (ax_cons (ex_lc (own := [("_law_row_here", 1)]) rfl sc_text.nd (tg_name 1) (tw_name 1 (by decide)) (ix_seq' (ex_var 0)) (blkOk_by (own := [("_law_row_here", 1)]) (N := N_text) (sc := defScope s_text) (by decide +kernel)) (fun _ _ _ _ _ => (pg_name (i := 1) sc_text.nd rfl (by first | exact Or.inl rfl | exact Or.inr rfl))) (fun _ _ _ _ _ => ts_nil) (fun _ _ _ _ _ => (ex_op op_addA add_s (ex_join ex_str (ax_cons (ex_var 1) ax_nil)) ex_str))) ax_nil))))
theorem ok_l_book_text (C : Ctx K mg tb) : FnG P w K mg base 3 C.f_l_book_text C.fd_l_book_text P_l_book_text (spF K tb P_l_book_text.length F_l_book_text) := by
  have G_news_words : FnG P w K mg base 2 C.f_news_words C.fd_news_words P_news_words (spF K tb P_news_words.length F_news_words) := ok_news_words C
  have G_text : FnG P w K mg base 1 C.f_text C.fd_text P_text (spF K tb P_text.length F_text) := ok_text C
  refine okG (k := 2) C.F_l_book_text sc_l_book_text fun A outer s H E hgd hr => ?_
  exact (bs_one (bs_ret (ex_callG (fun _ _ _ h => runF_len h) G_text hgd (hr.mono (by decide)) (by rfl) C.g_text C.F_text.kp C.b_text (ax_cons (ex_lc (own := [("_law_news_here", 1)]) rfl sc_l_book_text.nd (tg_name 1) (tw_name 1 (by decide)) (ix_seq' (ex_var 0)) (blkOk_by (own := [("_law_news_here", 1)]) (N := N_l_book_text) (sc := defScope s_l_book_text) (by decide +kernel)) (fun _ _ _ _ _ => (pg_name (i := 1) sc_l_book_text.nd rfl (by first | exact Or.inl rfl | exact Or.inr rfl))) (fun _ _ _ _ _ => ts_nil) (fun _ _ _ _ _ => (ex_callG (fun _ _ _ h => runF_len h) G_news_words hgd (hr.mono (by decide)) (by rfl) C.g_news_words C.F_news_words.kp C.b_news_words (ax_cons (ex_var 1) ax_nil)))) ax_nil))))
theorem ok_l_house_text (C : Ctx K mg tb) : FnG P w K mg base 2 C.f_l_house_text C.fd_l_house_text P_l_house_text (spF K tb P_l_house_text.length F_l_house_text) := by
  have G_name : FnG P w K mg base 1 C.f_name C.fd_name P_name (spF K tb P_name.length F_name) := ok_name C
  have G_text : FnG P w K mg base 1 C.f_text C.fd_text P_text (spF K tb P_text.length F_text) := ok_text C
  refine okG (k := 1) C.F_l_house_text sc_l_house_text fun A outer s H E hgd hr => ?_
  exact (bs_cons (bs_set 1 sc_l_house_text.nd (ex_own (ex_lst ax_nil)))
      (bs_cons (bs_for (dd := [2, 3, 4, 5, 6]) rfl (tg_tup rfl (tgs_cons (tg_name 2) (tgs_cons (tg_name 3) (tgs_cons (tg_name 4) (tgs_cons (tg_name 5) (tgs_cons (tg_name 6) tgs_nil)))))) PassesOwn.never (ix_seq' (ex_var 0)) (pg_tup rfl (pgs_cons (pg_name (i := 2) sc_l_house_text.nd rfl (by first | exact Or.inl rfl | exact Or.inr rfl)) (pgs_cons (pg_name (i := 3) sc_l_house_text.nd rfl (by first | exact Or.inl rfl | exact Or.inr rfl)) (pgs_cons (pg_name (i := 4) sc_l_house_text.nd rfl (by first | exact Or.inl rfl | exact Or.inr rfl)) (pgs_cons (pg_name (i := 5) sc_l_house_text.nd rfl (by first | exact Or.inl rfl | exact Or.inr rfl)) (pgs_cons (pg_name (i := 6) sc_l_house_text.nd rfl (by first | exact Or.inl rfl | exact Or.inr rfl)) pgs_nil)))))) (bs_one (bs_drop (ex_append (ex_var 1) (ax_cons (ex_lst (ax_cons (ex_callTy str_s call_str_int (by rfl) C.z_str (by decide +kernel) (ax_cons (ex_var 2) ax_nil)) (ax_cons (ex_callG (fun _ _ _ h => runF_len h) G_name hgd (hr.mono (by decide)) (by rfl) C.g_name C.F_name.kp C.b_name (ax_cons (ex_var 3) ax_nil)) (ax_cons (ex_callG (fun _ _ _ h => runF_len h) G_name hgd (hr.mono (by decide)) (by rfl) C.g_name C.F_name.kp C.b_name (ax_cons (ex_var 4) ax_nil)) (ax_cons (ex_ix (ex_lst (ax_cons ex_str (ax_cons ex_str ax_nil))) (ex_var 5)) (ax_cons (ex_ix (ex_lst (ax_cons ex_str (ax_cons ex_str ax_nil))) (ex_var 6)) ax_nil)))))) ax_nil)))))
      (bs_one (bs_ret (ex_callG (fun _ _ _ h => runF_len h) G_text hgd (hr.mono (by decide)) (by rfl) C.g_text C.F_text.kp C.b_text (ax_cons (ex_var 1) ax_nil))))))
theorem ok_take (C : Ctx K mg tb) : FnG P w K mg base 1 C.f_take C.fd_take P_take (spF K tb P_take.length F_take) := by
  refine okG (k := 0) C.F_take sc_take fun A outer s H E hgd hr => ?_
  exact (bs_cons (bs_fog [3] (bs_if (tx_cmp op_gt gt_s (ex_ix (ex_var 0) ex_int) ex_int (nomark _)) (bs_cons (bs_set 3 sc_take.nd (ex_op op_mod mod_s (ex_ix (ex_var 0) ex_int) (ex_var 1)))
      (bs_cons (bs_put (ex_var 0) ex_int (ex_op op_fdiv div_s (ex_ix (ex_var 0) ex_int) (ex_var 1)))
      (bs_one (bs_ret (ex_var 3))))) bs_nil))
      (bs_cons (bs_set 2 sc_take.nd ex_int)
      (bs_cons (bs_if (tx_cmp op_lt lt_s (ex_ix (ex_var 0) ex_int) (ex_callB len_s cr_lenA (by rfl) C.z_len PySem.boot_len (ax_cons (ex_ix (ex_var 0) ex_int) ax_nil)) (nomark _)) (bs_one (bs_set 2 sc_take.nd (ex_ix (ex_ix (ex_var 0) ex_int) (ex_ix (ex_var 0) ex_int)))) bs_nil)
      (bs_cons (bs_put (ex_var 0) ex_int (ex_op op_addA add_s (ex_ix (ex_var 0) ex_int) ex_int))
      (bs_cons (bs_if (tx_cmp op_ge ge_s (ex_var 2) (ex_op op_pow pow_s ex_int ex_int) (nomark _)) (bs_cons (bs_put (ex_var 0) ex_int (ex_op op_fdiv div_s (ex_var 2) (ex_var 1)))
      (bs_one (bs_ret (ex_op op_mod mod_s (ex_var 2) (ex_var 1))))) bs_nil)
      (bs_cons (bs_put (ex_var 0) ex_int (ex_op op_mod mod_s (ex_op op_addA add_s (ex_op op_addA add_s (ex_op op_mulA mul_s (ex_ix (ex_var 0) ex_int) ex_int) (ex_op op_mod mod_s (ex_var 2) ex_int)) (ex_op op_mulA mul_s ex_int (ex_ix (ex_var 0) ex_int))) ex_int))
      (bs_one (bs_ret (ex_op op_mod mod_s (ex_op op_fdiv div_s (ex_op op_mod mod_s (ex_op op_pow pow_s (ex_ix (ex_var 0) ex_int) ex_int) ex_int) ex_int) (ex_var 1))))))))))
theorem ok_row (C : Ctx K mg tb) : FnG P w K mg base 2 C.f_row C.fd_row P_row (spF K tb P_row.length F_row) := by
  have G_take : FnG P w K mg base 1 C.f_take C.fd_take P_take (spF K tb P_take.length F_take) := ok_take C
  refine okG (k := 1) C.F_row sc_row fun A outer s H E hgd hr => ?_
  exact (bs_cons (bs_set 2 sc_row.nd (ex_op op_mulA mul_s (ex_callG (fun _ _ _ h => runF_len h) G_take hgd (hr.mono (by decide)) (by rfl) C.g_take C.F_take.kp C.b_take (ax_cons (ex_var 0) (ax_cons (ex_callB len_s cr_lenA (by rfl) C.z_len PySem.boot_len (ax_cons (ex_var 1) ax_nil)) ax_nil))) (ex_callTy int_s call_int1 (by rfl) C.z_int (by decide +kernel) (ax_cons (ex_cmp (op_eqA hr.units) eq_s (ex_callG (fun _ _ _ h => runF_len h) G_take hgd (hr.mono (by decide)) (by rfl) C.g_take C.F_take.kp C.b_take (ax_cons (ex_var 0) (ax_cons ex_int ax_nil))) ex_int (nomark _)) ax_nil))))
      (bs_cons (bs_set 3 sc_row.nd (ex_ix (ex_lst (ax_cons ex_str (ax_cons ex_str (ax_cons ex_str (ax_cons ex_str ax_nil))))) (ex_callG (fun _ _ _ h => runF_len h) G_take hgd (hr.mono (by decide)) (by rfl) C.g_take C.F_take.kp C.b_take (ax_cons (ex_var 0) (ax_cons ex_int ax_nil)))))
      (bs_one (bs_ret (ex_tup (ax_cons (ex_var 2) (ax_cons (ex_var 3) (ax_cons (ex_callTy int_s call_int1 (by rfl) C.z_int (by decide +kernel) (ax_cons (ex_cmp (op_eqA hr.units) eq_s (ex_callG (fun _ _ _ h => runF_len h) G_take hgd (hr.mono (by decide)) (by rfl) C.g_take C.F_take.kp C.b_take (ax_cons (ex_var 0) (ax_cons ex_int ax_nil))) ex_int (nomark _)) ax_nil)) (ax_cons (ex_ix (ex_lst (ax_cons ex_str (ax_cons ex_str (ax_cons ex_str (ax_cons ex_str ax_nil))))) (ex_callG (fun _ _ _ h => runF_len h) G_take hgd (hr.mono (by decide)) (by rfl) C.g_take C.F_take.kp C.b_take (ax_cons (ex_var 0) (ax_cons ex_int ax_nil)))) ax_nil)))))))))
theorem ok_rows (C : Ctx K mg tb) : FnG P w K mg base 3 C.f_rows C.fd_rows P_rows (spF K tb P_rows.length F_rows) := by
  have G_row : FnG P w K mg base 2 C.f_row C.fd_row P_row (spF K tb P_row.length F_row) := ok_row C
  have G_take : FnG P w K mg base 1 C.f_take C.fd_take P_take (spF K tb P_take.length F_take) := ok_take C
  refine okG (k := 2) C.F_rows sc_rows fun A outer s H E hgd hr => ?_
  exact (bs_cons (bs_setLc 2 (own := [("_law_k", 5)]) rfl sc_rows.nd (tg_name 5) (tw_name 5 (by decide)) (ix_rng1 (by rfl) C.z_range (ax_cons (ex_op op_addA add_s ex_int (ex_callG (fun _ _ _ h => runF_len h) G_take hgd (hr.mono (by decide)) (by rfl) C.g_take C.F_take.kp C.b_take (ax_cons (ex_var 0) (ax_cons ex_int ax_nil)))) ax_nil)) (blkOk_by (own := [("_law_k", 5)]) (N := N_rows) (sc := defScope s_rows) (by decide +kernel)) (fun _ _ _ _ _ => (pg_name (i := 5) sc_rows.nd rfl (by first | exact Or.inl rfl | exact Or.inr rfl))) (fun _ _ _ _ _ => ts_nil) (fun _ _ _ _ _ => (ex_callG (fun _ _ _ h => runF_len h) G_row hgd (hr.mono (by decide)) (by rfl) C.g_row C.F_row.kp C.b_row (ax_cons (ex_var 0) (ax_cons (ex_var 1) ax_nil)))) (sw_true rfl rfl rfl (by decide +kernel)))
      (bs_cons (bs_set 3 sc_rows.nd (ex_callB topMax_s (cr_maxL rfl) (by rfl) C.z_max (by decide +kernel) (ax_cons (ex_lc (own := [("_law_row_here", 6)]) rfl sc_rows.nd (tg_name 6) (tw_name 6 (by decide)) (ix_seq' (ex_var 2)) (blkOk_by (own := [("_law_row_here", 6)]) (N := N_rows) (sc := defScope s_rows) (by decide +kernel)) (fun _ _ _ _ _ => (pg_name (i := 6) sc_rows.nd rfl (by first | exact Or.inl rfl | exact Or.inr rfl))) (fun _ _ _ _ _ => ts_nil) (fun _ _ _ _ _ => (ex_ix (ex_ix (ex_var 1) (ex_ix (ex_var 6) ex_int)) ex_int))) ax_nil)))
      (bs_cons (bs_set 4 sc_rows.nd (ex_index (ex_lc (own := [("_law_row_here", 6)]) rfl sc_rows.nd (tg_name 6) (tw_name 6 (by decide)) (ix_seq' (ex_var 2)) (blkOk_by (own := [("_law_row_here", 6)]) (N := N_rows) (sc := defScope s_rows) (by decide +kernel)) (fun _ _ _ _ _ => (pg_name (i := 6) sc_rows.nd rfl (by first | exact Or.inl rfl | exact Or.inr rfl))) (fun _ _ _ _ _ => ts_nil) (fun _ _ _ _ _ => (ex_ix (ex_ix (ex_var 1) (ex_ix (ex_var 6) ex_int)) ex_int))) (ax_cons (ex_var 3) ax_nil)))
      (bs_one (bs_ret (ex_callTy tuple_s call_tuple_of (by rfl) C.z_tuple (by decide +kernel) (ax_cons (ex_op op_addA add_s (ex_sl (ex_var 2) (ox_some (ex_var 4)) ox_none) (ex_sl (ex_var 2) ox_none (ox_some (ex_var 4)))) ax_nil)))))))
theorem ok_rows_text (C : Ctx K mg tb) : FnG P w K mg base 2 C.f_rows_text C.fd_rows_text P_rows_text (spF K tb P_rows_text.length F_rows_text) := by
  have G_text : FnG P w K mg base 1 C.f_text C.fd_text P_text (spF K tb P_text.length F_text) := ok_text C
  refine okG (k := 1) C.F_rows_text sc_rows_text fun A outer s H E hgd hr => ?_
  exact (bs_one (bs_ret (ex_callG (fun _ _ _ h => runF_len h) G_text hgd (hr.mono (by decide)) (by rfl) C.g_text C.F_text.kp C.b_text (ax_cons (ex_lc (own := [("_law_founder", 1), ("_law_men", 2), ("_law_wed", 3), ("_law_way", 4)]) rfl sc_rows_text.nd (tg_tup rfl (tgs_cons (tg_name 1) (tgs_cons (tg_name 2) (tgs_cons (tg_name 3) (tgs_cons (tg_name 4) tgs_nil))))) (tw_tup (tws_cons (i := 1) (by decide) (tws_cons (i := 2) (by decide) (tws_cons (i := 3) (by decide) (tws_cons (i := 4) (by decide) tws_nil))))) (ix_seq' (ex_var 0)) (blkOk_by (own := [("_law_founder", 1), ("_law_men", 2), ("_law_wed", 3), ("_law_way", 4)]) (N := N_rows_text) (sc := defScope s_rows_text) (by decide +kernel)) (fun _ _ _ _ _ => (pg_tup rfl (pgs_cons (pg_name (i := 1) sc_rows_text.nd rfl (by first | exact Or.inl rfl | exact Or.inr rfl)) (pgs_cons (pg_name (i := 2) sc_rows_text.nd rfl (by first | exact Or.inl rfl | exact Or.inr rfl)) (pgs_cons (pg_name (i := 3) sc_rows_text.nd rfl (by first | exact Or.inl rfl | exact Or.inr rfl)) (pgs_cons (pg_name (i := 4) sc_rows_text.nd rfl (by first | exact Or.inl rfl | exact Or.inr rfl)) pgs_nil)))))) (fun _ _ _ _ _ => ts_nil) (fun _ _ _ _ _ => (ex_lst (ax_cons (ex_callTy str_s call_str_int (by rfl) C.z_str (by decide +kernel) (ax_cons (ex_var 1) ax_nil)) (ax_cons (ex_var 2) (ax_cons (ex_ix (ex_lst (ax_cons ex_str (ax_cons ex_str ax_nil))) (ex_var 3)) (ax_cons (ex_var 4) ax_nil))))))) ax_nil))))
theorem ok_news (C : Ctx K mg tb) : FnG P w K mg base 2 C.f_news C.fd_news P_news (spF K tb P_news.length F_news) := by
  have G_take : FnG P w K mg base 1 C.f_take C.fd_take P_take (spF K tb P_take.length F_take) := ok_take C
  refine okG (k := 1) C.F_news sc_news fun A outer s H E hgd hr => ?_
  exact (bs_cons (bs_set 2 sc_news.nd (ex_ix (ex_lst (ax_cons ex_str (ax_cons ex_str (ax_cons ex_str (ax_cons ex_str (ax_cons ex_str (ax_cons ex_str ax_nil))))))) (ex_callG (fun _ _ _ h => runF_len h) G_take hgd (hr.mono (by decide)) (by rfl) C.g_take C.F_take.kp C.b_take (ax_cons (ex_var 0) (ax_cons ex_int ax_nil)))))
      (bs_cons (bs_set 3 sc_news.nd (ex_callG (fun _ _ _ h => runF_len h) G_take hgd (hr.mono (by decide)) (by rfl) C.g_take C.F_take.kp C.b_take (ax_cons (ex_var 0) (ax_cons (ex_callB len_s cr_lenA (by rfl) C.z_len PySem.boot_len (ax_cons (ex_var 1) ax_nil)) ax_nil))))
      (bs_cons (bs_set 4 sc_news.nd (ex_op op_sub sub_s (ex_op op_addA add_s (ex_ix (ex_ix (ex_var 1) (ex_callG (fun _ _ _ h => runF_len h) G_take hgd (hr.mono (by decide)) (by rfl) C.g_take C.F_take.kp C.b_take (ax_cons (ex_var 0) (ax_cons (ex_callB len_s cr_lenA (by rfl) C.z_len PySem.boot_len (ax_cons (ex_var 1) ax_nil)) ax_nil)))) ex_int) (ex_callG (fun _ _ _ h => runF_len h) G_take hgd (hr.mono (by decide)) (by rfl) C.g_take C.F_take.kp C.b_take (ax_cons (ex_var 0) (ax_cons ex_int ax_nil)))) ex_int))
      (bs_cons (bs_set 5 sc_news.nd (ex_callB two_s (cr_max rfl) (by rfl) C.z_max (by decide +kernel) (ax_cons (ex_ix (ex_ix (ex_var 1) (ex_var 3)) ex_int) (ax_cons (ex_var 4) ax_nil))))
      (bs_cons (bs_fog [6] (bs_if (pwt (tw_and (tx_cmp (op_eqA hr.units) eq_s (ex_var 2) ex_str (nomark _)) (tw_and1 (tx_cmp (op_eqA hr.units) eq_s (ex_ix (ex_ix (ex_var 1) (ex_var 3)) ex_int) ex_int (nomark _))))) (bs_cons (bs_set 5 sc_news.nd (ex_callB two_s (cr_max rfl) (by rfl) C.z_max (by decide +kernel) (ax_cons (ex_op op_addA add_s (ex_ix (ex_ix (ex_var 1) (ex_var 3)) ex_int) ex_int) (ax_cons (ex_var 4) ax_nil))))
      (bs_cons (bs_set 6 sc_news.nd (ex_op op_addA add_s (ex_lst (ax_cons (ex_un un_neg neg_s ex_int) ax_nil)) (ex_lc (own := [("_law_k", 7)]) rfl sc_news.nd (tg_name 7) (tw_name 7 (by decide)) (ix_rng1 (by rfl) C.z_range (ax_cons (ex_callB len_s cr_lenA (by rfl) C.z_len PySem.boot_len (ax_cons (ex_var 1) ax_nil)) ax_nil)) (blkOk_by (own := [("_law_k", 7)]) (N := N_news) (sc := defScope s_news) (by decide +kernel)) (fun _ _ _ _ _ => (pg_name (i := 7) sc_news.nd rfl (by first | exact Or.inl rfl | exact Or.inr rfl))) (fun _ _ _ _ _ => (ts_one (pwt (tw_and (tx_cmp (op_eqA hr.units) eq_s (ex_ix (ex_ix (ex_var 1) (ex_var 7)) ex_int) ex_int (nomark _)) (tw_and1 (tx_cmp op_lt lt_s (ex_ix (ex_ix (ex_var 1) (ex_var 7)) ex_int) (ex_var 5) (nomark _))))))) (fun _ _ _ _ _ => (ex_var 7)))))
      (bs_one (bs_ret (ex_tup (ax_cons (ex_var 2) (ax_cons (ex_var 5) (ax_cons (ex_var 3) (ax_cons (ex_ix (ex_var 6) (ex_callG (fun _ _ _ h => runF_len h) G_take hgd (hr.mono (by decide)) (by rfl) C.g_take C.F_take.kp C.b_take (ax_cons (ex_var 0) (ax_cons (ex_callB len_s cr_lenA (by rfl) C.z_len PySem.boot_len (ax_cons (ex_var 6) ax_nil)) ax_nil)))) ax_nil))))))))) bs_nil))
      (bs_one (bs_ret (ex_tup (ax_cons (ex_ix (ex_lst (ax_cons (ex_var 2) (ax_cons ex_str ax_nil))) (ex_callTy int_s call_int1 (by rfl) C.z_int (by decide +kernel) (ax_cons (ex_cmp (op_eqA hr.units) eq_s (ex_var 2) ex_str (nomark _)) ax_nil))) (ax_cons (ex_var 5) (ax_cons (ex_var 3) (ax_cons (ex_un un_neg neg_s ex_int) ax_nil))))))))))))
theorem ok_book (C : Ctx K mg tb) : FnG P w K mg base 3 C.f_book C.fd_book P_book (spF K tb P_book.length F_book) := by
  have G_news : FnG P w K mg base 2 C.f_news C.fd_news P_news (spF K tb P_news.length F_news) := ok_news C
  have G_take : FnG P w K mg base 1 C.f_take C.fd_take P_take (spF K tb P_take.length F_take) := ok_take C
  refine okG (k := 2) C.F_book sc_book fun A outer s H E hgd hr => ?_
  exact (bs_one (bs_ret (ex_callTy tuple_s call_tuple_of (by rfl) C.z_tuple (by decide +kernel) (ax_cons (ex_sortSet rfl hr.units (by rfl) C.z_sorted (by rfl) C.z_set (ex_lc (own := [("_law_k", 3)]) rfl sc_book.nd (tg_name 3) (tw_name 3 (by decide)) (ix_rng1 (by rfl) C.z_range (ax_cons (ex_callG (fun _ _ _ h => runF_len h) G_take hgd (hr.mono (by decide)) (by rfl) C.g_take C.F_take.kp C.b_take (ax_cons (ex_var 0) (ax_cons (ex_op op_addA add_s (ex_var 2) ex_int) ax_nil))) ax_nil)) (blkOk_by (own := [("_law_k", 3)]) (N := N_book) (sc := defScope s_book) (by decide +kernel)) (fun _ _ _ _ _ => (pg_name (i := 3) sc_book.nd rfl (by first | exact Or.inl rfl | exact Or.inr rfl))) (fun _ _ _ _ _ => ts_nil) (fun _ _ _ _ _ => (ex_callG (fun _ _ _ h => runF_len h) G_news hgd (hr.mono (by decide)) (by rfl) C.g_news C.F_news.kp C.b_news (ax_cons (ex_var 0) (ax_cons (ex_var 1) ax_nil)))))) ax_nil))))
theorem ok_day (C : Ctx K mg tb) : FnG P w K mg base 2 C.f_day C.fd_day P_day (spF K tb P_day.length F_day) := by
  have G_take : FnG P w K mg base 1 C.f_take C.fd_take P_take (spF K tb P_take.length F_take) := ok_take C
  refine okG (k := 1) C.F_day sc_day fun A outer s H E hgd hr => ?_
  exact (bs_cons (bs_set 2 sc_day.nd (ex_ix (ex_ix (ex_var 1) (ex_callG (fun _ _ _ h => runF_len h) G_take hgd (hr.mono (by decide)) (by rfl) C.g_take C.F_take.kp C.b_take (ax_cons (ex_var 0) (ax_cons (ex_callB len_s cr_lenA (by rfl) C.z_len PySem.boot_len (ax_cons (ex_var 1) ax_nil)) ax_nil)))) ex_int))
      (bs_one (bs_ret (ex_callB two_s (cr_min rfl) (by rfl) C.z_min (by decide +kernel) (ax_cons ex_int (ax_cons (ex_ix (ex_lst (ax_cons (ex_var 2) (ax_cons (ex_op op_addA add_s (ex_var 2) ex_int) (ax_cons (ex_op op_addA add_s (ex_ix (ex_ix (ex_var 1) (ex_un un_neg neg_s ex_int)) ex_int) ex_int) (ax_cons (ex_ix (ex_ix (ex_var 1) (ex_un un_neg neg_s ex_int)) ex_int) ax_nil))))) (ex_callG (fun _ _ _ h => runF_len h) G_take hgd (hr.mono (by decide)) (by rfl) C.g_take C.F_take.kp C.b_take (ax_cons (ex_var 0) (ax_cons ex_int ax_nil)))) ax_nil))))))
theorem ok_parent (C : Ctx K mg tb) : FnG P w K mg base 2 C.f_parent C.fd_parent P_parent (spF K tb P_parent.length F_parent) := by
  have G_take : FnG P w K mg base 1 C.f_take C.fd_take P_take (spF K tb P_take.length F_take) := ok_take C
  refine okG (k := 1) C.F_parent sc_parent fun A outer s H E hgd hr => ?_
  exact (bs_cons (bs_setLc 4 (own := [("_law_k", 5)]) rfl sc_parent.nd (tg_name 5) (tw_name 5 (by decide)) (ix_rng1 (by rfl) C.z_range (ax_cons (ex_callB len_s cr_lenA (by rfl) C.z_len PySem.boot_len (ax_cons (ex_var 1) ax_nil)) ax_nil)) (blkOk_by (own := [("_law_k", 5)]) (N := N_parent) (sc := defScope s_parent) (by decide +kernel)) (fun _ _ _ _ _ => (pg_name (i := 5) sc_parent.nd rfl (by first | exact Or.inl rfl | exact Or.inr rfl))) (fun _ _ _ _ _ => (ts_one (pwt (tw_and (tx_cmp (op_eqA hr.units) eq_s (ex_ix (ex_ix (ex_var 1) (ex_var 5)) ex_int) (ex_var 3) (nomark _)) (tw_and1 (tx_cmp op_lt lt_s (ex_ix (ex_ix (ex_var 1) (ex_var 5)) ex_int) (ex_var 2) (nomark _))))))) (fun _ _ _ _ _ => (ex_var 5)) (sw_true rfl rfl rfl (by decide +kernel)))
      (bs_cons (bs_if (pwt (tw_or (tx_cmp (op_eqA hr.units) eq_s (ex_var 4) (ex_lst ax_nil) (nomark _)) (tw_or1 (tx_cmp (op_eqA hr.units) eq_s (ex_callG (fun _ _ _ h => runF_len h) G_take hgd (hr.mono (by decide)) (by rfl) C.g_take C.F_take.kp C.b_take (ax_cons (ex_var 0) (ax_cons ex_int ax_nil))) ex_int (nomark _))))) (bs_one (bs_ret (ex_un un_neg neg_s ex_int))) bs_nil)
      (bs_cons (bs_if (tx_cmp (op_eqA hr.units) eq_s (ex_callG (fun _ _ _ h => runF_len h) G_take hgd (hr.mono (by decide)) (by rfl) C.g_take C.F_take.kp C.b_take (ax_cons (ex_var 0) (ax_cons ex_int ax_nil))) ex_int (nomark _)) (bs_one (bs_set 4 sc_parent.nd (ex_sl (ex_var 4) (ox_some (ex_un un_neg neg_s ex_int)) ox_none))) bs_nil)
      (bs_one (bs_ret (ex_ix (ex_var 4) (ex_callG (fun _ _ _ h => runF_len h) G_take hgd (hr.mono (by decide)) (by rfl) C.g_take C.F_take.kp C.b_take (ax_cons (ex_var 0) (ax_cons (ex_callB len_s cr_lenA (by rfl) C.z_len PySem.boot_len (ax_cons (ex_var 4) ax_nil)) ax_nil)))))))))
theorem ok_house (C : Ctx K mg tb) : FnG P w K mg base 3 C.f_house C.fd_house P_house (spF K tb P_house.length F_house) := by
  have G_parent : FnG P w K mg base 2 C.f_parent C.fd_parent P_parent (spF K tb P_parent.length F_parent) := ok_parent C
  have G_take : FnG P w K mg base 1 C.f_take C.fd_take P_take (spF K tb P_take.length F_take) := ok_take C
  refine okG (k := 2) C.F_house sc_house fun A outer s H E hgd hr => ?_
  exact (bs_cons (bs_set 2 sc_house.nd (ex_op op_addA add_s ex_int (ex_callG (fun _ _ _ h => runF_len h) G_take hgd (hr.mono (by decide)) (by rfl) C.g_take C.F_take.kp C.b_take (ax_cons (ex_var 0) (ax_cons (ex_var 1) ax_nil)))))
      (bs_cons (bs_set 3 sc_house.nd (ex_ix (ex_lst (ax_cons ex_int (ax_cons ex_int (ax_cons ex_int ax_nil)))) (ex_callG (fun _ _ _ h => runF_len h) G_take hgd (hr.mono (by decide)) (by rfl) C.g_take C.F_take.kp C.b_take (ax_cons (ex_var 0) (ax_cons ex_int ax_nil)))))
      (bs_cons (bs_set 4 sc_house.nd (ex_own (ex_lst ax_nil)))
      (bs_cons (bs_for (dd := [5, 6, 7, 8]) rfl (tg_name 5) PassesOwn.never (ix_rng1 (by rfl) C.z_range (ax_cons (ex_var 2) ax_nil)) (pg_name (i := 5) sc_house.nd rfl (by first | exact Or.inl rfl | exact Or.inr rfl)) (bs_cons (bs_set 3 sc_house.nd (ex_callB two_s (cr_min rfl) (by rfl) C.z_min (by decide +kernel) (ax_cons ex_int (ax_cons (ex_op op_addA add_s (ex_var 3) (ex_ix (ex_lst (ax_cons ex_int (ax_cons ex_int (ax_cons ex_int (ax_cons ex_int (ax_cons ex_int (ax_cons ex_int (ax_cons ex_int (ax_cons ex_int (ax_cons ex_int (ax_cons ex_int ax_nil))))))))))) (ex_callG (fun _ _ _ h => runF_len h) G_take hgd (hr.mono (by decide)) (by rfl) C.g_take C.F_take.kp C.b_take (ax_cons (ex_var 0) (ax_cons ex_int ax_nil))))) ax_nil))))
      (bs_cons (bs_set 6 sc_house.nd (ex_callG (fun _ _ _ h => runF_len h) G_parent hgd (hr.mono (by decide)) (by rfl) C.g_parent C.F_parent.kp C.b_parent (ax_cons (ex_var 0) (ax_cons (ex_var 4) (ax_cons (ex_var 3) (ax_cons ex_int ax_nil))))))
      (bs_cons (bs_set 7 sc_house.nd (ex_callG (fun _ _ _ h => runF_len h) G_parent hgd (hr.mono (by decide)) (by rfl) C.g_parent C.F_parent.kp C.b_parent (ax_cons (ex_var 0) (ax_cons (ex_var 4) (ax_cons (ex_var 3) (ax_cons ex_int ax_nil))))))
      (bs_cons (bs_set 8 sc_house.nd (ex_callG (fun _ _ _ h => runF_len h) G_take hgd (hr.mono (by decide)) (by rfl) C.g_take C.F_take.kp C.b_take (ax_cons (ex_var 0) (ax_cons ex_int ax_nil))))
      (bs_one (bs_drop (ex_append (ex_var 4) (ax_cons (ex_tup (ax_cons (ex_var 3) (ax_cons (ex_var 6) (ax_cons (ex_var 7) (ax_cons (ex_var 8) (ax_cons (ex_callTy int_s call_int1 (by rfl) C.z_int (by decide +kernel) (ax_cons (ex_cmp op_gt gt_s (ex_callG (fun _ _ _ h => runF_len h) G_take hgd (hr.mono (by decide)) (by rfl) C.g_take C.F_take.kp C.b_take (ax_cons (ex_var 0) (ax_cons ex_int ax_nil))) ex_int (nomark _)) ax_nil)) ax_nil)))))) ax_nil)))))))))
      (bs_one (bs_ret (ex_callTy tuple_s call_tuple_of (by rfl) C.z_tuple (by decide +kernel) (ax_cons (ex_var 4) ax_nil))))))))
theorem ok_some (C : Ctx K mg tb) : FnG P w K mg base 4 C.f_some C.fd_some P_some (spF K tb P_some.length F_some) := by
  have G_book : FnG P w K mg base 3 C.f_book C.fd_book P_book (spF K tb P_book.length F_book) := ok_book C
  have G_day : FnG P w K mg base 2 C.f_day C.fd_day P_day (spF K tb P_day.length F_day) := ok_day C
  have G_house : FnG P w K mg base 3 C.f_house C.fd_house P_house (spF K tb P_house.length F_house) := ok_house C
  have G_take : FnG P w K mg base 1 C.f_take C.fd_take P_take (spF K tb P_take.length F_take) := ok_take C
  refine okG (k := 3) C.F_some sc_some fun A outer s H E hgd hr => ?_
  exact (bs_cons (bs_set 2 sc_some.nd (ex_cmp (op_eqA hr.units) eq_s (ex_callG (fun _ _ _ h => runF_len h) G_take hgd (hr.mono (by decide)) (by rfl) C.g_take C.F_take.kp C.b_take (ax_cons (ex_var 0) (ax_cons ex_int ax_nil))) ex_int (nomark _)))
      (bs_cons (bs_set 3 sc_some.nd (ex_callG (fun _ _ _ h => runF_len h) G_house hgd (hr.mono (by decide)) (by rfl) C.g_house C.F_house.kp C.b_house (ax_cons (ex_var 0) (ax_cons (ex_ix (ex_lst (ax_cons (ex_var 1) (ax_cons ex_int ax_nil))) (ex_callTy int_s call_int1 (by rfl) C.z_int (by decide +kernel) (ax_cons (ex_var 2) ax_nil))) ax_nil))))
      (bs_cons (bs_set 4 sc_some.nd (ex_callG (fun _ _ _ h => runF_len h) G_book hgd (hr.mono (by decide)) (by rfl) C.g_book C.F_book.kp C.b_book (ax_cons (ex_var 0) (ax_cons (ex_var 3) (ax_cons (ex_ix (ex_lst (ax_cons ex_int (ax_cons ex_int ax_nil))) (ex_callTy int_s call_int1 (by rfl) C.z_int (by decide +kernel) (ax_cons (ex_var 2) ax_nil))) ax_nil)))))
      (bs_one (bs_ret (ex_lst (ax_cons (ex_var 3) (ax_cons (ex_var 4) (ax_cons (ex_callG (fun _ _ _ h => runF_len h) G_day hgd (hr.mono (by decide)) (by rfl) C.g_day C.F_day.kp C.b_day (ax_cons (ex_var 0) (ax_cons (ex_var 3) ax_nil))) ax_nil)))))))))
theorem ok_who_word (C : Ctx K mg tb) : FnG P w K mg base 1 C.f_who_word C.fd_who_word P_who_word (spF K tb P_who_word.length F_who_word) := by
  refine okG (k := 0) C.F_who_word sc_who_word fun A outer s H E hgd hr => ?_
  exact (bs_one (bs_ret (ex_if (tx_cmp (op_eqA hr.units) eq_s (ex_var 0) (ex_un un_neg neg_s ex_int) (nomark _)) (ex_globS (by rfl) C.v_NOBODY) (ex_callTy str_s call_str_int (by rfl) C.z_str (by decide +kernel) (ax_cons (ex_var 0) ax_nil)))))
theorem ok_news_line (C : Ctx K mg tb) : FnG P w K mg base 2 C.f_news_line C.fd_news_line P_news_line (spF K tb P_news_line.length F_news_line) := by
  have G_who_word : FnG P w K mg base 1 C.f_who_word C.fd_who_word P_who_word (spF K tb P_who_word.length F_who_word) := ok_who_word C
  refine okG (k := 1) C.F_news_line sc_news_line fun A outer s H E hgd hr => ?_
  exact (bs_cons (bs_asg (tg_tup rfl (tgs_cons (tg_name 2) (tgs_cons (tg_name 3) (tgs_cons (tg_name 4) (tgs_cons (tg_name 5) tgs_nil))))) (ex_var 0) (pg_tup rfl (pgs_cons (pg_name (i := 2) sc_news_line.nd rfl (by first | exact Or.inl rfl | exact Or.inr rfl)) (pgs_cons (pg_name (i := 3) sc_news_line.nd rfl (by first | exact Or.inl rfl | exact Or.inr rfl)) (pgs_cons (pg_name (i := 4) sc_news_line.nd rfl (by first | exact Or.inl rfl | exact Or.inr rfl)) (pgs_cons (pg_name (i := 5) sc_news_line.nd rfl (by first | exact Or.inl rfl | exact Or.inr rfl)) pgs_nil))))))
      (bs_cons (bs_set 1 sc_news_line.nd (ex_own (ex_lst (ax_cons (ex_var 2) (ax_cons (ex_callTy str_s call_str_int (by rfl) C.z_str (by decide +kernel) (ax_cons (ex_var 3) ax_nil)) (ax_cons (ex_callTy str_s call_str_int (by rfl) C.z_str (by decide +kernel) (ax_cons (ex_var 4) ax_nil)) ax_nil))))))
      (bs_cons (bs_if (tx_cmp (op_eqA hr.units) eq_s (ex_var 2) ex_str (nomark _)) (bs_one (bs_drop (ex_append (ex_var 1) (ax_cons (ex_callG (fun _ _ _ h => runF_len h) G_who_word hgd (hr.mono (by decide)) (by rfl) C.g_who_word C.F_who_word.kp C.b_who_word (ax_cons (ex_var 5) ax_nil)) ax_nil)))) bs_nil)
      (bs_one (bs_ret (ex_join ex_str (ax_cons (ex_var 1) ax_nil)))))))
theorem ok_text_of (C : Ctx K mg tb) : FnG P w K mg base 1 C.f_text_of C.fd_text_of P_text_of (spF K tb P_text_of.length F_text_of) := by
  refine okG (k := 0) C.F_text_of sc_text_of fun A outer s H E hgd hr => ?_
  exact (bs_one (bs_ret (ex_join ex_str (ax_cons (ex_lc (own := [("line", 1)]) rfl sc_text_of.nd (tg_name 1) (tw_name 1 (by decide)) (ix_seq' (ex_var 0)) (blkOk_by (own := [("line", 1)]) (N := N_text_of) (sc := defScope s_text_of) (by decide +kernel)) (fun _ _ _ _ _ => (pg_name (i := 1) sc_text_of.nd rfl (by first | exact Or.inl rfl | exact Or.inr rfl))) (fun _ _ _ _ _ => ts_nil) (fun _ _ _ _ _ => (ex_op op_addA add_s (ex_var 1) ex_str))) ax_nil))))
theorem ok_book_text (C : Ctx K mg tb) : FnG P w K mg base 3 C.f_book_text C.fd_book_text P_book_text (spF K tb P_book_text.length F_book_text) := by
  have G_news_line : FnG P w K mg base 2 C.f_news_line C.fd_news_line P_news_line (spF K tb P_news_line.length F_news_line) := ok_news_line C
  have G_text_of : FnG P w K mg base 1 C.f_text_of C.fd_text_of P_text_of (spF K tb P_text_of.length F_text_of) := ok_text_of C
  refine okG (k := 2) C.F_book_text sc_book_text fun A outer s H E hgd hr => ?_
  exact (bs_one (bs_ret (ex_callG (fun _ _ _ h => runF_len h) G_text_of hgd (hr.mono (by decide)) (by rfl) C.g_text_of C.F_text_of.kp C.b_text_of (ax_cons (ex_lc (own := [("news", 1)]) rfl sc_book_text.nd (tg_name 1) (tw_name 1 (by decide)) (ix_seq' (ex_var 0)) (blkOk_by (own := [("news", 1)]) (N := N_book_text) (sc := defScope s_book_text) (by decide +kernel)) (fun _ _ _ _ _ => (pg_name (i := 1) sc_book_text.nd rfl (by first | exact Or.inl rfl | exact Or.inr rfl))) (fun _ _ _ _ _ => ts_nil) (fun _ _ _ _ _ => (ex_callG (fun _ _ _ h => runF_len h) G_news_line hgd (hr.mono (by decide)) (by rfl) C.g_news_line C.F_news_line.kp C.b_news_line (ax_cons (ex_var 1) ax_nil)))) ax_nil))))
theorem ok_folk_line (C : Ctx K mg tb) : FnG P w K mg base 2 C.f_folk_line C.fd_folk_line P_folk_line (spF K tb P_folk_line.length F_folk_line) := by
  have G_who_word : FnG P w K mg base 1 C.f_who_word C.fd_who_word P_who_word (spF K tb P_who_word.length F_who_word) := ok_who_word C
  refine okG (k := 1) C.F_folk_line sc_folk_line fun A outer s H E hgd hr => ?_
  exact (bs_cons (bs_asg (tg_tup rfl (tgs_cons (tg_name 1) (tgs_cons (tg_name 2) (tgs_cons (tg_name 3) (tgs_cons (tg_name 4) (tgs_cons (tg_name 5) tgs_nil)))))) (ex_var 0) (pg_tup rfl (pgs_cons (pg_name (i := 1) sc_folk_line.nd rfl (by first | exact Or.inl rfl | exact Or.inr rfl)) (pgs_cons (pg_name (i := 2) sc_folk_line.nd rfl (by first | exact Or.inl rfl | exact Or.inr rfl)) (pgs_cons (pg_name (i := 3) sc_folk_line.nd rfl (by first | exact Or.inl rfl | exact Or.inr rfl)) (pgs_cons (pg_name (i := 4) sc_folk_line.nd rfl (by first | exact Or.inl rfl | exact Or.inr rfl)) (pgs_cons (pg_name (i := 5) sc_folk_line.nd rfl (by first | exact Or.inl rfl | exact Or.inr rfl)) pgs_nil)))))))
      (bs_one (bs_ret (ex_join ex_str (ax_cons (ex_lst (ax_cons (ex_callTy str_s call_str_int (by rfl) C.z_str (by decide +kernel) (ax_cons (ex_var 1) ax_nil)) (ax_cons (ex_callG (fun _ _ _ h => runF_len h) G_who_word hgd (hr.mono (by decide)) (by rfl) C.g_who_word C.F_who_word.kp C.b_who_word (ax_cons (ex_var 2) ax_nil)) (ax_cons (ex_callG (fun _ _ _ h => runF_len h) G_who_word hgd (hr.mono (by decide)) (by rfl) C.g_who_word C.F_who_word.kp C.b_who_word (ax_cons (ex_var 3) ax_nil)) (ax_cons (ex_ix (ex_globT (by rfl) C.v_SEXES) (ex_var 4)) (ax_cons (ex_ix (ex_globT (by rfl) C.v_BIRTHS) (ex_var 5)) ax_nil)))))) ax_nil)))))
theorem ok_house_text (C : Ctx K mg tb) : FnG P w K mg base 3 C.f_house_text C.fd_house_text P_house_text (spF K tb P_house_text.length F_house_text) := by
  have G_folk_line : FnG P w K mg base 2 C.f_folk_line C.fd_folk_line P_folk_line (spF K tb P_folk_line.length F_folk_line) := ok_folk_line C
  have G_text_of : FnG P w K mg base 1 C.f_text_of C.fd_text_of P_text_of (spF K tb P_text_of.length F_text_of) := ok_text_of C
  refine okG (k := 2) C.F_house_text sc_house_text fun A outer s H E hgd hr => ?_
  exact (bs_one (bs_ret (ex_callG (fun _ _ _ h => runF_len h) G_text_of hgd (hr.mono (by decide)) (by rfl) C.g_text_of C.F_text_of.kp C.b_text_of (ax_cons (ex_lc (own := [("folk", 1)]) rfl sc_house_text.nd (tg_name 1) (tw_name 1 (by decide)) (ix_seq' (ex_var 0)) (blkOk_by (own := [("folk", 1)]) (N := N_house_text) (sc := defScope s_house_text) (by decide +kernel)) (fun _ _ _ _ _ => (pg_name (i := 1) sc_house_text.nd rfl (by first | exact Or.inl rfl | exact Or.inr rfl))) (fun _ _ _ _ _ => ts_nil) (fun _ _ _ _ _ => (ex_callG (fun _ _ _ h => runF_len h) G_folk_line hgd (hr.mono (by decide)) (by rfl) C.g_folk_line C.F_folk_line.kp C.b_folk_line (ax_cons (ex_var 1) ax_nil)))) ax_nil))))
theorem ok_row_line (C : Ctx K mg tb) : FnG P w K mg base 1 C.f_row_line C.fd_row_line P_row_line (spF K tb P_row_line.length F_row_line) := by
  refine okG (k := 0) C.F_row_line sc_row_line fun A outer s H E hgd hr => ?_
  exact (bs_cons (bs_asg (tg_tup rfl (tgs_cons (tg_name 1) (tgs_cons (tg_name 2) (tgs_cons (tg_name 3) (tgs_cons (tg_name 4) tgs_nil))))) (ex_var 0) (pg_tup rfl (pgs_cons (pg_name (i := 1) sc_row_line.nd rfl (by first | exact Or.inl rfl | exact Or.inr rfl)) (pgs_cons (pg_name (i := 2) sc_row_line.nd rfl (by first | exact Or.inl rfl | exact Or.inr rfl)) (pgs_cons (pg_name (i := 3) sc_row_line.nd rfl (by first | exact Or.inl rfl | exact Or.inr rfl)) (pgs_cons (pg_name (i := 4) sc_row_line.nd rfl (by first | exact Or.inl rfl | exact Or.inr rfl)) pgs_nil))))))
      (bs_one (bs_ret (ex_join ex_str (ax_cons (ex_lst (ax_cons (ex_callTy str_s call_str_int (by rfl) C.z_str (by decide +kernel) (ax_cons (ex_var 1) ax_nil)) (ax_cons (ex_var 2) (ax_cons (ex_ix (ex_globT (by rfl) C.v_COUNTED) (ex_var 3)) (ax_cons (ex_var 4) ax_nil))))) ax_nil)))))
theorem ok_rule_text (C : Ctx K mg tb) : FnG P w K mg base 2 C.f_rule_text C.fd_rule_text P_rule_text (spF K tb P_rule_text.length F_rule_text) := by
  have G_row_line : FnG P w K mg base 1 C.f_row_line C.fd_row_line P_row_line (spF K tb P_row_line.length F_row_line) := ok_row_line C
  have G_text_of : FnG P w K mg base 1 C.f_text_of C.fd_text_of P_text_of (spF K tb P_text_of.length F_text_of) := ok_text_of C
  refine okG (k := 1) C.F_rule_text sc_rule_text fun A outer s H E hgd hr => ?_
  exact (bs_one (bs_ret (ex_callG (fun _ _ _ h => runF_len h) G_text_of hgd (hr.mono (by decide)) (by rfl) C.g_text_of C.F_text_of.kp C.b_text_of (ax_cons (ex_lc (own := [("row", 1)]) rfl sc_rule_text.nd (tg_name 1) (tw_name 1 (by decide)) (ix_seq' (ex_var 0)) (blkOk_by (own := [("row", 1)]) (N := N_rule_text) (sc := defScope s_rule_text) (by decide +kernel)) (fun _ _ _ _ _ => (pg_name (i := 1) sc_rule_text.nd rfl (by first | exact Or.inl rfl | exact Or.inr rfl))) (fun _ _ _ _ _ => ts_nil) (fun _ _ _ _ _ => (ex_callG (fun _ _ _ h => runF_len h) G_row_line hgd (hr.mono (by decide)) (by rfl) C.g_row_line C.F_row_line.kp C.b_row_line (ax_cons (ex_var 1) ax_nil)))) ax_nil))))
theorem ok_law (C : Ctx K mg tb) : FnG P w K mg base 5 C.f_law C.fd_law P_law (spF K tb P_law.length F_law) := by
  have G_l_book_text : FnG P w K mg base 3 C.f_l_book_text C.fd_l_book_text P_l_book_text (spF K tb P_l_book_text.length F_l_book_text) := ok_l_book_text C
  have G_l_house_text : FnG P w K mg base 2 C.f_l_house_text C.fd_l_house_text P_l_house_text (spF K tb P_l_house_text.length F_l_house_text) := ok_l_house_text C
  have G_rows : FnG P w K mg base 3 C.f_rows C.fd_rows P_rows (spF K tb P_rows.length F_rows) := ok_rows C
  have G_rows_text : FnG P w K mg base 2 C.f_rows_text C.fd_rows_text P_rows_text (spF K tb P_rows_text.length F_rows_text) := ok_rows_text C
  have G_some : FnG P w K mg base 4 C.f_some C.fd_some P_some (spF K tb P_some.length F_some) := ok_some C
  have G_book_text : FnG P w K mg base 3 C.f_book_text C.fd_book_text P_book_text (spF K tb P_book_text.length F_book_text) := ok_book_text C
  have G_house_text : FnG P w K mg base 3 C.f_house_text C.fd_house_text P_house_text (spF K tb P_house_text.length F_house_text) := ok_house_text C
  have G_rule_text : FnG P w K mg base 2 C.f_rule_text C.fd_rule_text P_rule_text (spF K tb P_rule_text.length F_rule_text) := ok_rule_text C
  refine okG (k := 4) C.F_law sc_law fun A outer s H E hgd hr => ?_
  exact (bs_cons (bs_set 1 sc_law.nd (ex_own (ex_lst (ax_cons (ex_var 0) (ax_cons ex_int (ax_cons ex_int (ax_cons ex_int ax_nil)))))))
      (bs_cons (bs_for (dd := [2, 3, 4, 5, 6, 7]) rfl (tg_name 2) PassesOwn.never (ix_rng1 (by rfl) C.z_range (ax_cons ex_int ax_nil)) (pg_name (i := 2) sc_law.nd rfl (by first | exact Or.inl rfl | exact Or.inr rfl)) (bs_cons (bs_asg (tg_tl rfl (tgs_cons (tg_name 5) (tgs_cons (tg_name 6) (tgs_cons (tg_name 7) tgs_nil)))) (ex_callG (fun _ _ _ h => runF_len h) G_some hgd (hr.mono (by decide)) (by rfl) C.g_some C.F_some.kp C.b_some (ax_cons (ex_var 1) (ax_cons ex_int ax_nil))) (pg_tl rfl (pgs_cons (pg_name (i := 5) sc_law.nd rfl (by first | exact Or.inl rfl | exact Or.inr rfl)) (pgs_cons (pg_name (i := 6) sc_law.nd rfl (by first | exact Or.inl rfl | exact Or.inr rfl)) (pgs_cons (pg_name (i := 7) sc_law.nd rfl (by first | exact Or.inl rfl | exact Or.inr rfl)) pgs_nil)))))
      (bs_cons (bs_setLc 3 (own := [("_law_k", 8)]) rfl sc_law.nd (tg_name 8) (tw_name 8 (by decide)) (ix_rng1 (by rfl) C.z_range (ax_cons ex_int ax_nil)) (blkOk_by (own := [("_law_k", 8)]) (N := N_law) (sc := defScope s_law) (by decide +kernel)) (fun _ _ _ _ _ => (pg_name (i := 8) sc_law.nd rfl (by first | exact Or.inl rfl | exact Or.inr rfl))) (fun _ _ _ _ _ => ts_nil) (fun _ _ _ _ _ => (ex_callG (fun _ _ _ h => runF_len h) G_rows hgd (hr.mono (by decide)) (by rfl) C.g_rows C.F_rows.kp C.b_rows (ax_cons (ex_var 1) (ax_cons (ex_var 5) ax_nil)))) (sw_true rfl rfl rfl (by decide +kernel)))
      (bs_one (bs_for (dd := [4]) rfl (tg_name 4) PassesOwn.never (ix_rng1 (by rfl) C.z_range (ax_cons ex_int ax_nil)) (pg_name (i := 4) sc_law.nd rfl (by first | exact Or.inl rfl | exact Or.inr rfl)) (bs_cons (bs_if (pwt (tw_or (tx_cmp (op_neA hr.units) ne_s (ex_callG (fun _ _ _ h => runF_len h) G_house_text hgd (hr.mono (by decide)) (by rfl) C.g_house_text C.F_house_text.kp C.b_house_text (ax_cons (ex_var 5) ax_nil)) (ex_callG (fun _ _ _ h => runF_len h) G_l_house_text hgd (hr.mono (by decide)) (by rfl) C.g_l_house_text C.F_l_house_text.kp C.b_l_house_text (ax_cons (ex_var 5) ax_nil)) (nomark _)) (tw_or1 (tx_cmp (op_neA hr.units) ne_s (ex_callG (fun _ _ _ h => runF_len h) G_book_text hgd (hr.mono (by decide)) (by rfl) C.g_book_text C.F_book_text.kp C.b_book_text (ax_cons (ex_var 6) ax_nil)) (ex_callG (fun _ _ _ h => runF_len h) G_l_book_text hgd (hr.mono (by decide)) (by rfl) C.g_l_book_text C.F_l_book_text.kp C.b_l_book_text (ax_cons (ex_var 6) ax_nil)) (nomark _))))) (bs_one (bs_ret ex_bl)) bs_nil)
      (bs_cons (bs_if (tx_cmp (op_neA hr.units) ne_s (ex_lc (own := [("_law_rows_here", 9)]) rfl sc_law.nd (tg_name 9) (tw_name 9 (by decide)) (ix_seq' (ex_var 3)) (blkOk_by (own := [("_law_rows_here", 9)]) (N := N_law) (sc := defScope s_law) (by decide +kernel)) (fun _ _ _ _ _ => (pg_name (i := 9) sc_law.nd rfl (by first | exact Or.inl rfl | exact Or.inr rfl))) (fun _ _ _ _ _ => ts_nil) (fun _ _ _ _ _ => (ex_callG (fun _ _ _ h => runF_len h) G_rule_text hgd (hr.mono (by decide)) (by rfl) C.g_rule_text C.F_rule_text.kp C.b_rule_text (ax_cons (ex_var 9) ax_nil)))) (ex_lc (own := [("_law_rows_here", 9)]) rfl sc_law.nd (tg_name 9) (tw_name 9 (by decide)) (ix_seq' (ex_var 3)) (blkOk_by (own := [("_law_rows_here", 9)]) (N := N_law) (sc := defScope s_law) (by decide +kernel)) (fun _ _ _ _ _ => (pg_name (i := 9) sc_law.nd rfl (by first | exact Or.inl rfl | exact Or.inr rfl))) (fun _ _ _ _ _ => ts_nil) (fun _ _ _ _ _ => (ex_callG (fun _ _ _ h => runF_len h) G_rows_text hgd (hr.mono (by decide)) (by rfl) C.g_rows_text C.F_rows_text.kp C.b_rows_text (ax_cons (ex_var 9) ax_nil)))) (nomark _)) (bs_one (bs_ret ex_bl)) bs_nil)
      (bs_one (bs_if (tx_not (tx_tru (ex_isi .str (by rfl) C.z_isinstance (by rfl) C.z_str (by decide +kernel) (ex_callG (fun _ _ _ h => runF_len h) G_house_text hgd (hr.mono (by decide)) (by rfl) C.g_house_text C.F_house_text.kp C.b_house_text (ax_cons (ex_var 5) ax_nil))))) (bs_one (bs_ret ex_bl)) bs_nil)))))))))
      (bs_one (bs_ret (ex_cmp (op_eqA hr.units) eq_s (ex_callG (fun _ _ _ h => runF_len h) G_book_text hgd (hr.mono (by decide)) (by rfl) C.g_book_text C.F_book_text.kp C.b_book_text (ax_cons (ex_tup ax_nil) ax_nil)) ex_str (nomark _))))))
end
end K91
end
section
set_option Elab.async false
set_option linter.all false
set_option maxRecDepth 100000
set_option maxHeartbeats 4000000
/-! what the laws share: running the meanings; the draws -/
namespace Lx
open PySem L2 Pw
/-! ### places in lists -/
theorem at_nat {α : Type} {xs : List α} {i : Nat} {x : α} (h : xs[i]? = some x) : atI xs (i : Int) = some x := by
  have hl : i < xs.length := (List.getElem?_eq_some_iff.mp h).1
  unfold atI ixN
  rw [if_pos (by omega), if_pos (by omega)]
  simpa using h
theorem at_int {α : Type} {xs : List α} {v : Int} {x : α} (h0 : 0 ≤ v) (h : xs[v.toNat]? = some x) : atI xs v = some x := by
  have := at_nat h
  rwa [Int.toNat_of_nonneg h0] at this
theorem at_some {α : Type} {xs : List α} {v : Int} (h0 : 0 ≤ v) (h1 : v < xs.length) : ∃ x, x ∈ xs ∧ xs[v.toNat]? = some x ∧ atI xs v = some x := by
  have hv : v.toNat < xs.length := by omega
  have e : xs[v.toNat]? = some xs[v.toNat] := List.getElem?_eq_getElem hv
  exact ⟨_, List.getElem_mem hv, e, at_int h0 e⟩
@[simp] theorem at0 {α : Type} {a : α} {xs : List α} : atI (a :: xs) 0 = some a := @at_nat _ (a :: xs) 0 a rfl
@[simp] theorem at1 {α : Type} {a b : α} {xs : List α} : atI (a :: b :: xs) 1 = some b := @at_nat _ (a :: b :: xs) 1 b rfl
@[simp] theorem at2 {α : Type} {a b c : α} {xs : List α} : atI (a :: b :: c :: xs) 2 = some c := @at_nat _ (a :: b :: c :: xs) 2 c rfl
@[simp] theorem at3 {α : Type} {a b c d : α} {xs : List α} : atI (a :: b :: c :: d :: xs) 3 = some d := @at_nat _ (a :: b :: c :: d :: xs) 3 d rfl
@[simp] theorem at4 {α : Type} {a b c d e : α} {xs : List α} : atI (a :: b :: c :: d :: e :: xs) 4 = some e := @at_nat _ (a :: b :: c :: d :: e :: xs) 4 e rfl
@[simp] theorem ix4_1 : ixN 4 1 = some 1 := rfl
@[simp] theorem ix4_2 : ixN 4 2 = some 2 := rfl
@[simp] theorem ix4_3 : ixN 4 3 = some 3 := rfl
/-! ### rules for simp -/
@[simp] theorem stl_v {d : D} : stl (.v d) = .v d := rfl
@[simp] theorem stl_f {d : D} : stl (.f d) = .v d := rfl
@[simp] theorem stl_r {n : Nat} : stl (.r n) = .r n := rfl
@[simp] theorem gt_v {d : D} {m : Mem} : gt (.v d) m = some d := rfl
@[simp] theorem gt_f {d : D} {m : Mem} : gt (.f d) m = some d := rfl
@[simp] theorem gt_r {n : Nat} {m : Mem} : gt (.r n) m = (m[n]?).map moD := rfl
@[simp] theorem moD_l {ds : List D} : moD (.lst ds) = .lst ds := rfl
@[simp] theorem moD_k {kvs : List (Key × D)} : moD (.dk kvs) = .dk kvs := rfl
@[simp] theorem vl_v {d : D} : vl (.v d) = some d := rfl
@[simp] theorem vl_f {d : D} : vl (.f d) = some d := rfl
@[simp] theorem gts_nil {m : Mem} : gts [] m = some [] := rfl
@[simp] theorem gts_cons {w : W} {ws : List W} {m : Mem} : gts (w :: ws) m = (gt w m).bind fun d => (gts ws m).bind fun ds => some (d :: ds) := rfl
@[simp] theorem vls_nil : vls [] = some [] := rfl
@[simp] theorem vls_v {d : D} {ws : List W} : vls (.v d :: ws) = (vls ws).bind fun ds => some (d :: ds) := rfl
@[simp] theorem vls_f {d : D} {ws : List W} : vls (.f d :: ws) = (vls ws).bind fun ds => some (d :: ds) := rfl
@[simp] theorem blD_b {b : Bool} : blD (.bl b) = some b := rfl
@[simp] theorem inD_i {i : Int} : inD' (.int i) = some i := rfl
@[simp] theorem wipe_nil {ρ : Pw.Env} : wipeD ρ [] = ρ := rfl
@[simp] theorem wipe_cons {ρ : Pw.Env} {v : Nat} {vs : List Nat} : wipeD ρ (v :: vs) = (wipeD ρ vs).set v none := rfl
@[simp] theorem itm_t {ds : List D} : itmD (.tup ds) = some ds := rfl
@[simp] theorem itm_l {ds : List D} : itmD (.lst ds) = some ds := rfl
@[simp] theorem itmL_l {ds : List D} : itmL (.lst ds) = some ds := rfl
@[simp] theorem src_t {ds : List D} {m : Mem} : srcW (.v (.tup ds)) m = some (.seq ds) := rfl
@[simp] theorem src_l {ds : List D} {m : Mem} : srcW (.v (.lst ds)) m = some (.seq ds) := rfl
@[simp] theorem src_tf {ds : List D} {m : Mem} : srcW (.f (.tup ds)) m = some (.seq ds) := rfl
@[simp] theorem src_lf {ds : List D} {m : Mem} : srcW (.f (.lst ds)) m = some (.seq ds) := rfl
@[simp] theorem items_seq {ds : List D} {m : Mem} : itemsAt (.seq ds) m = some ds := rfl
@[simp] theorem own_f {ds : List D} {m : Mem} : ownW (.f (.lst ds)) m = some (.r m.length, m ++ [.lst ds]) := rfl
@[simp] theorem own_r {n : Nat} {m : Mem} : ownW (.r n) m = some (.r n, m) := rfl
@[simp] theorem out_v {k : Nat} {d : D} {m : Mem} : outW k (.v d) m = some (.v d, m.take k) := rfl
@[simp] theorem out_f {k : Nat} {d : D} {m : Mem} : outW k (.f d) m = some (.f d, m.take k) := rfl
@[simp] theorem sub_i {a b : Int} : subD (.int a) (.int b) = some (.v (.int (a - b))) := rfl
@[simp] theorem add_i {a b : Int} : addD (.int a) (.int b) = some (.v (.int (a + b))) := rfl
@[simp] theorem neg_i {a : Int} : negD (.int a) = some (.v (.int (-a))) := rfl
@[simp] theorem lt_i {a b : Int} : cmpD ltI (.int a) (.int b) = some (.v (.bl (decide (a < b)))) := rfl
@[simp] theorem le_i {a b : Int} : cmpD leI (.int a) (.int b) = some (.v (.bl (decide (a ≤ b)))) := rfl
@[simp] theorem gt_i {a b : Int} : cmpD gtI (.int a) (.int b) = some (.v (.bl (decide (b < a)))) := rfl
@[simp] theorem ge_i {a b : Int} : cmpD geI (.int a) (.int b) = some (.v (.bl (decide (b ≤ a)))) := rfl
@[simp] theorem max_i {a b : Int} : two maxI [.int a, .int b] = some (.v (.int (max a b))) := by
  simp only [two, maxI, Option.some.injEq, W.v.injEq, D.int.injEq]; split <;> omega
@[simp] theorem min_i {a b : Int} : two minI [.int a, .int b] = some (.v (.int (min a b))) := by
  simp only [two, minI, Option.some.injEq, W.v.injEq, D.int.injEq]; split <;> omega
@[simp] theorem int_b {b : Bool} : intD [.bl b] = some (.v (.int (if b then 1 else 0))) := rfl
@[simp] theorem int_i {b : Int} : intD [.int b] = some (.v (.int b)) := rfl
@[simp] theorem len_t {ds : List D} : lenD [.tup ds] = some (.v (.int ds.length)) := rfl
@[simp] theorem len_l {ds : List D} : lenD [.lst ds] = some (.v (.int ds.length)) := rfl
@[simp] theorem len_fl {ds : List D} : lenD [.fl ds] = some (.v (.int ds.length)) := rfl
@[simp] theorem tuple_l {ds : List D} : tupleD [.lst ds] = some (.v (.tup ds)) := rfl
@[simp] theorem tuple_t {ds : List D} : tupleD [.tup ds] = some (.v (.tup ds)) := rfl
@[simp] theorem list_t {ds : List D} : listD [.tup ds] = some (.f (.lst ds)) := rfl
@[simp] theorem list_l {ds : List D} : listD [.lst ds] = some (.f (.lst ds)) := rfl
@[simp] theorem ix_t {ds : List D} {i : Int} : ixD (.tup ds) (.int i) = (atI ds i).bind fun d => some (.v d) := rfl
@[simp] theorem ix_l {ds : List D} {i : Int} : ixD (.lst ds) (.int i) = (atI ds i).bind fun d => some (.v d) := rfl
@[simp] theorem ix_fl {ds : List D} {i : Int} : ixD (.fl ds) (.int i) = (atI ds i).bind fun d => some (.v d) := rfl
@[simp] theorem eq_i {neg : Bool} {x y : Int} : eqD neg (.int x) (.int y) = some (.v (.bl (decide (x = y) != neg))) := by
  unfold eqD eqB
  simp [sc, scal]
@[simp] theorem eq_s {neg : Bool} {x y : Str} : eqD neg (.str x) (.str y) = some (.v (.bl (decide (x = y) != neg))) := by
  unfold eqD eqB
  simp [sc, scal]
theorem mul_i {a b : Int} (c : CMul a b) : mulD (.int a) (.int b) = some (.v (.int (a * b))) := by simp [mulD, c]
theorem div_i {a b : Int} (h : 0 < b) (h2 : b < 2 ^ 30) : divD (.int a) (.int b) = some (.v (.int (a / b))) := by
  have c : CDiv a b := ⟨h, h2⟩
  simp [divD, intC, c]
theorem mod_i {a b : Int} (h : 0 < b) : modD (.int a) (.int b) = some (.v (.int (a % b))) := by simp [modD, intC, h]
theorem pow_i {a b : Int} (c : CPow a b) : powD (.int a) (.int b) = some (.v (.int (a ^ b.toNat))) := by simp [powD, intC, c]
@[simp] theorem add_l {a b : List D} : addD (.lst a) (.lst b) = if a.length + b.length ≤ 1000000 then some (.f (.lst (a ++ b))) else none := rfl
@[simp] theorem add_t {a b : List D} : addD (.tup a) (.tup b) = if a.length + b.length ≤ 1000000 then some (.v (.tup (a ++ b))) else none := rfl
@[simp] theorem app_r {n : Nat} {w : W} {m : Mem} : appD (.r n) [w] m = match m[n]? with
    | some (.lst ds) => (vl w).bind fun d => if ds.length < 1000000 then some (.v .non, m.set n (.lst (ds ++ [d]))) else none
    | _ => none := rfl
@[simp] theorem isl_r {n : Nat} {m : Mem} : isLst (.r n) m = match m[n]? with
    | some (.lst _) => true
    | _ => false := rfl
@[simp] theorem rngA_i {n : Nat} : rngA [.int (n : Int)] = if (n : Int) ≤ 1000000000 then some (rngD 0 n) else none := by
  unfold rngA
  simp only [Int.toNat_natCast]
  by_cases h : (n : Int) ≤ 1000000000
  · rw [if_pos ⟨by omega, h⟩, if_pos h]
  · rw [if_neg (fun z => h z.2), if_neg h]
@[simp] theorem put_r {n : Nat} {i : Int} {d : D} {m : Mem} : putD (.r n) (.int i) d m = match m[n]? with
    | some (.lst ds) => (ixN ds.length i).map fun j => m.set n (.lst (ds.set j d))
    | _ => none := rfl
/-! ### the draws -/
structure St where
  p : Int
  c : Int
  sd : Int
  hp : 0 ≤ p
  hc : 0 ≤ c
  hs : 0 ≤ sd
  hs2 : sd < 2147483647
def stD (ns : List Int) (s : St) : MO := .lst [.fl (ns.map .int), .int s.p, .int s.c, .int s.sd]
noncomputable def B_take : Sx := (sSeq (sFog [3] (sIf (tVal (eOp (cmpD gtI) (eOp ixD (eVar 0) (eC (.int 2))) (eC (.int 0)))) (sSeq (sSet 3 (eOp modD (eOp ixD (eVar 0) (eC (.int 2))) (eVar 1))) (sSeq (sPut (eVar 0) (eC (.int 2)) (eOp divD (eOp ixD (eVar 0) (eC (.int 2))) (eVar 1))) (sRet (eVar 3)))) sNil)) (sSeq (sSet 2 (eC (.int 0))) (sSeq (sIf (tVal (eOp (cmpD ltI) (eOp ixD (eVar 0) (eC (.int 1))) (eCB lenD (aCons (eOp ixD (eVar 0) (eC (.int 0))) aNil)))) (sSet 2 (eOp ixD (eOp ixD (eVar 0) (eC (.int 0))) (eOp ixD (eVar 0) (eC (.int 1))))) sNil) (sSeq (sPut (eVar 0) (eC (.int 1)) (eOp addD (eOp ixD (eVar 0) (eC (.int 1))) (eC (.int 1)))) (sSeq (sIf (tVal (eOp (cmpD geI) (eVar 2) (eOp powD (eC (.int 10)) (eC (.int 18))))) (sSeq (sPut (eVar 0) (eC (.int 2)) (eOp divD (eVar 2) (eVar 1))) (sRet (eOp modD (eVar 2) (eVar 1)))) sNil) (sSeq (sPut (eVar 0) (eC (.int 3)) (eOp modD (eOp addD (eOp addD (eOp mulD (eOp ixD (eVar 0) (eC (.int 3))) (eC (.int 48271))) (eOp modD (eVar 2) (eC (.int 2147483629)))) (eOp mulD (eC (.int 7)) (eOp ixD (eVar 0) (eC (.int 1))))) (eC (.int 2147483647)))) (sRet (eOp modD (eOp divD (eOp modD (eOp powD (eOp ixD (eVar 0) (eC (.int 3))) (eC (.int 3))) (eC (.int 2147483629))) (eC (.int 64))) (eVar 1)))))))))
noncomputable def F_take : Fx := runF 2 4 B_take
theorem take_ex (ns : List Int) (s : St) (b : Int) (hb : 0 < b) (hb2 : b < 1073741824) :
    ∃ (v : Int) (s' : St), 0 ≤ v ∧ v < b ∧ ∀ m : Mem, F_take [.r 0, .v (.int b)] (stD ns s :: m) = some (.v (.int v), stD ns s' :: m) := by
  obtain ⟨p, c, sd, hp, hc, hs, hs2⟩ := s
  by_cases h0 : 0 < c
  · refine ⟨c % b, ⟨p, c / b, sd, hp, Int.ediv_nonneg hc (by omega), hs, hs2⟩, Int.emod_nonneg _ (by omega), Int.emod_lt_of_pos _ hb, fun m => ?_⟩
    simp [F_take, runF, B_take, startD, sFog, sSeq, sIf, sSet, sRet, sPut, eVar, eC, eOp, tVal, stD, h0, mod_i hb, div_i hb hb2]
  · have key : ∀ cell : Int, (if p < (ns.length : Int) then atI (ns.map D.int) p else some (D.int 0)) = some (.int cell) → ∃ (v : Int) (s' : St), 0 ≤ v ∧ v < b ∧ ∀ m : Mem, F_take [.r 0, .v (.int b)] (stD ns ⟨p, c, sd, hp, hc, hs, hs2⟩ :: m) = some (.v (.int v), stD ns s' :: m) := by
      intro cell hcell
      have cp10 : CPow 10 18 := ⟨by omega, by omega, by decide⟩
      by_cases hbig : (1000000000000000000 : Int) ≤ cell
      · refine ⟨cell % b, ⟨p + 1, cell / b, sd, by omega, Int.ediv_nonneg (by omega) (by omega), hs, hs2⟩, Int.emod_nonneg _ (by omega), Int.emod_lt_of_pos _ hb, fun m => ?_⟩
        by_cases h1 : p < (ns.length : Int)
        · rw [if_pos h1] at hcell
          simp [F_take, runF, B_take, startD, sFog, sSeq, sIf, sSet, sRet, sPut, sNil, eVar, eC, eOp, eCB, aCons, aNil, tVal, stD, h0, h1, hcell, mod_i hb, div_i hb hb2, pow_i cp10, hbig]
        · rw [if_neg h1] at hcell
          have : (0 : Int) = cell := by injection hcell with z; injection z
          omega
      · have n2 : 0 ≤ (sd * 48271 + cell % 2147483629 + 7 * (p + 1)) % 2147483647 := Int.emod_nonneg _ (by omega)
        have n3 : (sd * 48271 + cell % 2147483629 + 7 * (p + 1)) % 2147483647 < 2147483647 := Int.emod_lt_of_pos _ (by omega)
        generalize hq : (sd * 48271 + cell % 2147483629 + 7 * (p + 1)) % 2147483647 = q at n2 n3
        have cp : CPow q 3 := ⟨by omega, by omega, by omega⟩
        refine ⟨q ^ 3 % 2147483629 / 64 % b, ⟨p + 1, c, q, by omega, hc, n2, n3⟩, Int.emod_nonneg _ (by omega), Int.emod_lt_of_pos _ hb, fun m => ?_⟩
        have m1 : mulD (.int sd) (.int 48271) = some (.v (.int (sd * 48271))) := mul_i (.inr ⟨by omega, by omega⟩)
        have m2 : mulD (.int 7) (.int (p + 1)) = some (.v (.int (7 * (p + 1)))) := mul_i (.inl ⟨by omega, by omega⟩)
        have d1 : ∀ a : Int, modD (.int a) (.int 2147483629) = some (.v (.int (a % 2147483629))) := fun a => mod_i (by omega)
        have d2 : ∀ a : Int, modD (.int a) (.int 2147483647) = some (.v (.int (a % 2147483647))) := fun a => mod_i (by omega)
        have d3 : ∀ a : Int, divD (.int a) (.int 64) = some (.v (.int (a / 64))) := fun a => div_i (by omega) (by omega)
        by_cases h1 : p < (ns.length : Int)
        · rw [if_pos h1] at hcell
          simp [F_take, runF, B_take, startD, sFog, sSeq, sIf, sSet, sRet, sPut, sNil, eVar, eC, eOp, eCB, aCons, aNil, tVal, stD, h0, h1, hcell, mod_i hb, d1, d2, d3, m1, m2, pow_i cp10, pow_i cp, hbig, hq]
        · rw [if_neg h1] at hcell
          have : (0 : Int) = cell := by injection hcell with z; injection z
          subst this
          have d1' : modD (.int 0) (.int 2147483629) = some (.v (.int 0)) := d1 0
          simp at hq
          simp [F_take, runF, B_take, startD, sFog, sSeq, sIf, sSet, sRet, sPut, sNil, eVar, eC, eOp, eCB, aCons, aNil, tVal, stD, h0, h1, mod_i hb, d1', d1, d2, d3, m1, m2, pow_i cp10, pow_i cp, hq]
    by_cases h1 : p < (ns.length : Int)
    · have hl : p.toNat < ns.length := by omega
      exact key ns[p.toNat] (by rw [if_pos h1]; exact at_int hp (by simp [hl]))
    · exact key 0 (by rw [if_neg h1])
open Classical in
noncomputable def tk (ns : List Int) (s : St) (b : Int) : Int × St := if h : 0 < b ∧ b < 1073741824 then ⟨Classical.choose (take_ex ns s b h.1 h.2), Classical.choose (Classical.choose_spec (take_ex ns s b h.1 h.2))⟩ else ⟨0, s⟩
theorem tk_lo {ns : List Int} {s : St} {b : Int} : 0 ≤ (tk ns s b).1 := by
  unfold tk
  split
  · rename_i h; exact (Classical.choose_spec (Classical.choose_spec (take_ex ns s b h.1 h.2))).1
  · exact Int.le_refl _
theorem tk_hi {ns : List Int} {s : St} {b : Int} (h : 0 < b) (h2 : b < 1073741824) : (tk ns s b).1 < b := by
  unfold tk
  rw [dif_pos ⟨h, h2⟩]
  exact (Classical.choose_spec (Classical.choose_spec (take_ex ns s b h h2))).2.1
theorem take_eq {ns : List Int} {s : St} {b : Int} {m : Mem} (h : 0 < b) (h2 : b < 1073741824) : F_take [.r 0, .v (.int b)] (stD ns s :: m) = some (.v (.int (tk ns s b).1), stD ns (tk ns s b).2 :: m) := by
  unfold tk
  rw [dif_pos ⟨h, h2⟩]
  exact (Classical.choose_spec (Classical.choose_spec (take_ex ns s b h h2))).2.2 m
end Lx
end
section
set_option Elab.async false
set_option linter.all false
set_option maxRecDepth 100000
set_option maxHeartbeats 4000000
/-! loops and comprehensions by their worth; folk, parents, houses -/
namespace Lx
open PySem L2 Pw
theorem rng0 (n : Nat) : rngD 0 n = (List.range n).map fun i : Nat => D.int (i : Int) := by
  unfold rngD
  refine List.map_congr_left fun i _ => ?_
  simp
section
variable {α : Type} {src : Ix} {t : Gx} {c : Tx} {f : Ex} {b : Sx} {vs dd : List Nat} {ρ : Pw.Env} {m m1 : Mem}
theorem lcL_map {xs : List D} (g : α → D) (sel : α → Bool) (val : α → D) {ρ : Pw.Env} {m : Mem} : ∀ (L : List α) (acc : List D), (∀ a ∈ L, ∃ ρ1, t (g a) ρ = some ρ1 ∧ c ρ1 m = some (sel a, m) ∧ (sel a = true → ∃ w, f ρ1 m = some (w, m) ∧ vl w = some (val a))) → acc.length + L.length ≤ 1000000 →
    lcL (.seq xs) xs t c f ρ (L.map g) acc m = some (acc ++ (L.filter sel).map val, m)
  | [], acc, _, _ => by simp [lcL]
  | a :: L, acc, h, hl => by
    obtain ⟨ρ1, h1, h2, h3⟩ := h a List.mem_cons_self
    have hl' : acc.length + L.length + 1 ≤ 1000000 := by simpa [Nat.add_assoc] using hl
    rw [List.map_cons]
    unfold lcL
    rw [if_pos (by simp), h1]
    simp only [Option.bind_some, h2]
    cases hs : sel a with
    | true =>
      obtain ⟨w, e1, e2⟩ := h3 hs
      simp only [if_true, e1, Option.bind_some, e2]
      rw [if_pos (by omega), lcL_map g sel val L (acc ++ [val a]) (fun a ha => h a (List.mem_cons_of_mem _ ha)) (by simp; omega)]
      simp [List.filter_cons, hs]
    | false =>
      simp only [Bool.false_eq_true, if_false]
      rw [lcL_map g sel val L acc (fun a ha => h a (List.mem_cons_of_mem _ ha)) (by omega)]
      simp [List.filter_cons, hs]
/-- a comprehension that changes nothing -/
theorem lc_map (L : List α) (g : α → D) (sel : α → Bool) (val : α → D) (hs : src ρ m = some (.seq (L.map g), m1)) (h : ∀ a ∈ L, ∃ ρ1, t (g a) (wipeD ρ vs) = some ρ1 ∧ c ρ1 m1 = some (sel a, m1) ∧ (sel a = true → ∃ w, f ρ1 m1 = some (w, m1) ∧ vl w = some (val a))) (hl : L.length ≤ 1000000) :
    eLc src t c f vs ρ m = some (.f (.lst ((L.filter sel).map val)), m1) := by
  unfold eLc
  rw [hs]
  simp only [Option.bind_some, items_seq]
  rw [lcL_map g sel val L [] h (by simpa using hl)]
  simp
theorem lcL_eff {xs : List D} (Inv : Nat → List D → Mem → Prop) {ρ : Pw.Env} (g : α → D) (step : ∀ i a acc m, Inv i acc m → ∃ ρ1 w v m', t (g a) ρ = some ρ1 ∧ c ρ1 m = some (true, m) ∧ f ρ1 m = some (w, m') ∧ vl w = some v ∧ Inv (i + 1) (acc ++ [v]) m') :
    ∀ (L : List α) (i : Nat) (acc : List D) (m : Mem), Inv i acc m → acc.length + L.length ≤ 1000000 → ∃ acc' m', lcL (.seq xs) xs t c f ρ (L.map g) acc m = some (acc', m') ∧ Inv (i + L.length) acc' m'
  | [], i, acc, m, inv, _ => ⟨acc, m, by simp [lcL], by simpa using inv⟩
  | a :: L, i, acc, m, inv, hl => by
    obtain ⟨ρ1, w, v, m', q1, q2, q3, q4, q5⟩ := step i a acc m inv
    have hl' : acc.length + L.length + 1 ≤ 1000000 := by simpa [Nat.add_assoc] using hl
    obtain ⟨acc', m'', r1, r2⟩ := lcL_eff Inv g step L (i + 1) (acc ++ [v]) m' q5 (by simp; omega)
    refine ⟨acc', m'', ?_, by rw [List.length_cons, show i + (L.length + 1) = i + 1 + L.length by omega]; exact r2⟩
    rw [List.map_cons]
    unfold lcL
    rw [if_pos (by simp)]
    simp only [q1, q2, q3, q4, Option.bind_some, if_true]
    rw [if_pos (by omega)]
    exact r1
/-- a comprehension that draws -/
theorem lc_eff (L : List α) (g : α → D) (Inv : Nat → List D → Mem → Prop) (hs : src ρ m = some (.seq (L.map g), m1)) (h0 : Inv 0 [] m1) (step : ∀ i a acc m, Inv i acc m → ∃ ρ1 w v m', t (g a) (wipeD ρ vs) = some ρ1 ∧ c ρ1 m = some (true, m) ∧ f ρ1 m = some (w, m') ∧ vl w = some v ∧ Inv (i + 1) (acc ++ [v]) m') (hl : L.length ≤ 1000000) :
    ∃ acc m', eLc src t c f vs ρ m = some (.f (.lst acc), m') ∧ Inv L.length acc m' := by
  obtain ⟨acc, m', e, inv⟩ := lcL_eff (xs := L.map g) Inv g step L 0 [] m1 h0 (by simpa using hl)
  refine ⟨acc, m', ?_, by simpa using inv⟩
  unfold eLc
  rw [hs]
  simp only [Option.bind_some, items_seq]
  rw [e]; rfl
theorem forL_inv {xs : List D} (Inv : Nat → Pw.Env → Mem → Prop) (g : α → D) : ∀ (L : List α) (i : Nat), (∀ k a, L[k]? = some a → ∀ ρ m, Inv (i + k) ρ m → ∃ ρ1 ρ2 m2, t (g a) ρ = some ρ1 ∧ b ρ1 m = some (.nx, ρ2, m2) ∧ Inv (i + k + 1) (wipeD ρ2 dd) m2) → ∀ (ρ : Pw.Env) (m : Mem), Inv i ρ m →
    ∃ ρ' m', forL (.seq xs) xs t b dd (L.map g) ρ m = some (.nx, ρ', m') ∧ Inv (i + L.length) ρ' m'
  | [], i, step, ρ, m, inv => ⟨ρ, m, by simp [forL], by simpa using inv⟩
  | a :: L, i, step, ρ, m, inv => by
    obtain ⟨ρ1, ρ2, m2, q1, q2, q3⟩ := step 0 a rfl ρ m (by simpa using inv)
    obtain ⟨ρ', m', r1, r2⟩ := forL_inv Inv g L (i + 1) (fun k a ha ρ m hi => by
      have := step (k + 1) a (by simpa using ha) ρ m (by rw [show i + (k + 1) = i + 1 + k by omega]; exact hi)
      rw [show i + (k + 1) + 1 = i + 1 + k + 1 by omega] at this
      exact this) (wipeD ρ2 dd) m2 (by simpa using q3)
    refine ⟨ρ', m', ?_, by rw [List.length_cons, show i + (L.length + 1) = i + 1 + L.length by omega]; exact r2⟩
    rw [List.map_cons]
    unfold forL
    rw [if_pos (by simp)]
    simp only [q1, q2, Option.bind_some]
    exact r1
theorem for_inv (L : List α) (g : α → D) (Inv : Nat → Pw.Env → Mem → Prop) (hs : src ρ m = some (.seq (L.map g), m1)) (h0 : Inv 0 ρ m1)
    (step : ∀ k a, L[k]? = some a → ∀ ρ m, Inv k ρ m → ∃ ρ1 ρ2 m2, t (g a) ρ = some ρ1 ∧ b ρ1 m = some (.nx, ρ2, m2) ∧ Inv (k + 1) (wipeD ρ2 dd) m2) :
    ∃ ρ' m', sFor src t b dd ρ m = some (.nx, ρ', m') ∧ Inv L.length ρ' m' := by
  obtain ⟨ρ', m', e, inv⟩ := forL_inv (xs := L.map g) Inv g L 0 (fun k a ha ρ m hi => by
    have := step k a ha ρ m (by simpa using hi)
    simpa using this) ρ m1 h0
  refine ⟨ρ', m', ?_, by simpa using inv⟩
  unfold sFor
  rw [hs]
  simp only [Option.bind_some, items_seq]
  exact e
/-- a loop whose turns are a function -/
theorem for_fold {S : Type} (L : List α) (g : α → D) (E : S → Pw.Env) (M : S → Mem) (stp : S → α → S) (P : S → Prop) (s0 : S) (hs : src (E s0) (M s0) = some (.seq (L.map g), M s0)) (h0 : P s0)
    (step : ∀ a ∈ L, ∀ s, P s → P (stp s a) ∧ ∃ ρ1 ρ2, t (g a) (E s) = some ρ1 ∧ b ρ1 (M s) = some (.nx, ρ2, M (stp s a)) ∧ wipeD ρ2 dd = E (stp s a)) :
    sFor src t b dd (E s0) (M s0) = some (.nx, E (L.foldl stp s0), M (L.foldl stp s0)) ∧ P (L.foldl stp s0) := by
  have gen : ∀ (l : List α) (s : S), (∀ a ∈ l, a ∈ L) → P s → forL (.seq (L.map g)) (L.map g) t b dd (l.map g) (E s) (M s) = some (.nx, E (l.foldl stp s), M (l.foldl stp s)) ∧ P (l.foldl stp s) := by
    intro l
    induction l with
    | nil => intro s _ hp; exact ⟨by simp [forL], hp⟩
    | cons a l ih =>
      intro s hl hp
      obtain ⟨p1, ρ1, ρ2, q1, q2, q3⟩ := step a (hl a List.mem_cons_self) s hp
      obtain ⟨r1, r2⟩ := ih (stp s a) (fun x hx => hl x (List.mem_cons_of_mem _ hx)) p1
      refine ⟨?_, r2⟩
      rw [List.map_cons]
      unfold forL
      rw [if_pos (by simp)]
      simp only [q1, q2, Option.bind_some, q3]
      exact r1
  obtain ⟨e, p⟩ := gen L s0 (fun a ha => ha) h0
  refine ⟨?_, p⟩
  unfold sFor
  rw [hs]
  simp only [Option.bind_some, items_seq]
  exact e
end
/-! ### folk -/
structure Fo where
  day : Int
  fa : Int
  mo : Int
  man : Int
  wed : Int
deriving DecidableEq
def Fo.d (f : Fo) : D := .tup [.int f.day, .int f.fa, .int f.mo, .int f.man, .int f.wed]
abbrev hD (F : List Fo) : D := .tup (F.map Fo.d)
def ParOk (F : List Fo) (day v man : Int) : Prop := v = -1 ∨ ∃ (j : Nat) (g : Fo), v = (j : Int) ∧ F[j]? = some g ∧ g.man = man ∧ g.day < day
structure FoOk (f : Fo) : Prop where
  d0 : 0 ≤ f.day
  d1 : f.day ≤ 99990
  m : f.man = 0 ∨ f.man = 1
  w : f.wed = 0 ∨ f.wed = 1
structure GoodH (F : List Fo) : Prop where
  ne : 1 ≤ F.length
  le : F.length ≤ 60
  ok : ∀ f ∈ F, FoOk f
  fa : ∀ (i : Nat) f, F[i]? = some f → ParOk (F.take i) f.day f.fa 1
  mo : ∀ (i : Nat) f, F[i]? = some f → ParOk (F.take i) f.day f.mo 0
  up : F.Pairwise fun f g => f.day ≤ g.day
@[simp] theorem fo0 {f : Fo} : ixD f.d (.int 0) = some (.v (.int f.day)) := by simp [Fo.d]
@[simp] theorem fo1 {f : Fo} : ixD f.d (.int 1) = some (.v (.int f.fa)) := by simp [Fo.d]
@[simp] theorem fo2 {f : Fo} : ixD f.d (.int 2) = some (.v (.int f.mo)) := by simp [Fo.d]
@[simp] theorem fo3 {f : Fo} : ixD f.d (.int 3) = some (.v (.int f.man)) := by simp [Fo.d]
@[simp] theorem fo4 {f : Fo} : ixD f.d (.int 4) = some (.v (.int f.wed)) := by simp [Fo.d]
theorem fo_at {F : List Fo} {k : Nat} {f : Fo} (h : F[k]? = some f) : atI (F.map Fo.d) (k : Int) = some f.d := at_nat (by rw [List.getElem?_map, h]; rfl)
theorem fo_int {F : List Fo} {v : Int} {f : Fo} (h0 : 0 ≤ v) (h : F[v.toNat]? = some f) : atI (F.map Fo.d) v = some f.d := at_int h0 (by rw [List.getElem?_map, h]; rfl)
theorem fo_some {F : List Fo} {v : Int} (h0 : 0 ≤ v) (h1 : v < F.length) : ∃ f, f ∈ F ∧ F[v.toNat]? = some f ∧ atI (F.map Fo.d) v = some f.d := by
  have hv : v.toNat < F.length := by omega
  have e : F[v.toNat]? = some F[v.toNat] := List.getElem?_eq_getElem hv
  exact ⟨_, List.getElem_mem hv, e, fo_int h0 e⟩
def parSel (F : List Fo) (day man : Int) (i : Nat) : Bool := match F[i]? with
  | some f => decide (f.man = man) && decide (f.day < day)
  | none => false
def parIs (F : List Fo) (day man : Int) : List Nat := (List.range F.length).filter (parSel F day man)
abbrev nD (i : Nat) : D := .int (i : Int)
theorem parIs_mem {F : List Fo} {day man : Int} {i : Nat} (h : i ∈ parIs F day man) : i < F.length ∧ ParOk F day i man := by
  obtain ⟨h1, h2⟩ := List.mem_filter.mp h
  have hl := List.mem_range.mp h1
  unfold parSel at h2
  rw [List.getElem?_eq_getElem hl] at h2
  simp only [Bool.and_eq_true, decide_eq_true_eq] at h2
  exact ⟨hl, .inr ⟨i, F[i], rfl, List.getElem?_eq_getElem hl, h2.1, h2.2⟩⟩
theorem parIs_len {F : List Fo} {day man : Int} : (parIs F day man).length ≤ F.length := Nat.le_trans (List.length_filter_le _ _) (by simp)
theorem cut3 (ds : List D) : ∃ k, cutD ds (some (-3)) none = ds.drop k ∧ (ds ≠ [] → k < ds.length) := by
  refine ⟨ds.length - 3, ?_, fun h => ?_⟩
  · unfold cutD
    have e : HT.sIx ds.length 0 (some (-3)) = ds.length - 3 := by
      show (if (-3 : Int) < 0 then ((-3 : Int) + (ds.length : Int)).toNat else min (-3 : Int).toNat ds.length) = _
      rw [if_pos (by omega)]
      omega
    rw [e, HT.sIx_none]
    rw [List.take_of_length_le]
    simp
  · have : 0 < ds.length := List.length_pos_iff.mpr h
    omega
/-! lists of numbers == [] -/
theorem pyDs_n (is : List Nat) : pyDs (is.map nD) = some (is.map fun i : Nat => PyData.int i) := by
  induction is with
  | nil => rw [List.map_nil, pyDs]; rfl
  | cons i is ih => rw [List.map_cons, pyDs, pyD]; simp only [Option.bind_some]; rw [ih]; rfl
theorem lay_ints : ∀ is : List Nat, PyData.canLayAll0 (is.map fun i : Nat => PyData.int i) = true ∧ PyData.depthAll (is.map fun i : Nat => PyData.int i) ≤ 0
  | [] => ⟨rfl, by simp [PyData.depthAll]⟩
  | i :: is => by
    obtain ⟨h1, h2⟩ := lay_ints is
    refine ⟨by rw [List.map_cons, PyData.canLayAll0, h1]; rfl, ?_⟩
    rw [List.map_cons, PyData.depthAll, PyData.depth]
    omega
theorem eq_nil (is : List Nat) : eqD false (.lst (is.map nD)) (.lst []) = some (.v (.bl is.isEmpty)) := by
  have h1 : pyD (.lst (is.map nD)) = some (.list (is.map fun i : Nat => PyData.int i)) := by rw [pyD, pyDs_n]; rfl
  have h2 : pyD (.lst []) = some (.list []) := by rw [pyD, pyDs]; rfl
  have s1 : SeqAt.shaped (.list (is.map fun i : Nat => PyData.int i)) = true := by
    obtain ⟨a, b⟩ := lay_ints is
    unfold SeqAt.shaped
    rw [PyData.canLay0, a, PyData.depth, Bool.true_and, decide_eq_true_eq]
    omega
  unfold eqD eqB
  simp only [sc, h1, h2]
  rw [if_pos ⟨s1, rfl⟩]
  cases is <;> rfl
noncomputable def E_parent_1 : Ex := eLc (iRngA (aCons (eCB lenD (aCons (eVar 1) aNil)) aNil)) (gN 5) (tAnd' (tVal (eOp (eqD false) (eOp ixD (eOp ixD (eVar 1) (eVar 5)) (eC (.int 3))) (eVar 3))) (tVal (eOp (cmpD ltI) (eOp ixD (eOp ixD (eVar 1) (eVar 5)) (eC (.int 0))) (eVar 2)))) (eVar 5) [5]
noncomputable def B_parent : Sx := (sSeq (sSet 4 E_parent_1) (sSeq (sIf (tOr' (tVal (eOp (eqD false) (eVar 4) (eLst aNil))) (tVal (eOp (eqD false) (eCall F_take (aCons (eVar 0) (aCons (eC (.int 5)) aNil))) (eC (.int 0))))) (sRet (eUn negD (eC (.int 1)))) sNil) (sSeq (sIf (tVal (eOp (eqD false) (eCall F_take (aCons (eVar 0) (aCons (eC (.int 2)) aNil))) (eC (.int 0)))) (sSet 4 (eSlc (eVar 4) (oSome (eUn negD (eC (.int 3)))) oNone)) sNil) (sRet (eOp ixD (eVar 4) (eCall F_take (aCons (eVar 0) (aCons (eCB lenD (aCons (eVar 4) aNil)) aNil))))))))
noncomputable def F_parent : Fx := runF 4 6 B_parent
noncomputable def L_house_1 : Sx := (sSeq (sSet 3 (eCB (two minI) (aCons (eC (.int 99990)) (aCons (eOp addD (eVar 3) (eOp ixD (eLst (aCons (eC (.int 1)) (aCons (eC (.int 0)) (aCons (eC (.int 1)) (aCons (eC (.int 30)) (aCons (eC (.int 299)) (aCons (eC (.int 300)) (aCons (eC (.int 301)) (aCons (eC (.int 6570)) (aCons (eC (.int 2)) (aCons (eC (.int 1)) aNil))))))))))) (eCall F_take (aCons (eVar 0) (aCons (eC (.int 10)) aNil))))) aNil)))) (sSeq (sSet 6 (eCall F_parent (aCons (eVar 0) (aCons (eVar 4) (aCons (eVar 3) (aCons (eC (.int 1)) aNil)))))) (sSeq (sSet 7 (eCall F_parent (aCons (eVar 0) (aCons (eVar 4) (aCons (eVar 3) (aCons (eC (.int 0)) aNil)))))) (sSeq (sSet 8 (eCall F_take (aCons (eVar 0) (aCons (eC (.int 2)) aNil)))) (sDrop (eMt isLst appD (eVar 4) (aCons (eTup (aCons (eVar 3) (aCons (eVar 6) (aCons (eVar 7) (aCons (eVar 8) (aCons (eCB intD (aCons (eOp (cmpD gtI) (eCall F_take (aCons (eVar 0) (aCons (eC (.int 5)) aNil))) (eC (.int 0))) aNil)) aNil)))))) aNil)))))))
noncomputable def B_house : Sx := (sSeq (sSet 2 (eOp addD (eC (.int 1)) (eCall F_take (aCons (eVar 0) (aCons (eVar 1) aNil))))) (sSeq (sSet 3 (eOp ixD (eLst (aCons (eC (.int 0)) (aCons (eC (.int 7)) (aCons (eC (.int 30000)) aNil)))) (eCall F_take (aCons (eVar 0) (aCons (eC (.int 3)) aNil))))) (sSeq (sSet 4 (eOwn (eLst aNil))) (sSeq (sFor (iRngA (aCons (eVar 2) aNil)) (gN 5) L_house_1 [5, 6, 7, 8]) (sRet (eCB tupleD (aCons (eVar 4) aNil)))))))
noncomputable def F_house : Fx := runF 2 9 B_house
theorem par_lc {ns : List Int} {s : St} {m : Mem} {r : Nat} {F : List Fo} (hfo : (stD ns s :: m)[r]? = some (.lst (F.map Fo.d))) (hl : F.length ≤ 60) (day man : Int) :
    E_parent_1
      [some (.r 0), some (.r r), some (.v (.int day)), some (.v (.int man)), none, none] (stD ns s :: m) = some (.f (.lst ((parIs F day man).map nD)), stD ns s :: m) := by
  unfold E_parent_1
  refine lc_map (List.range F.length) nD (parSel F day man) nD ?_ (fun i hi => ⟨_, rfl, ?_, fun _ => ⟨_, rfl, rfl⟩⟩) (by simp; omega)
  · have : ((F.length : Int)) ≤ 1000000000 := by omega
    simp [iRngA, aCons, aNil, eCB, eVar, hfo, this, rng0]
  · have hk := List.mem_range.mp hi
    have ek : F[i]? = some F[i] := List.getElem?_eq_getElem hk
    have sel' : parSel F day man i = (decide (F[i].man = man) && decide (F[i].day < day)) := by unfold parSel; rw [ek]
    rw [sel']
    generalize F[i] = f at ek
    by_cases h1 : f.man = man <;> simp [tAnd', tVal, eOp, eVar, eC, hfo, fo_at ek, h1]
theorem parent_spec {ns : List Int} {s : St} {m : Mem} {r : Nat} {F : List Fo} (hfo : ∀ s', (stD ns s' :: m)[r]? = some (.lst (F.map Fo.d))) (hl : F.length ≤ 60) (day man : Int) :
    ∃ v s', F_parent [.r 0, .r r, .v (.int day), .v (.int man)] (stD ns s :: m) = some (.v (.int v), stD ns s' :: m) ∧ ParOk F day v man := by
  have lc := par_lc (ns := ns) (s := s) (hfo s) hl day man
  have hmem : ∀ i ∈ parIs F day man, ParOk F day i man := fun i hi => (parIs_mem hi).2
  have hL : (parIs F day man).length ≤ 60 := Nat.le_trans parIs_len hl
  generalize parIs F day man = L at lc hmem hL
  -- the end: an item of a list of such numbers
  have fin : ∀ (s3 : St) (K : List Nat), K ≠ [] → (∀ i ∈ K, ParOk F day i man) → K.length ≤ 60 → ∃ v s', (sRet (eOp ixD (eVar 4) (eCall F_take (aCons (eVar 0) (aCons (eCB lenD (aCons (eVar 4) aNil)) aNil))))) [some (.r 0), some (.r r), some (.v (.int day)), some (.v (.int man)), some (.v (.lst (K.map nD))), none] (stD ns s3 :: m) =
        some (.ret (.v (.int v)), [some (.r 0), some (.r r), some (.v (.int day)), some (.v (.int man)), some (.v (.lst (K.map nD))), none], stD ns s' :: m) ∧ ParOk F day v man := by
    intro s3 K hne hb hk
    have kp : 0 < K.length := List.length_pos_iff.mpr hne
    have te : ∀ m', F_take [.r 0, .v (.int (K.length : Int))] (stD ns s3 :: m') = _ := fun m' => take_eq (by omega) (by omega)
    have lo := tk_lo (ns := ns) (s := s3) (b := K.length)
    have hi := tk_hi (ns := ns) (s := s3) (b := K.length) (by omega) (by omega)
    obtain ⟨i, i1, i2, i3⟩ := at_some (xs := K) lo hi
    have e : atI (K.map nD) (tk ns s3 K.length).1 = some (nD i) := at_int lo (by rw [List.getElem?_map, i2]; rfl)
    exact ⟨i, (tk ns s3 K.length).2, by simp [sRet, eOp, eVar, eCall, eCB, aCons, aNil, te, e], hb i i1⟩
  have t5 : ∀ m', F_take [.r 0, .v (.int 5)] (stD ns s :: m') = _ := fun m' => take_eq (by omega) (by omega)
  by_cases hE : L = []
  · subst hE
    have en : eqD false (.lst []) (.lst []) = some (.v (.bl true)) := eq_nil []
    rw [List.map_nil] at lc
    exact ⟨-1, s, by simp only [F_parent, runF, B_parent, startD]; simp [sSeq, sSet, lc, sIf, tOr', tVal, eOp, eVar, eLst, aNil, en, sRet, eUn, eC], .inl rfl⟩
  · have en := eq_nil L
    rw [show L.isEmpty = false by cases L with | nil => exact absurd rfl hE | cons => rfl] at en
    by_cases h5 : (tk ns s 5).1 = 0
    · exact ⟨-1, (tk ns s 5).2, by simp only [F_parent, runF, B_parent, startD]; simp [sSeq, sSet, lc, sIf, tOr', tVal, eOp, eVar, eLst, aNil, aCons, eCall, en, t5, h5, sRet, eUn, eC], .inl rfl⟩
    · have t2 : ∀ m', F_take [.r 0, .v (.int 2)] (stD ns (tk ns s 5).2 :: m') = _ := fun m' => take_eq (by omega) (by omega)
      by_cases h2 : (tk ns (tk ns s 5).2 2).1 = 0
      · obtain ⟨k, ck, kl⟩ := cut3 (L.map nD)
        have kl' := kl (by simpa using hE)
        rw [← List.map_drop] at ck
        obtain ⟨v, s', e, ok⟩ := fin (tk ns (tk ns s 5).2 2).2 (L.drop k) (fun z => by have := congrArg List.length z; simp at this kl'; omega) (fun i hi => hmem i (List.mem_of_mem_drop hi)) (by rw [List.length_drop]; omega)
        refine ⟨v, s', ?_, ok⟩
        have cs : slcD (.lst (L.map nD)) (some (-3)) none = some (.f (.lst ((L.drop k).map nD))) := by simp only [slcD, ck]
        simp only [F_parent, runF, B_parent, startD]
        simp [sSeq, sSet, lc, sIf, tOr', tVal, eOp, eVar, eLst, aNil, aCons, eCall, en, t5, h5, sNil, t2, h2, eSlc, oSome, oNone, eUn, eC, cs, -List.map_drop]
        simp only [sRet, eOp, eVar, eCall, eCB, aCons, aNil] at e ⊢
        simp [-List.map_drop] at e ⊢
        rw [e]; simp
      · obtain ⟨v, s', e, ok⟩ := fin (tk ns (tk ns s 5).2 2).2 L hE hmem hL
        refine ⟨v, s', ?_, ok⟩
        simp only [F_parent, runF, B_parent, startD]
        simp [sSeq, sSet, lc, sIf, tOr', tVal, eOp, eVar, eLst, aNil, aCons, eCall, en, t5, h5, sNil, t2, h2, eC]
        simp only [sRet, eOp, eVar, eCall, eCB, aCons, aNil] at e ⊢
        simp at e ⊢
        rw [e]; simp
end Lx
end
section
set_option Elab.async false
set_option linter.all false
set_option maxRecDepth 100000
set_option maxHeartbeats 4000000
namespace Lx
open PySem L2 Pw
theorem snoc_at {α : Type} {F : List α} {f g : α} {i : Nat} (h : (F ++ [f])[i]? = some g) : (i < F.length ∧ F[i]? = some g) ∨ (i = F.length ∧ g = f) := by
  rcases Nat.lt_trichotomy i F.length with z | z | z
  · rw [List.getElem?_append_left z] at h; exact .inl ⟨z, h⟩
  · subst z
    simp at h
    exact .inr ⟨rfl, h.symm⟩
  · rw [List.getElem?_eq_none (by simp; omega)] at h; cases h
/-- a house under way -/
structure HalfH (F : List Fo) (day : Int) : Prop where
  d0 : 0 ≤ day
  d1 : day ≤ 99990
  top : ∀ f ∈ F, f.day ≤ day
  ok : ∀ f ∈ F, FoOk f
  fa : ∀ (i : Nat) f, F[i]? = some f → ParOk (F.take i) f.day f.fa 1
  mo : ∀ (i : Nat) f, F[i]? = some f → ParOk (F.take i) f.day f.mo 0
  up : F.Pairwise fun f g => f.day ≤ g.day
theorem HalfH.snoc {F : List Fo} {day : Int} {f : Fo} (h : HalfH F day) (hd : day ≤ f.day) (ok : FoOk f) (fa : ParOk F f.day f.fa 1) (mo : ParOk F f.day f.mo 0) : HalfH (F ++ [f]) f.day := by
  refine ⟨ok.d0, ok.d1, fun g hg => ?_, fun g hg => ?_, fun i g hg => ?_, fun i g hg => ?_, ?_⟩
  · rcases List.mem_append.mp hg with z | z
    · have := h.top g z; omega
    · rw [List.mem_singleton.mp z]; exact Int.le_refl _
  · rcases List.mem_append.mp hg with z | z
    · exact h.ok g z
    · rw [List.mem_singleton.mp z]; exact ok
  · rcases snoc_at hg with ⟨z1, z2⟩ | ⟨rfl, rfl⟩
    · rw [List.take_append_of_le_length (Nat.le_of_lt z1)]; exact h.fa i g z2
    · rw [List.take_left]; exact fa
  · rcases snoc_at hg with ⟨z1, z2⟩ | ⟨rfl, rfl⟩
    · rw [List.take_append_of_le_length (Nat.le_of_lt z1)]; exact h.mo i g z2
    · rw [List.take_left]; exact mo
  · refine List.pairwise_append.mpr ⟨h.up, by simp, fun a ha b hb => ?_⟩
    rw [List.mem_singleton.mp hb]
    have := h.top a ha; omega
/-- a draw of a written list -/
theorem pick_ex (ns : List Int) (s : St) (b : Int) (K : List D) (hb : b = K.length) (h : 0 < K.length) (h2 : K.length < 1000) : ∃ x, x ∈ K ∧ atI K (tk ns s b).1 = some x := by
  subst hb
  obtain ⟨x, h1, _, h3⟩ := at_some (xs := K) (tk_lo (ns := ns) (s := s) (b := K.length)) (tk_hi (by omega) (by omega))
  exact ⟨x, h1, h3⟩
theorem house_spec {ns : List Int} {s : St} {most : Int} (h1 : 1 ≤ most) (h2 : most ≤ 60) (m : Mem) :
    ∃ F s', F_house [.r 0, .v (.int most)] (stD ns s :: m) = some (.v (hD F), stD ns s' :: m) ∧ GoodH F := by
  have te : ∀ (s : St) (b : Int) (m : Mem), 0 < b → b < 1073741824 → F_take [.r 0, .v (.int b)] (stD ns s :: m) = _ := fun s b m h h2 => take_eq h h2
  obtain ⟨n, hn⟩ : ∃ n : Nat, 1 + (tk ns s most).1 = (n : Int) := ⟨(1 + (tk ns s most).1).toNat, by have := tk_lo (ns := ns) (s := s) (b := most); omega⟩
  have hnn : 1 ≤ n ∧ n ≤ 60 := by have := tk_lo (ns := ns) (s := s) (b := most); have := tk_hi (ns := ns) (s := s) (b := most) (by omega) (by omega); omega
  obtain ⟨x0, hx0, ex⟩ := pick_ex ns (tk ns s most).2 3 [.int 0, .int 7, .int 30000] rfl (by decide) (by decide)
  obtain ⟨x, rfl, hx⟩ : ∃ z : Int, x0 = .int z ∧ 0 ≤ z ∧ z ≤ 30000 := by
    simp only [List.mem_cons, List.not_mem_nil, or_false] at hx0
    rcases hx0 with h | h | h <;> exact ⟨_, h, by decide⟩
  obtain ⟨ρ', m', e, s', day, F, rfl, rfl, hl, hh⟩ := for_inv (src := iRngA (aCons (eVar 2) aNil)) (t := gN 5) (b := L_house_1) (dd := [5, 6, 7, 8]) (m1 := stD ns (tk ns (tk ns s most).2 3).2 :: (m ++ [.lst []])) (ρ := [some (.r 0), some (.v (.int most)), some (.v (.int (n : Int))), some (.v (.int x)), some (.r (m.length + 1)), none, none, none, none]) (m := stD ns (tk ns (tk ns s most).2 3).2 :: (m ++ [.lst []]))
    (List.range n) nD (fun i ρ mm => ∃ s day F, ρ = [some (.r 0), some (.v (.int most)), some (.v (.int (n : Int))), some (.v (.int day)), some (.r (m.length + 1)), none, none, none, none] ∧ mm = stD ns s :: (m ++ [.lst (F.map Fo.d)]) ∧ F.length = i ∧ HalfH F day)
    (by have : (n : Int) ≤ 1000000000 := by omega
        simp [iRngA, aCons, aNil, eVar, this, rng0]) ⟨_, x, [], rfl, rfl, rfl, hx.1, by omega, (fun f hf => nomatch hf), (fun f hf => nomatch hf), (fun i f hf => by simp at hf), (fun i f hf => by simp at hf), .nil⟩
    (fun k a ha ρ mm inv => by
      obtain ⟨s, day, F, rfl, rfl, hl, hh⟩ := inv
      have hk : k < n := by have := (List.getElem?_eq_some_iff.mp ha).1; simpa using this
      obtain ⟨z0, hz0, ez⟩ := pick_ex ns s 10 [.int 1, .int 0, .int 1, .int 30, .int 299, .int 300, .int 301, .int 6570, .int 2, .int 1] rfl (by decide) (by decide)
      obtain ⟨z, rfl, hz⟩ : ∃ y : Int, z0 = .int y ∧ 0 ≤ y := by
        simp only [List.mem_cons, List.not_mem_nil, or_false] at hz0
        rcases hz0 with h | h | h | h | h | h | h | h | h | h <;> exact ⟨_, h, by decide⟩
      have hfo : ∀ s' : St, (stD ns s' :: (m ++ [MO.lst (F.map Fo.d)]))[m.length + 1]? = some (.lst (F.map Fo.d)) := fun s' => by simp
      obtain ⟨va, sa, ea, ha⟩ := parent_spec (ns := ns) (s := (tk ns s 10).2) hfo (by omega) (min 99990 (day + z)) 1
      obtain ⟨vb, sb, eb, hb⟩ := parent_spec (ns := ns) (s := sa) hfo (by omega) (min 99990 (day + z)) 0
      have l1 := tk_lo (ns := ns) (s := sb) (b := 2)
      have l2 := tk_hi (ns := ns) (s := sb) (b := 2) (by omega) (by omega)
      have hlen : F.length < 1000000 := by omega
      have d0 := hh.d0
      have d1 := hh.d1
      generalize hf : (⟨min 99990 (day + z), va, vb, (tk ns sb 2).1, if 0 < (tk ns (tk ns sb 2).2 5).1 then 1 else 0⟩ : Fo) = f
      have fd : f.day = min 99990 (day + z) := by rw [← hf]
      have fm : f.man = (tk ns sb 2).1 := by rw [← hf]
      have fw : f.wed = if 0 < (tk ns (tk ns sb 2).2 5).1 then 1 else 0 := by rw [← hf]
      have ffa : f.fa = va := by rw [← hf]
      have fmo : f.mo = vb := by rw [← hf]
      refine ⟨_, [some (.r 0), some (.v (.int most)), some (.v (.int (n : Int))), some (.v (.int f.day)), some (.r (m.length + 1)), some (.v (nD a)), some (.v (.int va)), some (.v (.int vb)), some (.v (.int (tk ns sb 2).1))], stD ns (tk ns (tk ns sb 2).2 5).2 :: (m ++ [.lst ((F ++ [f]).map Fo.d)]), rfl, ?_, (tk ns (tk ns sb 2).2 5).2, f.day, F ++ [f], rfl, rfl, by simp [hl], ?_⟩
      rotate_left
      · exact hh.snoc (by rw [fd]; omega) ⟨by rw [fd]; omega, by rw [fd]; omega, by rw [fm]; omega, by rw [fw]; split <;> simp⟩ (by rw [fd, ffa]; exact ha) (by rw [fd, fmo]; exact hb)
      · rw [← hf]
        simp [L_house_1, sSeq, sSet, sDrop, eCB, aCons, aNil, eC, eOp, eVar, eLst, eCall, te, ez, ea, eb, eMt, eTup, hlen, Fo.d])
  refine ⟨F, s', ?_, by simp at hl; omega, by simp at hl; omega, hh.ok, hh.fa, hh.mo, hh.up⟩
  have tm := te s most m (by omega) (by omega)
  simp only [F_house, runF, B_house, startD]
  simp [sSeq, sSet, aCons, aNil, eC, eOp, eVar, eLst, eCall, tm, te, hn, ex, eOwn, e, sRet, eCB]
end Lx
end
section
set_option Elab.async false
set_option linter.all false
set_option maxRecDepth 100000
set_option maxHeartbeats 4000000
/-! news, books, rows -/
namespace Lx
open PySem L2 Pw Pv
structure Nw where
  word : Str
  day : Int
  who : Int
  other : Int
deriving DecidableEq
def Nw.d (n : Nw) : D := .tup [.str n.word, .int n.day, .int n.who, .int n.other]
abbrev bD (B : List Nw) : D := .tup (B.map Nw.d)
def Nw.k (n : Nw) : KT' := [.inr n.word, .inl n.day, .inl n.who, .inl n.other]
structure NwOk (F : List Fo) (n : Nw) : Prop where
  word : n.word ∈ (["dies", "leaves", "cuts", "returns", "awaits"] : List Str)
  w0 : 0 ≤ n.who
  w1 : n.who < F.length
  d0 : 0 ≤ n.day
  d1 : n.day ≤ 99999
  dw : ∀ f, F[n.who.toNat]? = some f → f.day ≤ n.day
  o : n.word ≠ "awaits" → n.other = -1
  o0 : -1 ≤ n.other
  o1 : n.other < F.length
  aw : n.word = "awaits" → (∀ f, F[n.who.toNat]? = some f → f.man = 0 ∧ f.day < n.day) ∧ ParOk F n.day n.other 1
@[simp] theorem nw0 {n : Nw} : ixD n.d (.int 0) = some (.v (.str n.word)) := by simp [Nw.d]
@[simp] theorem nw1 {n : Nw} : ixD n.d (.int 1) = some (.v (.int n.day)) := by simp [Nw.d]
@[simp] theorem nw2 {n : Nw} : ixD n.d (.int 2) = some (.v (.int n.who)) := by simp [Nw.d]
@[simp] theorem nw3 {n : Nw} : ixD n.d (.int 3) = some (.v (.int n.other)) := by simp [Nw.d]
noncomputable def E_news_1 : Ex := eLc (iRngA (aCons (eCB lenD (aCons (eVar 1) aNil)) aNil)) (gN 7) (tAnd' (tVal (eOp (eqD false) (eOp ixD (eOp ixD (eVar 1) (eVar 7)) (eC (.int 3))) (eC (.int 1)))) (tVal (eOp (cmpD ltI) (eOp ixD (eOp ixD (eVar 1) (eVar 7)) (eC (.int 0))) (eVar 5)))) (eVar 7) [7]
noncomputable def B_news : Sx := (sSeq (sSet 2 (eOp ixD (eLst (aCons (eC (.str "dies")) (aCons (eC (.str "leaves")) (aCons (eC (.str "cuts")) (aCons (eC (.str "returns")) (aCons (eC (.str "awaits")) (aCons (eC (.str "cuts")) aNil))))))) (eCall F_take (aCons (eVar 0) (aCons (eC (.int 6)) aNil))))) (sSeq (sSet 3 (eCall F_take (aCons (eVar 0) (aCons (eCB lenD (aCons (eVar 1) aNil)) aNil)))) (sSeq (sSet 4 (eOp subD (eOp addD (eOp ixD (eOp ixD (eVar 1) (eCall F_take (aCons (eVar 0) (aCons (eCB lenD (aCons (eVar 1) aNil)) aNil)))) (eC (.int 0))) (eCall F_take (aCons (eVar 0) (aCons (eC (.int 3)) aNil)))) (eC (.int 1)))) (sSeq (sSet 5 (eCB (two maxI) (aCons (eOp ixD (eOp ixD (eVar 1) (eVar 3)) (eC (.int 0))) (aCons (eVar 4) aNil)))) (sSeq (sFog [6] (sIf (tAnd' (tVal (eOp (eqD false) (eVar 2) (eC (.str "awaits")))) (tVal (eOp (eqD false) (eOp ixD (eOp ixD (eVar 1) (eVar 3)) (eC (.int 3))) (eC (.int 0))))) (sSeq (sSet 5 (eCB (two maxI) (aCons (eOp addD (eOp ixD (eOp ixD (eVar 1) (eVar 3)) (eC (.int 0))) (eC (.int 1))) (aCons (eVar 4) aNil)))) (sSeq (sSet 6 (eOp addD (eLst (aCons (eUn negD (eC (.int 1))) aNil)) E_news_1)) (sRet (eTup (aCons (eVar 2) (aCons (eVar 5) (aCons (eVar 3) (aCons (eOp ixD (eVar 6) (eCall F_take (aCons (eVar 0) (aCons (eCB lenD (aCons (eVar 6) aNil)) aNil)))) aNil)))))))) sNil)) (sRet (eTup (aCons (eOp ixD (eLst (aCons (eVar 2) (aCons (eC (.str "leaves")) aNil))) (eCB intD (aCons (eOp (eqD false) (eVar 2) (eC (.str "awaits"))) aNil))) (aCons (eVar 5) (aCons (eVar 3) (aCons (eUn negD (eC (.int 1))) aNil)))))))))))
noncomputable def F_news : Fx := runF 2 8 B_news
noncomputable def E_book_1 : Ex := eLc (iRngA (aCons (eCall F_take (aCons (eVar 0) (aCons (eOp addD (eVar 2) (eC (.int 1))) aNil))) aNil)) (gN 3) tYes' (eCall F_news (aCons (eVar 0) (aCons (eVar 1) aNil))) [3]
noncomputable def B_book : Sx := (sRet (eCB tupleD (aCons (eCB sortSetD (aCons E_book_1 aNil)) aNil)))
noncomputable def F_book : Fx := runF 3 4 B_book
noncomputable def B_row : Sx := (sSeq (sSet 2 (eOp mulD (eCall F_take (aCons (eVar 0) (aCons (eCB lenD (aCons (eVar 1) aNil)) aNil))) (eCB intD (aCons (eOp (eqD false) (eCall F_take (aCons (eVar 0) (aCons (eC (.int 3)) aNil))) (eC (.int 0))) aNil)))) (sSeq (sSet 3 (eOp ixD (eLst (aCons (eC (.str "alike")) (aCons (eC (.str "first")) (aCons (eC (.str "first")) (aCons (eC (.str "only")) aNil))))) (eCall F_take (aCons (eVar 0) (aCons (eC (.int 4)) aNil))))) (sRet (eTup (aCons (eVar 2) (aCons (eVar 3) (aCons (eCB intD (aCons (eOp (eqD false) (eCall F_take (aCons (eVar 0) (aCons (eC (.int 3)) aNil))) (eC (.int 0))) aNil)) (aCons (eOp ixD (eLst (aCons (eC (.str "lines")) (aCons (eC (.str "lines")) (aCons (eC (.str "age")) (aCons (eC (.str "near")) aNil))))) (eCall F_take (aCons (eVar 0) (aCons (eC (.int 4)) aNil)))) aNil))))))))
noncomputable def F_row : Fx := runF 2 4 B_row
theorem others_lc {F : List Fo} {m : Mem} {x2 x3 x4 x6 : Option W} {day : Int} (hl : F.length ≤ 60) :
    E_news_1 [some (.r 0), some (.v (hD F)), x2, x3, x4, some (.v (.int day)), x6, none] m = some (.f (.lst ((parIs F day 1).map nD)), m) := by
  unfold E_news_1
  refine lc_map (List.range F.length) nD (parSel F day 1) nD ?_ (fun i hi => ⟨_, rfl, ?_, fun _ => ⟨_, rfl, rfl⟩⟩) (by simp; omega)
  · have : ((F.length : Int)) ≤ 1000000000 := by omega
    simp [iRngA, aCons, aNil, eCB, eVar, this, rng0]
  · have hk := List.mem_range.mp hi
    have ek : F[i]? = some F[i] := List.getElem?_eq_getElem hk
    have sel' : parSel F day 1 i = (decide (F[i].man = 1) && decide (F[i].day < day)) := by unfold parSel; rw [ek]
    rw [sel']
    generalize F[i] = f at ek
    by_cases h1 : f.man = 1 <;> simp [tAnd', tVal, eOp, eVar, eC, fo_at ek, h1]
theorem news_spec {ns : List Int} {s : St} {m : Mem} {F : List Fo} (hF : GoodH F) :
    ∃ n s', F_news [.r 0, .v (hD F)] (stD ns s :: m) = some (.v (Nw.d n), stD ns s' :: m) ∧ NwOk F n := by
  have l0 := hF.ne
  have l1 := hF.le
  have te : ∀ (s : St) (b : Int) (m : Mem), 0 < b → b < 1073741824 → F_take [.r 0, .v (.int b)] (stD ns s :: m) = _ := fun s b m h h2 => take_eq h h2
  have tl : ∀ (s : St) (m : Mem), F_take [.r 0, .v (.int (F.length : Int))] (stD ns s :: m) = _ := fun s m => take_eq (by omega) (by omega)
  obtain ⟨x, hx, ex⟩ := pick_ex ns s 6 [.str "dies", .str "leaves", .str "cuts", .str "returns", .str "awaits", .str "cuts"] rfl (by decide) (by decide)
  obtain ⟨word, rfl, hw⟩ : ∃ w : Str, x = .str w ∧ w ∈ (["dies", "leaves", "cuts", "returns", "awaits"] : List Str) := by
    simp only [List.mem_cons, List.not_mem_nil, or_false] at hx
    rcases hx with h | h | h | h | h | h <;> exact ⟨_, h, by simp⟩
  generalize hs1 : (tk ns s 6).2 = s1
  have who0 := tk_lo (ns := ns) (s := s1) (b := F.length)
  have who1 := tk_hi (ns := ns) (s := s1) (b := F.length) (by omega) (by omega)
  generalize hs2 : (tk ns s1 F.length).2 = s2
  generalize hwho : (tk ns s1 F.length).1 = who at who0 who1
  have v0 := tk_lo (ns := ns) (s := s2) (b := F.length)
  have v1 := tk_hi (ns := ns) (s := s2) (b := F.length) (by omega) (by omega)
  generalize hs3 : (tk ns s2 F.length).2 = s3
  generalize hv : (tk ns s2 F.length).1 = v at v0 v1
  have t0 := tk_lo (ns := ns) (s := s3) (b := 3)
  have t1 := tk_hi (ns := ns) (s := s3) (b := 3) (by omega) (by omega)
  generalize hs4 : (tk ns s3 3).2 = s4
  generalize ht : (tk ns s3 3).1 = t at t0 t1
  obtain ⟨fv, vm, _, ev⟩ := fo_some (F := F) v0 v1
  obtain ⟨f, fm, fe, ef⟩ := fo_some (F := F) who0 who1
  have okv := hF.ok fv vm
  have okf := hF.ok f fm
  have a1 := okf.d0; have a2 := okf.d1; have a3 := okv.d0; have a4 := okv.d1
  by_cases hA : word = "awaits" ∧ f.man = 0
  · have lc : ∀ (x6 : Option W) (m : Mem), E_news_1 [some (.r 0), some (.v (hD F)), some (.v (.str word)), some (.v (.int who)), some (.v (.int (fv.day + t - 1))), some (.v (.int (max (f.day + 1) (fv.day + t - 1)))), x6, none] m = _ := fun x6 m => others_lc l1
    have pl : (parIs F (max (f.day + 1) (fv.day + t - 1)) 1).length ≤ 60 := Nat.le_trans parIs_len l1
    obtain ⟨y, hy, ey⟩ := pick_ex ns s4 (((parIs F (max (f.day + 1) (fv.day + t - 1)) 1).length + 1 : Nat) : Int) (.int (-1) :: (parIs F (max (f.day + 1) (fv.day + t - 1)) 1).map nD) (by simp) (by simp) (by simp; omega)
    have tp : ∀ m : Mem, F_take [.r 0, .v (.int (((parIs F (max (f.day + 1) (fv.day + t - 1)) 1).length : Int) + 1))] (stD ns s4 :: m) = _ := fun m => take_eq (by omega) (by omega)
    obtain ⟨o, rfl, ho, ho0, ho1⟩ : ∃ o : Int, y = .int o ∧ ParOk F (max (f.day + 1) (fv.day + t - 1)) o 1 ∧ -1 ≤ o ∧ o < F.length := by
      rcases List.mem_cons.mp hy with h | h
      · exact ⟨-1, h, .inl rfl, by omega, by omega⟩
      · obtain ⟨i, hi, rfl⟩ := List.mem_map.mp h
        obtain ⟨q1, q2⟩ := parIs_mem hi
        exact ⟨i, rfl, q2, by omega, by omega⟩
    have al : 1 + (parIs F (max (f.day + 1) (fv.day + t - 1)) 1).length ≤ 1000000 := by omega
    refine ⟨⟨word, max (f.day + 1) (fv.day + t - 1), who, o⟩, (tk ns s4 (((parIs F (max (f.day + 1) (fv.day + t - 1)) 1).length : Int) + 1)).2, ?_, ⟨hw, who0, who1, by show 0 ≤ max (f.day + 1) (fv.day + t - 1); omega, by show max (f.day + 1) (fv.day + t - 1) ≤ 99999; omega, fun g hg => ?_, fun h => absurd hA.1 h, ho0, ho1, fun _ => ⟨fun g hg => ?_, ho⟩⟩⟩
    · have e1 : decide (word = "awaits") = true := decide_eq_true hA.1
      simp only [Int.natCast_add, Int.natCast_one] at ey
      simp only [F_news, runF, B_news, startD]
      simp [sFog, sSeq, sSet, aCons, aNil, eC, eOp, eVar, eLst, eCall, te, tl, ex, hs1, hs2, hwho, hs3, hv, hs4, ht, ev, ef, eCB, sIf, tAnd', tVal, e1, hA.2, eUn, lc, al, tp, ey, sRet, eTup, Nw.d]
    · show g.day ≤ max (f.day + 1) (fv.day + t - 1)
      have : f = g := Option.some.inj (fe.symm.trans hg)
      subst this; omega
    · have : f = g := Option.some.inj (fe.symm.trans hg)
      subst this
      exact ⟨hA.2, by show f.day < max (f.day + 1) (fv.day + t - 1); omega⟩
  · obtain ⟨w2, e2, hw2, hna⟩ : ∃ w2 : Str, atI [D.str word, D.str "leaves"] (if decide (word = "awaits") = true then 1 else 0) = some (.str w2) ∧ w2 ∈ (["dies", "leaves", "cuts", "returns", "awaits"] : List Str) ∧ w2 ≠ "awaits" := by
      by_cases h : word = "awaits"
      · exact ⟨"leaves", by simp [h], by simp, by decide⟩
      · exact ⟨word, by simp [h], hw, h⟩
    refine ⟨⟨w2, max f.day (fv.day + t - 1), who, -1⟩, s4, ?_, ⟨hw2, who0, who1, by show 0 ≤ max f.day (fv.day + t - 1); omega, by show max f.day (fv.day + t - 1) ≤ 99999; omega, fun g hg => ?_, fun _ => rfl, Int.le_refl _, by show (-1 : Int) < F.length; omega, fun h => absurd h hna⟩⟩
    · simp only [F_news, runF, B_news, startD]
      by_cases h : word = "awaits"
      · have h2 : ¬ f.man = 0 := fun z => hA ⟨h, z⟩
        have e2' : w2 = "leaves" := by simpa [h] using e2.symm
        subst e2'
        subst h
        simp [sFog, sSeq, sSet, aCons, aNil, eC, eOp, eVar, eLst, eCall, te, tl, ex, hs1, hs2, hwho, hs3, hv, hs4, ht, ev, ef, eCB, sIf, tAnd', tVal, h2, sNil, eUn, sRet, eTup, Nw.d]
      · have e2' : word = w2 := by simpa [h] using e2
        subst e2'
        simp [sFog, sSeq, sSet, aCons, aNil, eC, eOp, eVar, eLst, eCall, te, tl, ex, hs1, hs2, hwho, hs3, hv, hs4, ht, ev, ef, eCB, sIf, tAnd', tVal, h, sNil, eUn, sRet, eTup, Nw.d]
    · show g.day ≤ max f.day (fv.day + t - 1)
      have : f = g := Option.some.inj (fe.symm.trans hg)
      subst this; omega
end Lx
end
section
set_option Elab.async false
set_option linter.all false
set_option maxRecDepth 100000
set_option maxHeartbeats 4000000
namespace Lx
open PySem L2 Pw Pv
/-! the order of news -/
def nLt (a b : Nw) : Bool := kLt a.k b.k
theorem nk_inj {a b : Nw} (h : a.k = b.k) : a = b := by
  cases a; cases b
  simp only [Nw.k, List.cons.injEq, Sum.inr.injEq, Sum.inl.injEq, and_true] at h
  obtain ⟨h1, h2, h3, h4⟩ := h
  subst h1; subst h2; subst h3; subst h4; rfl
theorem lin_n : Lin nLt := ⟨fun _ => lin_k.irr _, fun _ _ _ => lin_k.tr _ _ _, fun _ _ h1 h2 => nk_inj (lin_k.tot _ _ h1 h2)⟩
theorem insU_map {x : Nw} : ∀ {l : List Nw}, (insU nLt x l).map Nw.k = insU kLt x.k (l.map Nw.k)
  | [] => rfl
  | y :: l => by
    unfold insU
    rw [List.map_cons]
    simp only []
    by_cases h : x = y
    · subst h; rw [if_pos rfl, if_pos rfl, List.map_cons]
    · rw [if_neg h, if_neg (fun z => h (nk_inj z))]
      by_cases h2 : kLt x.k y.k = true
      · rw [if_pos h2, if_pos (show nLt x y = true from h2)]; rfl
      · rw [if_neg h2, if_neg (show ¬ nLt x y = true from h2), List.map_cons, insU_map]
theorem sortU_map : ∀ Ns : List Nw, (sortU nLt Ns).map Nw.k = sortU kLt (Ns.map Nw.k)
  | [] => rfl
  | n :: Ns => by
    show (insU nLt n (sortU nLt Ns)).map Nw.k = insU kLt n.k (sortU kLt (Ns.map Nw.k))
    rw [insU_map, sortU_map]
theorem allT_n : ∀ Ns : List Nw, allT (Ns.map Nw.d) = some (Ns.map Nw.k)
  | [] => rfl
  | n :: Ns => by
    rw [List.map_cons, Nw.d, allT, allT_n Ns]
    simp [allK, Nw.k]
theorem sortSet_n {x : D} {Ns : List Nw} (hx : itmD x = some (Ns.map Nw.d)) (hl : Ns.length < 64) : sortSetD [x] = some (.f (.lst ((sortU nLt Ns).map Nw.d))) := by
  simp only [sortSetD, hx, Option.bind_some]
  cases Ns with
  | nil => rfl
  | cons n Ns =>
    have h1 : allI ((n :: Ns).map Nw.d) = none := by simp [Nw.d, allI]
    rw [h1, allT_n]
    simp only [Option.bind_some]
    rw [if_pos]
    · have e : ((sortU nLt (n :: Ns)).map Nw.d) = (sortU kLt ((n :: Ns).map Nw.k)).map tD := by rw [← sortU_map, List.map_map]; rfl
      rw [e]
    · refine ⟨by simpa using hl, ?_⟩
      unfold oneSh
      refine List.all_eq_true.mpr fun k hk => ?_
      obtain ⟨z, _, rfl⟩ := List.mem_map.mp hk
      rfl
structure GoodB (F : List Fo) (B : List Nw) : Prop where
  ok : ∀ n ∈ B, NwOk F n
  le : B.length < 64
  up : B.Pairwise fun a b => nLt a b = true
theorem goodB_sort {F : List Fo} {Ns : List Nw} (h : ∀ n ∈ Ns, NwOk F n) (hl : Ns.length < 64) : GoodB F (sortU nLt Ns) := ⟨fun n hn => h n (mem_sortU.mp hn), Nat.lt_of_le_of_lt (sortU_len Ns) hl, sortU_sorted lin_n Ns⟩
theorem newsL_ok {ns : List Int} {s : St} {m : Mem} {F : List Fo} {most : Int} {x3 : Option W} (hF : GoodH F) (h0 : 0 ≤ most) (h1 : most ≤ 1000) :
    ∃ (Ns : List Nw) (s' : St), E_book_1 [some (.r 0), some (.v (hD F)), some (.v (.int most)), x3] (stD ns s :: m) = some (.f (.lst (Ns.map Nw.d)), stD ns s' :: m) ∧ (∀ n ∈ Ns, NwOk F n) ∧ (Ns.length : Int) ≤ most := by
  have tm : ∀ m : Mem, F_take [.r 0, .v (.int (most + 1))] (stD ns s :: m) = _ := fun m => take_eq (by omega) (by omega)
  have lo := tk_lo (ns := ns) (s := s) (b := most + 1)
  have hi := tk_hi (ns := ns) (s := s) (b := most + 1) (by omega) (by omega)
  obtain ⟨k, hk⟩ : ∃ k : Nat, (tk ns s (most + 1)).1 = (k : Int) := ⟨(tk ns s (most + 1)).1.toNat, by omega⟩
  have hk2 : (k : Int) ≤ 1000000000 := by omega
  obtain ⟨acc, m', e, Ns, s', rfl, rfl, hl, hok⟩ := lc_eff (src := iRngA (aCons (eCall F_take (aCons (eVar 0) (aCons (eOp addD (eVar 2) (eC (.int 1))) aNil))) aNil)) (t := gN 3) (c := tYes') (f := eCall F_news (aCons (eVar 0) (aCons (eVar 1) aNil))) (vs := [3]) (ρ := [some (.r 0), some (.v (hD F)), some (.v (.int most)), x3]) (m := stD ns s :: m) (m1 := stD ns (tk ns s (most + 1)).2 :: m) (List.range k) nD
    (fun i acc mm => ∃ (Ns : List Nw) (s' : St), acc = Ns.map Nw.d ∧ mm = stD ns s' :: m ∧ Ns.length = i ∧ ∀ n ∈ Ns, NwOk F n)
    (by simp [iRngA, aCons, aNil, eCall, eVar, eOp, eC, tm, hk, hk2, rng0]) ⟨[], _, rfl, rfl, rfl, fun n hn => nomatch hn⟩
    (fun i a acc mm inv => by
      obtain ⟨Ns, s', rfl, rfl, hl, hok⟩ := inv
      obtain ⟨n, s2, e1, e2⟩ := news_spec (ns := ns) (s := s') (m := m) hF
      refine ⟨_, .v n.d, n.d, stD ns s2 :: m, rfl, rfl, by simp [eCall, aCons, aNil, eVar, e1], rfl, Ns ++ [n], s2, by simp, rfl, by simp [hl], fun x hx => ?_⟩
      rcases List.mem_append.mp hx with z | z
      · exact hok x z
      · rw [List.mem_singleton.mp z]; exact e2) (by simp; omega)
  exact ⟨Ns, s', e, hok, by rw [hl]; simp; omega⟩
theorem book_spec {ns : List Int} {s : St} {F : List Fo} {most : Int} (hF : GoodH F) (h0 : 0 ≤ most) (h1 : most ≤ 60) (m : Mem) :
    ∃ B s', F_book [.r 0, .v (hD F), .v (.int most)] (stD ns s :: m) = some (.v (bD B), stD ns s' :: m) ∧ GoodB F B ∧ (B.length : Int) ≤ most := by
  obtain ⟨Ns, s1, e, hok, hl⟩ := newsL_ok (ns := ns) (s := s) (m := m) (x3 := none) hF h0 (by omega)
  have hs := sortSet_n (x := .lst (Ns.map Nw.d)) (Ns := Ns) rfl (by omega)
  refine ⟨sortU nLt Ns, s1, ?_, goodB_sort hok (by omega), by have := sortU_len (lt := nLt) Ns; omega⟩
  simp only [F_book, runF, B_book, startD]
  simp [sRet, eCB, aCons, aNil, e, hs]
/-! rows -/
structure Rw where
  founder : Int
  men : Str
  wed : Int
  way : Str
deriving DecidableEq
def Rw.d (r : Rw) : D := .tup [.int r.founder, .str r.men, .int r.wed, .str r.way]
structure RwOk (F : List Fo) (r : Rw) : Prop where
  f0 : 0 ≤ r.founder
  f1 : r.founder < F.length
  men : r.men ∈ (["alike", "first", "only"] : List Str)
  wed : r.wed = 0 ∨ r.wed = 1
  way : r.way ∈ (["lines", "age", "near"] : List Str)
@[simp] theorem rw0 {r : Rw} : ixD r.d (.int 0) = some (.v (.int r.founder)) := by simp [Rw.d]
@[simp] theorem rw1 {r : Rw} : ixD r.d (.int 1) = some (.v (.str r.men)) := by simp [Rw.d]
@[simp] theorem rw2 {r : Rw} : ixD r.d (.int 2) = some (.v (.int r.wed)) := by simp [Rw.d]
@[simp] theorem rw3 {r : Rw} : ixD r.d (.int 3) = some (.v (.str r.way)) := by simp [Rw.d]
theorem row_spec {ns : List Int} {s : St} {F : List Fo} (hF : GoodH F) (m : Mem) :
    ∃ r s', F_row [.r 0, .v (hD F)] (stD ns s :: m) = some (.v (Rw.d r), stD ns s' :: m) ∧ RwOk F r := by
  have l0 := hF.ne
  have l1 := hF.le
  have te : ∀ (s : St) (b : Int) (m : Mem), 0 < b → b < 1073741824 → F_take [.r 0, .v (.int b)] (stD ns s :: m) = _ := fun s b m h h2 => take_eq h h2
  have tl : ∀ (s : St) (m : Mem), F_take [.r 0, .v (.int (F.length : Int))] (stD ns s :: m) = _ := fun s m => take_eq (by omega) (by omega)
  have v0 := tk_lo (ns := ns) (s := s) (b := F.length)
  have v1 := tk_hi (ns := ns) (s := s) (b := F.length) (by omega) (by omega)
  generalize hv : (tk ns s F.length).1 = v at v0 v1
  generalize hs1 : (tk ns s F.length).2 = s1
  generalize hw : (if (tk ns s1 3).1 = 0 then (1 : Int) else 0) = w
  have hw2 : w = 0 ∨ w = 1 := by rw [← hw]; split <;> simp
  have mu : mulD (.int v) (.int w) = some (.v (.int (v * w))) := mul_i (.inr ⟨by omega, by omega⟩)
  obtain ⟨x, hx, ex⟩ := pick_ex ns (tk ns s1 3).2 4 [.str "alike", .str "first", .str "first", .str "only"] rfl (by decide) (by decide)
  obtain ⟨men, rfl, hmen⟩ : ∃ w : Str, x = .str w ∧ w ∈ (["alike", "first", "only"] : List Str) := by
    simp only [List.mem_cons, List.not_mem_nil, or_false] at hx
    rcases hx with h | h | h | h <;> exact ⟨_, h, by simp⟩
  obtain ⟨y, hy, ey⟩ := pick_ex ns (tk ns (tk ns (tk ns s1 3).2 4).2 3).2 4 [.str "lines", .str "lines", .str "age", .str "near"] rfl (by decide) (by decide)
  obtain ⟨way, rfl, hway⟩ : ∃ w : Str, y = .str w ∧ w ∈ (["lines", "age", "near"] : List Str) := by
    simp only [List.mem_cons, List.not_mem_nil, or_false] at hy
    rcases hy with h | h | h | h <;> exact ⟨_, h, by simp⟩
  refine ⟨⟨v * w, men, if (tk ns (tk ns (tk ns s1 3).2 4).2 3).1 = 0 then 1 else 0, way⟩, (tk ns (tk ns (tk ns (tk ns s1 3).2 4).2 3).2 4).2, ?_, ⟨?_, ?_, hmen, ?_, hway⟩⟩
  · simp only [F_row, runF, B_row, startD]
    simp [sSeq, sSet, aCons, aNil, eC, eOp, eVar, eLst, eCall, te, tl, hv, hs1, eCB, hw, mu, ex, ey, sRet, eTup, Rw.d]
  · show 0 ≤ v * w
    rcases hw2 with h | h <;> rw [h] <;> simp <;> omega
  · show v * w < F.length
    rcases hw2 with h | h <;> rw [h] <;> simp <;> omega
  · show (if (tk ns (tk ns (tk ns s1 3).2 4).2 3).1 = 0 then (1 : Int) else 0) = 0 ∨ (if (tk ns (tk ns (tk ns s1 3).2 4).2 3).1 = 0 then (1 : Int) else 0) = 1
    split <;> simp
end Lx
end
section
set_option Elab.async false
set_option linter.all false
set_option maxRecDepth 100000
set_option maxHeartbeats 4000000
/-! the program: days, cuts, steps -/
namespace Lx
open PySem L2 Pw Pv
@[simp] theorem s1 : (("only" : Str) = "first") = False := by decide
@[simp] theorem s2 : (("first" : Str) = "only") = False := by decide
def dayP (day who : Int) (word : Str) (n : Nw) : Bool := decide (n.word = word) && (decide (n.day ≤ day) && decide (n.who = who))
def daysOf (B : List Nw) (day who : Int) (word : Str) : List Int := (B.filter (dayP day who word)).map Nw.day
def backOf (B : List Nw) (day who : Int) : Int := ((daysOf B day who "returns").foldl bst_max none).getD (-1)
def behind (B : List Nw) (day who : Int) (word : Str) : List Int := (daysOf B day who word).filter fun d => decide (backOf B day who < d)
def cutFrom (B : List Nw) (day who : Int) : Int := ((behind B day who "cuts").foldl bst_min none).getD (-1)
def manP (F : List Fo) (i : Nat) : Bool := match F[i]? with
  | some f => decide (f.man = 1)
  | none => false
def kidP (F : List Fo) (who : Int) (i : Nat) : Bool := match F[i]? with
  | some f => (f.fa == who || f.mo == who)
  | none => false
def ccP (F : List Fo) (r : Rw) (day cut : Int) (i : Nat) : Bool := match F[i]? with
  | some f => !(decide (day < f.day) || (decide (r.wed = 1) && !decide (f.wed = 1))) && (decide (cut = -1) || decide (f.day < cut))
  | none => false
def kids (F : List Fo) (who : Int) : List Nat := (List.range F.length).filter (kidP F who)
def foundOf (F : List Fo) (B : List Nw) (r : Rw) (day who : Int) : List Nat := (kids F who).filter (ccP F r day (cutFrom B day who))
def stepsOf (F : List Fo) (B : List Nw) (r : Rw) (day : Int) (w : Nat) : List Nat :=
  if r.men = "only" ∧ manP F w = false then [] else if r.men = "first" then (foundOf F B r day w).filter (manP F) ++ (foundOf F B r day w).filter (fun i => !manP F i) else foundOf F B r day w
noncomputable def E_days_of_1 : Ex := eLc (iSeq (eVar 0)) (gN 4) (tAnd' (tVal (eOp (eqD false) (eOp ixD (eVar 4) (eC (.int 0))) (eVar 3))) (tAnd' (tVal (eOp (cmpD leI) (eOp ixD (eVar 4) (eC (.int 1))) (eVar 1))) (tVal (eOp (eqD false) (eOp ixD (eVar 4) (eC (.int 2))) (eVar 2))))) (eOp ixD (eVar 4) (eC (.int 1))) [4]
noncomputable def B_days_of : Sx := (sRet E_days_of_1)
noncomputable def F_days_of : Fx := runF 4 5 B_days_of
noncomputable def E_days_behind_back_1 : Ex := eLc (iSeq (eCall F_days_of (aCons (eVar 0) (aCons (eVar 1) (aCons (eVar 2) (aCons (eVar 3) aNil)))))) (gN 5) (tVal (eOp (cmpD gtI) (eVar 5) (eVar 4))) (eVar 5) [5]
noncomputable def B_days_behind_back : Sx := (sSeq (sSet 4 (eBest Pv.bst_max (eCall F_days_of (aCons (eVar 0) (aCons (eVar 1) (aCons (eVar 2) (aCons (eC (.str "returns")) aNil))))) (eUn negD (eC (.int 1))))) (sRet E_days_behind_back_1))
noncomputable def F_days_behind_back : Fx := runF 4 6 B_days_behind_back
noncomputable def B_cut_from : Sx := (sRet (eBest Pv.bst_min (eCall F_days_behind_back (aCons (eVar 0) (aCons (eVar 1) (aCons (eVar 2) (aCons (eC (.str "cuts")) aNil))))) (eUn negD (eC (.int 1)))))
noncomputable def F_cut_from : Fx := runF 3 3 B_cut_from
noncomputable def B_day_of : Sx := (sRet (eOp ixD (eOp ixD (eVar 0) (eVar 1)) (eC (.int 0))))
noncomputable def F_day_of : Fx := runF 2 2 B_day_of
noncomputable def B_is_man : Sx := (sRet (eOp (eqD false) (eOp ixD (eOp ixD (eVar 0) (eVar 1)) (eC (.int 3))) (eC (.int 1))))
noncomputable def F_is_man : Fx := runF 2 2 B_is_man
noncomputable def B_is_wed : Sx := (sRet (eOp (eqD false) (eOp ixD (eOp ixD (eVar 0) (eVar 1)) (eC (.int 4))) (eC (.int 1))))
noncomputable def F_is_wed : Fx := runF 2 2 B_is_wed
noncomputable def B_children_of : Sx := (sRet (eKids 0 1))
noncomputable def F_children_of : Fx := runF 2 3 B_children_of
noncomputable def B_child_counts : Sx := (sSeq (sSet 5 (eCall F_day_of (aCons (eVar 0) (aCons (eVar 4) aNil)))) (sSeq (sIf (tOr' (tVal (eOp (cmpD gtI) (eVar 5) (eVar 2))) (tAnd' (tVal (eOp (eqD false) (eOp ixD (eVar 1) (eC (.int 2))) (eC (.int 1)))) (tNot' (tTru (eCall F_is_wed (aCons (eVar 0) (aCons (eVar 4) aNil))))))) (sRet (eC (.bl false))) sNil) (sRet (eOr (eOp (eqD false) (eVar 3) (eUn negD (eC (.int 1)))) (eOp (cmpD gtI) (eVar 3) (eVar 5))))))
noncomputable def F_child_counts : Fx := runF 5 6 B_child_counts
noncomputable def E_steps_of_1 : Ex := eLc (iSeq (eVar 7)) (gN 10) (tNot' (tTru (eCall F_is_man (aCons (eVar 0) (aCons (eVar 10) aNil))))) (eVar 10) [10]
noncomputable def E_steps_of_2 : Ex := eLc (iSeq (eVar 7)) (gN 10) (tTru (eCall F_is_man (aCons (eVar 0) (aCons (eVar 10) aNil)))) (eVar 10) [10]
noncomputable def E_steps_of_3 : Ex := eLc (iSeq (eCall F_children_of (aCons (eVar 0) (aCons (eVar 4) aNil)))) (gN 10) (tTru (eCall F_child_counts (aCons (eVar 0) (aCons (eVar 2) (aCons (eVar 3) (aCons (eVar 6) (aCons (eVar 10) aNil))))))) (eVar 10) [10]
noncomputable def B_steps_of : Sx := (sSeq (sSet 5 (eOp ixD (eVar 2) (eC (.int 1)))) (sSeq (sIf (tAnd' (tVal (eOp (eqD false) (eVar 5) (eC (.str "only")))) (tNot' (tTru (eCall F_is_man (aCons (eVar 0) (aCons (eVar 4) aNil)))))) (sRet (eTup aNil)) sNil) (sSeq (sSet 6 (eCall F_cut_from (aCons (eVar 1) (aCons (eVar 3) (aCons (eVar 4) aNil))))) (sSeq (sSet 7 E_steps_of_3) (sSeq (sFog [8, 9] (sIf (tVal (eOp (eqD false) (eVar 5) (eC (.str "first")))) (sSeq (sSet 8 E_steps_of_2) (sSeq (sSet 9 E_steps_of_1) (sRet (eCB tupleD (aCons (eOp addD (eVar 8) (eVar 9)) aNil))))) sNil)) (sRet (eCB tupleD (aCons (eVar 7) aNil))))))))
noncomputable def F_steps_of : Fx := runF 5 11 B_steps_of
@[simp] theorem days_of_spec {B : List Nw} {day who : Int} {word : Str} {m : Mem} (hl : B.length ≤ 1000) : F_days_of [.v (bD B), .v (.int day), .v (.int who), .v (.str word)] m = some (.f (.lst ((daysOf B day who word).map .int)), m) := by
  have lc : E_days_of_1 [some (.v (bD B)), some (.v (.int day)), some (.v (.int who)), some (.v (.str word)), none] m = some (.f (.lst ((B.filter (dayP day who word)).map fun n => .int n.day)), m) := by
    refine lc_map B Nw.d (dayP day who word) (fun n => .int n.day) (by simp [iSeq, eVar]) (fun n hn => ⟨_, rfl, ?_, fun _ => ⟨.v (.int n.day), by simp [eOp, eVar, eC], rfl⟩⟩) (by omega)
    unfold dayP
    by_cases h1 : n.word = word <;> by_cases h2 : n.day ≤ day <;> simp [tAnd', tVal, eOp, eVar, eC, h1, h2]
  simp only [F_days_of, runF, B_days_of, startD]
  simp [sRet, lc, daysOf, Function.comp_def]
theorem daysOf_len (B : List Nw) (day who : Int) (word : Str) : (daysOf B day who word).length ≤ B.length := by
  unfold daysOf; rw [List.length_map]; exact List.length_filter_le _ _
theorem behind_len (B : List Nw) (day who : Int) (word : Str) : (behind B day who word).length ≤ B.length := Nat.le_trans (List.length_filter_le _ _) (daysOf_len ..)
@[simp] theorem allI_ints : ∀ is : List Int, allI (is.map D.int) = some is
  | [] => rfl
  | i :: is => by rw [List.map_cons, allI, allI_ints is]; rfl
@[simp] theorem best_l {f : Option Int → Int → Option Int} {is : List Int} {d : Int} : bestD f (.lst (is.map .int)) (.int d) = some (.v (.int ((is.foldl f none).getD d))) := by
  unfold bestD
  simp only [itmL, Option.bind_some, allI_ints]
  cases is.foldl f none <;> rfl
@[simp] theorem behind_spec {B : List Nw} {day who : Int} {word : Str} {m : Mem} (hl : B.length ≤ 1000) : F_days_behind_back [.v (bD B), .v (.int day), .v (.int who), .v (.str word)] m = some (.f (.lst ((behind B day who word).map .int)), m) := by
  have lc : E_days_behind_back_1 [some (.v (bD B)), some (.v (.int day)), some (.v (.int who)), some (.v (.str word)), some (.v (.int (backOf B day who))), none] m = some (.f (.lst ((behind B day who word).map .int)), m) := by
    refine lc_map (daysOf B day who word) D.int (fun d => decide (backOf B day who < d)) D.int (by simp [iSeq, eCall, aCons, aNil, eVar, hl]) (fun n hn => ⟨_, rfl, ?_, fun _ => ⟨.v (.int n), by simp [eVar], rfl⟩⟩) (by have := daysOf_len B day who word; omega)
    simp [tVal, eOp, eVar]
  simp only [F_days_behind_back, runF, B_days_behind_back, startD]
  simp [sSeq, sSet, eBest, eCall, aCons, aNil, eVar, eC, eUn, hl, sRet]
  rw [show (List.foldl bst_max none (daysOf B day who "returns")).getD (-1) = backOf B day who from rfl, lc]
  simp
@[simp] theorem cut_from_spec {B : List Nw} {day who : Int} {m : Mem} (hl : B.length ≤ 1000) : F_cut_from [.v (bD B), .v (.int day), .v (.int who)] m = some (.v (.int (cutFrom B day who)), m) := by
  simp only [F_cut_from, runF, B_cut_from, startD]
  simp [eBest, eCall, aCons, aNil, eVar, eC, eUn, hl, sRet, cutFrom]
theorem day_of_spec {F : List Fo} {i : Nat} {f : Fo} {m : Mem} (h : F[i]? = some f) : F_day_of [.v (hD F), .v (nD i)] m = some (.v (.int f.day), m) := by
  simp only [F_day_of, runF, B_day_of, startD]
  simp [sRet, eOp, eVar, eC, fo_at h]
theorem is_wed_spec {F : List Fo} {i : Nat} {f : Fo} {m : Mem} (h : F[i]? = some f) : F_is_wed [.v (hD F), .v (nD i)] m = some (.v (.bl (decide (f.wed = 1))), m) := by
  simp only [F_is_wed, runF, B_is_wed, startD]
  simp [sRet, eOp, eVar, eC, fo_at h]
theorem is_man_spec {F : List Fo} {i : Nat} {m : Mem} (h : i < F.length) : F_is_man [.v (hD F), .v (nD i)] m = some (.v (.bl (manP F i)), m) := by
  have h := List.getElem?_eq_getElem h
  simp only [F_is_man, runF, B_is_man, startD]
  simp [sRet, eOp, eVar, eC, fo_at h, manP, h]
theorem parD_F : ∀ F : List Fo, parD (F.map Fo.d) = some (F.map fun f => (f.fa, f.mo))
  | [] => rfl
  | f :: F => by rw [List.map_cons, Fo.d, parD, parD_F F]; rfl
theorem kids_eq (F : List Fo) (who : Int) : kidsN (F.map fun f => (f.fa, f.mo)) who = kids F who := by
  unfold kidsN kids
  rw [List.length_map]
  refine List.filter_congr fun i hi => ?_
  have hl := List.mem_range.mp hi
  unfold isKid kidP
  rw [List.getElem?_map, List.getElem?_eq_getElem hl]; rfl
theorem children_of_spec {m : Mem} {F : List Fo} (hl : F.length ≤ 1000) (who : Int) : F_children_of [.v (hD F), .v (.int who)] m = some (.v (.tup ((kids F who).map nD)), m) := by
  have hl2 : F.length ≤ 1000000 := by omega
  simp only [F_children_of, runF, B_children_of, startD]
  simp [sRet, eKids, parD_F, hl2, kidsD, kids_eq]
theorem kids_lt {F : List Fo} {who : Int} {i : Nat} (h : i ∈ kids F who) : i < F.length := List.mem_range.mp (List.mem_filter.mp h).1
theorem kids_len {F : List Fo} {who : Int} : (kids F who).length ≤ F.length := Nat.le_trans (List.length_filter_le _ _) (by rw [List.length_range]; exact Nat.le_refl _)
theorem found_len {F : List Fo} {B : List Nw} {r : Rw} {day who : Int} : (foundOf F B r day who).length ≤ F.length := Nat.le_trans (List.length_filter_le _ _) kids_len
theorem found_lt {F : List Fo} {B : List Nw} {r : Rw} {day who : Int} {i : Nat} (h : i ∈ foundOf F B r day who) : i < F.length := kids_lt (List.mem_filter.mp h).1
theorem child_counts_spec {F : List Fo} {r : Rw} {day cut : Int} {i : Nat} {m : Mem} (hi : i < F.length) : F_child_counts [.v (hD F), .v r.d, .v (.int day), .v (.int cut), .v (nD i)] m = some (.v (.bl (ccP F r day cut i)), m) := by
  have h := List.getElem?_eq_getElem hi
  generalize F[i] = f at h
  have e : ccP F r day cut i = (!(decide (day < f.day) || (decide (r.wed = 1) && !decide (f.wed = 1))) && (decide (cut = -1) || decide (f.day < cut))) := by unfold ccP; rw [h]
  rw [e]
  have d1 : ∀ m, F_day_of [.v (hD F), .v (nD i)] m = _ := fun m => day_of_spec h
  have w1 : ∀ m, F_is_wed [.v (hD F), .v (nD i)] m = _ := fun m => is_wed_spec h
  simp only [F_child_counts, runF, B_child_counts, startD]
  by_cases h1 : day < f.day
  · simp [sSeq, sSet, eCall, aCons, aNil, eVar, d1, sIf, tOr', tVal, eOp, h1, sRet, eC]
  · by_cases h2 : r.wed = 1
    · by_cases h3 : f.wed = 1
      · by_cases h4 : cut = -1 <;> simp [sSeq, sSet, eCall, aCons, aNil, eVar, d1, w1, sIf, tOr', tAnd', tNot', tTru, truD, tVal, eOp, h1, h2, h3, h4, sRet, eC, sNil, eOr, eUn]
      · simp [sSeq, sSet, eCall, aCons, aNil, eVar, d1, w1, sIf, tOr', tAnd', tNot', tTru, truD, tVal, eOp, h1, h2, h3, sRet, eC, sNil, eOr, eUn]
    · by_cases h4 : cut = -1 <;> simp [sSeq, sSet, eCall, aCons, aNil, eVar, d1, w1, sIf, tOr', tAnd', tNot', tTru, truD, tVal, eOp, h1, h2, h4, sRet, eC, sNil, eOr, eUn]
theorem steps_of_spec {F : List Fo} {B : List Nw} {r : Rw} {day : Int} {w : Nat} {m : Mem} (hF : F.length ≤ 1000) (hB : B.length ≤ 1000) (hw : w < F.length) : F_steps_of [.v (hD F), .v (bD B), .v r.d, .v (.int day), .v (nD w)] m = some (.v (.tup ((stepsOf F B r day w).map nD)), m) := by
  have im : ∀ m i, i < F.length → F_is_man [.v (hD F), .v (nD i)] m = _ := fun m i h => is_man_spec h
  have imw := fun m => im m w hw
  have ch : ∀ m, F_children_of [.v (hD F), .v (.int (w : Int))] m = _ := fun m => children_of_spec hF w
  have fl : (foundOf F B r day w).length ≤ F.length := found_len
  have l3 : ∀ (x8 x9 : Option W), E_steps_of_3 [some (.v (hD F)), some (.v (bD B)), some (.v r.d), some (.v (.int day)), some (.v (nD w)), some (.v (.str r.men)), some (.v (.int (cutFrom B day w))), none, x8, x9, none] m = some (.f (.lst ((foundOf F B r day w).map nD)), m) := fun x8 x9 => by
    refine lc_map (kids F w) nD (ccP F r day (cutFrom B day w)) nD (by simp [iSeq, eCall, aCons, aNil, eVar, ch]) (fun i hi => ⟨_, rfl, ?_, fun _ => ⟨.v (nD i), by simp [eVar], rfl⟩⟩) (by have := kids_len (F := F) (who := w); omega)
    have cc := child_counts_spec (F := F) (r := r) (day := day) (cut := cutFrom B day w) (m := m) (kids_lt hi)
    simp [tTru, eCall, aCons, aNil, eVar, cc, truD]
  have l2 : ∀ (x8 x9 : Option W), E_steps_of_2 [some (.v (hD F)), some (.v (bD B)), some (.v r.d), some (.v (.int day)), some (.v (nD w)), some (.v (.str r.men)), some (.v (.int (cutFrom B day w))), some (.v (.lst ((foundOf F B r day w).map nD))), x8, x9, none] m = some (.f (.lst (((foundOf F B r day w).filter (manP F)).map nD)), m) := fun x8 x9 => by
    refine lc_map (foundOf F B r day w) nD (manP F) nD (by simp [iSeq, eVar]) (fun i hi => ⟨_, rfl, ?_, fun _ => ⟨.v (nD i), by simp [eVar], rfl⟩⟩) (by omega)
    simp [tTru, eCall, aCons, aNil, eVar, im m i (found_lt hi), truD]
  have l1 : ∀ (x8 x9 : Option W), E_steps_of_1 [some (.v (hD F)), some (.v (bD B)), some (.v r.d), some (.v (.int day)), some (.v (nD w)), some (.v (.str r.men)), some (.v (.int (cutFrom B day w))), some (.v (.lst ((foundOf F B r day w).map nD))), x8, x9, none] m = some (.f (.lst (((foundOf F B r day w).filter (fun i => !manP F i)).map nD)), m) := fun x8 x9 => by
    refine lc_map (foundOf F B r day w) nD (fun i => !manP F i) nD (by simp [iSeq, eVar]) (fun i hi => ⟨_, rfl, ?_, fun _ => ⟨.v (nD i), by simp [eVar], rfl⟩⟩) (by omega)
    simp [tNot', tTru, eCall, aCons, aNil, eVar, im m i (found_lt hi), truD]
  have sl : ((foundOf F B r day w).filter (manP F)).length + ((foundOf F B r day w).filter (fun i => !manP F i)).length ≤ 1000000 := by
    have a1 := List.length_filter_le (manP F) (foundOf F B r day w)
    have a2 := List.length_filter_le (fun i => !manP F i) (foundOf F B r day w)
    omega
  unfold stepsOf
  simp only [F_steps_of, runF, B_steps_of, startD]
  by_cases h1 : r.men = "only"
  · cases h2 : manP F w with
    | false => simp [sSeq, sSet, eOp, eVar, eC, sIf, tAnd', tVal, tNot', tTru, eCall, aCons, aNil, imw, h1, h2, truD, sRet, eTup]
    | true =>
      rw [h1] at l3
      simp [sFog, sSeq, sSet, eOp, eVar, eC, sIf, tAnd', tVal, tNot', tTru, eCall, aCons, aNil, imw, h1, h2, truD, sRet, eTup, sNil, hB, l3, eCB]
  · by_cases h2 : r.men = "first"
    · rw [h2] at l1 l2 l3
      simp [sFog, sSeq, sSet, eOp, eVar, eC, sIf, tAnd', tVal, tNot', tTru, eCall, aCons, aNil, h2, truD, sRet, eTup, sNil, hB, l1, l2, l3, eCB, sl]
    · simp [sFog, sSeq, sSet, eOp, eVar, eC, sIf, tAnd', tVal, tNot', tTru, eCall, aCons, aNil, h1, h2, truD, sRet, eTup, sNil, hB, l3, eCB]
end Lx
end
section
set_option Elab.async false
set_option linter.all false
set_option maxRecDepth 100000
set_option maxHeartbeats 4000000
/-! news in books; the mathematics of cuts -/
namespace Lx
open PySem L2 Pw Pv
def nPy (n : Nw) : PyData := .tuple [.str n.word, .int n.day, .int n.who, .int n.other]
theorem nPy_eqv (a b : Nw) : PyData.eqv (nPy a) (nPy b) = decide (a = b) := by
  cases a with | mk w d o t =>
  cases b with | mk w' d' o' t' =>
  show ((w == w') && ((d == d') && ((o == o') && ((t == t') && true)))) = _
  rw [Bool.eq_iff_iff]
  simp only [Bool.and_eq_true, beq_iff_eq, decide_eq_true_eq, Nw.mk.injEq, and_true]
theorem py_n (n : Nw) : pyD n.d = some (nPy n) := by simp [Nw.d, pyD, pyDs, nPy]
theorem pys_n : ∀ B : List Nw, pyDs (B.map Nw.d) = some (B.map nPy)
  | [] => by rw [List.map_nil, pyDs]; rfl
  | n :: B => by rw [List.map_cons, pyDs, py_n]; simp only [Option.bind_some]; rw [pys_n B]; rfl
theorem py_b (B : List Nw) : pyD (bD B) = some (.tuple (B.map nPy)) := by rw [bD, pyD, pys_n]; rfl
def wOk (w : Str) : Prop := PyData.strOk w = true
theorem word_ok {F : List Fo} {n : Nw} (h : NwOk F n) : PyData.strOk n.word = true := by
  have := h.word
  simp only [List.mem_cons, List.not_mem_nil, or_false] at this
  rcases this with e | e | e | e | e <;> rw [e] <;> decide +kernel
theorem nPy_lay {n : Nw} (h : PyData.strOk n.word = true) : (nPy n).canLay0 = true := by
  show (PyData.strOk n.word && (true && (true && (true && true)))) = true
  rw [h]; rfl
theorem lay_n : ∀ B : List Nw, (∀ n ∈ B, PyData.strOk n.word = true) → PyData.canLayAll0 (B.map nPy) = true ∧ PyData.depthAll (B.map nPy) ≤ 1
  | [], _ => ⟨rfl, by simp [PyData.depthAll]⟩
  | n :: B, hB => by
    obtain ⟨h1, h2⟩ := lay_n B fun z hz => hB z (List.mem_cons_of_mem _ hz)
    have e1 : (nPy n).canLay0 = true := nPy_lay (hB n List.mem_cons_self)
    have e2 : (nPy n).depth = 1 := rfl
    refine ⟨by rw [List.map_cons, PyData.canLayAll0, e1, h1]; rfl, ?_⟩
    rw [List.map_cons, PyData.depthAll, e2]
    omega
theorem shaped_b {B : List Nw} (hB : ∀ n ∈ B, PyData.strOk n.word = true) : SeqAt.shaped (.tuple (B.map nPy)) = true := by
  obtain ⟨h1, h2⟩ := lay_n B hB
  unfold SeqAt.shaped
  rw [PyData.canLay0, h1, PyData.depth, Bool.true_and, decide_eq_true_eq]
  omega
theorem inT_ok {n : Nw} {B : List Nw} (hn : PyData.strOk n.word = true) (hB : ∀ n ∈ B, PyData.strOk n.word = true) : inTD false n.d (bD B) = some (.v (.bl (decide (n ∈ B)))) := by
  unfold inTD
  rw [py_n, py_b]
  simp only
  have sn : SeqAt.shaped (nPy n) = true := by
    unfold SeqAt.shaped
    rw [nPy_lay hn]; rfl
  rw [if_pos ⟨sn, shaped_b hB⟩]
  have e : (B.map nPy).any (fun z => PyData.eqv z (nPy n)) = decide (n ∈ B) := by
    rw [Bool.eq_iff_iff, List.any_eq_true, decide_eq_true_eq]
    constructor
    · rintro ⟨z, hz, h⟩
      obtain ⟨b, hb, rfl⟩ := List.mem_map.mp hz
      rw [nPy_eqv, decide_eq_true_eq] at h
      exact h ▸ hb
    · intro h
      exact ⟨nPy n, List.mem_map.mpr ⟨n, h, rfl⟩, by rw [nPy_eqv]; simp⟩
  rw [e, Bool.bne_false]
/-! the best number -/
theorem max_some : ∀ (l : List Int) (b : Int), ∃ y, l.foldl bst_max (some b) = some y ∧ (y = b ∨ y ∈ l) ∧ b ≤ y ∧ ∀ z ∈ l, z ≤ y
  | [], b => ⟨b, rfl, .inl rfl, Int.le_refl _, fun z hz => absurd hz List.not_mem_nil⟩
  | x :: l, b => by
    by_cases h : x > b
    · obtain ⟨y, e, h1, h2, h3⟩ := max_some l x
      refine ⟨y, by simp only [List.foldl_cons, bst_max, if_pos h]; exact e, .inr ?_, by omega, fun z hz => ?_⟩
      · rcases h1 with rfl | h1
        · exact List.mem_cons_self
        · exact List.mem_cons_of_mem _ h1
      · rcases List.mem_cons.mp hz with rfl | hz
        · exact h2
        · exact h3 z hz
    · obtain ⟨y, e, h1, h2, h3⟩ := max_some l b
      refine ⟨y, by simp only [List.foldl_cons, bst_max, if_neg h]; exact e, ?_, h2, fun z hz => ?_⟩
      · rcases h1 with rfl | h1
        · exact .inl rfl
        · exact .inr (List.mem_cons_of_mem _ h1)
      · rcases List.mem_cons.mp hz with rfl | hz
        · omega
        · exact h3 z hz
theorem min_some : ∀ (l : List Int) (b : Int), ∃ y, l.foldl bst_min (some b) = some y ∧ (y = b ∨ y ∈ l) ∧ y ≤ b ∧ ∀ z ∈ l, y ≤ z
  | [], b => ⟨b, rfl, .inl rfl, Int.le_refl _, fun z hz => absurd hz List.not_mem_nil⟩
  | x :: l, b => by
    by_cases h : x < b
    · obtain ⟨y, e, h1, h2, h3⟩ := min_some l x
      refine ⟨y, by simp only [List.foldl_cons, bst_min, if_pos h]; exact e, .inr ?_, by omega, fun z hz => ?_⟩
      · rcases h1 with rfl | h1
        · exact List.mem_cons_self
        · exact List.mem_cons_of_mem _ h1
      · rcases List.mem_cons.mp hz with rfl | hz
        · exact h2
        · exact h3 z hz
    · obtain ⟨y, e, h1, h2, h3⟩ := min_some l b
      refine ⟨y, by simp only [List.foldl_cons, bst_min, if_neg h]; exact e, ?_, h2, fun z hz => ?_⟩
      · rcases h1 with rfl | h1
        · exact .inl rfl
        · exact .inr (List.mem_cons_of_mem _ h1)
      · rcases List.mem_cons.mp hz with rfl | hz
        · omega
        · exact h3 z hz
theorem max_def (l : List Int) (d : Int) : (l = [] ∧ (l.foldl bst_max none).getD d = d) ∨ ((l.foldl bst_max none).getD d ∈ l ∧ ∀ z ∈ l, z ≤ (l.foldl bst_max none).getD d) := by
  cases l with
  | nil => exact .inl ⟨rfl, rfl⟩
  | cons x l =>
    right
    obtain ⟨y, e, h1, h2, h3⟩ := max_some l x
    have : (x :: l).foldl bst_max none = some y := e
    rw [this]
    refine ⟨?_, fun z hz => ?_⟩
    · rcases h1 with rfl | h1
      · exact List.mem_cons_self
      · exact List.mem_cons_of_mem _ h1
    · rcases List.mem_cons.mp hz with rfl | hz
      · exact h2
      · exact h3 z hz
theorem min_def (l : List Int) (d : Int) : (l = [] ∧ (l.foldl bst_min none).getD d = d) ∨ ((l.foldl bst_min none).getD d ∈ l ∧ ∀ z ∈ l, (l.foldl bst_min none).getD d ≤ z) := by
  cases l with
  | nil => exact .inl ⟨rfl, rfl⟩
  | cons x l =>
    right
    obtain ⟨y, e, h1, h2, h3⟩ := min_some l x
    have : (x :: l).foldl bst_min none = some y := e
    rw [this]
    refine ⟨?_, fun z hz => ?_⟩
    · rcases h1 with rfl | h1
      · exact List.mem_cons_self
      · exact List.mem_cons_of_mem _ h1
    · rcases List.mem_cons.mp hz with rfl | hz
      · exact h2
      · exact h3 z hz
/-! going through the days -/
section
variable (isC isR : Int → Bool)
def stepC (acc : List Int) (d : Int) : List Int := if isR d = true then [] else if isC d = true then acc ++ [d] else acc
def lastR (ds : List Int) : Int := ds.foldl (fun b d => if isR d = true then d else b) (-1)
def keepC (ds : List Int) : List Int := ds.filter fun d => isC d && decide (lastR isR ds < d)
theorem lastR_snoc (ds : List Int) (x : Int) : lastR isR (ds ++ [x]) = if isR x = true then x else lastR isR ds := by
  unfold lastR; rw [List.foldl_append]; rfl
theorem foldl_pick : ∀ (ds : List Int) (b : Int), (ds.foldl (fun b d => if isR d = true then d else b) b = b ∧ ∀ d ∈ ds, isR d = false) ∨ (ds.foldl (fun b d => if isR d = true then d else b) b ∈ ds ∧ isR (ds.foldl (fun b d => if isR d = true then d else b) b) = true)
  | [], b => .inl ⟨rfl, fun d hd => absurd hd List.not_mem_nil⟩
  | x :: ds, b => by
    rw [List.foldl_cons]
    by_cases h : isR x = true
    · rw [if_pos h]
      rcases foldl_pick ds x with ⟨e, _⟩ | ⟨e1, e2⟩
      · right; rw [e]; exact ⟨List.mem_cons_self, h⟩
      · right; exact ⟨List.mem_cons_of_mem _ e1, e2⟩
    · rw [if_neg h]
      rcases foldl_pick ds b with ⟨e, q⟩ | ⟨e1, e2⟩
      · left
        refine ⟨e, fun d hd => ?_⟩
        rcases List.mem_cons.mp hd with rfl | hd
        · simpa using h
        · exact q d hd
      · right; exact ⟨List.mem_cons_of_mem _ e1, e2⟩
theorem lastR_top : ∀ (ds : List Int) (pre : List Int), (pre ++ ds).Pairwise (· < ·) → (∀ d ∈ pre, isR d = true → d ≤ lastR isR pre) → ∀ d ∈ pre ++ ds, isR d = true → d ≤ lastR isR (pre ++ ds)
  | [], pre, _, h => by simpa using h
  | x :: ds, pre, hs, h => by
    have e : pre ++ x :: ds = (pre ++ [x]) ++ ds := by simp
    rw [e] at hs ⊢
    refine lastR_top ds (pre ++ [x]) hs fun d hd hr => ?_
    rw [lastR_snoc]
    have lt : ∀ d ∈ pre, d < x := fun d hd => by
      have := (List.pairwise_append.mp (List.pairwise_append.mp hs).1).2.2 d hd x (by simp)
      exact this
    by_cases hx : isR x = true
    · rw [if_pos hx]
      rcases List.mem_append.mp hd with z | z
      · exact Int.le_of_lt (lt d z)
      · rw [List.mem_singleton.mp z]; exact Int.le_refl _
    · rw [if_neg hx]
      rcases List.mem_append.mp hd with z | z
      · exact h d z hr
      · rw [List.mem_singleton.mp z] at hr; exact absurd hr hx
theorem keep_fold : ∀ (ds pre : List Int), (pre ++ ds).Pairwise (· < ·) → (∀ d ∈ pre ++ ds, 0 ≤ d) → ds.foldl (stepC isC isR) (keepC isC isR pre) = keepC isC isR (pre ++ ds)
  | [], pre, _, _ => by simp
  | x :: ds, pre, hs, h0 => by
    have e : pre ++ x :: ds = (pre ++ [x]) ++ ds := by simp
    rw [e] at hs h0 ⊢
    rw [List.foldl_cons]
    have lt : ∀ d ∈ pre, d < x := fun d hd => (List.pairwise_append.mp (List.pairwise_append.mp hs).1).2.2 d hd x (by simp)
    have st : stepC isC isR (keepC isC isR pre) x = keepC isC isR (pre ++ [x]) := by
      unfold stepC keepC
      rw [lastR_snoc]
      by_cases hx : isR x = true
      · rw [if_pos hx, if_pos hx]
        refine (List.filter_eq_nil_iff.mpr fun d hd => ?_).symm
        have : d ≤ x := by
          rcases List.mem_append.mp hd with z | z
          · exact Int.le_of_lt (lt d z)
          · rw [List.mem_singleton.mp z]; exact Int.le_refl _
        simp only [Bool.and_eq_true, decide_eq_true_eq, not_and]
        omega
      · rw [if_neg hx, if_neg hx, List.filter_append]
        have hb : lastR isR pre < x := by
          rcases foldl_pick isR pre (-1) with ⟨e1, _⟩ | ⟨e1, _⟩
          · show lastR isR pre < x
            unfold lastR
            rw [e1]
            have := h0 x (by simp)
            omega
          · exact lt _ e1
        by_cases hc : isC x = true
        · rw [if_pos hc]; simp [hc, hb]
        · rw [if_neg hc]; simp [hc]
    rw [st]
    exact keep_fold ds (pre ++ [x]) hs h0
end
def rawDays (B : List Nw) (day who : Int) : List Int := (B.filter fun n => decide (n.who = who) && decide (n.day ≤ day)).map Nw.day
def daysAll (B : List Nw) (day who : Int) : List Int := sortU iLt (rawDays B day who)
theorem rawDays_len (B : List Nw) (day who : Int) : (rawDays B day who).length ≤ B.length := by
  unfold rawDays
  rw [List.length_map]
  exact List.length_filter_le _ _
theorem daysAll_len (B : List Nw) (day who : Int) : (daysAll B day who).length ≤ B.length := Nat.le_trans (sortU_len _) (rawDays_len ..)
def isW (B : List Nw) (who : Int) (word : Str) (d : Int) : Bool := decide ((⟨word, d, who, -1⟩ : Nw) ∈ B)
def lawCuts (B : List Nw) (day who : Int) : List Int := (daysAll B day who).foldl (stepC (isW B who "cuts") (isW B who "returns")) []
theorem mem_daysAll {B : List Nw} {day who d : Int} : d ∈ daysAll B day who ↔ ∃ n ∈ B, n.who = who ∧ n.day ≤ day ∧ n.day = d := by
  unfold daysAll rawDays
  rw [mem_sortU, List.mem_map]
  constructor
  · rintro ⟨n, hn, rfl⟩
    obtain ⟨h1, h2⟩ := List.mem_filter.mp hn
    simp only [Bool.and_eq_true, decide_eq_true_eq] at h2
    exact ⟨n, h1, h2.1, h2.2, rfl⟩
  · rintro ⟨n, hn, h1, h2, rfl⟩
    exact ⟨n, List.mem_filter.mpr ⟨hn, by simp [h1, h2]⟩, rfl⟩
theorem mem_daysOf {F : List Fo} {B : List Nw} (hB : ∀ n ∈ B, NwOk F n) {day who d : Int} {word : Str} (hw : word ≠ "awaits") : d ∈ daysOf B day who word ↔ d ∈ daysAll B day who ∧ isW B who word d = true := by
  unfold daysOf isW
  rw [List.mem_map, mem_daysAll, decide_eq_true_eq]
  constructor
  · rintro ⟨n, hn, rfl⟩
    obtain ⟨h1, h2⟩ := List.mem_filter.mp hn
    simp only [dayP, Bool.and_eq_true, decide_eq_true_eq] at h2
    obtain ⟨q1, q2, q3⟩ := h2
    refine ⟨⟨n, h1, q3, q2, rfl⟩, ?_⟩
    have ho := (hB n h1).o (by rw [q1]; exact hw)
    have : (⟨word, n.day, who, -1⟩ : Nw) = n := by
      cases n
      simp only at q1 q3 ho
      subst q1; subst q3; subst ho; rfl
    rw [this]; exact h1
  · rintro ⟨⟨n, hn, _, h2, rfl⟩, h⟩
    exact ⟨_, List.mem_filter.mpr ⟨h, by simp [dayP, h2]⟩, rfl⟩
theorem sorted_all (B : List Nw) (day who : Int) : (daysAll B day who).Pairwise (· < ·) := (sortU_sorted lin_i _).imp fun {x y} h => by simpa [iLt] using h
theorem lawCuts_eq {F : List Fo} {B : List Nw} (hB : ∀ n ∈ B, NwOk F n) (day who : Int) : lawCuts B day who = (daysAll B day who).filter fun d => isW B who "cuts" d && decide (backOf B day who < d) := by
  have h0 : ∀ d ∈ daysAll B day who, 0 ≤ d := fun d hd => by
    obtain ⟨n, hn, _, _, rfl⟩ := mem_daysAll.mp hd
    exact (hB n hn).d0
  have k := keep_fold (isW B who "cuts") (isW B who "returns") (daysAll B day who) [] (by simpa using sorted_all B day who) (by simpa using h0)
  have e : lastR (isW B who "returns") (daysAll B day who) = backOf B day who := by
    have top := lastR_top (isW B who "returns") (daysAll B day who) [] (by simpa using sorted_all B day who) (fun d hd => absurd hd List.not_mem_nil)
    simp only [List.nil_append] at top
    have mr := fun d => mem_daysOf (d := d) hB (day := day) (who := who) (word := "returns") (by decide)
    rcases foldl_pick (isW B who "returns") (daysAll B day who) (-1) with ⟨e1, q1⟩ | ⟨e1, e2⟩
    · have hn : daysOf B day who "returns" = [] := List.eq_nil_iff_forall_not_mem.mpr fun d hd => by
        obtain ⟨z1, z2⟩ := (mr d).mp hd
        rw [q1 d z1] at z2; cases z2
      unfold backOf
      rw [hn]
      exact e1
    · have hm : lastR (isW B who "returns") (daysAll B day who) ∈ daysOf B day who "returns" := (mr _).mpr ⟨e1, e2⟩
      rcases max_def (daysOf B day who "returns") (-1) with ⟨z, _⟩ | ⟨z1, z2⟩
      · rw [z] at hm; cases hm
      · have a1 := z2 _ hm
        obtain ⟨y1, y2⟩ := (mr _).mp z1
        have a2 := top _ y1 y2
        unfold backOf
        omega
  have k' : lawCuts B day who = keepC (isW B who "cuts") (isW B who "returns") (daysAll B day who) := by
    have : keepC (isW B who "cuts") (isW B who "returns") [] = [] := rfl
    rw [this, List.nil_append] at k
    exact k
  rw [k']
  unfold keepC
  rw [e]
/-- the two ways of saying from when somebody is cut -/
theorem cut_agree {F : List Fo} {B : List Nw} (hB : ∀ n ∈ B, NwOk F n) (day who b : Int) (hb : b ≤ 99990) : (decide (cutFrom B day who = -1) || decide (b < cutFrom B day who)) = decide (b < (lawCuts B day who ++ [100000]).headD 0) := by
  have mem : ∀ d, d ∈ behind B day who "cuts" ↔ d ∈ lawCuts B day who := fun d => by
    rw [lawCuts_eq hB]
    unfold behind
    rw [List.mem_filter, List.mem_filter, mem_daysOf hB (by decide)]
    simp only [Bool.and_eq_true]
    constructor
    · rintro ⟨⟨h1, h2⟩, h3⟩; exact ⟨h1, h2, h3⟩
    · rintro ⟨h1, h2, h3⟩; exact ⟨⟨h1, h2⟩, h3⟩
  have srt : (lawCuts B day who).Pairwise (· < ·) := by rw [lawCuts_eq hB]; exact (sorted_all B day who).filter _
  have nn : ∀ d ∈ lawCuts B day who, 0 ≤ d := fun d hd => by
    rw [lawCuts_eq hB] at hd
    obtain ⟨n, hn, _, _, rfl⟩ := mem_daysAll.mp (List.mem_filter.mp hd).1
    exact (hB n hn).d0
  rcases min_def (behind B day who "cuts") (-1) with ⟨z1, z2⟩ | ⟨z1, z2⟩
  · have e : lawCuts B day who = [] := List.eq_nil_iff_forall_not_mem.mpr fun d hd => by
      have := (mem d).mpr hd
      rw [z1] at this; cases this
    have c : cutFrom B day who = -1 := z2
    rw [e, c]
    simp
    omega
  · have c : cutFrom B day who ∈ lawCuts B day who := (mem _).mp z1
    have c0 := nn _ c
    cases hL : lawCuts B day who with
    | nil => rw [hL] at c; cases c
    | cons x l =>
      rw [hL] at c srt
      have hx : cutFrom B day who = x := by
        have a1 : cutFrom B day who ≤ x := z2 x ((mem x).mpr (by rw [hL]; exact List.mem_cons_self))
        rcases List.mem_cons.mp c with e | e
        · exact e
        · have := (List.pairwise_cons.mp srt).1 _ e
          omega
      rw [hx]
      simp
      omega
end Lx
end
section
set_option Elab.async false
set_option linter.all false
set_option maxRecDepth 100000
set_option maxHeartbeats 4000000
/-! the law's own cuts and steps -/
namespace Lx
open PySem L2 Pw Pv
noncomputable def E_cut_1 : Ex := eLc (iSeq (eVar 0)) (gN 5) (tAnd' (tVal (eOp (eqD false) (eOp ixD (eVar 5) (eC (.int 2))) (eVar 2))) (tVal (eOp (cmpD leI) (eOp ixD (eVar 5) (eC (.int 1))) (eVar 1)))) (eOp ixD (eVar 5) (eC (.int 1))) [5]
noncomputable def L_cut_1 : Sx := (sSeq (sIf (tVal (eOp (inTD false) (eTup (aCons (eC (.str "cuts")) (aCons (eVar 4) (aCons (eVar 2) (aCons (eUn negD (eC (.int 1))) aNil))))) (eVar 0))) (sDrop (eMt isLst appD (eVar 3) (aCons (eVar 4) aNil))) sNil) (sIf (tVal (eOp (inTD false) (eTup (aCons (eC (.str "returns")) (aCons (eVar 4) (aCons (eVar 2) (aCons (eUn negD (eC (.int 1))) aNil))))) (eVar 0))) (sSet 3 (eOwn (eLst aNil))) sNil))
noncomputable def B_cut : Sx := (sSeq (sSet 3 (eOwn (eLst aNil))) (sSeq (sFor (iSeq (eCB sortSetD (aCons E_cut_1 aNil))) (gN 4) L_cut_1 [4]) (sRet (eOp ixD (eOp addD (eVar 3) (eLst (aCons (eC (.int 100000)) aNil))) (eC (.int 0))))))
noncomputable def F_cut : Fx := runF 3 6 B_cut
noncomputable def B_counts : Sx := (sRet (eAnd (eOr (eOp (eqD false) (eOp ixD (eVar 1) (eC (.int 2))) (eC (.int 0))) (eOp (eqD false) (eOp ixD (eOp ixD (eVar 0) (eVar 3)) (eC (.int 4))) (eC (.int 1)))) (eOr (eOp (eqD true) (eOp ixD (eVar 1) (eC (.int 1))) (eC (.str "only"))) (eOp (eqD false) (eOp ixD (eOp ixD (eVar 0) (eVar 2)) (eC (.int 3))) (eC (.int 1))))))
noncomputable def F_counts : Fx := runF 4 4 B_counts
noncomputable def E_steps_1 : Ex := eLc (iSeq (eCB sortedD (aCons (eVar 6) aNil))) (gT [gN 8, gN 7]) tYes' (eVar 7) [8, 7]
noncomputable def L_steps_1 : Sx := (sIf (tOr' (tVal (eOp (eqD false) (eOp ixD (eOp ixD (eVar 0) (eVar 7)) (eC (.int 1))) (eVar 4))) (tVal (eOp (eqD false) (eOp ixD (eOp ixD (eVar 0) (eVar 7)) (eC (.int 2))) (eVar 4)))) (sIf (tAnd' (tVal (eOp (cmpD leI) (eOp ixD (eOp ixD (eVar 0) (eVar 7)) (eC (.int 0))) (eVar 3))) (tAnd' (tVal (eOp (cmpD ltI) (eOp ixD (eOp ixD (eVar 0) (eVar 7)) (eC (.int 0))) (eVar 5))) (tTru (eCall F_counts (aCons (eVar 0) (aCons (eVar 2) (aCons (eVar 4) (aCons (eVar 7) aNil)))))))) (sDrop (eMt isLst appD (eVar 6) (aCons (eTup (aCons (eCB intD (aCons (eAnd (eOp (eqD false) (eOp ixD (eVar 2) (eC (.int 1))) (eC (.str "first"))) (eOp (eqD false) (eOp ixD (eOp ixD (eVar 0) (eVar 7)) (eC (.int 3))) (eC (.int 0)))) aNil)) (aCons (eVar 7) aNil))) aNil))) sNil) sNil)
noncomputable def B_steps : Sx := (sSeq (sSet 5 (eCall F_cut (aCons (eVar 1) (aCons (eVar 3) (aCons (eVar 4) aNil))))) (sSeq (sSet 6 (eOwn (eLst aNil))) (sSeq (sFor (iRngA (aCons (eCB lenD (aCons (eVar 0) aNil)) aNil)) (gN 7) L_steps_1 [7]) (sRet (eCB tupleD (aCons E_steps_1 aNil))))))
noncomputable def F_steps : Fx := runF 5 9 B_steps
@[simp] theorem set_last {m : Mem} {a b : MO} : (m ++ [a]).set m.length b = m ++ [b] := by simp
theorem cut_lc {B : List Nw} {day who : Int} {m : Mem} {x3 x4 : Option W} (hl : B.length ≤ 1000) : E_cut_1 [some (.v (bD B)), some (.v (.int day)), some (.v (.int who)), x3, x4, none] m = some (.f (.lst ((rawDays B day who).map .int)), m) := by
  have := lc_map (src := iSeq (eVar 0)) (t := gN 5) (c := tAnd' (tVal (eOp (eqD false) (eOp ixD (eVar 5) (eC (.int 2))) (eVar 2))) (tVal (eOp (cmpD leI) (eOp ixD (eVar 5) (eC (.int 1))) (eVar 1)))) (f := eOp ixD (eVar 5) (eC (.int 1))) (vs := [5]) (ρ := [some (.v (bD B)), some (.v (.int day)), some (.v (.int who)), x3, x4, none]) (m := m) (m1 := m) B Nw.d (fun n => decide (n.who = who) && decide (n.day ≤ day)) (fun n => .int n.day) (by simp [iSeq, eVar]) (fun n hn => ⟨_, rfl, by by_cases h1 : n.who = who <;> simp [tAnd', tVal, eOp, eVar, eC, h1], fun _ => ⟨.v (.int n.day), by simp [eOp, eVar, eC], rfl⟩⟩) (by omega)
  unfold rawDays
  rw [List.map_map]
  exact this
theorem sortSet_i {is : List Int} (hl : is.length < 4000) : sortSetD [.lst (is.map .int)] = some (.f (.lst ((sortU iLt is).map .int))) := by
  simp only [sortSetD, itm_l, Option.bind_some, allI_ints]
  rw [if_pos hl]
theorem head_at {l : List Int} {x : Int} : atI ((l.map D.int) ++ [.int x]) 0 = some (.int ((l ++ [x]).headD 0)) := by
  cases l with
  | nil => exact at0
  | cons a l => exact at0
theorem strOk_cuts : PyData.strOk "cuts" = true := by decide +kernel
theorem strOk_returns : PyData.strOk "returns" = true := by decide +kernel
theorem cut_turn {B : List Nw} {day who a : Int} {ml : Mem} {acc : List Int} (wk : ∀ n ∈ B, PyData.strOk n.word = true) (lim : acc.length < 1000000) :
    ∃ l, L_cut_1 [some (.v (bD B)), some (.v (.int day)), some (.v (.int who)), some (.r ml.length), some (.v (.int a)), none] (ml ++ [.lst (acc.map .int)]) =
      some (.nx, [some (.v (bD B)), some (.v (.int day)), some (.v (.int who)), some (.r (ml ++ l).length), some (.v (.int a)), none], ml ++ l ++ [.lst ((stepC (isW B who "cuts") (isW B who "returns") acc a).map .int)]) := by
  have i1 := inT_ok (n := ⟨"cuts", a, who, -1⟩) strOk_cuts wk
  have i2 := inT_ok (n := ⟨"returns", a, who, -1⟩) strOk_returns wk
  simp only [Nw.d] at i1 i2
  have c1 : decide ((⟨"cuts", a, who, -1⟩ : Nw) ∈ B) = isW B who "cuts" a := rfl
  have c2 : decide ((⟨"returns", a, who, -1⟩ : Nw) ∈ B) = isW B who "returns" a := rfl
  rw [c1] at i1
  rw [c2] at i2
  unfold stepC
  cases h1 : isW B who "cuts" a with
  | false =>
    rw [h1] at i1
    cases h2 : isW B who "returns" a with
    | false =>
      rw [h2] at i2
      exact ⟨[], by simp [L_cut_1, sSeq, sIf, tVal, eOp, eTup, aCons, aNil, eC, eVar, eUn, i1, i2, sNil]⟩
    | true =>
      rw [h2] at i2
      exact ⟨[.lst (acc.map .int)], by simp [L_cut_1, sSeq, sIf, tVal, eOp, eTup, aCons, aNil, eC, eVar, eUn, i1, i2, sNil, sSet, eOwn, eLst]⟩
  | true =>
    rw [h1] at i1
    cases h2 : isW B who "returns" a with
    | false =>
      rw [h2] at i2
      exact ⟨[], by simp [L_cut_1, sSeq, sIf, tVal, eOp, eTup, aCons, aNil, eC, eVar, eUn, i1, i2, sNil, sDrop, eMt, lim]⟩
    | true =>
      rw [h2] at i2
      exact ⟨[.lst ((acc ++ [a]).map .int)], by simp [L_cut_1, sSeq, sIf, tVal, eOp, eTup, aCons, aNil, eC, eVar, eUn, i1, i2, sNil, sDrop, eMt, lim, sSet, eOwn, eLst]⟩
theorem cut_spec {F : List Fo} {B : List Nw} {day who : Int} {m : Mem} (hB : ∀ n ∈ B, NwOk F n) (hl : B.length ≤ 1000) : F_cut [.v (bD B), .v (.int day), .v (.int who)] m = some (.v (.int ((lawCuts B day who ++ [100000]).headD 0)), m) := by
  have wk : ∀ n ∈ B, PyData.strOk n.word = true := fun n hn => word_ok (hB n hn)
  have rl := rawDays_len B day who
  have fl : (rawDays B day who).length < 4000 := by omega
  have dl := daysAll_len B day who
  have al : ∀ (ds acc : List Int), (ds.foldl (stepC (isW B who "cuts") (isW B who "returns")) acc).length ≤ acc.length + ds.length := by
    intro ds
    induction ds with
    | nil => intro acc; simp
    | cons d ds ih =>
      intro acc
      rw [List.foldl_cons]
      have h1 := ih (stepC (isW B who "cuts") (isW B who "returns") acc d)
      have h2 : (stepC (isW B who "cuts") (isW B who "returns") acc d).length ≤ acc.length + 1 := by
        unfold stepC
        split
        · simp
        · split <;> simp
      rw [List.length_cons]; omega
  obtain ⟨ρ', m', e, l, rfl, rfl⟩ := for_inv (src := iSeq (eCB sortSetD (aCons E_cut_1 aNil))) (t := gN 4) (b := L_cut_1) (dd := [4]) (m1 := m ++ [.lst []]) (ρ := [some (.v (bD B)), some (.v (.int day)), some (.v (.int who)), some (.r m.length), none, none]) (m := m ++ [.lst []])
    (daysAll B day who) D.int (fun i ρ mm => ∃ l, ρ = [some (.v (bD B)), some (.v (.int day)), some (.v (.int who)), some (.r (m ++ l).length), none, none] ∧ mm = m ++ l ++ [.lst ((((daysAll B day who).take i).foldl (stepC (isW B who "cuts") (isW B who "returns")) []).map .int)])
    (by simp [iSeq, eCB, aCons, aNil, cut_lc hl, sortSet_i fl]; rfl) ⟨[], by simp, by simp⟩
    (fun k a ha ρ mm inv => by
      obtain ⟨l, rfl, rfl⟩ := inv
      have hk : k < (daysAll B day who).length := (List.getElem?_eq_some_iff.mp ha).1
      have tk : (daysAll B day who).take (k + 1) = (daysAll B day who).take k ++ [a] := by rw [List.take_add_one, ha]; rfl
      have lim := al ((daysAll B day who).take k) []
      rw [tk, List.foldl_append]
      generalize ((daysAll B day who).take k).foldl (stepC (isW B who "cuts") (isW B who "returns")) [] = acc at lim
      obtain ⟨l', e⟩ := cut_turn (day := day) (who := who) (a := a) (ml := m ++ l) (acc := acc) wk (by simp at lim; omega)
      exact ⟨_, _, _, rfl, e, l ++ l', by simp, by simp⟩)
  have lim := al (daysAll B day who) []
  rw [List.take_length] at e
  have hlc : lawCuts B day who = (daysAll B day who).foldl (stepC (isW B who "cuts") (isW B who "returns")) [] := rfl
  rw [← hlc] at e lim
  have lim' : (lawCuts B day who).length + 1 ≤ 1000000 := by simp at lim; omega
  simp only [F_cut, runF, B_cut, startD]
  simp [sSeq, sSet, eOwn, eLst, aNil, e, sRet, eOp, eVar, aCons, eC, lim', head_at]
end Lx
end
section
set_option Elab.async false
set_option linter.all false
set_option maxRecDepth 100000
set_option maxHeartbeats 4000000
/-! the law's own steps -/
namespace Lx
open PySem L2 Pw Pv
def cntP (F : List Fo) (r : Rw) (p c : Nat) : Bool := match F[p]?, F[c]? with
  | some f, some g => (decide (r.wed = 0) || decide (g.wed = 1)) && (!decide (r.men = "only") || decide (f.man = 1))
  | _, _ => false
theorem counts_spec {F : List Fo} {r : Rw} {p c : Nat} {m : Mem} (hp : p < F.length) (hc : c < F.length) : F_counts [.v (hD F), .v r.d, .v (nD p), .v (nD c)] m = some (.v (.bl (cntP F r p c)), m) := by
  have ep := List.getElem?_eq_getElem hp
  have ec := List.getElem?_eq_getElem hc
  unfold cntP
  rw [ep, ec]
  simp only
  generalize F[p] = f at ep
  generalize F[c] = g at ec
  simp only [F_counts, runF, B_counts, startD]
  by_cases h1 : r.wed = 0
  · by_cases h3 : r.men = "only" <;> simp [sRet, eAnd, eOr, tVal, eOp, eVar, eC, fo_at ep, fo_at ec, h1, h3]
  · by_cases h2 : g.wed = 1
    · by_cases h3 : r.men = "only" <;> simp [sRet, eAnd, eOr, tVal, eOp, eVar, eC, fo_at ep, fo_at ec, h1, h2, h3]
    · simp [sRet, eAnd, eOr, tVal, eOp, eVar, eC, fo_at ep, fo_at ec, h1, h2]
def cutL (B : List Nw) (day who : Int) : Int := (lawCuts B day who ++ [100000]).headD 0
def selS (F : List Fo) (B : List Nw) (r : Rw) (day : Int) (w : Nat) (i : Nat) : Bool := match F[i]? with
  | some f => (decide (f.fa = w) || decide (f.mo = w)) && (decide (f.day ≤ day) && (decide (f.day < cutL B day w) && cntP F r w i))
  | none => false
def rankS (F : List Fo) (r : Rw) (i : Nat) : Int := match F[i]? with
  | some f => if r.men = "first" ∧ f.man = 0 then 1 else 0
  | none => 0
def kpS (F : List Fo) (r : Rw) (i : Nat) : KT' := [.inl (rankS F r i), .inl (i : Int)]
theorem steps_turn {F : List Fo} {B : List Nw} {r : Rw} {day : Int} {w i : Nat} {m : Mem} {ds : List D} (hw : w < F.length) (hi : i < F.length) (lim : ds.length < 1000000) :
    L_steps_1 [some (.v (hD F)), some (.v (bD B)), some (.v r.d), some (.v (.int day)), some (.v (nD w)), some (.v (.int (cutL B day w))), some (.r m.length), some (.v (nD i)), none] (m ++ [.lst ds]) =
      some (.nx, [some (.v (hD F)), some (.v (bD B)), some (.v r.d), some (.v (.int day)), some (.v (nD w)), some (.v (.int (cutL B day w))), some (.r m.length), some (.v (nD i)), none], m ++ [.lst (if selS F B r day w i = true then ds ++ [tD (kpS F r i)] else ds)]) := by
  have cs : ∀ m, F_counts [.v (hD F), .v r.d, .v (nD w), .v (nD i)] m = _ := fun m => counts_spec hw hi
  have ei := List.getElem?_eq_getElem hi
  unfold selS kpS rankS
  rw [ei]
  simp only
  generalize F[i] = f at ei
  have go : ∀ b : Bool, ((decide (f.fa = (w : Int)) || decide (f.mo = (w : Int))) && (decide (f.day ≤ day) && (decide (f.day < cutL B day w) && cntP F r w i))) = b → L_steps_1 [some (.v (hD F)), some (.v (bD B)), some (.v r.d), some (.v (.int day)), some (.v (nD w)), some (.v (.int (cutL B day w))), some (.r m.length), some (.v (nD i)), none] (m ++ [.lst ds]) =
      some (.nx, [some (.v (hD F)), some (.v (bD B)), some (.v r.d), some (.v (.int day)), some (.v (nD w)), some (.v (.int (cutL B day w))), some (.r m.length), some (.v (nD i)), none], m ++ [.lst (if b = true then ds ++ [.tup [.int (if r.men = "first" ∧ f.man = 0 then 1 else 0), nD i]] else ds)]) := fun b hb => by
    cases b with
    | false =>
      by_cases h1 : f.fa = (w : Int)
      · by_cases h3 : f.day ≤ day
        · by_cases h4 : f.day < cutL B day w
          · have h5 : cntP F r w i = false := by simpa [h1, h3, h4] using hb
            simp [L_steps_1, sIf, tOr', tAnd', tVal, tTru, eOp, eVar, eC, eCall, aCons, aNil, fo_at ei, h1, h3, h4, cs, h5, truD, sNil]
          · simp [L_steps_1, sIf, tOr', tAnd', tVal, tTru, eOp, eVar, eC, eCall, aCons, aNil, fo_at ei, h1, h3, h4, sNil]
        · simp [L_steps_1, sIf, tOr', tAnd', tVal, tTru, eOp, eVar, eC, eCall, aCons, aNil, fo_at ei, h1, h3, sNil]
      · by_cases h2 : f.mo = (w : Int)
        · by_cases h3 : f.day ≤ day
          · by_cases h4 : f.day < cutL B day w
            · have h5 : cntP F r w i = false := by simpa [h1, h2, h3, h4] using hb
              simp [L_steps_1, sIf, tOr', tAnd', tVal, tTru, eOp, eVar, eC, eCall, aCons, aNil, fo_at ei, h1, h2, h3, h4, cs, h5, truD, sNil]
            · simp [L_steps_1, sIf, tOr', tAnd', tVal, tTru, eOp, eVar, eC, eCall, aCons, aNil, fo_at ei, h1, h2, h3, h4, sNil]
          · simp [L_steps_1, sIf, tOr', tAnd', tVal, tTru, eOp, eVar, eC, eCall, aCons, aNil, fo_at ei, h1, h2, h3, sNil]
        · simp [L_steps_1, sIf, tOr', tAnd', tVal, tTru, eOp, eVar, eC, eCall, aCons, aNil, fo_at ei, h1, h2, sNil]
    | true =>
      simp only [Bool.and_eq_true, Bool.or_eq_true, decide_eq_true_eq] at hb
      obtain ⟨h1, h3, h4, h5⟩ := hb
      have t1 : ∀ ρ m, (tOr' (tVal (eOp (eqD false) (eOp ixD (eOp ixD (eVar 0) (eVar 7)) (eC (.int 1))) (eVar 4))) (tVal (eOp (eqD false) (eOp ixD (eOp ixD (eVar 0) (eVar 7)) (eC (.int 2))) (eVar 4)))) [some (.v (hD F)), some (.v (bD B)), some (.v r.d), some (.v (.int day)), some (.v (nD w)), some (.v (.int (cutL B day w))), ρ, some (.v (nD i)), none] m = some (true, m) := fun ρ m => by
        by_cases h6 : f.fa = (w : Int)
        · simp [tOr', tVal, eOp, eVar, eC, fo_at ei, h6]
        · have h7 : f.mo = (w : Int) := h1.resolve_left h6
          simp [tOr', tVal, eOp, eVar, eC, fo_at ei, h6, h7]
      unfold L_steps_1
      unfold sIf
      rw [t1]
      by_cases h6 : r.men = "first"
      · by_cases h7 : f.man = 0 <;> simp [tAnd', tVal, tTru, eOp, eVar, eC, eCall, aCons, aNil, fo_at ei, h3, h4, cs, h5, truD, sDrop, eMt, eTup, eCB, eAnd, h6, h7, lim]
      · simp [tAnd', tVal, tTru, eOp, eVar, eC, eCall, aCons, aNil, fo_at ei, h3, h4, cs, h5, truD, sDrop, eMt, eTup, eCB, eAnd, h6, lim]
  exact go _ rfl
/-! ranks in order -/
theorem kLt_pair (a b i j : Int) : kLt [.inl a, .inl i] [.inl b, .inl j] = (decide (a < b) || (!decide (b < a) && decide (i < j))) := by
  show PyProof.Rows.lexLt PyProof.Rows.itemOrd [.inl a, .inl i] [.inl b, .inl j] = _
  rw [PyProof.Rows.lex_cons, PyProof.Rows.lex_cons]
  show (decide (a < b) || (!decide (b < a) && (decide (i < j) || (!decide (j < i) && false)))) = _
  simp
theorem sort_ranks (rk : Nat → Int) (L : List Nat) (hr : ∀ i ∈ L, rk i = 0 ∨ rk i = 1) (hs : L.Pairwise (· < ·)) :
    sortM kLt (L.map fun i => ([.inl (rk i), .inl (i : Int)] : KT')) = (L.filter (fun i => decide (rk i = 0)) ++ L.filter (fun i => !decide (rk i = 0))).map fun i => ([.inl (rk i), .inl (i : Int)] : KT') := by
  refine sortedM_uniq lin_k (sortM_sorted lin_k _) ?_ ((sortM_perm _).trans ?_)
  · rw [List.pairwise_map, List.pairwise_append]
    refine ⟨?_, ?_, fun a ha b hb => ?_⟩
    · refine (List.Pairwise.filter _ hs).imp_of_mem fun {a b} ha hb h => ?_
      have e1 := (List.mem_filter.mp ha).2
      have e2 := (List.mem_filter.mp hb).2
      simp only [decide_eq_true_eq] at e1 e2
      rw [kLt_pair, e1, e2]
      simp; omega
    · refine (List.Pairwise.filter _ hs).imp_of_mem fun {a b} ha hb h => ?_
      obtain ⟨m1, e1⟩ := List.mem_filter.mp ha
      obtain ⟨m2, e2⟩ := List.mem_filter.mp hb
      simp only [Bool.not_eq_true', decide_eq_false_iff_not] at e1 e2
      rw [kLt_pair, (hr a m1).resolve_left e1, (hr b m2).resolve_left e2]
      simp; omega
    · have e1 := (List.mem_filter.mp ha).2
      obtain ⟨m2, e2⟩ := List.mem_filter.mp hb
      simp only [decide_eq_true_eq] at e1
      simp only [Bool.not_eq_true', decide_eq_false_iff_not] at e2
      rw [kLt_pair, e1, (hr b m2).resolve_left e2]
      simp
  · exact (List.filter_append_perm (fun i => decide (rk i = 0)) L).symm.map _
theorem allT_keys : ∀ ks : List KT', allT (ks.map tD) = some ks
  | [] => rfl
  | k :: ks => by
    have hk : ∀ k : KT', allK (k.map kD) = some k := fun k => by
      induction k with
      | nil => rfl
      | cons x k ih => cases x <;> (rw [List.map_cons, kD, allK, ih]; rfl)
    rw [List.map_cons, tD, allT, hk, allT_keys ks]; rfl
theorem sorted_keys {ks : List KT'} (hl : ks.length ≤ 1000000) (hn : ∀ k ∈ ks, k ≠ []) (ho : oneSh ks = true) : sortedD [.lst (ks.map tD)] = some (.f (.lst ((sortM kLt ks).map tD))) := by
  simp only [sortedD, itmL_l, Option.bind_some]
  cases ks with
  | nil => rfl
  | cons k ks =>
    have h1 : allI ((k :: ks).map tD) = none := by simp [allI]
    rw [h1, allT_keys]
    simp only [Option.bind_some]
    rw [if_pos ⟨hl, ho⟩]
def lawSteps (F : List Fo) (B : List Nw) (r : Rw) (day : Int) (w : Nat) : List Nat :=
  ((List.range F.length).filter (selS F B r day w)).filter (fun i => decide (rankS F r i = 0)) ++ ((List.range F.length).filter (selS F B r day w)).filter (fun i => !decide (rankS F r i = 0))
theorem rank01 (F : List Fo) (r : Rw) (i : Nat) : rankS F r i = 0 ∨ rankS F r i = 1 := by
  unfold rankS
  split
  · split <;> simp
  · exact .inl rfl
theorem steps_spec {F : List Fo} {B : List Nw} {r : Rw} {day : Int} {w : Nat} {m : Mem} (hF : GoodH F) (hB : ∀ n ∈ B, NwOk F n) (hl : B.length ≤ 1000) (hw : w < F.length) :
    F_steps [.v (hD F), .v (bD B), .v r.d, .v (.int day), .v (nD w)] m = some (.v (.tup ((lawSteps F B r day w).map nD)), m) := by
  have cs : ∀ m, F_cut [.v (bD B), .v (.int day), .v (.int (w : Int))] m = some (.v (.int (cutL B day w)), m) := fun m => cut_spec hB hl
  have l1 := hF.le
  have rl : (F.length : Int) ≤ 1000000000 := by omega
  obtain ⟨ρ', m', e, rfl, rfl⟩ := for_inv (src := iRngA (aCons (eCB lenD (aCons (eVar 0) aNil)) aNil)) (t := gN 7) (b := L_steps_1) (dd := [7]) (m1 := m ++ [.lst []]) (ρ := [some (.v (hD F)), some (.v (bD B)), some (.v r.d), some (.v (.int day)), some (.v (nD w)), some (.v (.int (cutL B day w))), some (.r m.length), none, none]) (m := m ++ [.lst []])
    (List.range F.length) nD (fun i ρ mm => ρ = [some (.v (hD F)), some (.v (bD B)), some (.v r.d), some (.v (.int day)), some (.v (nD w)), some (.v (.int (cutL B day w))), some (.r m.length), none, none] ∧ mm = m ++ [.lst ((((List.range i).filter (selS F B r day w)).map (kpS F r)).map tD)])
    (by simp [iRngA, aCons, aNil, eCB, eVar, rl, rng0]) ⟨rfl, rfl⟩
    (fun k a ha ρ mm inv => by
      obtain ⟨rfl, rfl⟩ := inv
      obtain ⟨hk, hka⟩ := List.getElem?_eq_some_iff.mp ha
      have hk' : k < F.length := by simpa using hk
      have : k = a := by simpa using hka
      subst this
      have t := steps_turn (B := B) (r := r) (day := day) (m := m) (ds := (((List.range k).filter (selS F B r day w)).map (kpS F r)).map tD) hw hk' (by
        simp only [List.length_map]
        have := List.length_filter_le (selS F B r day w) (List.range k)
        simp at this; omega)
      refine ⟨_, _, _, rfl, t, rfl, ?_⟩
      rw [List.range_succ, List.filter_append]
      cases h : selS F B r day w k <;> simp [h])
  have srt : sortedD [.lst ((((List.range F.length).filter (selS F B r day w)).map (kpS F r)).map tD)] = some (.f (.lst (((lawSteps F B r day w).map (kpS F r)).map tD))) := by
    rw [sorted_keys]
    · have := sort_ranks (rankS F r) ((List.range F.length).filter (selS F B r day w)) (fun i _ => rank01 F r i) (List.Pairwise.filter _ List.pairwise_lt_range)
      have e2 : (fun i => ([.inl (rankS F r i), .inl (i : Int)] : KT')) = kpS F r := rfl
      rw [e2] at this
      rw [this]
      rfl
    · simp only [List.length_map]
      have := List.length_filter_le (selS F B r day w) (List.range F.length)
      simp at this; omega
    · intro k hk
      obtain ⟨i, _, rfl⟩ := List.mem_map.mp hk
      simp [kpS]
    · unfold oneSh
      generalize (List.range F.length).filter (selS F B r day w) = L
      refine List.all_eq_true.mpr fun k hk => ?_
      obtain ⟨i, hi, rfl⟩ := List.mem_map.mp hk
      cases L with
      | nil => exact absurd hi List.not_mem_nil
      | cons j l => simp [kpS]
  have ll : (lawSteps F B r day w).length ≤ 1000000 := by
    unfold lawSteps
    have a1 := List.length_filter_le (selS F B r day w) (List.range F.length)
    have a2 := List.length_filter_le (fun i => decide (rankS F r i = 0)) ((List.range F.length).filter (selS F B r day w))
    have a3 := List.length_filter_le (fun i => !decide (rankS F r i = 0)) ((List.range F.length).filter (selS F B r day w))
    rw [List.length_append]
    simp at a1; omega
  have lc : E_steps_1 [some (.v (hD F)), some (.v (bD B)), some (.v r.d), some (.v (.int day)), some (.v (nD w)), some (.v (.int (cutL B day w))), some (.r m.length), none, none] (m ++ [.lst ((((List.range F.length).filter (selS F B r day w)).map (kpS F r)).map tD)]) = some (.f (.lst ((lawSteps F B r day w).map nD)), m ++ [.lst ((((List.range F.length).filter (selS F B r day w)).map (kpS F r)).map tD)]) := by
    have := lc_map (src := iSeq (eCB sortedD (aCons (eVar 6) aNil))) (t := gT [gN 8, gN 7]) (c := tYes') (f := eVar 7) (vs := [8, 7]) (ρ := [some (.v (hD F)), some (.v (bD B)), some (.v r.d), some (.v (.int day)), some (.v (nD w)), some (.v (.int (cutL B day w))), some (.r m.length), none, none]) (m := m ++ [.lst ((((List.range F.length).filter (selS F B r day w)).map (kpS F r)).map tD)]) (m1 := m ++ [.lst ((((List.range F.length).filter (selS F B r day w)).map (kpS F r)).map tD)])
      (lawSteps F B r day w) (fun i => tD (kpS F r i)) (fun _ => true) nD (by simp only [iSeq, eCB, aCons, aNil, eVar]; simp only [List.getElem?_cons_zero, List.getElem?_cons_succ, Option.bind_some, stl_r, gts_cons, gts_nil, gt_r]; rw [show (m ++ [MO.lst ((((List.range F.length).filter (selS F B r day w)).map (kpS F r)).map tD)])[m.length]? = some (.lst ((((List.range F.length).filter (selS F B r day w)).map (kpS F r)).map tD)) by simp]; simp only [Option.map_some, moD_l, Option.bind_some, srt, src_lf]; rw [List.map_map]; rfl)
      (fun i _ => ⟨[some (.v (hD F)), some (.v (bD B)), some (.v r.d), some (.v (.int day)), some (.v (nD w)), some (.v (.int (cutL B day w))), some (.r m.length), some (.v (nD i)), some (.v (.int (rankS F r i)))], rfl, rfl, fun _ => ⟨.v (nD i), rfl, rfl⟩⟩) ll
    rw [List.filter_eq_self.mpr (fun _ _ => rfl)] at this
    exact this
  rw [List.length_range] at e
  simp only [F_steps, runF, B_steps, startD]
  simp [sSeq, sSet, eCall, aCons, aNil, eVar, cs, eOwn, eLst]
  rw [e]
  simp [sRet, eCB, aCons, aNil]
  simp only [List.map_map] at lc
  rw [lc]
  simp
end Lx
end
section
set_option Elab.async false
set_option linter.all false
set_option maxRecDepth 100000
set_option maxHeartbeats 4000000
/-! the two ways of telling steps agree; repr -/
namespace Lx
open PySem PySem.Spec PyProof.Rows L2 Pw Pv
theorem lawSteps_eq {F : List Fo} {B : List Nw} {r : Rw} {day : Int} {w : Nat} (hF : GoodH F) (hB : ∀ n ∈ B, NwOk F n) (hr : r.wed = 0 ∨ r.wed = 1) (hw : w < F.length) : lawSteps F B r day w = stepsOf F B r day w := by
  have ew := List.getElem?_eq_getElem hw
  have okw := (hF.ok F[w] (List.getElem_mem hw)).m
  have mw : manP F w = decide (F[w].man = 1) := by unfold manP; rw [ew]
  by_cases ho : r.men = "only" ∧ manP F w = false
  · have hL : (List.range F.length).filter (selS F B r day w) = [] := List.filter_eq_nil_iff.mpr fun i hi => by
      have h := List.getElem?_eq_getElem (List.mem_range.mp hi)
      unfold selS cntP
      rw [h, ew]
      have := ho.2
      rw [mw] at this
      simp only [decide_eq_false_iff_not] at this
      simp [ho.1, this]
    unfold lawSteps stepsOf
    rw [hL, if_pos ho]; rfl
  · have hL : (List.range F.length).filter (selS F B r day w) = foundOf F B r day w := by
      unfold foundOf kids
      rw [List.filter_filter]
      refine List.filter_congr fun i hi => ?_
      have hi' := List.mem_range.mp hi
      have h := List.getElem?_eq_getElem hi'
      have d1 := (hF.ok F[i] (List.getElem_mem hi')).d1
      have ca := cut_agree hB day w F[i].day d1
      unfold selS ccP kidP cntP cutL
      rw [h, ew]
      simp only
      rw [ca]
      generalize decide (F[i].day < (lawCuts B day w ++ [100000]).headD 0) = cc
      have k1 : (decide (r.wed = 0) || decide (F[i].wed = 1)) = !(decide (r.wed = 1) && !decide (F[i].wed = 1)) := by
        rcases hr with h | h <;> simp [h]
      have k2 : (!decide (r.men = "only") || decide (F[w].man = 1)) = true := by
        by_cases h1 : r.men = "only"
        · have h2 : ¬ manP F w = false := fun z => ho ⟨h1, z⟩
          rw [mw] at h2
          simp at h2
          simp [h2]
        · simp [h1]
      rw [k1, k2]
      have q1 : (F[i].fa == (w : Int)) = decide (F[i].fa = w) := by rw [Bool.eq_iff_iff]; simp
      have q2 : (F[i].mo == (w : Int)) = decide (F[i].mo = w) := by rw [Bool.eq_iff_iff]; simp
      have q3 : decide (day < F[i].day) = !decide (F[i].day ≤ day) := by rw [Bool.eq_iff_iff]; simp
      rw [q1, q2, q3]
      generalize decide (F[i].fa = (w : Int)) = a1
      generalize decide (F[i].mo = (w : Int)) = a2
      generalize decide (F[i].day ≤ day) = a3
      generalize (decide (r.wed = 1) && !decide (F[i].wed = 1)) = a4
      cases a1 <;> cases a2 <;> cases a3 <;> cases a4 <;> cases cc <;> rfl
    unfold lawSteps stepsOf
    rw [hL, if_neg ho]
    by_cases hf : r.men = "first"
    · rw [if_pos hf]
      have e : ∀ i ∈ foundOf F B r day w, decide (rankS F r i = 0) = manP F i := fun i hi => by
        have hi' := found_lt hi
        have h := List.getElem?_eq_getElem hi'
        have okm := (hF.ok F[i] (List.getElem_mem hi')).m
        unfold rankS manP
        rw [h]
        simp only [hf, true_and]
        rcases okm with h | h <;> simp [h]
      have e2 : ∀ i ∈ foundOf F B r day w, (!decide (rankS F r i = 0)) = !manP F i := fun i hi => by rw [e i hi]
      rw [List.filter_congr e, List.filter_congr e2]
    · rw [if_neg hf]
      have e : ∀ i, rankS F r i = 0 := fun i => by
        unfold rankS
        split
        · simp [hf]
        · rfl
      have e1 : ∀ i ∈ foundOf F B r day w, decide (rankS F r i = 0) = true := fun i _ => decide_eq_true (e i)
      have e2 : ∀ i ∈ foundOf F B r day w, ¬ (!decide (rankS F r i = 0)) = true := fun i _ => by rw [decide_eq_true (e i)]; exact fun z => nomatch z
      rw [List.filter_eq_self.mpr e1, List.filter_eq_nil_iff.mpr e2, List.append_nil]
/-! ### repr of data -/
mutual
def okE : Nat → D → Bool
  | _, .non => true
  | _, .bl _ => true
  | _, .int i => decide (i.natAbs < 10 ^ 30)
  | _, .str x => decide ((reprText x).length ≤ 2000)
  | 0, .tup _ => false
  | n + 1, .tup ds => okEs n ds
  | 0, .fl _ => false
  | n + 1, .fl ds => okEs n ds
  | 0, .lst _ => false
  | n + 1, .lst ds => okEs n ds
  | _, .dk _ => false
  | _, .dt _ => false
  | _, .rl _ _ => false
def okEs : Nat → List D → Bool
  | _, [] => true
  | n, d :: ds => okE n d && okEs n ds
end
mutual
def szE : D → Nat
  | .tup ds => 3 + szEs ds
  | .fl ds => 3 + szEs ds
  | .lst ds => 3 + szEs ds
  | _ => 2000
def szEs : List D → Nat
  | [] => 0
  | d :: ds => szE d + 2 + szEs ds
end
theorem tt_le (ts : List Str) : (tupleText ts).length ≤ 3 + piled ts := by
  have e : (tupleText ts).length = 1 + (Str.join ", " ts).length + (if ts.length == 1 then 2 else 1) := by
    unfold tupleText
    rw [Str.length_append, Str.length_append]
    split <;> rfl
  rw [e]
  cases ts with
  | nil => decide
  | cons t ts =>
    have := join_length_add (t :: ts) (by simp)
    split <;> omega
theorem from_le : ∀ (ts : List Str) (k : Nat) (acc : Str), (textFrom k acc ts).length ≤ acc.length + piled ts
  | [], k, acc => Nat.le_add_right _ _
  | t :: r, k, acc => by
    have ih := from_le r (k + 1) (acc ++ (if k > 0 then ", " else "" : String) ++ t)
    have e : (textFrom k acc (t :: r)) = textFrom (k + 1) (acc ++ (if k > 0 then ", " else "" : String) ++ t) r := rfl
    rw [e, piled_cons]
    refine Nat.le_trans ih ?_
    rw [Str.length_append, Str.length_append]
    have : ((if k > 0 then ", " else "" : String) : Str).length ≤ 2 := by split <;> decide
    omega
theorem lt_le (ts : List Str) : (listText ts).length ≤ 3 + piled ts := by
  unfold listText
  rw [Str.length_append]
  have h1 := from_le ts 0 "["
  have h2 : (("[" : Str)).length = 1 := rfl
  have h3 : (("]" : Str)).length = 1 := rfl
  omega
theorem int_shown {i : Int} (h : i.natAbs < 10 ^ 30) : (PyData.int i).showable = true ∧ (PyData.int i).shown.length ≤ 2000 := by
  have h2 : i.natAbs < 2 ^ 200 := Nat.lt_of_lt_of_le h (by decide)
  have h3 : i.natAbs.log2 < 200 := by
    by_cases hz : i.natAbs = 0
    · rw [hz]; decide
    · exact (Nat.log2_lt hz).mpr h2
  refine ⟨?_, ?_⟩
  · rw [PyData.showable, decide_eq_true_eq]
    exact Nat.lt_of_lt_of_le h3 (by decide)
  · rw [PyData.shown]
    exact Nat.le_trans (PyProof.Rows.int_text_len_1921 (Nat.lt_of_lt_of_le h3 (by decide))) (by decide)
mutual
theorem okE_shown : ∀ (n : Nat) (d : D), okE n d = true → ∃ p, pyD d = some p ∧ p.showable = true ∧ p.hasDict = false ∧ p.depth ≤ n ∧ p.shown.length ≤ szE d
  | n, .non, h => by rw [pyD]; exact ⟨_, rfl, rfl, rfl, Nat.zero_le _, by decide⟩
  | n, .bl b, h => by rw [pyD]; exact ⟨_, rfl, rfl, rfl, Nat.zero_le _, by cases b <;> decide⟩
  | n, .int i, h => by
    rw [okE, decide_eq_true_eq] at h
    rw [pyD]
    exact ⟨_, rfl, (int_shown h).1, rfl, Nat.zero_le _, (int_shown h).2⟩
  | n, .str x, h => by
    rw [okE, decide_eq_true_eq] at h
    rw [pyD]
    exact ⟨_, rfl, rfl, rfl, Nat.zero_le _, h⟩
  | 0, .tup ds, h => by simp [okE] at h
  | n + 1, .tup ds, h => by
    rw [okE] at h
    obtain ⟨ps, e0, a, b, c, e⟩ := okEs_shown n ds h
    refine ⟨.tuple ps, by rw [pyD, e0]; rfl, by rw [PyData.showable]; exact a, by rw [PyData.hasDict]; exact b, by rw [PyData.depth]; omega, ?_⟩
    rw [PyData.shown, szE]
    exact Nat.le_trans (tt_le _) (by omega)
  | 0, .fl ds, h => by simp [okE] at h
  | n + 1, .fl ds, h => by
    rw [okE] at h
    obtain ⟨ps, e0, a, b, c, e⟩ := okEs_shown n ds h
    refine ⟨.list ps, by rw [pyD, e0]; rfl, by rw [PyData.showable]; exact a, by rw [PyData.hasDict]; exact b, by rw [PyData.depth]; omega, ?_⟩
    rw [PyData.shown, szE]
    exact Nat.le_trans (lt_le _) (by omega)
  | 0, .lst ds, h => by simp [okE] at h
  | n + 1, .lst ds, h => by
    rw [okE] at h
    obtain ⟨ps, e0, a, b, c, e⟩ := okEs_shown n ds h
    refine ⟨.list ps, by rw [pyD, e0]; rfl, by rw [PyData.showable]; exact a, by rw [PyData.hasDict]; exact b, by rw [PyData.depth]; omega, ?_⟩
    rw [PyData.shown, szE]
    exact Nat.le_trans (lt_le _) (by omega)
  | n, .dk _, h => by simp [okE] at h
  | n, .dt _, h => by simp [okE] at h
  | n, .rl _ _, h => by simp [okE] at h
theorem okEs_shown : ∀ (n : Nat) (ds : List D), okEs n ds = true → ∃ ps, pyDs ds = some ps ∧ PyData.showableAll ps = true ∧ PyData.hasDictAll ps = false ∧ PyData.depthAll ps ≤ n ∧ piled (PyData.shownAll ps) ≤ szEs ds
  | n, [], h => by rw [pyDs]; exact ⟨_, rfl, rfl, rfl, Nat.zero_le _, Nat.le_refl _⟩
  | n, d :: ds, h => by
    rw [okEs, Bool.and_eq_true] at h
    obtain ⟨p, e1, a1, b1, c1, f1⟩ := okE_shown n d h.1
    obtain ⟨ps, e2, a2, b2, c2, f2⟩ := okEs_shown n ds h.2
    rw [pyDs, e1]
    simp only [Option.bind_some]
    rw [e2]
    refine ⟨_, rfl, by rw [PyData.showableAll, a1, a2]; rfl, by rw [PyData.hasDictAll, b1, b2]; rfl, by rw [PyData.depthAll]; omega, ?_⟩
    rw [PyData.shownAll, piled_cons, szEs]
    omega
end
/-- repr tells something -/
theorem repr_ex {d : D} {n : Nat} (h : okE n d = true) (hn : n ≤ 60) (hz : szE d ≤ 16000000) : ∃ t, reprD [d] = some (.v (.str t)) := by
  obtain ⟨p, e0, a, b, c, e⟩ := okE_shown n d h
  refine ⟨p.shown, ?_⟩
  show (pyD d).bind (fun p => if shownOk p = true then some (W.v (D.str p.shown)) else none) = _
  rw [e0]
  simp only [Option.bind_some]
  rw [if_pos]
  unfold shownOk
  rw [a, b, decide_eq_true (show p.depth ≤ 60 by omega), decide_eq_true (show p.shown.length ≤ 16000000 by omega)]
  rfl
theorem okEs_map {α : Type} {n : Nat} {g : α → D} : ∀ {L : List α}, (∀ a ∈ L, okE n (g a) = true) → okEs n (L.map g) = true
  | [], _ => by rw [List.map_nil, okEs]
  | a :: L, h => by rw [List.map_cons, okEs, h a List.mem_cons_self, okEs_map fun b hb => h b (List.mem_cons_of_mem _ hb)]; rfl
theorem szEs_map {α : Type} {c : Nat} {g : α → D} : ∀ {L : List α}, (∀ a ∈ L, szE (g a) ≤ c) → szEs (L.map g) ≤ L.length * (c + 2)
  | [], _ => by rw [List.map_nil, szEs]; exact Nat.zero_le _
  | a :: L, h => by
    rw [List.map_cons, szEs, List.length_cons, Nat.succ_mul]
    have h1 := h a List.mem_cons_self
    have h2 := szEs_map (L := L) fun b hb => h b (List.mem_cons_of_mem _ hb)
    omega
/-! the data of the laws -/
theorem ok_nat {i n : Nat} (h : i ≤ 1000000) : okE n (nD i) = true := by
  rw [okE, decide_eq_true_eq]
  exact Nat.lt_of_le_of_lt (show ((i : Int)).natAbs ≤ 1000000 by omega) (by decide)
theorem ok_int {i : Int} {n : Nat} (h : -1000000 ≤ i) (h2 : i ≤ 1000000) : okE n (.int i) = true := by
  rw [okE, decide_eq_true_eq]
  exact Nat.lt_of_le_of_lt (show i.natAbs ≤ 1000000 by omega) (by decide)
theorem sz_int {i : Int} : szE (.int i) = 2000 := by rw [szE]; all_goals (intro _ h; cases h)
theorem sz_str {i : Str} : szE (.str i) = 2000 := by rw [szE]; all_goals (intro _ h; cases h)
theorem par_le {F : List Fo} {day v man : Int} (h : ParOk F day v man) : -1 ≤ v ∧ v < F.length := by
  rcases h with h | ⟨j, g, rfl, e, _⟩
  · omega
  · have := (List.getElem?_eq_some_iff.mp e).1; omega
theorem ok_h {F : List Fo} (hF : GoodH F) (n : Nat) : okE (n + 2) (hD F) = true := by
  rw [hD, okE]
  refine okEs_map fun f hf => ?_
  obtain ⟨i, hi, e⟩ := List.getElem_of_mem hf
  have e' : F[i]? = some f := by rw [List.getElem?_eq_getElem hi, e]
  have ok := hF.ok f hf
  have p1 := par_le (hF.fa i f e')
  have p2 := par_le (hF.mo i f e')
  have l1 := hF.le
  rw [List.length_take] at p1 p2
  have := ok.d0; have := ok.d1
  rw [Fo.d, okE]
  simp only [okEs]
  rw [ok_int (by omega) (by omega), ok_int (by omega) (by omega), ok_int (by omega) (by omega), ok_int (by have := ok.m; omega) (by have := ok.m; omega), ok_int (by have := ok.w; omega) (by have := ok.w; omega)]
  rfl
theorem sz_h {F : List Fo} (hF : GoodH F) : szE (hD F) ≤ 700000 := by
  have l1 := hF.le
  rw [hD, szE]
  have := szEs_map (g := Fo.d) (c := 10013) (L := F) fun f hf => by
    rw [Fo.d, szE]
    simp only [szEs, sz_int]
    omega
  have h2 := Nat.mul_le_mul_right (10013 + 2) l1
  omega
theorem word_repr {F : List Fo} {n : Nw} (h : NwOk F n) : (reprText n.word).length ≤ 2000 := by
  have := h.word
  simp only [List.mem_cons, List.not_mem_nil, or_false] at this
  rcases this with e | e | e | e | e <;> rw [e] <;> decide +kernel
theorem ok_b {F : List Fo} {B : List Nw} (hF : GoodH F) (hB : ∀ n ∈ B, NwOk F n) (k : Nat) : okE (k + 2) (bD B) = true := by
  rw [bD, okE]
  refine okEs_map fun n hn => ?_
  have ok := hB n hn
  have l1 := hF.le
  have := ok.d0; have := ok.d1; have := ok.w0; have := ok.w1; have := ok.o0; have := ok.o1
  rw [Nw.d, okE]
  simp only [okEs]
  rw [ok_int (by omega) (by omega), ok_int (by omega) (by omega), ok_int (by omega) (by omega), okE, decide_eq_true (word_repr ok)]
  rfl
theorem sz_b {B : List Nw} (hl : B.length ≤ 64) : szE (bD B) ≤ 600000 := by
  rw [bD, szE]
  have := szEs_map (g := Nw.d) (c := 8011) (L := B) fun f hf => by
    rw [Nw.d, szE]
    simp only [szEs, sz_int, sz_str]
    omega
  have h2 := Nat.mul_le_mul_right (8011 + 2) hl
  omega
theorem ok_r {F : List Fo} {r : Rw} (hF : GoodH F) (hr : RwOk F r) (k : Nat) : okE (k + 1) r.d = true := by
  have l1 := hF.le
  have := hr.f0; have := hr.f1
  have m : (reprText r.men).length ≤ 2000 := by
    have := hr.men
    simp only [List.mem_cons, List.not_mem_nil, or_false] at this
    rcases this with e | e | e <;> rw [e] <;> decide +kernel
  have y : (reprText r.way).length ≤ 2000 := by
    have := hr.way
    simp only [List.mem_cons, List.not_mem_nil, or_false] at this
    rcases this with e | e | e <;> rw [e] <;> decide +kernel
  rw [Rw.d, okE]
  simp only [okEs]
  rw [ok_int (by omega) (by omega), ok_int (by have := hr.wed; omega) (by have := hr.wed; omega), okE, okE, decide_eq_true m, decide_eq_true y]
  rfl
theorem sz_r {r : Rw} : szE r.d ≤ 8100 := by
  rw [Rw.d, szE]
  simp only [szEs, sz_int, sz_str]
  omega
theorem steps_len {F : List Fo} {B : List Nw} {r : Rw} {day : Int} {w : Nat} : (stepsOf F B r day w).length ≤ 2 * F.length := by
  unfold stepsOf
  have a0 := found_len (F := F) (B := B) (r := r) (day := day) (who := w)
  have a1 := List.length_filter_le (manP F) (foundOf F B r day w)
  have a2 := List.length_filter_le (fun i => !manP F i) (foundOf F B r day w)
  split
  · simp
  · split
    · rw [List.length_append]; omega
    · omega
theorem steps_lt {F : List Fo} {B : List Nw} {r : Rw} {day : Int} {w i : Nat} (h : i ∈ stepsOf F B r day w) : i < F.length := by
  unfold stepsOf at h
  split at h
  · cases h
  · split at h
    · rcases List.mem_append.mp h with z | z
      · exact found_lt (List.mem_filter.mp z).1
      · exact found_lt (List.mem_filter.mp z).1
    · exact found_lt h
theorem repr_steps {F : List Fo} {B : List Nw} {r : Rw} {day : Int} {w : Nat} (hF : GoodH F) : ∃ t, reprD [.tup ((stepsOf F B r day w).map nD)] = some (.v (.str t)) := by
  have l1 := hF.le
  have l2 := steps_len (F := F) (B := B) (r := r) (day := day) (w := w)
  refine repr_ex (n := 1) ?_ (by decide) ?_
  · rw [okE]
    refine okEs_map fun i hi => ok_nat ?_
    have := steps_lt hi
    omega
  · rw [szE]
    have := szEs_map (g := nD) (c := 2000) (L := stepsOf F B r day w) fun i _ => Nat.le_of_eq sz_int
    have h2 := Nat.mul_le_mul_right (2000 + 2) l2
    omega
end Lx
end
section
set_option Elab.async false
set_option linter.all false
set_option maxRecDepth 100000
set_option maxHeartbeats 4000000
/-! cuts and returns of parents more -/
namespace Lx
open PySem L2 Pw Pv
noncomputable def L_cutting_1 : Sx := (sSeq (sSet 5 (eCall F_take (aCons (eVar 0) (aCons (eCB lenD (aCons (eVar 1) aNil)) aNil)))) (sSeq (sSet 6 (eOp ixD (eOp ixD (eVar 1) (eVar 5)) (eOp addD (eC (.int 1)) (eCall F_take (aCons (eVar 0) (aCons (eC (.int 2)) aNil)))))) (sFog [7] (sIf (tVal (eOp (eqD true) (eVar 6) (eUn negD (eC (.int 1))))) (sSeq (sSet 7 (eCB (two maxI) (aCons (eOp ixD (eOp ixD (eVar 1) (eVar 6)) (eC (.int 0))) (aCons (eOp subD (eOp addD (eOp ixD (eOp ixD (eVar 1) (eVar 5)) (eC (.int 0))) (eCall F_take (aCons (eVar 0) (aCons (eC (.int 3)) aNil)))) (eC (.int 1))) aNil)))) (sDrop (eMt isLst appD (eVar 3) (aCons (eTup (aCons (eOp ixD (eLst (aCons (eC (.str "cuts")) (aCons (eC (.str "cuts")) (aCons (eC (.str "returns")) aNil)))) (eCall F_take (aCons (eVar 0) (aCons (eC (.int 3)) aNil)))) (aCons (eVar 7) (aCons (eVar 6) (aCons (eUn negD (eC (.int 1))) aNil))))) aNil)))) sNil))))
noncomputable def B_cutting : Sx := (sSeq (sSet 3 (eOwn (eLst aNil))) (sSeq (sFor (iRngA (aCons (eCall F_take (aCons (eVar 0) (aCons (eC (.int 4)) aNil))) aNil)) (gN 4) L_cutting_1 [4, 5, 6, 7]) (sRet (eCB tupleD (aCons (eCB sortSetD (aCons (eOp addD (eVar 2) (eCB tupleD (aCons (eVar 3) aNil))) aNil)) aNil)))))
noncomputable def F_cutting : Fx := runF 3 8 B_cutting
theorem parOk_take {F : List Fo} {i : Nat} {day v man : Int} (h : ParOk (F.take i) day v man) : ParOk F day v man := by
  rcases h with h | ⟨j, g, h1, h2, h3⟩
  · exact .inl h
  · refine .inr ⟨j, g, h1, ?_, h3⟩
    have hj := (List.getElem?_eq_some_iff.mp h2).1
    rw [List.length_take] at hj
    rw [List.getElem?_take_of_lt (by omega)] at h2
    exact h2
theorem cutting_spec {ns : List Int} {s : St} {F : List Fo} {B : List Nw} (hF : GoodH F) (hB : ∀ n ∈ B, NwOk F n) (hl : B.length ≤ 60) (m : Mem) :
    ∃ B' s', F_cutting [.r 0, .v (hD F), .v (bD B)] (stD ns s :: m) = some (.v (bD B'), stD ns s' :: m) ∧ GoodB F B' := by
  have l0 := hF.ne
  have l1 := hF.le
  have te : ∀ (s : St) (b : Int) (m : Mem), 0 < b → b < 1073741824 → F_take [.r 0, .v (.int b)] (stD ns s :: m) = _ := fun s b m h h2 => take_eq h h2
  have tl : ∀ (s : St) (m : Mem), F_take [.r 0, .v (.int (F.length : Int))] (stD ns s :: m) = _ := fun s m => take_eq (by omega) (by omega)
  obtain ⟨k, hk⟩ : ∃ k : Nat, (tk ns s 4).1 = (k : Int) := ⟨(tk ns s 4).1.toNat, by have := tk_lo (ns := ns) (s := s) (b := 4); omega⟩
  have hk3 : k ≤ 3 := by have := tk_hi (ns := ns) (s := s) (b := 4) (by omega) (by omega); omega
  have hk9 : (k : Int) ≤ 1000000000 := by omega
  obtain ⟨ρ', m', e, s', Ns, rfl, rfl, hN, hok⟩ := for_inv (src := iRngA (aCons (eCall F_take (aCons (eVar 0) (aCons (eC (.int 4)) aNil))) aNil)) (t := gN 4) (b := L_cutting_1) (dd := [4, 5, 6, 7]) (m1 := stD ns (tk ns s 4).2 :: (m ++ [.lst []])) (ρ := [some (.r 0), some (.v (hD F)), some (.v (bD B)), some (.r (m.length + 1)), none, none, none, none]) (m := stD ns s :: (m ++ [.lst []]))
    (List.range k) nD (fun i ρ mm => ∃ s Ns, ρ = [some (.r 0), some (.v (hD F)), some (.v (bD B)), some (.r (m.length + 1)), none, none, none, none] ∧ mm = stD ns s :: (m ++ [.lst (Ns.map Nw.d)]) ∧ Ns.length ≤ i ∧ ∀ n ∈ Ns, NwOk F n)
    (by simp [iRngA, aCons, aNil, eCall, eVar, eC, te, hk, hk9, rng0]) ⟨_, [], rfl, rfl, Nat.le_refl _, fun n hn => nomatch hn⟩
    (fun i a ha ρ mm inv => by
      obtain ⟨s, Ns, rfl, rfl, hN, hok⟩ := inv
      have hi : i < k := by have := (List.getElem?_eq_some_iff.mp ha).1; simpa using this
      have c0 := tk_lo (ns := ns) (s := s) (b := F.length)
      have c1 := tk_hi (ns := ns) (s := s) (b := F.length) (by omega) (by omega)
      generalize hs1 : (tk ns s F.length).2 = s1
      generalize hc : (tk ns s F.length).1 = c at c0 c1
      obtain ⟨f, fm, fe, ef⟩ := fo_some (F := F) c0 c1
      have v0 := tk_lo (ns := ns) (s := s1) (b := 2)
      have v1 := tk_hi (ns := ns) (s := s1) (b := 2) (by omega) (by omega)
      generalize hs2 : (tk ns s1 2).2 = s2
      generalize hv : (tk ns s1 2).1 = v at v0 v1
      obtain ⟨p, ep, hp⟩ : ∃ p : Int, ixD f.d (.int (1 + v)) = some (.v (.int p)) ∧ (ParOk F f.day p 1 ∨ ParOk F f.day p 0) := by
        have : v = 0 ∨ v = 1 := by omega
        rcases this with h | h
        · subst h; exact ⟨f.fa, by rw [show (1 : Int) + 0 = 1 by omega]; exact fo1, .inl (parOk_take (hF.fa _ f fe))⟩
        · subst h; exact ⟨f.mo, by rw [show (1 : Int) + 1 = 2 by omega]; exact fo2, .inr (parOk_take (hF.mo _ f fe))⟩
      by_cases hm : p = -1
      · refine ⟨_, [some (.r 0), some (.v (hD F)), some (.v (bD B)), some (.r (m.length + 1)), some (.v (nD a)), some (.v (.int c)), some (.v (.int p)), none], stD ns s2 :: (m ++ [.lst (Ns.map Nw.d)]), rfl, ?_, s2, Ns, rfl, rfl, by omega, hok⟩
        simp [L_cutting_1, sSeq, sSet, eCall, aCons, aNil, eVar, eCB, tl, hs1, hc, eOp, eC, ef, te, hs2, hv, ep, sFog, sIf, tVal, eUn, hm, sNil]
      · obtain ⟨g, hg, eg, hpd⟩ : ∃ g, 0 ≤ p ∧ F[p.toNat]? = some g ∧ g.day < f.day := by
          rcases hp with h | h <;> rcases h with h | ⟨j, g, rfl, h2, _, h3⟩
          · exact absurd h hm
          · exact ⟨g, by omega, by simpa using h2, h3⟩
          · exact absurd h hm
          · exact ⟨g, by omega, by simpa using h2, h3⟩
        have ag := fo_int hg eg
        have gl := (List.getElem?_eq_some_iff.mp eg).1
        have okg := hF.ok g (List.mem_of_getElem? eg)
        have okf := hF.ok f fm
        have t0 := tk_lo (ns := ns) (s := s2) (b := 3)
        have t1 := tk_hi (ns := ns) (s := s2) (b := 3) (by omega) (by omega)
        generalize hs3 : (tk ns s2 3).2 = s3
        generalize ht : (tk ns s2 3).1 = t at t0 t1
        obtain ⟨x, hx, ex⟩ := pick_ex ns s3 3 [.str "cuts", .str "cuts", .str "returns"] rfl (by decide) (by decide)
        obtain ⟨word, rfl, hw⟩ : ∃ w : Str, x = .str w ∧ (w = "cuts" ∨ w = "returns") := by
          simp only [List.mem_cons, List.not_mem_nil, or_false] at hx
          rcases hx with h | h | h
          · exact ⟨_, h, .inl rfl⟩
          · exact ⟨_, h, .inl rfl⟩
          · exact ⟨_, h, .inr rfl⟩
        have hlen : Ns.length < 1000000 := by omega
        have a1 := okg.d0; have a2 := okg.d1; have a3 := okf.d0; have a4 := okf.d1
        have nok : NwOk F ⟨word, max g.day (f.day + t - 1), p, -1⟩ := by
          refine ⟨by show word ∈ (["dies", "leaves", "cuts", "returns", "awaits"] : List Str); rcases hw with h | h <;> simp [h], hg, by show p < F.length; omega, by show 0 ≤ max g.day (f.day + t - 1); omega, by show max g.day (f.day + t - 1) ≤ 99999; omega, fun g' hg' => ?_, fun _ => rfl, Int.le_refl _, by show (-1 : Int) < F.length; omega, fun h => ?_⟩
          · have : g = g' := Option.some.inj (eg.symm.trans hg')
            subst this
            show g.day ≤ max g.day (f.day + t - 1); omega
          · have h' : word = "awaits" := h
            rcases hw with z | z <;> (rw [z] at h'; exact absurd h' (by decide))
        refine ⟨_, [some (.r 0), some (.v (hD F)), some (.v (bD B)), some (.r (m.length + 1)), some (.v (nD a)), some (.v (.int c)), some (.v (.int p)), none], stD ns (tk ns s3 3).2 :: (m ++ [.lst ((Ns ++ [(⟨word, max g.day (f.day + t - 1), p, -1⟩ : Nw)]).map Nw.d)]), rfl, ?_, (tk ns s3 3).2, Ns ++ [⟨word, max g.day (f.day + t - 1), p, -1⟩], rfl, rfl, by simp; omega, fun n hn => ?_⟩
        · simp [L_cutting_1, sSeq, sSet, eCall, aCons, aNil, eVar, eCB, tl, hs1, hc, eOp, eC, ef, te, hs2, hv, ep, sFog, sIf, tVal, eUn, hm, sNil, ag, hs3, ht, sDrop, eMt, eTup, eLst, ex, hlen, Nw.d]
        · rcases List.mem_append.mp hn with z | z
          · exact hok n z
          · rw [List.mem_singleton.mp z]; exact nok)
  simp only [List.length_range] at hN
  have hs := sortSet_n (x := .tup ((B ++ Ns).map Nw.d)) (Ns := B ++ Ns) rfl (by simp; omega)
  have hl2 : B.length + Ns.length ≤ 1000000 := by omega
  refine ⟨sortU nLt (B ++ Ns), s', ?_, goodB_sort (fun n hn => (List.mem_append.mp hn).elim (hB n) (hok n)) (by simp; omega)⟩
  simp only [List.map_append] at hs
  simp only [F_cutting, runF, B_cutting, startD]
  simp [sSeq, sSet, eOwn, eLst, aNil, e, sRet, eCB, aCons, eOp, eVar, hl2, hs]
end Lx
end
section
set_option Elab.async false
set_option linter.all false
set_option maxRecDepth 100000
set_option maxHeartbeats 4000000
/-! The law's days, back, cut (k13 to k16). -/
namespace Ly
open PySem L2 Pw Pv Lx
noncomputable def E_days_1 : Ex := eLc (iSeq (eVar 0)) (gN 4) (tAnd' (tVal (eOp (eqD false) (eOp ixD (eVar 4) (eC (.int 0))) (eVar 1))) (tAnd' (tVal (eOp (eqD false) (eOp ixD (eVar 4) (eC (.int 2))) (eVar 3))) (tVal (eOp (cmpD leI) (eOp ixD (eVar 4) (eC (.int 1))) (eVar 2))))) (eOp ixD (eVar 4) (eC (.int 1))) [4]
noncomputable def B_days : Sx := (sRet E_days_1)
noncomputable def F_days : Fx := runF 4 5 B_days
noncomputable def B_back : Sx := (sRet (eCB (topD maxI) (aCons (eOp addD (eLst (aCons (eUn negD (eC (.int 1))) aNil)) (eCall F_days (aCons (eVar 0) (aCons (eC (.str "returns")) (aCons (eVar 1) (aCons (eVar 2) aNil)))))) aNil)))
noncomputable def F_back : Fx := runF 3 3 B_back
noncomputable def E_cut_1 : Ex := eLc (iSeq (eCall F_days (aCons (eVar 0) (aCons (eC (.str "cuts")) (aCons (eVar 1) (aCons (eVar 2) aNil)))))) (gN 5) (tVal (eOp (cmpD gtI) (eVar 5) (eVar 3))) (eVar 5) [5]
noncomputable def B_cut : Sx := (sSeq (sSet 3 (eCall F_back (aCons (eVar 0) (aCons (eVar 1) (aCons (eVar 2) aNil))))) (sSeq (sSet 4 E_cut_1) (sRet (eOp ixD (eOp addD (eLst (aCons (eUn negD (eC (.int 1))) aNil)) (eUn revD (eCB sortedD (aCons (eVar 4) aNil)))) (eUn negD (eC (.int 1)))))))
noncomputable def F_cut : Fx := runF 3 6 B_cut
noncomputable def L_steps_1 : Sx := (sSeq (sAsg (gT [gN 10, gN 11, gN 12, gN 13, gN 14]) (eOp ixD (eVar 0) (eVar 8))) (sSeq (sSet 9 (eAnd (eOr (eOp (eqD false) (eOp ixD (eVar 2) (eC (.int 2))) (eC (.int 0))) (eOp (eqD false) (eVar 14) (eC (.int 1)))) (eOr (eOp (eqD true) (eOp ixD (eVar 2) (eC (.int 1))) (eC (.str "only"))) (eOp (eqD false) (eOp ixD (eOp ixD (eVar 0) (eVar 4)) (eC (.int 3))) (eC (.int 1)))))) (sIf (tAnd' (tVal (eOp (inD false) (eVar 4) (eTup (aCons (eVar 11) (aCons (eVar 12) aNil))))) (tAnd' (tVal (eOp (cmpD leI) (eVar 10) (eVar 3))) (tAnd' (tTru (eVar 9)) (tOr' (tVal (eOp (eqD false) (eVar 5) (eUn negD (eC (.int 1))))) (tVal (eOp (cmpD ltI) (eVar 10) (eVar 5))))))) (sIf (tAnd' (tVal (eOp (eqD false) (eOp ixD (eVar 2) (eC (.int 1))) (eC (.str "first")))) (tVal (eOp (eqD false) (eVar 13) (eC (.int 1))))) (sDrop (eMt isLst appD (eVar 6) (aCons (eVar 8) aNil))) (sDrop (eMt isLst appD (eVar 7) (aCons (eVar 8) aNil)))) sNil)))
noncomputable def B_steps : Sx := (sSeq (sSet 5 (eCall F_cut (aCons (eVar 1) (aCons (eVar 3) (aCons (eVar 4) aNil))))) (sSeq (sSet 6 (eOwn (eLst aNil))) (sSeq (sSet 7 (eOwn (eLst aNil))) (sSeq (sFor (iRngA (aCons (eCB lenD (aCons (eVar 0) aNil)) aNil)) (gN 8) L_steps_1 [8, 9, 10, 11, 12, 13, 14]) (sRet (eOp addD (eVar 6) (eVar 7)))))))
noncomputable def F_steps : Fx := runF 5 15 B_steps
theorem days_spec {B : List Nw} {day who : Int} {word : Str} {m : Mem} (hl : B.length ≤ 1000) : F_days [.v (bD B), .v (.str word), .v (.int day), .v (.int who)] m = some (.f (.lst ((daysOf B day who word).map .int)), m) := by
  have e : E_days_1 [some (.v (bD B)), some (.v (.str word)), some (.v (.int day)), some (.v (.int who)), none] m = some (.f (.lst ((B.filter (dayP day who word)).map fun n => D.int n.day)), m) := by
    refine lc_map B Nw.d (dayP day who word) (fun n => D.int n.day) rfl (fun n hn => ⟨_, rfl, ?_, fun _ => ⟨.v (.int n.day), by simp [eOp, eVar, eC], rfl⟩⟩) (by omega)
    unfold dayP
    by_cases h1 : n.word = word
    · by_cases h2 : n.who = who
      · by_cases h3 : n.day ≤ day <;> simp [tAnd', tVal, eOp, eVar, eC, h1, h2, h3]
      · simp [tAnd', tVal, eOp, eVar, eC, h1, h2]
    · simp [tAnd', tVal, eOp, eVar, eC, h1]
  simp only [F_days, runF, B_days, startD]
  simp [sRet, e, daysOf, Function.comp_def]
theorem days_ge {F : List Fo} {B : List Nw} {day who : Int} {word : Str} (hB : ∀ n ∈ B, NwOk F n) : ∀ d ∈ daysOf B day who word, 0 ≤ d := fun d hd => by
  unfold daysOf at hd
  obtain ⟨n, hn, rfl⟩ := List.mem_map.mp hd
  exact (hB n (List.mem_filter.mp hn).1).d0
theorem back_eq {F : List Fo} {B : List Nw} {day who : Int} (hB : ∀ n ∈ B, NwOk F n) : (daysOf B day who "returns").foldl maxI (-1) = backOf B day who := by
  have g := days_ge (day := day) (who := who) (word := "returns") hB
  obtain ⟨a1, a2, a3⟩ := fold_maxI (daysOf B day who "returns") (-1)
  unfold backOf
  rcases Lx.max_def (daysOf B day who "returns") (-1) with ⟨h1, h2⟩ | ⟨h1, h2⟩
  · rw [h2, h1]; rfl
  · have b1 := a3 _ h1
    have b2 := g _ h1
    rcases a1 with z | z
    · omega
    · have := h2 _ z; omega
theorem back_spec {F : List Fo} {B : List Nw} {day who : Int} {m : Mem} (hB : ∀ n ∈ B, NwOk F n) (hl : B.length ≤ 1000) : F_back [.v (bD B), .v (.int day), .v (.int who)] m = some (.v (.int (backOf B day who)), m) := by
  have l := daysOf_len B day who "returns"
  have t : topD maxI [.lst (.int (-1) :: (daysOf B day who "returns").map .int)] = some (.v (.int (backOf B day who))) := by
    rw [← back_eq hB]
    unfold topD
    rw [← List.map_cons (f := D.int)]
    simp only [itmL, Option.bind_some, allI_ints]
  have l2 : 1 + (daysOf B day who "returns").length ≤ 1000000 := by omega
  have l3 : (daysOf B day who "returns").length + 1 ≤ 1000000 := by omega
  simp only [F_back, runF, B_back, startD]
  simp [sRet, eCB, aCons, aNil, eOp, eLst, eUn, eC, eCall, eVar, days_spec hl, addD, l2, l3, t]
theorem sort_min {l : List Int} : ((sortM iLt l).reverse.map D.int = [] ∧ l = []) ∨ ∃ x, x ∈ l ∧ (∀ z ∈ l, x ≤ z) ∧ atI (D.int (-1) :: ((sortM iLt l).reverse.map D.int)) (-1) = some (.int x) := by
  have p := sortM_perm (lt := iLt) l
  have so := sortM_sorted lin_i l
  cases h : sortM iLt l with
  | nil =>
    left
    rw [h] at p
    exact ⟨by simp, p.nil_eq.symm⟩
  | cons x xs =>
    right
    rw [h] at p so
    refine ⟨x, p.mem_iff.mp List.mem_cons_self, fun z hz => ?_, ?_⟩
    · rcases List.mem_cons.mp (p.mem_iff.mpr hz) with z1 | z1
      · omega
      · have := List.rel_of_pairwise_cons so z1
        simpa [iLt] using this
    · unfold atI ixN
      simp
      rw [if_pos (by omega)]
      have e : ((-1 : Int) + ((xs.length : Int) + 1 + 1)).toNat = xs.length + 1 := by omega
      rw [e]
      simp [List.getElem?_cons_succ]
theorem cut_spec {F : List Fo} {B : List Nw} {day who : Int} {m : Mem} (hB : ∀ n ∈ B, NwOk F n) (hl : B.length ≤ 1000) : F_cut [.v (bD B), .v (.int day), .v (.int who)] m = some (.v (.int (cutFrom B day who)), m) := by
  have bs : ∀ m, F_back [.v (bD B), .v (.int day), .v (.int who)] m = _ := fun m => back_spec hB hl
  have lc : E_cut_1 [some (.v (bD B)), some (.v (.int day)), some (.v (.int who)), some (.v (.int (backOf B day who))), none, none] m = some (.f (.lst ((behind B day who "cuts").map .int)), m) := by
    refine lc_map (daysOf B day who "cuts") D.int (fun d => decide (backOf B day who < d)) D.int (by simp [iSeq, eCall, aCons, aNil, eVar, eC, days_spec hl]) (fun n hn => ⟨_, rfl, ?_, fun _ => ⟨.v (.int n), by simp [eVar], rfl⟩⟩) (by have := daysOf_len B day who "cuts"; omega)
    simp [tVal, eOp, eVar]
  have l := behind_len B day who "cuts"
  have l1 : (behind B day who "cuts").length ≤ 1000000 := by omega
  have so : sortedD [.lst ((behind B day who "cuts").map .int)] = some (.f (.lst ((sortM iLt (behind B day who "cuts")).map .int))) := by
    unfold sortedD
    simp only [itmL, Option.bind_some, allI_ints]
    rw [if_pos l1]
  have len := (sortM_perm (lt := iLt) (behind B day who "cuts")).length_eq
  have l2 : 1 + (behind B day who "cuts").length ≤ 1000000 := by omega
  have l3 : (behind B day who "cuts").length + 1 ≤ 1000000 := by omega
  have fin : atI (D.int (-1) :: ((sortM iLt (behind B day who "cuts")).reverse.map D.int)) (-1) = some (.int (cutFrom B day who)) := by
    unfold cutFrom
    rcases Lx.min_def (behind B day who "cuts") (-1) with ⟨h1, h2⟩ | ⟨h1, h2⟩
    · rw [h2]
      rcases sort_min (l := behind B day who "cuts") with ⟨q1, _⟩ | ⟨x, q1, _⟩
      · rw [q1]; rfl
      · rw [h1] at q1; cases q1
    · rcases sort_min (l := behind B day who "cuts") with ⟨_, q1⟩ | ⟨x, q1, q2, q3⟩
      · rw [q1] at h1; cases h1
      · rw [q3]
        have b1 := q2 _ h1
        have b2 := h2 _ q1
        congr 2; omega
  rw [List.map_reverse] at fin
  simp only [F_cut, runF, B_cut, startD]
  simp [sSeq, sSet, eCall, aCons, aNil, eVar, bs, lc, sRet, eOp, eLst, eUn, eC, eCB, so, revD, addD, len, l2, l3, fin]
/-! ### steps -/
theorem in_pair {x a b : Int} : inD false (.int x) (.tup [.int a, .int b]) = some (.v (.bl (decide (x = a) || decide (x = b)))) := by
  have e : inV (.int x) [.int a, .int b] = (decide (x = a) || decide (x = b)) := by
    show ((a == x) || ((b == x) || false)) = _
    rw [Bool.eq_iff_iff]
    simp only [Bool.or_eq_true, beq_iff_eq, decide_eq_true_eq, Bool.false_eq_true, or_false]
    exact ⟨fun h => h.imp Eq.symm Eq.symm, fun h => h.imp Eq.symm Eq.symm⟩
  unfold inD inB
  simp only [itm_t, Option.bind_some, sc]
  simp only [List.mapM_cons, List.mapM_nil, sc, Option.bind_eq_bind, Option.bind_some, Option.pure_def]
  rw [e, Bool.bne_false]
def cntS (F : List Fo) (r : Rw) (w : Nat) (f : Fo) : Bool := (decide (r.wed = 0) || decide (f.wed = 1)) && (!decide (r.men = "only") || manP F w)
def selT (F : List Fo) (B : List Nw) (r : Rw) (day : Int) (w : Nat) (f : Fo) : Bool := (decide ((w : Int) = f.fa) || decide ((w : Int) = f.mo)) && (decide (f.day ≤ day) && (cntS F r w f && (decide (cutFrom B day w = -1) || decide (f.day < cutFrom B day w))))
def sonT (r : Rw) (f : Fo) : Bool := decide (r.men = "first") && decide (f.man = 1)
abbrev envS (F : List Fo) (B : List Nw) (r : Rw) (day : Int) (w k : Nat) (x8 x9 x10 x11 x12 x13 x14 : Option W) : Pw.Env := [some (.v (hD F)), some (.v (bD B)), some (.v r.d), some (.v (.int day)), some (.v (nD w)), some (.v (.int (cutFrom B day w))), some (.r k), some (.r (k + 1)), x8, x9, x10, x11, x12, x13, x14]
theorem cnt_set {F : List Fo} {B : List Nw} {r : Rw} {day : Int} {w i k : Nat} {f : Fo} {m : Mem} (hw : w < F.length) :
    (eAnd (eOr (eOp (eqD false) (eOp ixD (eVar 2) (eC (.int 2))) (eC (.int 0))) (eOp (eqD false) (eVar 14) (eC (.int 1)))) (eOr (eOp (eqD true) (eOp ixD (eVar 2) (eC (.int 1))) (eC (.str "only"))) (eOp (eqD false) (eOp ixD (eOp ixD (eVar 0) (eVar 4)) (eC (.int 3))) (eC (.int 1)))))
      (envS F B r day w k (some (.v (nD i))) none (some (.v (.int f.day))) (some (.v (.int f.fa))) (some (.v (.int f.mo))) (some (.v (.int f.man))) (some (.v (.int f.wed)))) m = some (.v (.bl (cntS F r w f)), m) := by
  have ew := List.getElem?_eq_getElem hw
  unfold cntS manP
  rw [ew]
  generalize F[w] = g at ew
  by_cases h1 : r.wed = 0
  · by_cases h2 : r.men = "only"
    · simp [eAnd, eOr, tVal, eOp, eVar, eC, h1, h2, fo_at ew]
    · simp [eAnd, eOr, tVal, eOp, eVar, eC, h1, h2, fo_at ew]
  · by_cases h3 : f.wed = 1
    · by_cases h2 : r.men = "only"
      · simp [eAnd, eOr, tVal, eOp, eVar, eC, h1, h2, h3, fo_at ew]
      · simp [eAnd, eOr, tVal, eOp, eVar, eC, h1, h2, h3, fo_at ew]
    · simp [eAnd, eOr, tVal, eOp, eVar, eC, h1, h3]
theorem sel_t {F : List Fo} {B : List Nw} {r : Rw} {day : Int} {w i k : Nat} {f : Fo} {m : Mem} :
    (tAnd' (tVal (eOp (inD false) (eVar 4) (eTup (aCons (eVar 11) (aCons (eVar 12) aNil))))) (tAnd' (tVal (eOp (cmpD leI) (eVar 10) (eVar 3))) (tAnd' (tTru (eVar 9)) (tOr' (tVal (eOp (eqD false) (eVar 5) (eUn negD (eC (.int 1))))) (tVal (eOp (cmpD ltI) (eVar 10) (eVar 5)))))))
      (envS F B r day w k (some (.v (nD i))) (some (.v (.bl (cntS F r w f)))) (some (.v (.int f.day))) (some (.v (.int f.fa))) (some (.v (.int f.mo))) (some (.v (.int f.man))) (some (.v (.int f.wed)))) m = some (selT F B r day w f, m) := by
  unfold selT
  by_cases h1 : ((w : Int) = f.fa ∨ (w : Int) = f.mo)
  · by_cases h2 : f.day ≤ day
    · cases h3 : cntS F r w f
      · simp [tAnd', tOr', tVal, tTru, eOp, eTup, aCons, aNil, eVar, eC, eUn, in_pair, h1, h2, h3, truD]
      · by_cases h4 : cutFrom B day w = -1 <;> simp [tAnd', tOr', tVal, tTru, eOp, eTup, aCons, aNil, eVar, eC, eUn, in_pair, h1, h2, h3, h4, truD]
    · simp [tAnd', tOr', tVal, tTru, eOp, eTup, aCons, aNil, eVar, eC, eUn, in_pair, h1, h2, truD]
  · have h1' : ¬ (w : Int) = f.fa ∧ ¬ (w : Int) = f.mo := ⟨fun h => h1 (.inl h), fun h => h1 (.inr h)⟩
    simp [tAnd', tVal, eOp, eTup, aCons, aNil, eVar, in_pair, h1'.1, h1'.2]
theorem steps_turn {F : List Fo} {B : List Nw} {r : Rw} {day : Int} {w i : Nat} {f : Fo} {m : Mem} {a b : List D} (hw : w < F.length) (hi : F[i]? = some f) (la : a.length < 1000000) (lb : b.length < 1000000) :
    L_steps_1 (envS F B r day w m.length (some (.v (nD i))) none none none none none none) (m ++ [.lst a, .lst b]) =
      some (.nx, envS F B r day w m.length (some (.v (nD i))) (some (.v (.bl (cntS F r w f)))) (some (.v (.int f.day))) (some (.v (.int f.fa))) (some (.v (.int f.mo))) (some (.v (.int f.man))) (some (.v (.int f.wed))),
        m ++ [.lst (if (selT F B r day w f && sonT r f) = true then a ++ [nD i] else a), .lst (if (selT F B r day w f && !sonT r f) = true then b ++ [nD i] else b)]) := by
  have asg : sAsg (gT [gN 10, gN 11, gN 12, gN 13, gN 14]) (eOp ixD (eVar 0) (eVar 8)) (envS F B r day w m.length (some (.v (nD i))) none none none none none none) (m ++ [.lst a, .lst b]) = some (.nx, envS F B r day w m.length (some (.v (nD i))) none (some (.v (.int f.day))) (some (.v (.int f.fa))) (some (.v (.int f.mo))) (some (.v (.int f.man))) (some (.v (.int f.wed))), m ++ [.lst a, .lst b]) := by
    have e := fo_at hi
    simp [sAsg, eOp, eVar, e, Fo.d]
    rfl
  unfold L_steps_1
  unfold sSeq
  rw [asg]
  simp only [Option.bind_some]
  rw [sSet, cnt_set hw]
  simp only [Option.bind_some, stl]
  show (sIf _ _ _) (envS F B r day w m.length (some (.v (nD i))) (some (.v (.bl (cntS F r w f)))) (some (.v (.int f.day))) (some (.v (.int f.fa))) (some (.v (.int f.mo))) (some (.v (.int f.man))) (some (.v (.int f.wed)))) _ = _
  rw [sIf, sel_t]
  unfold sonT
  cases hs : selT F B r day w f
  · simp [sNil]
  · by_cases h1 : r.men = "first"
    · by_cases h2 : f.man = 1
      · simp [sIf, tAnd', tVal, eOp, eVar, eC, h1, h2, sDrop, eMt, aCons, aNil, isLst, appD, la]
      · simp [sIf, tAnd', tVal, eOp, eVar, eC, h1, h2, sDrop, eMt, aCons, aNil, isLst, appD, lb]
    · simp [sIf, tAnd', tVal, eOp, eVar, eC, h1, sDrop, eMt, aCons, aNil, isLst, appD, lb]
end Ly
end
section
set_option Elab.async false
set_option linter.all false
set_option maxRecDepth 100000
set_option maxHeartbeats 4000000
/-! The law's steps (k13 to k16). -/
namespace Ly
open PySem L2 Pw Pv Lx
def onF (F : List Fo) (p : Fo → Bool) (i : Nat) : Bool := match F[i]? with
  | some f => p f
  | none => false
theorem filter_snoc {p : Nat → Bool} {k : Nat} : (List.range (k + 1)).filter p = if p k = true then (List.range k).filter p ++ [k] else (List.range k).filter p := by
  rw [List.range_succ, List.filter_append]
  cases h : p k <;> simp [h]
theorem filter_len {p : Nat → Bool} {k : Nat} : ((List.range k).filter p).length ≤ k := by
  have := List.length_filter_le p (List.range k)
  rwa [List.length_range] at this
theorem steps_raw {F : List Fo} {B : List Nw} {r : Rw} {day : Int} {w : Nat} {m : Mem} (hF : F.length ≤ 1000) (hB : ∀ n ∈ B, NwOk F n) (hl : B.length ≤ 1000) (hw : w < F.length) :
    F_steps [.v (hD F), .v (bD B), .v r.d, .v (.int day), .v (nD w)] m = some (.f (.lst (((List.range F.length).filter (onF F fun f => selT F B r day w f && sonT r f) ++ (List.range F.length).filter (onF F fun f => selT F B r day w f && !sonT r f)).map nD)), m) := by
  have cs : ∀ m, F_cut [.v (bD B), .v (.int day), .v (nD w)] m = _ := fun m => cut_spec hB hl
  have rl : (F.length : Int) ≤ 1000000000 := by omega
  obtain ⟨ρ', m', e, rfl, rfl⟩ := for_inv (src := iRngA (aCons (eCB lenD (aCons (eVar 0) aNil)) aNil)) (t := gN 8) (b := L_steps_1) (dd := [8, 9, 10, 11, 12, 13, 14]) (m1 := m ++ [.lst [], .lst []]) (ρ := envS F B r day w m.length none none none none none none none) (m := m ++ [.lst [], .lst []])
    (List.range F.length) nD (fun k ρ mm => ρ = envS F B r day w m.length none none none none none none none ∧ mm = m ++ [.lst (((List.range k).filter (onF F fun f => selT F B r day w f && sonT r f)).map nD), .lst (((List.range k).filter (onF F fun f => selT F B r day w f && !sonT r f)).map nD)])
    (by simp [iRngA, aCons, aNil, eCB, eVar, rl, rng0]) ⟨rfl, rfl⟩
    (fun k i hk ρ mm inv => by
      obtain ⟨rfl, rfl⟩ := inv
      obtain ⟨hi, rfl⟩ : k < F.length ∧ i = k := by
        have h1 := List.getElem?_eq_some_iff.mp hk
        obtain ⟨h1, h2⟩ := h1
        rw [List.getElem_range] at h2
        exact ⟨by simpa using h1, h2.symm⟩
      have ei := List.getElem?_eq_getElem hi
      have n1 := filter_len (p := onF F fun f => selT F B r day w f && sonT r f) (k := i)
      have n2 := filter_len (p := onF F fun f => selT F B r day w f && !sonT r f) (k := i)
      refine ⟨_, _, _, rfl, steps_turn hw ei (by rw [List.length_map]; omega) (by rw [List.length_map]; omega), rfl, ?_⟩
      rw [filter_snoc, filter_snoc]
      have o1 : onF F (fun f => selT F B r day w f && sonT r f) i = (selT F B r day w F[i] && sonT r F[i]) := by unfold onF; rw [ei]
      have o2 : onF F (fun f => selT F B r day w f && !sonT r f) i = (selT F B r day w F[i] && !sonT r F[i]) := by unfold onF; rw [ei]
      rw [o1, o2]
      congr 2
      · split <;> simp
      · congr 1; split <;> simp)
  rw [List.length_range] at e
  have n1 := filter_len (p := onF F fun f => selT F B r day w f && sonT r f) (k := F.length)
  have n2 := filter_len (p := onF F fun f => selT F B r day w f && !sonT r f) (k := F.length)
  simp only [F_steps, runF, B_steps, startD]
  simp [sSeq, sSet, eCall, aCons, aNil, eVar, cs, eOwn, eLst]
  rw [e]
  simp [sRet, eOp, eVar, addD]
  rw [if_pos (by omega)]
  simp
theorem steps_eq {F : List Fo} {B : List Nw} {r : Rw} {day : Int} {w : Nat} (hr : r.wed = 0 ∨ r.wed = 1) :
    (List.range F.length).filter (onF F fun f => selT F B r day w f && sonT r f) ++ (List.range F.length).filter (onF F fun f => selT F B r day w f && !sonT r f) = stepsOf F B r day w := by
  have base : ∀ i, (!decide (r.men = "only") || manP F w) = true → onF F (fun f => selT F B r day w f) i = (kidP F w i && ccP F r day (cutFrom B day w) i) := fun i h => by
    unfold onF selT cntS kidP ccP
    cases F[i]? with
    | none => rfl
    | some f =>
      simp only [h, Bool.and_true]
      rw [Bool.eq_iff_iff]
      simp only [Bool.and_eq_true, Bool.or_eq_true, decide_eq_true_eq, beq_iff_eq, Bool.not_eq_true', Bool.or_eq_false_iff, decide_eq_false_iff_not, Bool.and_eq_false_iff, Bool.not_eq_false']
      constructor
      · rintro ⟨h1, h2, h3, h4⟩
        refine ⟨h1.imp Eq.symm Eq.symm, ⟨by omega, ?_⟩, h4⟩
        rcases h3 with h3 | h3
        · exact .inl (by omega)
        · exact .inr h3
      · rintro ⟨h1, ⟨h2, h3⟩, h4⟩
        refine ⟨h1.imp Eq.symm Eq.symm, by omega, ?_, h4⟩
        rcases h3 with h3 | h3
        · exact .inl (by omega)
        · exact .inr h3
  unfold stepsOf
  split
  · rename_i h
    have z : ∀ f, selT F B r day w f = false := fun f => by
      unfold selT cntS
      simp [h.1, h.2]
    have z1 : ∀ (q : Fo → Bool) (i : Nat), onF F (fun f => selT F B r day w f && q f) i = false := fun q i => by
      unfold onF
      cases F[i]? with
      | none => rfl
      | some f => simp [z]
    have z2 : ∀ q : Fo → Bool, (List.range F.length).filter (onF F fun f => selT F B r day w f && q f) = [] := fun q => by
      rw [List.filter_eq_nil_iff]
      intro i _
      rw [z1 q i]; simp
    rw [z2 (sonT r), z2 (fun f => !sonT r f)]; rfl
  · rename_i h
    have h' : (!decide (r.men = "only") || manP F w) = true := by
      by_cases h1 : r.men = "only"
      · cases h2 : manP F w
        · exact absurd ⟨h1, h2⟩ h
        · simp
      · simp [h1]
    split
    · rename_i hf
      unfold foundOf kids
      simp only [List.filter_filter]
      congr 1
      · refine List.filter_congr fun i _ => ?_
        have b := base i h'
        unfold onF at b ⊢
        unfold manP sonT
        cases hF : F[i]? with
        | none => simp
        | some f =>
          rw [hF] at b
          simp only at b ⊢
          rw [b]
          simp [hf]
          cases kidP F (↑w) i <;> cases ccP F r day (cutFrom B day ↑w) i <;> simp
      · refine List.filter_congr fun i _ => ?_
        have b := base i h'
        unfold onF at b ⊢
        unfold manP sonT
        cases hF : F[i]? with
        | none => rw [hF] at b; simp only at b ⊢; rw [Bool.and_comm (kidP F (↑w) i)] at b; simp [← b]
        | some f =>
          rw [hF] at b
          simp only at b ⊢
          rw [b]
          simp [hf]
          cases kidP F (↑w) i <;> cases ccP F r day (cutFrom B day ↑w) i <;> simp
    · rename_i hf
      have e1 : (List.range F.length).filter (onF F fun f => selT F B r day w f && sonT r f) = [] := by
        rw [List.filter_eq_nil_iff]
        intro i _
        unfold onF sonT
        cases F[i]? with
        | none => simp
        | some f => simp [hf]
      rw [e1, List.nil_append]
      unfold foundOf kids
      rw [List.filter_filter]
      refine List.filter_congr fun i _ => ?_
      have b := base i h'
      unfold onF at b ⊢
      unfold sonT
      cases hF : F[i]? with
      | none => rw [hF] at b; simp only at b ⊢; rw [Bool.and_comm]; exact b
      | some f =>
        rw [hF] at b
        simp only at b ⊢
        rw [b]
        simp [hf, Bool.and_comm]
theorem steps_spec {F : List Fo} {B : List Nw} {r : Rw} {day : Int} {w : Nat} {m : Mem} (hF : F.length ≤ 1000) (hB : ∀ n ∈ B, NwOk F n) (hl : B.length ≤ 1000) (hw : w < F.length) (hr : r.wed = 0 ∨ r.wed = 1) :
    F_steps [.v (hD F), .v (bD B), .v r.d, .v (.int day), .v (nD w)] m = some (.f (.lst ((stepsOf F B r day w).map nD)), m) := by
  rw [steps_raw hF hB hl hw, steps_eq hr]
end Ly
end
section
set_option Elab.async false
set_option linter.all false
set_option maxRecDepth 100000
set_option maxHeartbeats 4000000
/-! The program's news and steps, as they stand since 956b30c: dicts of numbers. -/
namespace Ls
open PySem L2 Pw Pv Lx
/-! ### dicts of numbers -/
section
variable {κ : Type} [DecidableEq κ]
theorem val_put {kvs : List (κ × D)} {k k' : κ} {d : D} : valX (putX kvs k d) k' = if k' = k then some d else valX kvs k' := by
  unfold putX
  by_cases h : (kvs.any fun kv => decide (kv.1 = k)) = true
  · rw [if_pos h]
    induction kvs with
    | nil => simp at h
    | cons p kvs ih =>
      rw [List.map_cons]
      by_cases hp : p.1 = k
      · rw [if_pos hp]
        by_cases hk : k' = k
        · subst hk; simp [valX, List.find?_cons, hp]
        · have hne : ¬ k = k' := fun z => hk z.symm
          rw [if_neg hk]
          have rest : ∀ l : List (κ × D), valX (l.map fun kv => if kv.1 = k then (kv.1, d) else kv) k' = valX l k' := by
            intro l
            induction l with
            | nil => rfl
            | cons q l ih =>
              rw [List.map_cons]
              unfold valX at ih ⊢
              rw [List.find?_cons, List.find?_cons]
              by_cases hq : q.1 = k
              · have h2 : ¬ q.1 = k' := fun z => hk (z.symm.trans hq)
                simp only [if_pos hq, decide_eq_false h2]
                exact ih
              · simp only [if_neg hq]
                by_cases h2 : q.1 = k'
                · simp [h2]
                · simp only [decide_eq_false h2]; exact ih
          unfold valX
          rw [List.find?_cons, List.find?_cons]
          have h2 : ¬ p.1 = k' := fun z => hk (z.symm.trans hp)
          simp only [decide_eq_false h2]
          exact rest kvs
      · rw [if_neg hp]
        have h' : (kvs.any fun kv => decide (kv.1 = k)) = true := by simpa [hp] using h
        have := ih h'
        unfold valX at this ⊢
        rw [List.find?_cons, List.find?_cons]
        by_cases h2 : p.1 = k'
        · have : ¬ k' = k := fun z => hp (h2.trans z)
          simp [h2, this]
        · simp only [decide_eq_false h2]; exact this
  · rw [if_neg h]
    have hn : ∀ p ∈ kvs, ¬ p.1 = k := fun p hp z => h (List.any_eq_true.mpr ⟨p, hp, by simpa using z⟩)
    unfold valX
    rw [List.find?_append]
    by_cases hk : k' = k
    · subst hk
      rw [List.find?_eq_none.mpr (fun p hp => by simpa using hn p hp)]
      simp
    · rw [if_neg hk]
      have : ¬ k = k' := fun z => hk z.symm
      cases e : kvs.find? fun kv => decide (kv.1 = k') with
      | none => simp [this]
      | some p => simp
theorem put_len {kvs : List (κ × D)} {k : κ} {d : D} : (putX kvs k d).length ≤ kvs.length + 1 := by
  unfold putX
  split <;> simp
end
def dI (L : List (Int × Int)) : List (Key × D) := L.map fun p => (Sum.inl p.1, D.int p.2)
def getI (L : List (Int × Int)) (w : Int) : Option Int := (L.find? fun p => decide (p.1 = w)).map (·.2)
def putI (L : List (Int × Int)) (w x : Int) : List (Int × Int) := if (L.any fun p => decide (p.1 = w)) = true then L.map (fun p => if p.1 = w then (p.1, x) else p) else L ++ [(w, x)]
@[simp] theorem val_dI {w : Int} : ∀ {L : List (Int × Int)}, valX (dI L) (Sum.inl w) = (getI L w).map D.int
  | [] => rfl
  | p :: L => by
    have ih := val_dI (w := w) (L := L)
    unfold dI valX getI at ih ⊢
    rw [List.map_cons, List.find?_cons, List.find?_cons]
    by_cases h : p.1 = w
    · simp [h]
    · have : ¬ (Sum.inl p.1 : Key) = Sum.inl w := fun z => h (Sum.inl.inj z)
      simp only [decide_eq_false h, decide_eq_false this]
      exact ih
@[simp] theorem put_dI {L : List (Int × Int)} {w x : Int} : putX (dI L) (Sum.inl w) (D.int x) = dI (putI L w x) := by
  unfold putX putI dI
  have : (L.map fun p => ((Sum.inl p.1 : Key), D.int p.2)).any (fun kv => decide (kv.1 = Sum.inl w)) = L.any fun p => decide (p.1 = w) := by
    rw [List.any_map]
    congr 1
    funext p
    simp
  rw [this]
  split
  · rw [List.map_map, List.map_map]
    refine List.map_congr_left fun p _ => ?_
    by_cases h : p.1 = w
    · simp [h]
    · have : ¬ (Sum.inl p.1 : Key) = Sum.inl w := fun z => h (Sum.inl.inj z)
      simp [h]
  · simp
theorem get_put {L : List (Int × Int)} {w w' x : Int} : getI (putI L w x) w' = if w' = w then some x else getI L w' := by
  have h := val_put (kvs := dI L) (k := Sum.inl w) (k' := Sum.inl w') (d := D.int x)
  rw [put_dI, val_dI, val_dI] at h
  by_cases e : w' = w
  · subst e
    rw [if_pos rfl] at h ⊢
    cases g : getI (putI L w' x) w' with
    | none => rw [g] at h; cases h
    | some y => rw [g] at h; simpa using h
  · rw [if_neg e]
    rw [if_neg (fun z => e (Sum.inl.inj z))] at h
    cases g : getI (putI L w x) w' with
    | none =>
      rw [g] at h
      cases g2 : getI L w' with
      | none => rfl
      | some y => rw [g2] at h; cases h
    | some y =>
      rw [g] at h
      cases g2 : getI L w' with
      | none => rw [g2] at h; cases h
      | some z => rw [g2] at h; simpa using h
theorem putI_len {L : List (Int × Int)} {w x : Int} : (putI L w x).length ≤ L.length + 1 := by
  unfold putI
  split <;> simp
@[simp] theorem dI_len {L : List (Int × Int)} : (dI L).length = L.length := by simp [dI]
@[simp] theorem key_i {i : Int} : keyOf (.int i) = some (.inl i) := rfl
@[simp] theorem out_newK {m : Mem} {kvs : List (Key × D)} : outW m.length (.r m.length) (m ++ [.dk kvs]) = some (.f (.dk kvs), m) := by simp [outW, moD]
@[simp] theorem own_k {kvs : List (Key × D)} {m : Mem} : ownW (.f (.dk kvs)) m = some (.r m.length, m ++ [.dk kvs]) := rfl
@[simp] theorem tgt4 {n : Nw} {i j k l : Nat} {ρ : Pw.Env} : gT [gN i, gN j, gN k, gN l] n.d ρ = some ((((ρ.set i (some (.v (.str n.word)))).set j (some (.v (.int n.day)))).set k (some (.v (.int n.who)))).set l (some (.v (.int n.other)))) := rfl
/-- a loop whose turns are a function, with their number -/
theorem for_foldN {S α : Type} {src : Ix} {t : Gx} {b : Sx} {dd : List Nat} (L : List α) (g : α → D) (E : S → Pw.Env) (M : S → Mem) (stp : S → α → S) (P : Nat → S → Prop) (s0 : S) (hs : src (E s0) (M s0) = some (.seq (L.map g), M s0)) (h0 : P 0 s0)
    (step : ∀ k a, L[k]? = some a → ∀ s, P k s → P (k + 1) (stp s a) ∧ ∃ ρ1 ρ2, t (g a) (E s) = some ρ1 ∧ b ρ1 (M s) = some (.nx, ρ2, M (stp s a)) ∧ wipeD ρ2 dd = E (stp s a)) :
    sFor src t b dd (E s0) (M s0) = some (.nx, E (L.foldl stp s0), M (L.foldl stp s0)) ∧ P L.length (L.foldl stp s0) := by
  have gen : ∀ (l : List α) (k : Nat) (s : S), (∀ i a, l[i]? = some a → L[k + i]? = some a) → P k s → forL (.seq (L.map g)) (L.map g) t b dd (l.map g) (E s) (M s) = some (.nx, E (l.foldl stp s), M (l.foldl stp s)) ∧ P (k + l.length) (l.foldl stp s) := by
    intro l
    induction l with
    | nil => intro k s _ hp; exact ⟨by simp [forL], hp⟩
    | cons a l ih =>
      intro k s hl hp
      obtain ⟨p1, ρ1, ρ2, q1, q2, q3⟩ := step k a (hl 0 a rfl) s hp
      obtain ⟨r1, r2⟩ := ih (k + 1) (stp s a) (fun i x hx => by
        have := hl (i + 1) x (by simpa using hx)
        rwa [show k + (i + 1) = k + 1 + i by omega] at this) p1
      refine ⟨?_, by rw [List.length_cons, show k + (l.length + 1) = k + 1 + l.length by omega]; exact r2⟩
      rw [List.map_cons]
      unfold forL
      rw [if_pos (by simp)]
      simp only [q1, q2, Option.bind_some, q3]
      exact r1
  obtain ⟨e, p⟩ := gen L 0 s0 (fun i a h => by simpa using h) h0
  refine ⟨?_, by simpa using p⟩
  unfold sFor
  rw [hs]
  simp only [Option.bind_some, items_seq]
  exact e
noncomputable def E_parents_of_1 : Ex := eLc (iSeq (eSlc (eOp ixD (eVar 0) (eVar 1)) (oSome (eC (.int 1))) (oSome (eC (.int 3))))) (gN 2) (tVal (eOp (eqD true) (eVar 2) (eUn negD (eC (.int 1))))) (eVar 2) [2]
noncomputable def B_parents_of : Sx := (sRet E_parents_of_1)
noncomputable def F_parents_of : Fx := runF 2 3 B_parents_of
noncomputable def L_backs_by_1 : Sx := (sIf (tAnd' (tVal (eOp (eqD false) (eVar 3) (eC (.str "returns")))) (tVal (eOp (cmpD leI) (eVar 4) (eVar 1)))) (sPutK (eVar 2) (eVar 5) (eCB (two maxI) (aCons (eVar 4) (aCons (eGet (eVar 2) (eVar 5) (eUn negD (eC (.int 1)))) aNil)))) sNil)
noncomputable def B_backs_by : Sx := (sSeq (sSet 2 (eOwn eNewK)) (sSeq (sFor (iSeq (eVar 0)) (gT [gN 3, gN 4, gN 5, gN 6]) L_backs_by_1 [3, 4, 5, 6]) (sRet (eVar 2))))
noncomputable def F_backs_by : Fx := runF 2 7 B_backs_by
noncomputable def E_news_behind_back_1 : Ex := eLc (iSeq (eVar 0)) (gN 4) (tAnd' (tVal (eOp (inD false) (eOp ixD (eVar 4) (eC (.int 0))) (eVar 2))) (tVal (eChain (cmpD ltI) (cmpD leI) (eGet (eVar 3) (eOp ixD (eVar 4) (eC (.int 2))) (eUn negD (eC (.int 1)))) (eOp ixD (eVar 4) (eC (.int 1))) (eVar 1)))) (eVar 4) [4]
noncomputable def B_news_behind_back : Sx := (sSeq (sSet 3 (eCall F_backs_by (aCons (eVar 0) (aCons (eVar 1) aNil)))) (sRet E_news_behind_back_1))
noncomputable def F_news_behind_back : Fx := runF 3 5 B_news_behind_back
noncomputable def L_cuts_by_1 : Sx := (sPutK (eVar 2) (eVar 5) (eCB (two minI) (aCons (eVar 4) (aCons (eGet (eVar 2) (eVar 5) (eVar 4)) aNil))))
noncomputable def B_cuts_by : Sx := (sSeq (sSet 2 (eOwn eNewK)) (sSeq (sFor (iSeq (eCall F_news_behind_back (aCons (eVar 0) (aCons (eVar 1) (aCons (eTup (aCons (eC (.str "cuts")) aNil)) aNil))))) (gT [gN 3, gN 4, gN 5, gN 6]) L_cuts_by_1 [3, 4, 5, 6]) (sRet (eVar 2))))
noncomputable def F_cuts_by : Fx := runF 2 7 B_cuts_by
noncomputable def E_by_rank_1 : Ex := eLc (iSeq (eVar 2)) (gN 4) (tNot' (tTru (eCall F_is_man (aCons (eVar 0) (aCons (eVar 4) aNil))))) (eVar 4) [4]
noncomputable def E_by_rank_2 : Ex := eLc (iSeq (eVar 2)) (gN 4) (tTru (eCall F_is_man (aCons (eVar 0) (aCons (eVar 4) aNil)))) (eVar 4) [4]
noncomputable def B_by_rank : Sx := (sSeq (sSet 2 (eUn lrgD (eCB lenD (aCons (eVar 0) aNil)))) (sSeq (sIf (tVal (eOp (eqD true) (eOp ixD (eVar 1) (eC (.int 1))) (eC (.str "first")))) (sRet (eVar 2)) sNil) (sSeq (sSet 3 E_by_rank_2) (sRet (eOp addD (eVar 3) E_by_rank_1)))))
noncomputable def F_by_rank : Fx := runF 2 5 B_by_rank
noncomputable def B_child_counts : Sx := (sRet (eAnd (eOp (cmpD leI) (eCall F_day_of (aCons (eVar 0) (aCons (eVar 3) aNil))) (eVar 2)) (eOr (eOp (eqD false) (eOp ixD (eVar 1) (eC (.int 2))) (eC (.int 0))) (eCall F_is_wed (aCons (eVar 0) (aCons (eVar 3) aNil))))))
noncomputable def F_child_counts : Fx := runF 4 4 B_child_counts
noncomputable def B_parent_counts : Sx := (sSeq (sIf (tAnd' (tVal (eOp (eqD false) (eOp ixD (eVar 1) (eC (.int 1))) (eC (.str "only")))) (tNot' (tTru (eCall F_is_man (aCons (eVar 0) (aCons (eVar 3) aNil)))))) (sRet (eC (.bl false))) sNil) (sRet (eOr (eOp (inKD true) (eVar 3) (eVar 2)) (eOp (cmpD gtI) (eOp ixKD (eVar 2) (eVar 3)) (eCall F_day_of (aCons (eVar 0) (aCons (eVar 4) aNil)))))))
noncomputable def F_parent_counts : Fx := runF 5 5 B_parent_counts
noncomputable def L_all_steps_1 : Sx := (sIf (tTru (eCall F_parent_counts (aCons (eVar 0) (aCons (eVar 2) (aCons (eVar 4) (aCons (eVar 8) (aCons (eVar 6) aNil))))))) (sDrop (eMt isLst appD (eIxR (eVar 5) (eVar 8)) (aCons (eVar 6) aNil))) sNil)
noncomputable def L_all_steps_2 : Sx := (sFog [8] (sIf (tTru (eCall F_child_counts (aCons (eVar 0) (aCons (eVar 2) (aCons (eVar 3) (aCons (eVar 6) aNil)))))) (sFor (iSeq (eCall F_parents_of (aCons (eVar 0) (aCons (eVar 6) aNil)))) (gN 8) L_all_steps_1 [8]) sNil))
noncomputable def B_all_steps : Sx := (sSeq (sSet 4 (eCall F_cuts_by (aCons (eVar 1) (aCons (eVar 3) aNil)))) (sSeq (sSet 5 (eLl (iSeq (eVar 0)))) (sSeq (sFor (iSeq (eCall F_by_rank (aCons (eVar 0) (aCons (eVar 2) aNil)))) (gN 6) L_all_steps_2 [6, 8]) (sRet (eVar 5)))))
noncomputable def F_all_steps : Fx := runF 4 9 B_all_steps
noncomputable def B_founder_is_born : Sx := (sRet (eOp (cmpD leI) (eCall F_day_of (aCons (eVar 0) (aCons (eOp ixD (eVar 1) (eC (.int 0))) aNil))) (eVar 2)))
noncomputable def F_founder_is_born : Fx := runF 3 3 B_founder_is_born
noncomputable def L_lines_many_1 : Sx := (sAug (fun i j => i + j) (eVar 6) (eVar 8) (eOp ixD (eVar 6) (eVar 7)))
noncomputable def L_lines_many_2 : Sx := (sFor (iSeq (eOp ixD (eVar 5) (eVar 7))) (gN 8) L_lines_many_1 [8])
noncomputable def B_lines_many : Sx := (sSeq (sIf (tNot' (tTru (eCall F_founder_is_born (aCons (eVar 0) (aCons (eVar 2) (aCons (eVar 3) aNil)))))) (sRet (eC (.int 0))) sNil) (sSeq (sSet 5 (eCall F_all_steps (aCons (eVar 0) (aCons (eVar 1) (aCons (eVar 2) (aCons (eVar 3) aNil)))))) (sSeq (sSet 6 (eOwn (eOp mulD (eLst (aCons (eC (.int 0)) aNil)) (eCB lenD (aCons (eVar 0) aNil))))) (sSeq (sPut (eVar 6) (eOp ixD (eVar 2) (eC (.int 0))) (eC (.int 1))) (sSeq (sFor (iRngB (aCons (eOp ixD (eVar 2) (eC (.int 0))) (aCons (eVar 4) aNil))) (gN 7) L_lines_many_2 [7, 8]) (sRet (eOp ixD (eVar 6) (eVar 4))))))))
noncomputable def F_lines_many : Fx := runF 5 9 B_lines_many
/-! ### the backs -/
def backStp (day : Int) (L : List (Int × Int)) (n : Nw) : List (Int × Int) := if n.word = "returns" ∧ n.day ≤ day then putI L n.who (max n.day ((getI L n.who).getD (-1))) else L
def backsL (B : List Nw) (day : Int) : List (Int × Int) := B.foldl (backStp day) []
theorem backStp_len {day : Int} {L : List (Int × Int)} {n : Nw} : (backStp day L n).length ≤ L.length + 1 := by
  unfold backStp
  split
  · exact putI_len
  · omega
theorem fold_len {α β : Type} {f : List α → β → List α} (h : ∀ L b, (f L b).length ≤ L.length + 1) : ∀ (l : List β) (L : List α), (l.foldl f L).length ≤ L.length + l.length
  | [], L => by simp
  | b :: l, L => by
    rw [List.foldl_cons]
    have h1 := fold_len h l (f L b)
    have h2 := h L b
    simp only [List.length_cons]
    omega
theorem at_new {m : Mem} {mo : MO} : (m ++ [mo])[m.length]? = some mo := by simp
theorem back_turn {B : List Nw} {day : Int} {m : Mem} {L : List (Int × Int)} {n : Nw} (hl : L.length ≤ 1000) :
    L_backs_by_1 [some (.v (bD B)), some (.v (.int day)), some (.r m.length), some (.v (.str n.word)), some (.v (.int n.day)), some (.v (.int n.who)), some (.v (.int n.other))] (m ++ [.dk (dI L)]) =
      some (.nx, [some (.v (bD B)), some (.v (.int day)), some (.r m.length), some (.v (.str n.word)), some (.v (.int n.day)), some (.v (.int n.who)), some (.v (.int n.other))], m ++ [.dk (dI (backStp day L n))]) := by
  have lim : L.length < 1000000 := by omega
  have gd : (getI L n.who).getD (-1) = (getI L n.who).getD (-1) := rfl
  unfold L_backs_by_1 backStp
  by_cases h1 : n.word = "returns"
  · by_cases h2 : n.day ≤ day
    · have gv : ((getI L n.who).map D.int).getD (.int (-1)) = .int ((getI L n.who).getD (-1)) := by cases getI L n.who <;> rfl
      simp [sIf, tAnd', tVal, eOp, eVar, eC, h1, h2, sPutK, eCB, aCons, aNil, eGet, eUn, gv, lim]
    · simp [sIf, tAnd', tVal, eOp, eVar, eC, h1, h2, sNil]
  · simp [sIf, tAnd', tVal, eOp, eVar, eC, h1, sNil]
theorem backs_by_spec {B : List Nw} {day : Int} {m : Mem} (hl : B.length ≤ 1000) : F_backs_by [.v (bD B), .v (.int day)] m = some (.f (.dk (dI (backsL B day))), m) := by
  have lp := (for_foldN (src := iSeq (eVar 0)) (t := gT [gN 3, gN 4, gN 5, gN 6]) (b := L_backs_by_1) (dd := [3, 4, 5, 6]) B Nw.d (fun _ : List (Int × Int) => [some (.v (bD B)), some (.v (.int day)), some (.r m.length), none, none, none, none]) (fun L : List (Int × Int) => m ++ [MO.dk (dI L)])
    (backStp day) (fun k L => L.length ≤ k) [] (by simp [iSeq, eVar]) (by simp) (fun k n hn L hL => ⟨Nat.le_trans backStp_len (by omega), _, _, rfl, back_turn (B := B) (m := m) (L := L) (n := n) (day := day) (by have := (List.getElem?_eq_some_iff.mp hn).1; omega), rfl⟩)).1
  simp only [F_backs_by, runF, B_backs_by, startD]
  simp only [show dI [] = [] from rfl] at lp
  simp [sSeq, sSet, eOwn, eNewK, lp, sRet, eVar]
  rfl
end Ls
end
section
set_option Elab.async false
set_option linter.all false
set_option maxRecDepth 100000
set_option maxHeartbeats 4000000
namespace Ls
open PySem L2 Pw Pv Lx
theorem back_fold {day who : Int} : ∀ (l : List Nw) (L : List (Int × Int)), getI (l.foldl (backStp day) L) who = ((l.filter (dayP day who "returns")).map Nw.day).foldl (fun o d => some (max d (o.getD (-1)))) (getI L who)
  | [], L => rfl
  | n :: l, L => by
    rw [List.foldl_cons, back_fold l, List.filter_cons]
    unfold dayP backStp
    by_cases h1 : n.word = "returns"
    · by_cases h2 : n.day ≤ day
      · by_cases h3 : n.who = who
        · subst h3
          simp [h1, h2, get_put]
        · have h4 : ¬ who = n.who := fun z => h3 z.symm
          simp [h1, h2, h3, get_put, h4]
      · simp [h1, h2]
    · simp [h1]
theorem max_fold : ∀ (l : List Int) (o : Option Int), (∀ d ∈ l, 0 ≤ d) → l.foldl (fun o d => some (max d (o.getD (-1)))) o = l.foldl bst_max o
  | [], o, _ => rfl
  | d :: l, o, h => by
    rw [List.foldl_cons, List.foldl_cons, max_fold l _ fun x hx => h x (List.mem_cons_of_mem _ hx)]
    congr 1
    have h0 := h d List.mem_cons_self
    cases o with
    | none => simp only [Option.getD_none, bst_max]; congr 1; omega
    | some y =>
      simp only [Option.getD_some, bst_max]
      split
      · congr 1; omega
      · congr 1; omega
theorem back_val {B : List Nw} (hB : ∀ n ∈ B, 0 ≤ n.day) (day who : Int) : (getI (backsL B day) who).getD (-1) = backOf B day who := by
  unfold backsL backOf daysOf
  rw [back_fold, max_fold]
  · rfl
  · intro d hd
    obtain ⟨n, hn, rfl⟩ := List.mem_map.mp hd
    exact hB n (List.mem_filter.mp hn).1
/-! ### news behind the back -/
def nbP (B : List Nw) (day : Int) (ws : List Str) (n : Nw) : Bool := decide (n.word ∈ ws) && (decide (backOf B day n.who < n.day) && decide (n.day ≤ day))
def sD (ws : List Str) : D := .tup (ws.map .str)
theorem in_words {x : Str} {ws : List Str} : inD false (.str x) (sD ws) = some (.v (.bl (decide (x ∈ ws)))) := by
  have hm : ∀ l : List Str, (l.map D.str).mapM sc = some (l.map V.str) := by
    intro l
    induction l with
    | nil => rfl
    | cons a l ih => rw [List.map_cons, List.mapM_cons, ih]; rfl
  have hi : ∀ l : List Str, inV (V.str x) (l.map V.str) = decide (x ∈ l) := by
    intro l
    induction l with
    | nil => rfl
    | cons a l ih =>
      unfold inV at ih ⊢
      rw [List.map_cons, List.any_cons, ih]
      by_cases h : x = a
      · subst h; simp [eqV]
      · have : ¬ a = x := fun z => h z.symm
        simp [eqV, h, this]
  unfold inD sD
  simp only [itmD, Option.bind_some]
  unfold inB
  rw [hm]
  simp only [sc, Option.bind_some, hi, Bool.bne_false]
theorem nb_spec {B : List Nw} {day : Int} {ws : List Str} {m : Mem} (hB : ∀ n ∈ B, 0 ≤ n.day) (hl : B.length ≤ 1000) :
    F_news_behind_back [.v (bD B), .v (.int day), .v (sD ws)] m = some (.f (.lst ((B.filter (nbP B day ws)).map Nw.d)), m) := by
  have lc : E_news_behind_back_1 [some (.v (bD B)), some (.v (.int day)), some (.v (sD ws)), some (.v (.dk (dI (backsL B day)))), none] m = some (.f (.lst ((B.filter (nbP B day ws)).map Nw.d)), m) := by
    refine lc_map B Nw.d (nbP B day ws) Nw.d (by simp [iSeq, eVar]) (fun n hn => ⟨_, rfl, ?_, fun _ => ⟨.v n.d, by simp [eVar], rfl⟩⟩) (by omega)
    have gv : ((getI (backsL B day) n.who).map D.int).getD (.int (-1)) = .int (backOf B day n.who) := by
      rw [← back_val hB]; cases getI (backsL B day) n.who <;> rfl
    unfold nbP
    by_cases h1 : n.word ∈ ws <;> by_cases h2 : backOf B day n.who < n.day <;> simp [tAnd', tVal, eOp, eVar, eC, in_words, eChain, eGet, eUn, gv, h1, h2]
  simp only [F_news_behind_back, runF, B_news_behind_back, startD]
  simp [sSeq, sSet, eCall, aCons, aNil, eVar, backs_by_spec hl, sRet, lc]
/-! ### the cuts -/
def cutStp (L : List (Int × Int)) (n : Nw) : List (Int × Int) := putI L n.who (min n.day ((getI L n.who).getD n.day))
def cutsL (B : List Nw) (day : Int) : List (Int × Int) := (B.filter (nbP B day ["cuts"])).foldl cutStp []
theorem cut_turn' {B : List Nw} {day : Int} {m : Mem} {L : List (Int × Int)} {n : Nw} (hl : L.length ≤ 1000) :
    L_cuts_by_1 [some (.v (bD B)), some (.v (.int day)), some (.r m.length), some (.v (.str n.word)), some (.v (.int n.day)), some (.v (.int n.who)), some (.v (.int n.other))] (m ++ [.dk (dI L)]) =
      some (.nx, [some (.v (bD B)), some (.v (.int day)), some (.r m.length), some (.v (.str n.word)), some (.v (.int n.day)), some (.v (.int n.who)), some (.v (.int n.other))], m ++ [.dk (dI (cutStp L n))]) := by
  have lim : L.length < 1000000 := by omega
  unfold L_cuts_by_1 cutStp
  have gv : ((getI L n.who).map D.int).getD (.int n.day) = .int ((getI L n.who).getD n.day) := by cases getI L n.who <;> rfl
  simp [eOp, eVar, eC, sPutK, eCB, aCons, aNil, eGet, eUn, gv, lim]
theorem cuts_by_spec {B : List Nw} {day : Int} {m : Mem} (hB : ∀ n ∈ B, 0 ≤ n.day) (hl : B.length ≤ 1000) : F_cuts_by [.v (bD B), .v (.int day)] m = some (.f (.dk (dI (cutsL B day))), m) := by
  have fl : (B.filter (nbP B day ["cuts"])).length ≤ 1000 := Nat.le_trans (List.length_filter_le _ _) hl
  have nb : ∀ m, F_news_behind_back [.v (bD B), .v (.int day), .v (.tup [.str "cuts"])] m = _ := fun m => nb_spec (ws := ["cuts"]) (day := day) (m := m) hB hl
  have lp := (for_foldN (src := iSeq (eCall F_news_behind_back (aCons (eVar 0) (aCons (eVar 1) (aCons (eTup (aCons (eC (.str "cuts")) aNil)) aNil))))) (t := gT [gN 3, gN 4, gN 5, gN 6]) (b := L_cuts_by_1) (dd := [3, 4, 5, 6]) (B.filter (nbP B day ["cuts"])) Nw.d (fun _ : List (Int × Int) => [some (.v (bD B)), some (.v (.int day)), some (.r m.length), none, none, none, none]) (fun L : List (Int × Int) => m ++ [MO.dk (dI L)])
    cutStp (fun k L => L.length ≤ k) [] (by simp [iSeq, eVar, eCall, aCons, aNil, eTup, eC, nb]) (by simp) (fun k n hn L hL => ⟨Nat.le_trans putI_len (by omega), _, _, rfl, cut_turn' (B := B) (m := m) (L := L) (n := n) (day := day) (by have := (List.getElem?_eq_some_iff.mp hn).1; omega), rfl⟩)).1
  simp only [F_cuts_by, runF, B_cuts_by, startD]
  simp only [show dI [] = [] from rfl] at lp
  simp [sSeq, sSet, eOwn, eNewK, lp, sRet, eVar]
  rfl
theorem cut_fold {who : Int} : ∀ (l : List Nw) (L : List (Int × Int)), getI (l.foldl cutStp L) who = ((l.filter fun n => decide (n.who = who)).map Nw.day).foldl bst_min (getI L who)
  | [], L => rfl
  | n :: l, L => by
    rw [List.foldl_cons, cut_fold l, List.filter_cons]
    unfold cutStp
    by_cases h3 : n.who = who
    · subst h3
      rw [get_put, if_pos rfl, if_pos (by simp)]
      rw [List.map_cons, List.foldl_cons]
      congr 1
      cases e : getI L n.who with
      | none => simp [bst_min]
      | some y =>
        simp only [Option.getD_some, bst_min]
        split
        · congr 1; omega
        · congr 1; omega
    · have h4 : ¬ who = n.who := fun z => h3 z.symm
      rw [get_put, if_neg h4, if_neg (by simpa using h3)]
theorem behind_eq (B : List Nw) (day who : Int) : ((B.filter (nbP B day ["cuts"])).filter fun n => decide (n.who = who)).map Nw.day = behind B day who "cuts" := by
  unfold behind daysOf
  rw [List.filter_map, List.filter_filter, List.filter_filter]
  congr 1
  refine List.filter_congr fun n hn => ?_
  unfold nbP dayP
  simp only [Function.comp_def, List.mem_singleton]
  by_cases h : n.who = who
  · subst h
    by_cases h1 : n.word = "cuts" <;> by_cases h2 : n.day ≤ day <;> simp [h1, h2]
  · simp [h]
theorem cut_val {B : List Nw} (hB : ∀ n ∈ B, 0 ≤ n.day) (day who : Int) : (getI (cutsL B day) who = none ∧ cutFrom B day who = -1) ∨ (getI (cutsL B day) who = some (cutFrom B day who) ∧ 0 ≤ cutFrom B day who) := by
  have e : getI (cutsL B day) who = (behind B day who "cuts").foldl bst_min none := by
    unfold cutsL
    rw [cut_fold, behind_eq]; rfl
  have g : ∀ d ∈ behind B day who "cuts", 0 ≤ d := fun d hd => by
    have := (List.mem_filter.mp hd).1
    obtain ⟨n, hn, rfl⟩ := List.mem_map.mp this
    exact hB n (List.mem_filter.mp hn).1
  unfold cutFrom
  rw [e]
  cases h : behind B day who "cuts" with
  | nil => exact .inl ⟨rfl, rfl⟩
  | cons a l =>
    obtain ⟨y, h1, h2, h3, h4⟩ := min_some l a
    have h5 : (a :: l).foldl bst_min none = some y := h1
    rw [h5]
    refine .inr ⟨rfl, ?_⟩
    simp only [Option.getD_some]
    rcases h2 with z | z
    · subst z; exact g y (by rw [h]; exact List.mem_cons_self)
    · exact g y (by rw [h]; exact List.mem_cons_of_mem _ z)
end Ls
end
section
set_option Elab.async false
set_option linter.all false
set_option maxRecDepth 100000
set_option maxHeartbeats 4000000
namespace Ls
open PySem L2 Pw Pv Lx
/-! ### parents, ranks, what counts -/
def parL (f : Fo) : List Int := [f.fa, f.mo].filter fun p => !decide (p = -1)
theorem cut13 {a b c d e : D} : cutD [a, b, c, d, e] (some 1) (some 3) = [b, c] := rfl
theorem parents_of_spec {F : List Fo} {i : Nat} {f : Fo} {m : Mem} (h : F[i]? = some f) : F_parents_of [.v (hD F), .v (nD i)] m = some (.f (.lst ((parL f).map .int)), m) := by
  have lc : E_parents_of_1 [some (.v (hD F)), some (.v (nD i)), none] m = some (.f (.lst ((parL f).map .int)), m) := by
    refine lc_map [f.fa, f.mo] D.int (fun p => !decide (p = -1)) D.int ?_ (fun n hn => ⟨_, rfl, ?_, fun _ => ⟨.v (.int n), by simp [eVar], rfl⟩⟩) (by simp)
    · simp [iSeq, eSlc, eOp, eVar, fo_at h, oSome, eC, Fo.d, slcD, cut13]
    · simp [tVal, eOp, eVar, eUn, eC]
  simp only [F_parents_of, runF, B_parents_of, startD]
  simp [sRet, lc]
def rankL (F : List Fo) (r : Rw) : List Nat := if r.men = "first" then (List.range F.length).filter (manP F) ++ (List.range F.length).filter (fun i => !manP F i) else List.range F.length
theorem rankL_lt {F : List Fo} {r : Rw} {i : Nat} (h : i ∈ rankL F r) : i < F.length := by
  unfold rankL at h
  split at h
  · rcases List.mem_append.mp h with z | z <;> exact List.mem_range.mp (List.mem_filter.mp z).1
  · exact List.mem_range.mp h
theorem rankL_len {F : List Fo} {r : Rw} : (rankL F r).length ≤ 2 * F.length := by
  unfold rankL
  split
  · rw [List.length_append]
    have h1 := List.length_filter_le (manP F) (List.range F.length)
    have h2 := List.length_filter_le (fun i => !manP F i) (List.range F.length)
    rw [List.length_range] at h1 h2
    omega
  · rw [List.length_range]; omega
theorem by_rank_spec {F : List Fo} {r : Rw} {m : Mem} (hl : F.length ≤ 1000) : F_by_rank [.v (hD F), .v r.d] m = some (.f (.lst ((rankL F r).map nD)), m) ∨ F_by_rank [.v (hD F), .v r.d] m = some (.v (.lst ((rankL F r).map nD)), m) := by
  have r1 : ixD r.d (.int 1) = some (.v (.str r.men)) := by simp [Rw.d]
  have lr : lrgD (.int (F.length : Int)) = some (.f (.lst ((List.range F.length).map nD))) := by
    unfold lrgD
    simp only
    rw [if_pos ⟨by omega, by omega⟩]
    simp
  have lc1 : ∀ x : Option W, E_by_rank_1 [some (.v (hD F)), some (.v r.d), some (.v (.lst ((List.range F.length).map nD))), x, none] m = some (.f (.lst (((List.range F.length).filter (fun i => !manP F i)).map nD)), m) := fun x => by
    refine lc_map (List.range F.length) nD (fun i => !manP F i) nD (by simp [iSeq, eVar]) (fun i hi => ⟨_, rfl, ?_, fun _ => ⟨.v (nD i), by simp [eVar], rfl⟩⟩) (by simp; omega)
    have hi' := List.mem_range.mp hi
    simp [tNot', tTru, eCall, aCons, aNil, eVar, is_man_spec hi', truD]
  have lc2 : E_by_rank_2 [some (.v (hD F)), some (.v r.d), some (.v (.lst ((List.range F.length).map nD))), none, none] m = some (.f (.lst (((List.range F.length).filter (manP F)).map nD)), m) := by
    refine lc_map (List.range F.length) nD (manP F) nD (by simp [iSeq, eVar]) (fun i hi => ⟨_, rfl, ?_, fun _ => ⟨.v (nD i), by simp [eVar], rfl⟩⟩) (by simp; omega)
    have hi' := List.mem_range.mp hi
    simp [tTru, eCall, aCons, aNil, eVar, is_man_spec hi', truD]
  have hlen : ((List.range F.length).filter (manP F)).length + ((List.range F.length).filter (fun i => !manP F i)).length ≤ 1000000 := by
    have h1 := List.length_filter_le (manP F) (List.range F.length)
    have h2 := List.length_filter_le (fun i => !manP F i) (List.range F.length)
    rw [List.length_range] at h1 h2
    omega
  simp only [F_by_rank, runF, B_by_rank, startD]
  unfold rankL
  by_cases h : r.men = "first"
  · left
    simp [sSeq, sSet, eUn, eCB, aCons, aNil, eVar, lr, sIf, tVal, eOp, r1, eC, h, sNil, lc2, sRet, lc1, hlen]
  · right
    simp [sSeq, sSet, eUn, eCB, aCons, aNil, eVar, lr, sIf, tVal, eOp, r1, eC, h, sRet]
def ccB (F : List Fo) (r : Rw) (day : Int) (i : Nat) : Bool := match F[i]? with
  | some f => decide (f.day ≤ day) && (decide (r.wed = 0) || decide (f.wed = 1))
  | none => false
theorem child_counts_spec {F : List Fo} {r : Rw} {day : Int} {i : Nat} {m : Mem} (hi : i < F.length) : F_child_counts [.v (hD F), .v r.d, .v (.int day), .v (nD i)] m = some (.v (.bl (ccB F r day i)), m) := by
  have h := List.getElem?_eq_getElem hi
  have r2 : ixD r.d (.int 2) = some (.v (.int r.wed)) := by simp [Rw.d]
  simp only [F_child_counts, runF, B_child_counts, startD]
  unfold ccB
  rw [h]
  generalize F[i] = f at h
  by_cases h1 : f.day ≤ day <;> by_cases h2 : r.wed = 0 <;> simp [sRet, eAnd, eOr, tVal, eOp, eCall, aCons, aNil, eVar, eC, day_of_spec h, is_wed_spec h, r2, h1, h2]
def pcB (F : List Fo) (B : List Nw) (r : Rw) (day : Int) (p c : Nat) : Bool := match F[c]? with
  | some f => (!decide (r.men = "only") || manP F p) && (decide (cutFrom B day p = -1) || decide (f.day < cutFrom B day p))
  | none => false
theorem parent_counts_spec {F : List Fo} {B : List Nw} {r : Rw} {day : Int} {p c : Nat} {m : Mem} (hB : ∀ n ∈ B, 0 ≤ n.day) (hp : p < F.length) (hc : c < F.length) :
    F_parent_counts [.v (hD F), .v r.d, .v (.dk (dI (cutsL B day))), .v (nD p), .v (nD c)] m = some (.v (.bl (pcB F B r day p c)), m) := by
  have h := List.getElem?_eq_getElem hc
  have r1 : ixD r.d (.int 1) = some (.v (.str r.men)) := by simp [Rw.d]
  simp only [F_parent_counts, runF, B_parent_counts, startD]
  unfold pcB
  rw [h]
  generalize F[c] = f at h
  rcases cut_val hB day p with ⟨e1, e2⟩ | ⟨e1, e2⟩
  · rw [e2]
    by_cases h1 : r.men = "only"
    · cases h2 : manP F p <;> simp [sSeq, sIf, tAnd', tNot', tTru, tVal, eOp, eVar, eC, r1, h1, eCall, aCons, aNil, is_man_spec hp, h2, truD, sRet, sNil, eOr, inKD, e1]
    · simp [sSeq, sIf, tAnd', tNot', tTru, tVal, eOp, eVar, eC, r1, h1, eCall, aCons, aNil, truD, sRet, sNil, eOr, inKD, e1]
  · have ne : ¬ cutFrom B day p = -1 := by omega
    by_cases h1 : r.men = "only"
    · cases h2 : manP F p <;> simp [sSeq, sIf, tAnd', tNot', tTru, tVal, eOp, eVar, eC, r1, h1, eCall, aCons, aNil, is_man_spec hp, h2, truD, sRet, sNil, eOr, inKD, ixKD, e1, ne, day_of_spec h]
    · simp [sSeq, sIf, tAnd', tNot', tTru, tVal, eOp, eVar, eC, r1, h1, eCall, aCons, aNil, truD, sRet, sNil, eOr, inKD, ixKD, e1, ne, day_of_spec h]
end Ls
end
section
set_option Elab.async false
set_option linter.all false
set_option maxRecDepth 100000
set_option maxHeartbeats 4000000
namespace Ls
open PySem L2 Pw Pv Lx
/-! ### the steps of all -/
def tabL (S : Nat → List Nat) (n : Nat) : Mem := (List.range n).map fun w => MO.lst ((S w).map nD)
def MM (m : Mem) (S : Nat → List Nat) (n : Nat) : Mem := m ++ tabL S n ++ [.rl m.length n]
def upS (S : Nat → List Nat) (p c : Nat) : Nat → List Nat := fun w => if w = p then S w ++ [c] else S w
theorem tabL_len {S : Nat → List Nat} {n : Nat} : (tabL S n).length = n := by simp [tabL]
theorem MM_rl {m : Mem} {S : Nat → List Nat} {n : Nat} : (MM m S n)[m.length + n]? = some (.rl m.length n) := by
  unfold MM
  rw [List.getElem?_append_right (by rw [List.length_append, tabL_len]; omega), List.length_append, tabL_len, Nat.sub_self]; rfl
theorem MM_at {m : Mem} {S : Nat → List Nat} {n p : Nat} (h : p < n) : (MM m S n)[m.length + p]? = some (.lst ((S p).map nD)) := by
  unfold MM
  rw [List.getElem?_append_left (by rw [List.length_append, tabL_len]; omega), List.getElem?_append_right (by omega), Nat.add_sub_cancel_left]
  unfold tabL
  rw [List.getElem?_map, List.getElem?_range h]; rfl
theorem MM_set {m : Mem} {S : Nat → List Nat} {n p c : Nat} (h : p < n) : (MM m S n).set (m.length + p) (.lst ((S p).map nD ++ [nD c])) = MM m (upS S p c) n := by
  unfold MM
  rw [List.set_append_left _ _ (by rw [List.length_append, tabL_len]; omega), List.set_append_right _ _ (by omega), Nat.add_sub_cancel_left]
  congr 2
  refine List.ext_getElem? fun i => ?_
  unfold tabL
  by_cases hi : i < n
  · by_cases hp : i = p
    · subst hp
      rw [List.getElem?_set_self (by simpa using hi), List.getElem?_map, List.getElem?_range hi]
      simp [upS]
    · rw [List.getElem?_set_ne (Ne.symm hp), List.getElem?_map, List.getElem?_map, List.getElem?_range hi]
      simp [upS, hp]
  · rw [List.getElem?_eq_none (by simp; omega), List.getElem?_eq_none (by simp; omega)]
theorem MM_init {m : Mem} {n : Nat} : m ++ List.replicate n (.lst []) ++ [.rl m.length n] = MM m (fun _ => []) n := by
  unfold MM tabL
  congr 2
  refine List.ext_getElem? fun i => ?_
  by_cases hi : i < n
  · rw [List.getElem?_map, List.getElem?_range hi, List.getElem?_replicate, if_pos hi]; rfl
  · rw [List.getElem?_eq_none (by simp; omega), List.getElem?_eq_none (by simp; omega)]
def ssD (S : Nat → List Nat) (n : Nat) : D := .lst ((List.range n).map fun w => .lst ((S w).map nD))
theorem MM_inner {m : Mem} {S : Nat → List Nat} {n : Nat} : ∀ {k : Nat}, k ≤ n → inner (MM m S n) m.length k = some ((List.range k).map fun w => .lst ((S w).map nD))
  | 0, _ => rfl
  | k + 1, h => by
    rw [inner, MM_inner (by omega)]
    simp only [Option.bind_some, MM_at (show k < n by omega)]
    rw [List.range_succ, List.map_append]; rfl
theorem MM_take {m : Mem} {S : Nat → List Nat} {n : Nat} : (MM m S n).take m.length = m := by simp [MM]
theorem MM_out {m : Mem} {S : Nat → List Nat} {n : Nat} : outW m.length (.r (m.length + n)) (MM m S n) = some (.v (ssD S n), m) := by
  unfold outW
  simp only
  rw [if_neg (by omega), MM_rl]
  simp only
  rw [if_pos (Nat.le_refl _), MM_inner (Nat.le_refl _), MM_take]
  rfl
structure ParH (F : List Fo) : Prop where
  fa : ∀ (i : Nat) f, F[i]? = some f → f.fa = -1 ∨ (0 ≤ f.fa ∧ f.fa < F.length)
  mo : ∀ (i : Nat) f, F[i]? = some f → f.mo = -1 ∨ (0 ≤ f.mo ∧ f.mo < F.length)
  ne : ∀ (i : Nat) f, F[i]? = some f → f.fa = f.mo → f.fa = -1
section
variable (F : List Fo) (B : List Nw) (r : Rw) (day : Int)
def inStp (c : Nat) (S : Nat → List Nat) (p : Int) : Nat → List Nat := if pcB F B r day p.toNat c = true then upS S p.toNat c else S
def parOf (c : Nat) : List Int := match F[c]? with
  | some f => parL f
  | none => []
def outStp (S : Nat → List Nat) (c : Nat) : Nat → List Nat := if ccB F r day c = true then (parOf F c).foldl (inStp F B r day c) S else S
end
variable {F : List Fo} {B : List Nw} {r : Rw} {day : Int}
theorem upS_len {S : Nat → List Nat} {p c w : Nat} : (upS S p c w).length ≤ (S w).length + 1 := by
  unfold upS; split <;> simp
theorem inStp_len {S : Nat → List Nat} {c w : Nat} {p : Int} : (inStp F B r day c S p w).length ≤ (S w).length + 1 := by
  unfold inStp; split
  · exact upS_len
  · omega
theorem parL_in {hF : ParH F} {c : Nat} {f : Fo} (h : F[c]? = some f) {p : Int} (hp : p ∈ parL f) : 0 ≤ p ∧ p < F.length := by
  unfold parL at hp
  obtain ⟨h1, h2⟩ := List.mem_filter.mp hp
  have h3 : ¬ p = -1 := by simpa using h2
  rcases List.mem_cons.mp h1 with z | z
  · subst z; rcases hF.fa c f h with y | y
    · exact absurd y h3
    · exact y
  · have z := List.mem_singleton.mp z
    subst z; rcases hF.mo c f h with y | y
    · exact absurd y h3
    · exact y
theorem parL_len {f : Fo} : (parL f).length ≤ 2 := by
  unfold parL
  exact Nat.le_trans (List.length_filter_le _ _) (by simp)
abbrev envA (F : List Fo) (B : List Nw) (r : Rw) (day : Int) (n : Nat) (x y : Option W) : Pw.Env := [some (.v (hD F)), some (.v (bD B)), some (.v r.d), some (.v (.int day)), some (.v (.dk (dI (cutsL B day)))), some (.r n), x, none, y]
theorem in_turn {m : Mem} {S : Nat → List Nat} {c p : Nat} (hB : ∀ n ∈ B, 0 ≤ n.day) (hp : p < F.length) (hc : c < F.length) (hl : (S p).length < 1000000) :
    L_all_steps_1 (envA F B r day (m.length + F.length) (some (.v (nD c))) (some (.v (nD p)))) (MM m S F.length) = some (.nx, envA F B r day (m.length + F.length) (some (.v (nD c))) (some (.v (nD p))), MM m (inStp F B r day c S (p : Int)) F.length) := by
  have ix : ixN F.length (p : Int) = some p := by unfold ixN; rw [if_pos (by omega), if_pos (by omega)]; simp
  unfold L_all_steps_1 inStp
  have pc := fun m => parent_counts_spec (F := F) (r := r) (day := day) (m := m) hB hp hc
  cases h : pcB F B r day p c with
  | true =>
    rw [h] at pc
    simp [envA, sIf, tTru, eCall, aCons, aNil, eVar, pc, truD, sDrop, eMt, eIxR, MM_rl, ix, MM_at hp, hl, MM_set hp, h]
  | false =>
    rw [h] at pc
    simp [envA, sIf, tTru, eCall, aCons, aNil, eVar, pc, truD, sNil, h]
end Ls
end
section
set_option Elab.async false
set_option linter.all false
set_option maxRecDepth 100000
set_option maxHeartbeats 4000000
namespace Ls
open PySem L2 Pw Pv Lx
variable {F : List Fo} {B : List Nw} {r : Rw} {day : Int}
theorem out_turn {m : Mem} {S : Nat → List Nat} {c : Nat} (hF : ParH F) (hB : ∀ n ∈ B, 0 ≤ n.day) (hc : c < F.length) (hl : ∀ w, (S w).length ≤ 100000) :
    L_all_steps_2 (envA F B r day (m.length + F.length) (some (.v (nD c))) none) (MM m S F.length) = some (.nx, envA F B r day (m.length + F.length) (some (.v (nD c))) none, MM m (outStp F B r day S c) F.length) := by
  have ec := List.getElem?_eq_getElem hc
  have cc := fun m => child_counts_spec (F := F) (r := r) (day := day) (i := c) (m := m) hc
  unfold L_all_steps_2 outStp parOf
  rw [ec]
  generalize F[c] = f at ec
  cases h : ccB F r day c with
  | false =>
    rw [h] at cc
    simp [envA, sFog, sIf, tTru, eCall, aCons, aNil, eVar, cc, truD, sNil]
  | true =>
    rw [h] at cc
    have ps := fun m => parents_of_spec (F := F) (i := c) (m := m) ec
    have lp := (for_foldN (src := iSeq (eCall F_parents_of (aCons (eVar 0) (aCons (eVar 6) aNil)))) (t := gN 8) (b := L_all_steps_1) (dd := [8]) (parL f) D.int (fun _ : Nat → List Nat => envA F B r day (m.length + F.length) (some (.v (nD c))) none) (fun S : Nat → List Nat => MM m S F.length)
      (inStp F B r day c) (fun k S => ∀ w, (S w).length ≤ 100000 + k) S (by simp [envA, iSeq, eCall, aCons, aNil, eVar, ps]) (by simpa using hl) (fun k p hp S hS => ?_)).1
    · simp [sFog, sIf, tTru, eCall, aCons, aNil, eVar, cc, truD, envA] at lp ⊢
      rw [lp]
      simp
    · obtain ⟨p0, p1⟩ := parL_in (hF := hF) ec (List.mem_of_getElem? hp)
      have hk : k < 2 := Nat.lt_of_lt_of_le (List.getElem?_eq_some_iff.mp hp).1 parL_len
      obtain ⟨q, rfl⟩ : ∃ q : Nat, p = (q : Int) := ⟨p.toNat, by omega⟩
      refine ⟨fun w => Nat.le_trans inStp_len (by have := hS w; omega), _, _, rfl, in_turn (m := m) (S := S) hB (by omega) hc (by have := hS q; omega), rfl⟩
def allS (F : List Fo) (B : List Nw) (r : Rw) (day : Int) : Nat → List Nat := (rankL F r).foldl (outStp F B r day) fun _ => []
theorem outStp_len {S : Nat → List Nat} {c w : Nat} : (outStp F B r day S c w).length ≤ (S w).length + 2 := by
  have gen : ∀ (l : List Int) (S : Nat → List Nat), (l.foldl (inStp F B r day c) S w).length ≤ (S w).length + l.length := by
    intro l
    induction l with
    | nil => intro S; simp
    | cons p l ih =>
      intro S
      rw [List.foldl_cons, List.length_cons]
      have := ih (inStp F B r day c S p)
      have := inStp_len (F := F) (B := B) (r := r) (day := day) (S := S) (c := c) (w := w) (p := p)
      omega
  unfold outStp
  split
  · refine Nat.le_trans (gen _ _) ?_
    unfold parOf
    cases F[c]? with
    | none => simp
    | some f => have := @parL_len f; simp only; omega
  · omega
theorem all_steps_raw {m : Mem} (hF : ParH F) (hl : F.length ≤ 1000) (hB : ∀ n ∈ B, 0 ≤ n.day) (hb : B.length ≤ 1000) :
    F_all_steps [.v (hD F), .v (bD B), .v r.d, .v (.int day)] m = some (.v (ssD (allS F B r day) F.length), m) := by
  have br : ∀ (m : Mem) (ρ : Pw.Env) , iSeq (eCall F_by_rank (aCons (eVar 0) (aCons (eVar 2) aNil))) (envA F B r day (m.length + F.length) none none) (MM m (fun _ => []) F.length) = some (.seq ((rankL F r).map nD), MM m (fun _ => []) F.length) := fun m ρ => by
    rcases by_rank_spec (F := F) (r := r) (m := MM m (fun _ => []) F.length) hl with h | h <;> simp [envA, iSeq, eCall, aCons, aNil, eVar, h]
  have lp := (for_foldN (src := iSeq (eCall F_by_rank (aCons (eVar 0) (aCons (eVar 2) aNil)))) (t := gN 6) (b := L_all_steps_2) (dd := [6, 8]) (rankL F r) nD (fun _ : Nat → List Nat => envA F B r day (m.length + F.length) none none) (fun S : Nat → List Nat => MM m S F.length)
    (outStp F B r day) (fun k S => ∀ w, (S w).length ≤ 2 * k) (fun _ => []) (br m []) (by simp) (fun k c hc S hS => ?_)).1
  · have cb := fun m => cuts_by_spec (B := B) (day := day) (m := m) hB hb
    have n6 : F.length ≤ 1000000 := by omega
    simp only [F_all_steps, runF, B_all_steps, startD]
    have e0 : (eLl (iSeq (eVar 0))) [some (W.v (hD F)), some (W.v (bD B)), some (W.v r.d), some (W.v (D.int day)), some (W.v (.dk (dI (cutsL B day)))), none, none, none, none] m = some (.r (m.length + F.length), MM m (fun _ => []) F.length) := by
      simp [eLl, iSeq, eVar, n6]
      rw [← List.append_assoc]
      exact MM_init
    simp [sSeq, sSet, eCall, aCons, aNil, eVar, cb, e0, envA] at lp ⊢
    rw [lp]
    simp [sRet, eVar]
    exact MM_out
  · have h1 : k < 2 * F.length := Nat.lt_of_lt_of_le (List.getElem?_eq_some_iff.mp hc).1 rankL_len
    refine ⟨fun w => Nat.le_trans outStp_len (by have := hS w; omega), _, _, rfl, out_turn (m := m) (S := S) hF hB (rankL_lt (List.mem_of_getElem? hc)) (fun w => by have := hS w; omega), rfl⟩
theorem par_mem {c w : Nat} {f : Fo} (h : F[c]? = some f) : (w : Int) ∈ parOf F c ↔ f.fa = (w : Int) ∨ f.mo = (w : Int) := by
  unfold parOf
  rw [h]
  simp only
  unfold parL
  rw [List.mem_filter]
  simp only [List.mem_cons, List.not_mem_nil, or_false]
  constructor
  · rintro ⟨h1 | h1, _⟩
    · exact .inl h1.symm
    · exact .inr h1.symm
  · intro h1
    refine ⟨?_, ?_⟩
    · rcases h1 with z | z
      · exact .inl z.symm
      · exact .inr z.symm
    · have : ¬ (w : Int) = -1 := by omega
      simp [this]
def selA (F : List Fo) (B : List Nw) (r : Rw) (day : Int) (w c : Nat) : Bool := ccB F r day c && (decide ((w : Int) ∈ parOf F c) && pcB F B r day w c)
theorem par_nd (hF : ParH F) (c : Nat) : (parOf F c).Nodup ∧ ∀ p ∈ parOf F c, 0 ≤ p := by
  unfold parOf
  cases h : F[c]? with
  | none => simp
  | some f =>
    refine ⟨?_, fun p hp => (parL_in (hF := hF) h hp).1⟩
    simp only
    unfold parL
    by_cases e : f.fa = f.mo
    · have := hF.ne c f h e
      simp [← e, this]
    · exact List.Pairwise.filter _ (show [f.fa, f.mo].Nodup by simp [e])
theorem in_fold {c w : Nat} : ∀ (l : List Int) (S : Nat → List Nat), l.Nodup → (∀ p ∈ l, 0 ≤ p) → l.foldl (inStp F B r day c) S w = if ((w : Int) ∈ l ∧ pcB F B r day w c = true) then S w ++ [c] else S w
  | [], S, _, _ => by simp
  | p :: l, S, nd, h0 => by
    obtain ⟨n1, n2⟩ := List.nodup_cons.mp nd
    rw [List.foldl_cons, in_fold l _ n2 fun q hq => h0 q (List.mem_cons_of_mem _ hq)]
    have hp0 := h0 p List.mem_cons_self
    by_cases hw : (w : Int) = p
    · subst hw
      have hn : ¬ ((w : Int) ∈ l ∧ pcB F B r day w c = true) := fun z => n1 z.1
      rw [if_neg hn]
      unfold inStp
      rw [Int.toNat_natCast]
      by_cases hc : pcB F B r day w c = true
      · rw [if_pos hc, if_pos ⟨List.mem_cons_self, hc⟩]; simp [upS]
      · rw [if_neg hc, if_neg (fun z => hc z.2)]
    · have e : inStp F B r day c S p w = S w := by
        unfold inStp upS
        have : ¬ w = p.toNat := fun z => hw (by omega)
        split
        · simp only [if_neg this]
        · rfl
      rw [e]
      have i : ((w : Int) ∈ p :: l ∧ pcB F B r day w c = true) ↔ ((w : Int) ∈ l ∧ pcB F B r day w c = true) := by simp [hw]
      simp only [i]
theorem out_fold (hF : ParH F) {w : Nat} : ∀ (l : List Nat) (S : Nat → List Nat), l.foldl (outStp F B r day) S w = S w ++ l.filter (selA F B r day w)
  | [], S => by simp
  | c :: l, S => by
    rw [List.foldl_cons, out_fold hF l]
    have e : outStp F B r day S c w = if selA F B r day w c = true then S w ++ [c] else S w := by
      unfold outStp selA
      cases h : ccB F r day c with
      | false => simp
      | true =>
        rw [if_pos rfl, in_fold _ _ (par_nd hF c).1 (par_nd hF c).2]
        simp
    rw [e, List.filter_cons]
    split <;> simp
theorem sel_eq {w c : Nat} (hr : r.wed = 0 ∨ r.wed = 1) (hc : c < F.length) : selA F B r day w c = ((!decide (r.men = "only") || manP F w) && (kidP F w c && ccP F r day (cutFrom B day w) c)) := by
  have ec := List.getElem?_eq_getElem hc
  generalize F[c] = f at ec
  unfold selA
  have pm : decide ((w : Int) ∈ parOf F c) = kidP F w c := by
    unfold kidP
    rw [ec]
    simp only
    rw [Bool.eq_iff_iff]
    rw [decide_eq_true_eq, par_mem ec]
    simp
  rw [pm]
  unfold ccB pcB ccP
  rw [ec]
  simp only
  have hd : (!decide (day < f.day)) = decide (f.day ≤ day) := by
    by_cases h : f.day ≤ day
    · have : ¬ day < f.day := by omega
      simp [h, this]
    · have : day < f.day := by omega
      simp [h, this]
  have hw : (decide (r.wed = 0) || decide (f.wed = 1)) = !(decide (r.wed = 1) && !decide (f.wed = 1)) := by
    rcases hr with h | h <;> simp [h]
  rw [hw, Bool.not_or, hd]
  cases decide (f.day ≤ day) <;> cases (decide (r.wed = 1) && !decide (f.wed = 1)) <;> cases (kidP F w c) <;> cases (!decide (r.men = "only") || manP F w) <;> simp
theorem allS_eq (hF : ParH F) (hr : r.wed = 0 ∨ r.wed = 1) (w : Nat) : allS F B r day w = stepsOf F B r day w := by
  unfold allS
  rw [out_fold hF, List.nil_append]
  unfold stepsOf
  have fl : ∀ (p : Nat → Bool), ((List.range F.length).filter p).filter (selA F B r day w) = if r.men = "only" ∧ manP F w = false then [] else (foundOf F B r day w).filter p := fun p => by
    have c1 : ((List.range F.length).filter p).filter (selA F B r day w) = ((List.range F.length).filter p).filter fun c => (!decide (r.men = "only") || manP F w) && (kidP F w c && ccP F r day (cutFrom B day w) c) :=
      List.filter_congr fun c hc => sel_eq hr (List.mem_range.mp (List.mem_filter.mp hc).1)
    rw [c1]
    by_cases h : r.men = "only" ∧ manP F w = false
    · rw [if_pos h]
      simp [h.1, h.2]
    · rw [if_neg h]
      have : (!decide (r.men = "only") || manP F w) = true := by
        by_cases h1 : r.men = "only"
        · cases h2 : manP F w with
          | true => simp
          | false => exact absurd ⟨h1, h2⟩ h
        · simp [h1]
      rw [this]
      unfold foundOf kids
      rw [List.filter_filter, List.filter_filter, List.filter_filter]
      refine List.filter_congr fun c _ => ?_
      cases p c <;> cases kidP F w c <;> simp
  by_cases h : r.men = "only" ∧ manP F w = false
  · rw [if_pos h]
    unfold rankL
    have h1 : ¬ r.men = "first" := fun z => by rw [z] at h; exact absurd h.1 (by decide)
    rw [if_neg h1]
    have := fl fun _ => true
    rw [if_pos h] at this
    simpa using this
  · rw [if_neg h]
    unfold rankL
    by_cases h1 : r.men = "first"
    · rw [if_pos h1, if_pos h1, List.filter_append, fl, fl, if_neg h, if_neg h]
    · rw [if_neg h1, if_neg h1]
      have := fl fun _ => true
      rw [if_neg h] at this
      have tt : ∀ l : List Nat, l.filter (fun _ => true) = l := fun l => by simp
      rw [tt, tt] at this
      exact this
theorem all_steps_spec {m : Mem} (hF : ParH F) (hl : F.length ≤ 1000) (hB : ∀ n ∈ B, 0 ≤ n.day) (hb : B.length ≤ 1000) (hr : r.wed = 0 ∨ r.wed = 1) :
    F_all_steps [.v (hD F), .v (bD B), .v r.d, .v (.int day)] m = some (.v (ssD (stepsOf F B r day) F.length), m) := by
  rw [all_steps_raw hF hl hB hb]
  have : allS F B r day = stepsOf F B r day := funext fun w => allS_eq hF hr w
  rw [this]
theorem ss_at {S : Nat → List Nat} {n w : Nat} (h : w < n) : ixD (ssD S n) (nD w) = some (.v (.lst ((S w).map nD))) := by
  unfold ssD
  rw [ix_l, at_nat (x := .lst ((S w).map nD)) (by rw [List.getElem?_map, List.getElem?_range h]; rfl)]
  rfl
theorem GoodH.par (h : GoodH F) : ParH F := by
  refine ⟨fun i f e => ?_, fun i f e => ?_, fun i f e q => ?_⟩
  · rcases h.fa i f e with z | ⟨j, g, z1, z2, _⟩
    · exact .inl z
    · have := (List.getElem?_eq_some_iff.mp z2).1
      rw [List.length_take] at this
      exact .inr ⟨by omega, by omega⟩
  · rcases h.mo i f e with z | ⟨j, g, z1, z2, _⟩
    · exact .inl z
    · have := (List.getElem?_eq_some_iff.mp z2).1
      rw [List.length_take] at this
      exact .inr ⟨by omega, by omega⟩
  · rcases h.fa i f e with z | ⟨j, g, z1, z2, z3, _⟩
    · exact z
    · rcases h.mo i f e with y | ⟨k, g', y1, y2, y3, _⟩
      · omega
      · have : k = j := by omega
        subst this
        rw [z2] at y2
        cases y2
        omega
end Ls
end
section
set_option Elab.async false
set_option linter.all false
set_option maxRecDepth 100000
set_option maxHeartbeats 4000000
namespace Ls
open PySem L2 Pw Pv Lx
noncomputable def B_steps_of : Sx := (sRet (eCB tupleD (aCons (eOp ixD (eCall F_all_steps (aCons (eVar 0) (aCons (eVar 1) (aCons (eVar 2) (aCons (eVar 3) aNil))))) (eVar 4)) aNil)))
noncomputable def F_steps_of : Fx := runF 5 5 B_steps_of
variable {F : List Fo} {B : List Nw} {r : Rw} {day : Int}
theorem steps_of_spec {w : Nat} {m : Mem} (hF : ParH F) (hl : F.length ≤ 1000) (hB : ∀ n ∈ B, 0 ≤ n.day) (hb : B.length ≤ 1000) (hr : r.wed = 0 ∨ r.wed = 1) (hw : w < F.length) : F_steps_of [.v (hD F), .v (bD B), .v r.d, .v (.int day), .v (nD w)] m = some (.v (.tup ((stepsOf F B r day w).map nD)), m) := by
  have a := all_steps_spec (r := r) (day := day) (m := m) hF hl hB hb hr
  simp only [F_steps_of, runF, B_steps_of, startD]
  have s := ss_at (S := stepsOf F B r day) hw
  simp [sRet, eCB, aCons, aNil, eOp, eCall, eVar, a, s]
theorem founder_spec {m : Mem} {f0 : Nat} {f : Fo} (h0 : r.founder = (f0 : Int)) (hf : F[f0]? = some f) : F_founder_is_born [.v (hD F), .v r.d, .v (.int day)] m = some (.v (.bl (decide (f.day ≤ day))), m) := by
  have r0 : ixD r.d (.int 0) = some (.v (nD f0)) := by simp [Rw.d, h0]
  have d := day_of_spec (m := m) hf
  simp only [F_founder_is_born, runF, B_founder_is_born, startD]
  simp [sRet, eOp, eCall, aCons, aNil, eVar, eC, r0, d]
end Ls
end
section
set_option Elab.async false
set_option linter.all false
set_option maxRecDepth 100000
set_option maxHeartbeats 4000000
namespace Ls
open PySem L2 Pw Pv Lx
section
variable {α : Type} {src : Ix} {t : Gx} {c : Tx} {fk fv : Ex} {vs : List Nat} {ρ : Pw.Env} {m m1 : Mem}
theorem dcL_map {xs : List D} (g : α → D) (sel : α → Bool) (key : α → Key) (val : α → D) {ρ : Pw.Env} {m : Mem} : ∀ (L : List α) (acc : List (Key × D)), (∀ a ∈ L, ∃ ρ1, t (g a) ρ = some ρ1 ∧ c ρ1 m = some (sel a, m) ∧ (sel a = true → ∃ w y u, fk ρ1 m = some (w, m) ∧ vl w = some y ∧ keyOf y = some (key a) ∧ fv ρ1 m = some (u, m) ∧ vl u = some (val a))) → acc.length + L.length ≤ 1000000 →
    dcL (.seq xs) xs t c fk fv ρ (L.map g) acc m = some ((L.filter sel).foldl (fun acc a => putX acc (key a) (val a)) acc, m)
  | [], acc, _, _ => by simp [dcL]
  | a :: L, acc, h, hl => by
    obtain ⟨ρ1, h1, h2, h3⟩ := h a List.mem_cons_self
    have hl' : acc.length + L.length + 1 ≤ 1000000 := by simpa [Nat.add_assoc] using hl
    rw [List.map_cons]
    unfold dcL
    rw [if_pos (by simp), h1]
    simp only [Option.bind_some, h2]
    cases hs : sel a with
    | true =>
      obtain ⟨w, y, u, e1, e2, e3, e4, e5⟩ := h3 hs
      simp only [if_true, e1, Option.bind_some, e2, e3, e4, e5]
      rw [if_pos (by omega), dcL_map g sel key val L (putX acc (key a) (val a)) (fun a ha => h a (List.mem_cons_of_mem _ ha)) (by have := @put_len _ _ acc (key a) (val a); omega)]
      simp [List.filter_cons, hs]
    | false =>
      simp only [Bool.false_eq_true, if_false]
      rw [dcL_map g sel key val L acc (fun a ha => h a (List.mem_cons_of_mem _ ha)) (by omega)]
      simp [List.filter_cons, hs]
theorem dc_map (L : List α) (g : α → D) (sel : α → Bool) (key : α → Key) (val : α → D) (hs : src ρ m = some (.seq (L.map g), m1)) (h : ∀ a ∈ L, ∃ ρ1, t (g a) (wipeD ρ vs) = some ρ1 ∧ c ρ1 m1 = some (sel a, m1) ∧ (sel a = true → ∃ w y u, fk ρ1 m1 = some (w, m1) ∧ vl w = some y ∧ keyOf y = some (key a) ∧ fv ρ1 m1 = some (u, m1) ∧ vl u = some (val a))) (hl : L.length ≤ 1000000) :
    eDc src t c fk fv vs ρ m = some (.f (.dk ((L.filter sel).foldl (fun acc a => putX acc (key a) (val a)) [])), m1) := by
  unfold eDc
  rw [hs]
  simp only [Option.bind_some, items_seq]
  rw [dcL_map g sel key val L [] h (by simpa using hl)]
  rfl
end
/-- a dict whose keys alone count -/
def setK (L : List Int) : List (Key × D) := L.foldl (fun acc w => putX acc (.inl w) (.bl true)) []
theorem setK_val (w : Int) : ∀ (L : List Int) (acc : List (Key × D)), (valX (L.foldl (fun acc w => putX acc (Sum.inl w : Key) (D.bl true)) acc) (Sum.inl w)).isSome = (decide (w ∈ L) || (valX acc (Sum.inl w)).isSome)
  | [], acc => by simp
  | x :: L, acc => by
    rw [List.foldl_cons, setK_val w L, val_put]
    by_cases h : w = x
    · subst h; simp
    · have : ¬ (Sum.inl w : Key) = Sum.inl x := fun z => h (Sum.inl.inj z)
      rw [if_neg this]
      simp [h]
theorem set_in (w : Int) (L : List Int) : inKD false (.int w) (.dk (setK L)) = some (.v (.bl (decide (w ∈ L)))) := by
  unfold inKD
  simp only [key_i, Option.bind_some]
  unfold setK
  rw [setK_val]
  simp [valX]
theorem set_notIn (w : Int) (L : List Int) : inKD true (.int w) (.dk (setK L)) = some (.v (.bl (!decide (w ∈ L)))) := by
  unfold inKD
  simp only [key_i, Option.bind_some]
  unfold setK
  rw [setK_val]
  simp [valX]
noncomputable def E_dead_by_1 : Ex := eDc (iSeq (eVar 0)) (gN 2) (tAnd' (tVal (eOp (eqD false) (eOp ixD (eVar 2) (eC (.int 0))) (eC (.str "dies")))) (tVal (eOp (cmpD leI) (eOp ixD (eVar 2) (eC (.int 1))) (eVar 1)))) (eOp ixD (eVar 2) (eC (.int 2))) (eC (.bl true)) [2]
noncomputable def B_dead_by : Sx := (sRet E_dead_by_1)
noncomputable def F_dead_by : Fx := runF 2 3 B_dead_by
noncomputable def E_out_by_1 : Ex := eDc (iSeq (eCall F_news_behind_back (aCons (eVar 0) (aCons (eVar 1) (aCons (eTup (aCons (eC (.str "leaves")) (aCons (eC (.str "cuts")) aNil))) aNil))))) (gN 2) tYes' (eOp ixD (eVar 2) (eC (.int 2))) (eC (.bl true)) [2]
noncomputable def B_out_by : Sx := (sRet E_out_by_1)
noncomputable def F_out_by : Fx := runF 2 3 B_out_by
noncomputable def B_is_dead : Sx := (sRet (eOp (inKD false) (eVar 2) (eCall F_dead_by (aCons (eVar 0) (aCons (eVar 1) aNil)))))
noncomputable def F_is_dead : Fx := runF 3 3 B_is_dead
noncomputable def B_is_out : Sx := (sRet (eOp (inKD false) (eVar 2) (eCall F_out_by (aCons (eVar 0) (aCons (eVar 1) aNil)))))
noncomputable def F_is_out : Fx := runF 3 3 B_is_out
noncomputable def B_cut_from : Sx := (sRet (eGet (eCall F_cuts_by (aCons (eVar 0) (aCons (eVar 1) aNil))) (eVar 2) (eUn negD (eC (.int 1)))))
noncomputable def F_cut_from : Fx := runF 3 3 B_cut_from
variable {B : List Nw} {day : Int} {m : Mem}
def deadL (B : List Nw) (day : Int) : List Int := (B.filter fun n : Nw => decide (n.word = ("dies" : Str)) && decide (n.day ≤ day)).map Nw.who
def outL (B : List Nw) (day : Int) : List Int := (B.filter (nbP B day ["leaves", "cuts"])).map Nw.who
theorem dead_by_spec (hl : B.length ≤ 1000) : F_dead_by [.v (bD B), .v (.int day)] m = some (.f (.dk (setK (deadL B day))), m) := by
  have dc : E_dead_by_1 [some (.v (bD B)), some (.v (.int day)), none] m = some (.f (.dk (setK (deadL B day))), m) := by
    have := dc_map (src := iSeq (eVar 0)) (t := gN 2) (c := tAnd' (tVal (eOp (eqD false) (eOp ixD (eVar 2) (eC (.int 0))) (eC (.str "dies")))) (tVal (eOp (cmpD leI) (eOp ixD (eVar 2) (eC (.int 1))) (eVar 1)))) (fk := eOp ixD (eVar 2) (eC (.int 2))) (fv := eC (.bl true)) (vs := [2]) (ρ := [some (.v (bD B)), some (.v (.int day)), none]) (m := m) (m1 := m)
      B Nw.d (fun n => decide (n.word = "dies") && decide (n.day ≤ day)) (fun n => .inl n.who) (fun _ => .bl true) (by simp [iSeq, eVar]) (fun n hn => ⟨_, rfl, ?_, fun _ => ⟨.v (.int n.who), .int n.who, .v (.bl true), by simp [eOp, eVar, eC], rfl, rfl, rfl, rfl⟩⟩) (by omega)
    · unfold E_dead_by_1
      rw [this]
      unfold setK deadL
      rw [List.foldl_map]
    · by_cases h1 : n.word = "dies" <;> simp [tAnd', tVal, eOp, eVar, eC, h1]
  simp only [F_dead_by, runF, B_dead_by, startD]
  simp [sRet, dc]
theorem out_by_spec (hB : ∀ n ∈ B, 0 ≤ n.day) (hl : B.length ≤ 1000) : F_out_by [.v (bD B), .v (.int day)] m = some (.f (.dk (setK (outL B day))), m) := by
  have nb : ∀ m, F_news_behind_back [.v (bD B), .v (.int day), .v (.tup [.str "leaves", .str "cuts"])] m = _ := fun m => nb_spec (ws := ["leaves", "cuts"]) (day := day) (m := m) hB hl
  have dc : E_out_by_1 [some (.v (bD B)), some (.v (.int day)), none] m = some (.f (.dk (setK (outL B day))), m) := by
    have := dc_map (src := iSeq (eCall F_news_behind_back (aCons (eVar 0) (aCons (eVar 1) (aCons (eTup (aCons (eC (.str "leaves")) (aCons (eC (.str "cuts")) aNil))) aNil))))) (t := gN 2) (c := tYes') (fk := eOp ixD (eVar 2) (eC (.int 2))) (fv := eC (.bl true)) (vs := [2]) (ρ := [some (.v (bD B)), some (.v (.int day)), none]) (m := m) (m1 := m)
      (B.filter (nbP B day ["leaves", "cuts"])) Nw.d (fun n => true) (fun n => .inl n.who) (fun _ => .bl true) (by simp [iSeq, eVar, eCall, aCons, aNil, eTup, eC, nb]) (fun n hn => ⟨_, rfl, rfl, fun _ => ⟨.v (.int n.who), .int n.who, .v (.bl true), by simp [eOp, eVar, eC], rfl, rfl, rfl, rfl⟩⟩) (by have := List.length_filter_le (nbP B day ["leaves", "cuts"]) B; omega)
    unfold E_out_by_1
    rw [this]
    unfold setK outL
    rw [List.foldl_map]
    simp
  simp only [F_out_by, runF, B_out_by, startD]
  simp [sRet, dc]
theorem is_dead_spec {who : Int} (hl : B.length ≤ 1000) : F_is_dead [.v (bD B), .v (.int day), .v (.int who)] m = some (.v (.bl (decide (who ∈ deadL B day))), m) := by
  have d := fun m => dead_by_spec (B := B) (day := day) (m := m) hl
  simp only [F_is_dead, runF, B_is_dead, startD]
  simp [sRet, eOp, eCall, aCons, aNil, eVar, d, set_in]
theorem is_out_spec {who : Int} (hB : ∀ n ∈ B, 0 ≤ n.day) (hl : B.length ≤ 1000) : F_is_out [.v (bD B), .v (.int day), .v (.int who)] m = some (.v (.bl (decide (who ∈ outL B day))), m) := by
  have d := fun m => out_by_spec (B := B) (day := day) (m := m) hB hl
  simp only [F_is_out, runF, B_is_out, startD]
  simp [sRet, eOp, eCall, aCons, aNil, eVar, d, set_in]
theorem cut_from_spec {who : Int} (hB : ∀ n ∈ B, 0 ≤ n.day) (hl : B.length ≤ 1000) : F_cut_from [.v (bD B), .v (.int day), .v (.int who)] m = some (.v (.int (cutFrom B day who)), m) := by
  have d := fun m => cuts_by_spec (B := B) (day := day) (m := m) hB hl
  simp only [F_cut_from, runF, B_cut_from, startD]
  have gv : ((getI (cutsL B day) who).map D.int).getD (.int (-1)) = .int (cutFrom B day who) := by
    rcases cut_val hB day who with ⟨e1, e2⟩ | ⟨e1, e2⟩
    · rw [e1, e2]; rfl
    · rw [e1]; rfl
  simp [sRet, eGet, eCall, aCons, aNil, eVar, d, eUn, eC, gv]
theorem dead_iff {who : Int} : decide (who ∈ deadL B day) = decide (0 < (daysOf B day who "dies").length) := by
  rw [Bool.eq_iff_iff, decide_eq_true_eq, decide_eq_true_eq]
  unfold deadL daysOf dayP
  rw [List.length_map, List.mem_map]
  constructor
  · rintro ⟨n, hn, rfl⟩
    obtain ⟨h1, h2⟩ := List.mem_filter.mp hn
    refine List.length_pos_iff.mpr (List.ne_nil_of_mem (a := n) (List.mem_filter.mpr ⟨h1, ?_⟩))
    simp at h2 ⊢; exact h2
  · intro h
    obtain ⟨n, hn⟩ := List.exists_mem_of_length_pos h
    obtain ⟨h1, h2⟩ := List.mem_filter.mp hn
    simp at h2
    exact ⟨n, List.mem_filter.mpr ⟨h1, by simp [h2.1, h2.2.1]⟩, h2.2.2⟩
theorem out_iff {who : Int} : decide (who ∈ outL B day) = decide ((0 : Int) < (behind B day who "leaves").length + (behind B day who "cuts").length) := by
  rw [Bool.eq_iff_iff, decide_eq_true_eq, decide_eq_true_eq]
  have mb : ∀ w, 0 < (behind B day who w).length ↔ ∃ n ∈ B, n.word = w ∧ n.day ≤ day ∧ n.who = who ∧ backOf B day who < n.day := fun w => by
    unfold behind daysOf dayP
    constructor
    · intro h
      obtain ⟨d, hd⟩ := List.exists_mem_of_length_pos h
      obtain ⟨h1, h2⟩ := List.mem_filter.mp hd
      obtain ⟨n, hn, rfl⟩ := List.mem_map.mp h1
      obtain ⟨h3, h4⟩ := List.mem_filter.mp hn
      simp at h2 h4
      exact ⟨n, h3, h4.1, h4.2.1, h4.2.2, h2⟩
    · rintro ⟨n, h1, h2, h3, h4, h5⟩
      refine List.length_pos_iff.mpr (List.ne_nil_of_mem (a := n.day) (List.mem_filter.mpr ⟨List.mem_map.mpr ⟨n, List.mem_filter.mpr ⟨h1, by simp [h2, h3, h4]⟩, rfl⟩, by simpa using h5⟩))
  have l : (who ∈ outL B day) ↔ (0 < (behind B day who "leaves").length ∨ 0 < (behind B day who "cuts").length) := by
    rw [mb, mb]
    unfold outL nbP
    rw [List.mem_map]
    constructor
    · rintro ⟨n, hn, rfl⟩
      obtain ⟨h1, h2⟩ := List.mem_filter.mp hn
      simp at h2
      rcases h2.1 with z | z
      · exact .inl ⟨n, h1, z, h2.2.2, rfl, h2.2.1⟩
      · exact .inr ⟨n, h1, z, h2.2.2, rfl, h2.2.1⟩
    · rintro (⟨n, h1, h2, h3, h4, h5⟩ | ⟨n, h1, h2, h3, h4, h5⟩)
      · subst h4; exact ⟨n, List.mem_filter.mpr ⟨h1, by simp [h2, h3, h5]⟩, rfl⟩
      · subst h4; exact ⟨n, List.mem_filter.mpr ⟨h1, by simp [h2, h3, h5]⟩, rfl⟩
  rw [l]
  omega
end Ls
end
section
set_option Elab.async false
set_option linter.all false
set_option maxRecDepth 100000
set_option maxHeartbeats 4000000
/-! generators and loops by their worth; children that are awaited -/
namespace Ls
open PySem L2 Pw Pv Lx
section
variable {α : Type} {src : Ix} {t : Gx} {c : Tx} {f : Ex} {b : Sx} {vs dd : List Nat} {ρ : Pw.Env} {m m1 : Mem}
theorem anyL_map {xs : List D} (g : α → D) (val : α → Bool) {ρ : Pw.Env} {m : Mem} : ∀ (L : List α), (∀ a ∈ L, ∃ ρ1, t (g a) ρ = some ρ1 ∧ c ρ1 m = some (true, m) ∧ f ρ1 m = some (.v (.bl (val a)), m)) →
    allL false (.seq xs) xs t c f ρ (L.map g) m = some (L.any val, m)
  | [], _ => by simp [allL]
  | a :: L, h => by
    obtain ⟨ρ1, h1, h2, h3⟩ := h a List.mem_cons_self
    rw [List.map_cons]
    unfold allL
    rw [if_pos (by simp), h1]
    simp only [Option.bind_some, h2, h3, if_true]
    rw [anyL_map g val L fun a ha => h a (List.mem_cons_of_mem _ ha), List.any_cons]
    cases val a <;> simp
/-- any of a generator that changes nothing -/
theorem any_map (L : List α) (g : α → D) (val : α → Bool) (hs : src ρ m = some (.seq (L.map g), m1)) (h : ∀ a ∈ L, ∃ ρ1, t (g a) (wipeD ρ vs) = some ρ1 ∧ c ρ1 m1 = some (true, m1) ∧ f ρ1 m1 = some (.v (.bl (val a)), m1)) :
    eAll false src t c f vs ρ m = some (.v (.bl (L.any val)), m1) := by
  unfold eAll
  rw [hs]
  simp only [Option.bind_some, items_seq]
  rw [anyL_map g val L h]
  rfl
/-- tuple of a generator that changes nothing -/
theorem tupG_map (L : List α) (g : α → D) (sel : α → Bool) (val : α → D) (hs : src ρ m = some (.seq (L.map g), m1)) (h : ∀ a ∈ L, ∃ ρ1, t (g a) (wipeD ρ vs) = some ρ1 ∧ c ρ1 m1 = some (sel a, m1) ∧ (sel a = true → ∃ w, f ρ1 m1 = some (w, m1) ∧ vl w = some (val a))) (hl : L.length ≤ 1000000) :
    eTupG src t c f vs ρ m = some (.v (.tup ((L.filter sel).map val)), m1) := by
  unfold eTupG
  rw [hs]
  simp only [Option.bind_some, items_seq]
  rw [if_pos (by simpa using hl), lcL_map g sel val L [] h (by simpa using hl)]
  simp
theorem lcL_effI {it : Itm} {xs : List D} (Inv : Nat → List D → Mem → Prop) {ρ : Pw.Env} (g : α → D) (hit : ∀ i acc m, Inv i acc m → itemsAt it m = some xs) :
    ∀ (L : List α) (i : Nat), (∀ k a, L[k]? = some a → ∀ acc m, Inv (i + k) acc m → ∃ ρ1 w v m', t (g a) ρ = some ρ1 ∧ c ρ1 m = some (true, m) ∧ f ρ1 m = some (w, m') ∧ vl w = some v ∧ Inv (i + k + 1) (acc ++ [v]) m') → ∀ (acc : List D) (m : Mem), Inv i acc m → acc.length + L.length ≤ 1000000 → ∃ acc' m', lcL it xs t c f ρ (L.map g) acc m = some (acc', m') ∧ Inv (i + L.length) acc' m'
  | [], i, step, acc, m, inv, _ => ⟨acc, m, by simp [lcL, hit _ _ _ inv], by simpa using inv⟩
  | a :: L, i, step, acc, m, inv, hl => by
    obtain ⟨ρ1, w, v, m', q1, q2, q3, q4, q5⟩ := step 0 a rfl acc m (by simpa using inv)
    have hl' : acc.length + L.length + 1 ≤ 1000000 := by simpa [Nat.add_assoc] using hl
    obtain ⟨acc', m'', r1, r2⟩ := lcL_effI Inv g hit L (i + 1) (fun k a ha acc m hi => by
      have := step (k + 1) a (by simpa using ha) acc m (by rw [show i + (k + 1) = i + 1 + k by omega]; exact hi)
      rw [show i + (k + 1) + 1 = i + 1 + k + 1 by omega] at this
      exact this) (acc ++ [v]) m' (by simpa using q5) (by simp; omega)
    refine ⟨acc', m'', ?_, by rw [List.length_cons, show i + (L.length + 1) = i + 1 + L.length by omega]; exact r2⟩
    rw [List.map_cons]
    unfold lcL
    rw [if_pos (hit _ _ _ inv)]
    simp only [q1, q2, q3, q4, Option.bind_some, if_true]
    rw [if_pos (by omega)]
    exact r1
/-- a comprehension that draws, over anything -/
theorem lc_effI {it : Itm} (L : List α) (g : α → D) (Inv : Nat → List D → Mem → Prop) (hs : src ρ m = some (it, m1)) (hit : ∀ i acc m, Inv i acc m → itemsAt it m = some (L.map g)) (h0 : Inv 0 [] m1) (step : ∀ i a, L[i]? = some a → ∀ acc m, Inv i acc m → ∃ ρ1 w v m', t (g a) (wipeD ρ vs) = some ρ1 ∧ c ρ1 m = some (true, m) ∧ f ρ1 m = some (w, m') ∧ vl w = some v ∧ Inv (i + 1) (acc ++ [v]) m') (hl : L.length ≤ 1000000) :
    ∃ acc m', eLc src t c f vs ρ m = some (.f (.lst acc), m') ∧ Inv L.length acc m' := by
  obtain ⟨acc, m', e, inv⟩ := lcL_effI Inv g hit L 0 (fun k a ha acc m hi => by
    have := step k a ha acc m (by simpa using hi)
    simpa using this) [] m1 h0 (by simpa using hl)
  refine ⟨acc, m', ?_, by simpa using inv⟩
  unfold eLc
  rw [hs]
  simp only [Option.bind_some, hit _ _ _ h0]
  rw [e]; rfl
theorem forL_invI {it : Itm} {xs : List D} (Inv : Pw.Env → Mem → Prop) (g : α → D) (hit : ∀ ρ m, Inv ρ m → itemsAt it m = some xs) : ∀ (L : List α), (∀ a ∈ L, ∀ ρ m, Inv ρ m → ∃ ρ1 ρ2 m2, t (g a) ρ = some ρ1 ∧ b ρ1 m = some (.nx, ρ2, m2) ∧ Inv (wipeD ρ2 dd) m2) → ∀ (ρ : Pw.Env) (m : Mem), Inv ρ m →
    ∃ ρ' m', forL it xs t b dd (L.map g) ρ m = some (.nx, ρ', m') ∧ Inv ρ' m'
  | [], step, ρ, m, inv => ⟨ρ, m, by simp [forL, hit _ _ inv], inv⟩
  | a :: L, step, ρ, m, inv => by
    obtain ⟨ρ1, ρ2, m2, q1, q2, q3⟩ := step a List.mem_cons_self ρ m inv
    obtain ⟨ρ', m', r1, r2⟩ := forL_invI Inv g hit L (fun a ha => step a (List.mem_cons_of_mem _ ha)) (wipeD ρ2 dd) m2 q3
    refine ⟨ρ', m', ?_, r2⟩
    rw [List.map_cons]
    unfold forL
    rw [if_pos (hit _ _ inv)]
    simp only [q1, q2, Option.bind_some]
    exact r1
/-- a loop over anything -/
theorem for_invI {it : Itm} (L : List α) (g : α → D) (Inv : Pw.Env → Mem → Prop) (hs : src ρ m = some (it, m1)) (hit : ∀ ρ m, Inv ρ m → itemsAt it m = some (L.map g)) (h0 : Inv ρ m1)
    (step : ∀ a ∈ L, ∀ ρ m, Inv ρ m → ∃ ρ1 ρ2 m2, t (g a) ρ = some ρ1 ∧ b ρ1 m = some (.nx, ρ2, m2) ∧ Inv (wipeD ρ2 dd) m2) :
    ∃ ρ' m', sFor src t b dd ρ m = some (.nx, ρ', m') ∧ Inv ρ' m' := by
  obtain ⟨ρ', m', e, inv⟩ := forL_invI Inv g hit L step ρ m1 h0
  refine ⟨ρ', m', ?_, inv⟩
  unfold sFor
  rw [hs]
  simp only [Option.bind_some, hit _ _ h0]
  exact e
end
noncomputable def E_born_by_1 : Ex := eLc (iSeq (eVar 0)) (gN 2) (tVal (eOp (cmpD leI) (eOp ixD (eVar 2) (eC (.int 0))) (eVar 1))) (eVar 2) [2]
noncomputable def B_born_by : Sx := (sRet (eCB lenD (aCons E_born_by_1 aNil)))
noncomputable def F_born_by : Fx := runF 2 3 B_born_by
noncomputable def B_child_house : Sx := (sSeq (sAsg (gT [gN 4, gN 5, gN 6, gN 7]) (eOp ixD (eVar 1) (eVar 3))) (sRet (eOp addD (eSlc (eVar 0) oNone (oSome (eCall F_born_by (aCons (eVar 0) (aCons (eVar 2) aNil))))) (eTup (aCons (eTup (aCons (eVar 2) (aCons (eVar 7) (aCons (eVar 6) (aCons (eC (.int 1)) (aCons (eC (.int 1)) aNil)))))) aNil)))))
noncomputable def F_child_house : Fx := runF 4 8 B_child_house
noncomputable def E_is_open_1 : Ex := eAll false (iSeq (eCall F_children_of (aCons (eVar 0) (aCons (eVar 6) aNil)))) (gN 8) tYes' (eChain (cmpD ltI) (cmpD leI) (eVar 5) (eCall F_day_of (aCons (eVar 0) (aCons (eVar 8) aNil))) (eVar 2)) [8]
noncomputable def B_is_open : Sx := (sSeq (sAsg (gT [gN 4, gN 5, gN 6, gN 7]) (eVar 3)) (sSeq (sIf (tOr' (tVal (eOp (eqD true) (eVar 4) (eC (.str "awaits")))) (tOr' (tNot' (tVal (eChain (cmpD leI) (cmpD ltI) (eVar 5) (eVar 2) (eOp addD (eVar 5) (eC (.int 300)))))) (tVal (eOp (inKD false) (eVar 6) (eVar 1))))) (sRet (eC (.bl false))) sNil) (sRet (eNot E_is_open_1))))
noncomputable def F_is_open : Fx := runF 4 9 B_is_open
noncomputable def E_open_awaits_1 : Ex := eTupG (iRngA (aCons (eCB lenD (aCons (eVar 1) aNil)) aNil)) (gN 4) (tTru (eCall F_is_open (aCons (eVar 0) (aCons (eVar 3) (aCons (eVar 2) (aCons (eOp ixD (eVar 1) (eVar 4)) aNil)))))) (eVar 4) [4]
noncomputable def B_open_awaits : Sx := (sSeq (sSet 3 (eCall F_dead_by (aCons (eVar 1) (aCons (eVar 2) aNil)))) (sRet E_open_awaits_1))
noncomputable def F_open_awaits : Fx := runF 3 5 B_open_awaits
variable {F : List Fo} {B : List Nw} {day : Int} {m : Mem}
def bornL (F : List Fo) (day : Int) : List Fo := F.filter fun f => decide (f.day ≤ day)
theorem born_take : ∀ {F : List Fo}, (F.Pairwise fun f g => f.day ≤ g.day) → F.take (bornL F day).length = bornL F day
  | [], _ => rfl
  | f :: F, h => by
    obtain ⟨h1, h2⟩ := List.pairwise_cons.mp h
    unfold bornL
    by_cases hd : f.day ≤ day
    · rw [List.filter_cons_of_pos (by simpa using hd), List.length_cons, List.take_succ_cons]
      exact congrArg (f :: ·) (born_take h2)
    · rw [List.filter_cons_of_neg (by simpa using hd)]
      have : F.filter (fun f => decide (f.day ≤ day)) = [] := List.filter_eq_nil_iff.mpr fun g hg => by
        have := h1 g hg
        simp; omega
      rw [this]; rfl
theorem born_len : (bornL F day).length ≤ F.length := List.length_filter_le _ _
theorem born_by_spec (hl : F.length ≤ 1000) : F_born_by [.v (hD F), .v (.int day)] m = some (.v (.int ((bornL F day).length : Int)), m) := by
  have lc : E_born_by_1 [some (.v (hD F)), some (.v (.int day)), none] m = some (.f (.lst ((bornL F day).map Fo.d)), m) :=
    lc_map F Fo.d (fun f => decide (f.day ≤ day)) Fo.d (by simp [iSeq, eVar]) (fun f hf => ⟨_, rfl, by simp [tVal, eOp, eVar, eC], fun _ => ⟨.v f.d, by simp [eVar], rfl⟩⟩) (by omega)
  simp only [F_born_by, runF, B_born_by, startD]
  simp [sRet, eCB, aCons, aNil, lc]
theorem cut_to {ds : List D} {k : Nat} (h : k ≤ ds.length) : cutD ds none (some (k : Int)) = ds.take k := by
  unfold cutD
  rw [HT.sIx_none, HT.sIx_nat, Nat.min_eq_left h]
  simp
theorem nw_at {p : Nat} {n : Nw} (h : B[p]? = some n) : atI (B.map Nw.d) (p : Int) = some n.d := at_nat (by rw [List.getElem?_map, h]; rfl)
/-- the child, as it would come -/
def childF (n : Nw) (day : Int) : Fo := ⟨day, n.other, n.who, 1, 1⟩
def childH (F : List Fo) (n : Nw) (day : Int) : List Fo := bornL F day ++ [childF n day]
theorem child_house_spec {p : Nat} {n : Nw} (hF : F.Pairwise fun f g => f.day ≤ g.day) (hl : F.length ≤ 1000) (hp : B[p]? = some n) : F_child_house [.v (hD F), .v (bD B), .v (.int day), .v (nD p)] m = some (.v (hD (childH F n day)), m) := by
  have bb : ∀ m, F_born_by [.v (hD F), .v (.int day)] m = _ := fun m => born_by_spec (day := day) hl
  have bl := born_len (F := F) (day := day)
  have ct : cutD (F.map Fo.d) none (some ((bornL F day).length : Int)) = (bornL F day).map Fo.d := by
    rw [cut_to (by simpa using bl), ← List.map_take, born_take hF]
  have ad : addD (.tup ((bornL F day).map Fo.d)) (.tup [(childF n day).d]) = some (.v (hD (childH F n day))) := by
    show (if _ then _ else _) = _
    rw [if_pos (by simp; omega)]
    simp [childH]
  have ad' : addD (.tup ((bornL F day).map Fo.d)) (.tup [.tup [.int day, .int n.other, .int n.who, .int 1, .int 1]]) = some (.v (hD (childH F n day))) := ad
  simp only [F_child_house, runF, B_child_house, startD]
  simp [sSeq, sAsg, eOp, eVar, nw_at hp, Nw.d, gT, gL, gN, sRet, eSlc, oNone, oSome, eCall, aCons, aNil, bb, slcD, ct, eTup, eC, ad']
theorem kids_child {n : Nw} : ∃ l : List Nat, kids (childH F n day) n.who = l ++ [(bornL F day).length] := by
  unfold kids childH
  rw [List.length_append, List.length_singleton, List.range_succ, List.filter_append]
  refine ⟨_, congrArg _ ?_⟩
  rw [List.filter_cons_of_pos]
  · rfl
  · unfold kidP
    simp [childF]
theorem born_child {n : Nw} : (bornL (childH F n day) day).length = (bornL F day).length + 1 := by
  unfold childH
  have e : bornL (bornL F day ++ [childF n day]) day = bornL F day ++ [childF n day] := by
    unfold bornL
    rw [List.filter_append, List.filter_filter]
    simp [childF]
  rw [e]; simp
def dayB (F : List Fo) (c : Nat) : Int := match F[c]? with
  | some f => f.day
  | none => 0
/-- a child that is awaited still -/
def openB (F : List Fo) (L : List Int) (day : Int) (n : Nw) : Bool := decide (n.word = ("awaits" : Str)) && decide (n.day ≤ day) && decide (day < n.day + 300) && !decide (n.who ∈ L) && !((kids F n.who).any fun c => decide (n.day < dayB F c) && decide (dayB F c ≤ day))
theorem is_open_spec {L : List Int} {n : Nw} (hl : F.length ≤ 1000) : F_is_open [.v (hD F), .v (.dk (setK L)), .v (.int day), .v n.d] m = some (.v (.bl (openB F L day n)), m) := by
  have ch : ∀ m, F_children_of [.v (hD F), .v (.int n.who)] m = _ := fun m => children_of_spec hl n.who
  have an : ∀ x4 x7, E_is_open_1 [some (.v (hD F)), some (.v (.dk (setK L))), some (.v (.int day)), some (.v n.d), x4, some (.v (.int n.day)), some (.v (.int n.who)), x7, none] m = some (.v (.bl ((kids F n.who).any fun c => decide (n.day < dayB F c) && decide (dayB F c ≤ day))), m) := fun x4 x7 => by
    refine any_map (kids F n.who) nD _ (by simp [iSeq, eCall, aCons, aNil, eVar, ch]) fun c hc => ⟨_, rfl, rfl, ?_⟩
    have hk := kids_lt hc
    have ek := List.getElem?_eq_getElem hk
    have eb : dayB F c = F[c].day := by unfold dayB; rw [ek]
    rw [eb]
    generalize F[c] = f at ek
    have d1 : ∀ m, F_day_of [.v (hD F), .v (nD c)] m = _ := fun m => day_of_spec ek
    by_cases h1 : n.day < f.day <;> simp [eChain, eVar, eCall, aCons, aNil, d1, h1]
  simp only [F_is_open, runF, B_is_open, startD]
  by_cases h1 : n.word = "awaits"
  · by_cases h2 : n.day ≤ day
    · by_cases h3 : day < n.day + 300
      · by_cases h4 : n.who ∈ L
        · simp [sSeq, sAsg, eVar, Nw.d, gT, gL, gN, sIf, tOr', tVal, tNot', eOp, eC, h1, eChain, h2, h3, set_in, h4, sRet, openB]
        · have an' := an (some (.v (.str "awaits"))) (some (.v (.int n.other)))
          rw [show n.d = .tup [.str "awaits", .int n.day, .int n.who, .int n.other] by rw [Nw.d, h1]] at an' ⊢
          simp [sSeq, sAsg, eVar, gT, gL, gN, sIf, tOr', tVal, tNot', eOp, eC, eChain, h2, h3, set_in, h4, sRet, sNil, eNot, an', openB, h1]
      · simp [sSeq, sAsg, eVar, Nw.d, gT, gL, gN, sIf, tOr', tVal, tNot', eOp, eC, h1, eChain, h2, h3, sRet, openB]
    · simp [sSeq, sAsg, eVar, Nw.d, gT, gL, gN, sIf, tOr', tVal, tNot', eOp, eC, h1, eChain, h2, sRet, openB]
  · simp [sSeq, sAsg, eVar, Nw.d, gT, gL, gN, sIf, tOr', tVal, tNot', eOp, eC, h1, sRet, openB]
def openP (F : List Fo) (B : List Nw) (day : Int) (p : Nat) : Bool := match B[p]? with
  | some n => openB F (deadL B day) day n
  | none => false
def openL (F : List Fo) (B : List Nw) (day : Int) : List Nat := (List.range B.length).filter (openP F B day)
theorem open_awaits_spec (hl : F.length ≤ 1000) (hb : B.length ≤ 1000) : F_open_awaits [.v (hD F), .v (bD B), .v (.int day)] m = some (.v (.tup ((openL F B day).map nD)), m) := by
  have db : ∀ m, F_dead_by [.v (bD B), .v (.int day)] m = _ := fun m => dead_by_spec (day := day) hb
  have tg : E_open_awaits_1 [some (.v (hD F)), some (.v (bD B)), some (.v (.int day)), some (.v (.dk (setK (deadL B day)))), none] m = some (.v (.tup ((openL F B day).map nD)), m) := by
    refine tupG_map (List.range B.length) nD (openP F B day) nD ?_ (fun p hp => ⟨_, rfl, ?_, fun _ => ⟨.v (nD p), by simp [eVar], rfl⟩⟩) (by simp; omega)
    · have : (B.length : Int) ≤ 1000000000 := by omega
      simp [iRngA, aCons, aNil, eCB, eVar, this, rng0]
    · have hk := List.mem_range.mp hp
      have ek := List.getElem?_eq_getElem hk
      have eb : openP F B day p = openB F (deadL B day) day B[p] := by unfold openP; rw [ek]
      rw [eb]
      generalize B[p] = n at ek
      have io : ∀ m, F_is_open [.v (hD F), .v (.dk (setK (deadL B day))), .v (.int day), .v n.d] m = _ := fun m => is_open_spec hl
      simp [tTru, eCall, aCons, aNil, eVar, eOp, nw_at ek, io, truD]
  simp only [F_open_awaits, runF, B_open_awaits, startD]
  simp [sSeq, sSet, eCall, aCons, aNil, eVar, db, sRet, tg]
theorem open_lt {p : Nat} (h : p ∈ openL F B day) : p < B.length := List.mem_range.mp (List.mem_filter.mp h).1
end Ls
end
section
set_option Elab.async false
set_option linter.all false
set_option maxRecDepth 100000
set_option maxHeartbeats 4000000
/-! steps, whose pieces of the program are variables; while -/
namespace Ls
open PySem L2 Pw Pv Lx
theorem op_at {g : D → D → Option W} {a b : Ex} {ρ : Pw.Env} {m m1 m2 : Mem} {wa wb w : W} {x y : D} (h1 : a ρ m = some (wa, m1)) (h2 : b ρ m1 = some (wb, m2)) (h3 : gt wa m2 = some x) (h4 : gt wb m2 = some y) (h5 : g x y = some w) : eOp g a b ρ m = some (w, m2) := by
  unfold eOp
  simp [h1, h2, h3, h4, h5]
theorem set_own {i : Nat} {a : Ex} {ρ : Pw.Env} {m m1 : Mem} {ds : List D} (h : a ρ m = some (.f (.lst ds), m1)) : sSet i (eOwn a) ρ m = some (.nx, ρ.set i (some (.r m1.length)), m1 ++ [.lst ds]) := by
  unfold sSet eOwn
  simp [h]
theorem set_at {i : Nat} {a : Ex} {ρ : Pw.Env} {m m1 : Mem} {w : W} (h : a ρ m = some (w, m1)) : sSet i a ρ m = some (.nx, ρ.set i (some (stl w)), m1) := by
  unfold sSet
  simp [h]
theorem seq_at {a b : Sx} {ρ ρ1 : Pw.Env} {m m1 : Mem} {r : Option (Out × Pw.Env × Mem)} (h : a ρ m = some (.nx, ρ1, m1)) (h2 : b ρ1 m1 = r) : sSeq a b ρ m = r := by
  unfold sSeq
  rw [h]
  simp only [Option.bind_some]
  exact h2
theorem call_at {G : Fx} {f : Ax} {ρ : Pw.Env} {m m1 : Mem} {ws : List W} {r : Option (W × Mem)} (h : f ρ m = some (ws, m1)) (h2 : G ws m1 = r) : eCall G f ρ m = r := by
  unfold eCall
  rw [h]
  exact h2
theorem while_fold {S : Type} {t : Tx} {b : Sx} {dd : List Nat} (E : S → Pw.Env) (M : S → Mem) (test : S → Bool) (stp : S → S) (P : S → Prop) (ms : S → Nat)
    (ht : ∀ s, P s → t (E s) (M s) = some (test s, M s))
    (hb : ∀ s, P s → test s = true → P (stp s) ∧ ms (stp s) < ms s ∧ ∃ ρ2, b (E s) (M s) = some (.nx, ρ2, M (stp s)) ∧ wipeD ρ2 dd = E (stp s)) (s0 : S) (h0 : P s0) :
    ∃ s', P s' ∧ test s' = false ∧ sWhile t b dd (E s0) (M s0) = some (.nx, E s', M s') := by
  have gen : ∀ (k : Nat) (s : S), ms s < k → P s → ∃ s', P s' ∧ test s' = false ∧ whileN t b dd k (E s) (M s) = some (.nx, E s', M s') := by
    intro k
    induction k with
    | zero => intro s h; omega
    | succ k ih =>
      intro s h p
      unfold whileN
      rw [ht s p]
      simp only [Option.bind_some]
      cases e : test s with
      | false => exact ⟨s, p, e, by simp⟩
      | true =>
        obtain ⟨p1, m1, ρ2, q1, q2⟩ := hb s p e
        obtain ⟨s', p', t', w'⟩ := ih (stp s) (by omega) p1
        refine ⟨s', p', t', ?_⟩
        simp only [if_true, q1, Option.bind_some, q2]
        exact w'
  obtain ⟨s', p', t', w'⟩ := gen (ms s0 + 1) s0 (Nat.lt_succ_self _) h0
  exact ⟨s', p', t', while_is w'⟩
/-- the last of a list -/
theorem at_last {α : Type} {xs : List α} {x : α} : atI (xs ++ [x]) (-1) = some x := by
  unfold atI ixN
  rw [if_neg (by omega)]
  simp only [List.length_append, List.length_singleton]
  rw [if_pos (by omega), show (-1 + ((xs.length + 1 : Nat) : Int)).toNat = xs.length by omega]
  simp
theorem eq_nilT (is : List Nat) : eqD true (.lst (is.map nD)) (.lst []) = some (.v (.bl (!is.isEmpty))) := by
  have h1 : pyD (.lst (is.map nD)) = some (.list (is.map fun i : Nat => PyData.int i)) := by rw [pyD, pyDs_n]; rfl
  have h2 : pyD (.lst []) = some (.list []) := by rw [pyD, pyDs]; rfl
  have s1 : SeqAt.shaped (.list (is.map fun i : Nat => PyData.int i)) = true := by
    obtain ⟨a, b⟩ := lay_ints is
    unfold SeqAt.shaped
    rw [PyData.canLay0, a, PyData.depth, Bool.true_and, decide_eq_true_eq]
    omega
  unfold eqD eqB
  simp only [sc, h1, h2]
  rw [if_pos ⟨s1, rfl⟩]
  cases is <;> rfl
theorem eq_t1 (i : Nat) : eqD true (.tup [nD i]) (.tup [nD i]) = some (.v (.bl false)) := by
  have h1 : pyD (.tup [nD i]) = some (.tuple [PyData.int i]) := by rw [pyD, pyDs, pyD, pyDs]; rfl
  have s1 : SeqAt.shaped (.tuple [PyData.int i]) = true := by
    unfold SeqAt.shaped
    simp [PyData.canLay0, PyData.canLayAll0, PyData.depth, PyData.depthAll]
  unfold eqD eqB
  simp only [sc, h1]
  rw [if_pos ⟨s1, s1⟩]
  simp [PyData.eqv, PyData.eqvAll]
/-- one folk more -/
theorem GoodH.snoc {F : List Fo} {f g : Fo} {F0 : List Fo} (h : GoodH F) (hF : F = F0 ++ [g]) (hl : F.length < 60) (hd : g.day ≤ f.day) (ok : FoOk f) (fa : ParOk F f.day f.fa 1) (mo : ParOk F f.day f.mo 0) : GoodH (F ++ [f]) := by
  have gm : g ∈ F := by rw [hF]; simp
  have hh : HalfH F g.day := by
    refine ⟨(h.ok g gm).d0, (h.ok g gm).d1, fun x hx => ?_, h.ok, h.fa, h.mo, h.up⟩
    have up := h.up
    rw [hF] at hx up
    rcases List.mem_append.mp hx with z | z
    · exact (List.pairwise_append.mp up).2.2 x z g (by simp)
    · rw [List.mem_singleton.mp z]; exact Int.le_refl _
  have n := hh.snoc hd ok fa mo
  exact ⟨by simp, by simp; omega, n.ok, n.fa, n.mo, n.up⟩
end Ls
end
section
set_option Elab.async false
set_option linter.all false
set_option maxRecDepth 100000
set_option maxHeartbeats 4000000
/-! is_line, of lines of folk; the reach -/
namespace Ls
open PySem L2 Pw Pv Lx
noncomputable def B_is_number : Sx := (sRet (eAnd (eIs .int (eVar 0)) (eNot (eIs .bool (eVar 0)))))
noncomputable def F_is_number : Fx := runF 1 1 B_is_number
noncomputable def B_is_folk_of : Sx := (sRet (eAnd (eCall F_is_number (aCons (eVar 1) aNil)) (eChain (cmpD leI) (cmpD ltI) (eC (.int 0)) (eVar 1) (eCB lenD (aCons (eVar 0) aNil)))))
noncomputable def F_is_folk_of : Fx := runF 2 2 B_is_folk_of
noncomputable def E_are_folk_of_1 : Ex := eAll true (iSeq (eVar 1)) (gN 2) tYes' (eCall F_is_folk_of (aCons (eVar 0) (aCons (eVar 2) aNil))) [2]
noncomputable def B_are_folk_of : Sx := (sRet (eAnd (eIs .tuple (eVar 1)) E_are_folk_of_1))
noncomputable def F_are_folk_of : Fx := runF 2 3 B_are_folk_of
noncomputable def E_is_line_1 : Ex := eAll true (iRngB (aCons (eC (.int 1)) (aCons (eCB lenD (aCons (eVar 4) aNil)) aNil))) (gN 6) tYes' (eOp (inD false) (eOp ixD (eVar 4) (eVar 6)) (eOp ixD (eVar 5) (eOp ixD (eVar 4) (eOp subD (eVar 6) (eC (.int 1)))))) [6]
noncomputable def B_is_line : Sx := (sSeq (sIf (tOr' (tNot' (tTru (eCall F_are_folk_of (aCons (eVar 0) (aCons (eVar 4) aNil))))) (tVal (eOp (eqD false) (eCB lenD (aCons (eVar 4) aNil)) (eC (.int 0))))) (sRet (eC (.bl false))) sNil) (sSeq (sIf (tOr' (tVal (eOp (eqD true) (eOp ixD (eVar 4) (eC (.int 0))) (eOp ixD (eVar 2) (eC (.int 0))))) (tNot' (tTru (eCall F_founder_is_born (aCons (eVar 0) (aCons (eVar 2) (aCons (eVar 3) aNil))))))) (sRet (eC (.bl false))) sNil) (sSeq (sSet 5 (eCall F_all_steps (aCons (eVar 0) (aCons (eVar 1) (aCons (eVar 2) (aCons (eVar 3) aNil)))))) (sRet E_is_line_1))))
noncomputable def F_is_line : Fx := runF 5 7 B_is_line
section
variable {α : Type} {src : Ix} {t : Gx} {c : Tx} {f : Ex} {vs : List Nat} {ρ : Pw.Env} {m m1 : Mem}
theorem allL_map {xs : List D} (g : α → D) (val : α → Bool) {ρ : Pw.Env} {m : Mem} : ∀ (L : List α), (∀ a ∈ L, ∃ ρ1, t (g a) ρ = some ρ1 ∧ c ρ1 m = some (true, m) ∧ f ρ1 m = some (.v (.bl (val a)), m)) →
    allL true (.seq xs) xs t c f ρ (L.map g) m = some (L.all val, m)
  | [], _ => by simp [allL]
  | a :: L, h => by
    obtain ⟨ρ1, h1, h2, h3⟩ := h a List.mem_cons_self
    rw [List.map_cons]
    unfold allL
    rw [if_pos (by simp), h1]
    simp only [Option.bind_some, h2, h3, if_true]
    rw [allL_map g val L fun a ha => h a (List.mem_cons_of_mem _ ha), List.all_cons]
    cases val a <;> simp
/-- all of a generator that changes nothing -/
theorem all_map (L : List α) (g : α → D) (val : α → Bool) (hs : src ρ m = some (.seq (L.map g), m1)) (h : ∀ a ∈ L, ∃ ρ1, t (g a) (wipeD ρ vs) = some ρ1 ∧ c ρ1 m1 = some (true, m1) ∧ f ρ1 m1 = some (.v (.bl (val a)), m1)) :
    eAll true src t c f vs ρ m = some (.v (.bl (L.all val)), m1) := by
  unfold eAll
  rw [hs]
  simp only [Option.bind_some, items_seq]
  rw [allL_map g val L h]
  rfl
end
theorem in_nats {c : Nat} {L : List Nat} : inD false (nD c) (.lst (L.map nD)) = some (.v (.bl (decide (c ∈ L)))) := by
  have e : ∀ L : List Nat, inV (.int (c : Int)) (L.map fun i : Nat => V.int (i : Int)) = decide (c ∈ L) := fun L => by
    induction L with
    | nil => rfl
    | cons a L ih =>
      have s : inV (.int (c : Int)) ((a :: L).map fun i : Nat => V.int (i : Int)) = ((((a : Int)) == (c : Int)) || inV (.int (c : Int)) (L.map fun i : Nat => V.int (i : Int))) := rfl
      rw [s, ih, Bool.eq_iff_iff]
      simp only [Bool.or_eq_true, beq_iff_eq, decide_eq_true_eq, List.mem_cons]
      constructor
      · rintro (h | h)
        · exact .inl (by omega)
        · exact .inr h
      · rintro (h | h)
        · exact .inl (by omega)
        · exact .inr h
  have ms : ∀ L : List Nat, (L.map nD).mapM sc = some (L.map fun i : Nat => V.int (i : Int)) := fun L => by
    induction L with
    | nil => rfl
    | cons a L ih => rw [List.map_cons, List.mapM_cons, ih]; rfl
  unfold inD inB
  simp only [itmD, Option.bind_some, sc, ms, e, Bool.bne_false]
section
variable {F : List Fo} {B : List Nw} {r : Rw} {day : Int} {m : Mem}
theorem is_number_spec {i : Int} : F_is_number [.v (.int i)] m = some (.v (.bl true), m) := by
  simp only [F_is_number, runF, B_is_number, startD]
  simp [sRet, eAnd, tVal, eIs, eVar, isD, eNot]
theorem is_folk_of_spec {i : Int} : F_is_folk_of [.v (hD F), .v (.int i)] m = some (.v (.bl (decide (0 ≤ i) && decide (i < F.length))), m) := by
  have nn : ∀ m, F_is_number [.v (.int i)] m = _ := fun m => is_number_spec
  simp only [F_is_folk_of, runF, B_is_folk_of, startD]
  by_cases h : 0 ≤ i <;> simp [sRet, eAnd, tVal, eCall, aCons, aNil, eVar, nn, eChain, eC, eCB, h]
theorem are_folk_of_spec {L : List Nat} (hl : ∀ i ∈ L, i < F.length) : F_are_folk_of [.v (hD F), .v (.tup (L.map nD))] m = some (.v (.bl true), m) := by
  have ia : ∀ i m, F_is_folk_of [.v (hD F), .v (.int i)] m = _ := fun i m => is_folk_of_spec (i := i)
  have al : E_are_folk_of_1 [some (.v (hD F)), some (.v (.tup (L.map nD))), none] m = some (.v (.bl (L.all fun i => decide ((0 : Int) ≤ (i : Int)) && decide ((i : Int) < F.length))), m) :=
    all_map L nD _ (by simp [iSeq, eVar]) fun i hi => ⟨_, rfl, rfl, by simp [eCall, aCons, aNil, eVar, ia]⟩
  have e : (L.all fun i => decide ((0 : Int) ≤ (i : Int)) && decide ((i : Int) < F.length)) = true := List.all_eq_true.mpr fun i hi => by
    have := hl i hi
    simp; omega
  rw [e] at al
  simp only [F_are_folk_of, runF, B_are_folk_of, startD]
  simp [sRet, eAnd, tVal, eIs, eVar, isD, al]
/-- a line: from the founder on, by steps -/
structure LineOk (F : List Fo) (B : List Nw) (r : Rw) (day : Int) (L : List Nat) : Prop where
  head : ∃ rest, L = r.founder.toNat :: rest
  lt : ∀ i ∈ L, i < F.length
  step : ∀ (i a b : Nat), L[i]? = some a → L[i + 1]? = some b → b ∈ stepsOf F B r day a
theorem ss_ix {S : Nat → List Nat} {n w : Nat} (h : w < n) : ixD (ssD S n) (nD w) = some (.v (.lst ((S w).map nD))) := by
  show (atI ((List.range n).map fun w => D.lst ((S w).map nD)) (w : Int)).bind _ = _
  rw [at_nat (x := .lst ((S w).map nD)) (by simp [h])]
  rfl
theorem is_line_spec {L : List Nat} {ff : Fo} (hF : GoodH F) (hB : ∀ n ∈ B, 0 ≤ n.day) (hb : B.length ≤ 1000) (hr : RwOk F r) (hL : LineOk F B r day L) (hl : L.length ≤ 1000) (ef : F[r.founder.toNat]? = some ff) (hd : ff.day ≤ day) :
    F_is_line [.v (hD F), .v (bD B), .v r.d, .v (.int day), .v (.tup (L.map nD))] m = some (.v (.bl true), m) := by
  obtain ⟨rest, hh⟩ := hL.head
  have l1 := hF.le
  have f0 := hr.f0
  have hf0 : r.founder = (r.founder.toNat : Int) := by omega
  have fb : ∀ m, F_founder_is_born [.v (hD F), .v r.d, .v (.int day)] m = some (.v (.bl true), m) := fun m => by
    have := founder_spec (m := m) (day := day) hf0 ef
    rw [decide_eq_true hd] at this
    exact this
  have as : ∀ m, F_all_steps [.v (hD F), .v (bD B), .v r.d, .v (.int day)] m = some (.v (ssD (stepsOf F B r day) F.length), m) := fun m => all_steps_spec (GoodH.par hF) (by omega) hB hb hr.wed
  have af : ∀ m, F_are_folk_of [.v (hD F), .v (.tup (L.map nD))] m = some (.v (.bl true), m) := fun m => are_folk_of_spec hL.lt
  have ln : ¬ ((L.length : Int) = 0) := by rw [hh, List.length_cons]; omega
  have lp : 0 < L.length := by rw [hh]; simp
  have ln2 : ¬ L = [] := fun z => by rw [z] at hh; cases hh
  have h0 : atI (L.map nD) 0 = some (.int r.founder) := by
    rw [hh, List.map_cons]
    rw [at0, nD, ← hf0]
  have r0 : ixD r.d (.int 0) = some (.v (.int r.founder)) := by simp
  have al : E_is_line_1 [some (.v (hD F)), some (.v (bD B)), some (.v r.d), some (.v (.int day)), some (.v (.tup (L.map nD))), some (.v (ssD (stepsOf F B r day) F.length)), none] m = some (.v (.bl ((List.range (L.length - 1)).all fun _ => true)), m) := by
    refine all_map (List.range (L.length - 1)) (fun i => D.int (1 + (i : Int))) (fun _ => true) ?_ fun i hi => ⟨_, rfl, rfl, ?_⟩
    · have rb : rngB [.int 1, .int (L.length : Int)] = some (rngD 1 (L.length - 1)) := by
        unfold rngB
        simp only []
        rw [if_pos ⟨by omega, by omega, by omega, by omega⟩]
        congr 2
        omega
      simp [iRngB, aCons, aNil, eC, eCB, eVar, rb, rngD]
    · have hi' := List.mem_range.mp hi
      have ha := List.getElem?_eq_getElem (l := L) (i := i) (by omega)
      have hb' := List.getElem?_eq_getElem (l := L) (i := i + 1) (by omega)
      have st := hL.step i _ _ ha hb'
      have lt := hL.lt _ (List.mem_of_getElem? ha)
      generalize L[i] = a at ha st lt
      generalize L[i + 1] = b at hb' st
      have ea : atI (L.map nD) (1 + (i : Int) - 1) = some (nD a) := by
        rw [show (1 + (i : Int) - 1) = (i : Int) by omega]
        exact at_nat (by rw [List.getElem?_map, ha]; rfl)
      have eb : atI (L.map nD) (1 + (i : Int)) = some (nD b) := by
        rw [show (1 + (i : Int)) = ((i + 1 : Nat) : Int) by omega]
        exact at_nat (by rw [List.getElem?_map, hb']; rfl)
      have sa := ss_ix (S := stepsOf F B r day) lt
      have inn := in_nats (c := b) (L := stepsOf F B r day a)
      rw [decide_eq_true st] at inn
      simp [eOp, eVar, eC, ea, eb, sa, inn]
  rw [show ((List.range (L.length - 1)).all fun _ => true) = true from List.all_eq_true.mpr fun _ _ => rfl] at al
  simp only [F_is_line, runF, B_is_line, startD]
  simp [sSeq, sIf, tOr', tNot', tTru, tVal, eCall, aCons, aNil, eVar, eC, eOp, eCB, af, truD, ln, ln2, sNil, h0, r0, fb, sSet, as, sRet, al]
end
end Ls
end
section
set_option Elab.async false
set_option linter.all false
set_option maxRecDepth 100000
set_option maxHeartbeats 4000000
/-! the reach -/
namespace Ls
open PySem L2 Pw Pv Lx
noncomputable def L_parents_by_1 : Sx := (sPutK (eVar 4) (eVar 6) (eVar 5))
noncomputable def L_parents_by_2 : Sx := (sFog [6] (sIf (tVal (eOp (inKD false) (eVar 5) (eVar 4))) (sFor (iSeq (eOp ixD (eVar 3) (eVar 5))) (gN 6) L_parents_by_1 [6]) sNil))
noncomputable def B_parents_by : Sx := (sSeq (sIf (tNot' (tTru (eCall F_founder_is_born (aCons (eVar 0) (aCons (eVar 1) (aCons (eVar 2) aNil)))))) (sRet eNewK) sNil) (sSeq (sSet 4 (eOwn (eDisp [((eOp ixD (eVar 1) (eC (.int 0))), (eUn negD (eC (.int 1))))]))) (sSeq (sFor (iRngB (aCons (eOp ixD (eVar 1) (eC (.int 0))) (aCons (eCB lenD (aCons (eVar 0) aNil)) aNil))) (gN 5) L_parents_by_2 [5, 6]) (sRet (eVar 4)))))
noncomputable def F_parents_by : Fx := runF 4 7 B_parents_by
noncomputable def E_reach_of_1 : Ex := eTupG (iSeq (eCB sortKD (aCons (eVar 4) aNil))) (gN 5) tYes' (eTup (aCons (eVar 5) (aCons (eOp ixKD (eVar 4) (eVar 5)) aNil))) [5]
noncomputable def B_reach_of : Sx := (sSeq (sSet 4 (eCall F_parents_by (aCons (eVar 0) (aCons (eVar 2) (aCons (eVar 3) (aCons (eCall F_all_steps (aCons (eVar 0) (aCons (eVar 1) (aCons (eVar 2) (aCons (eVar 3) aNil))))) aNil)))))) (sRet E_reach_of_1))
noncomputable def F_reach_of : Fx := runF 4 6 B_reach_of
section
variable {F : List Fo} {B : List Nw} {r : Rw} {day : Int} {m : Mem}
def stepP (S : Nat → List Nat) (P : List (Key × D)) (w : Nat) : List (Key × D) := if (valX P (.inl (w : Int))).isSome = true then (S w).foldl (fun (P : List (Key × D)) (c : Nat) => putX P (.inl (c : Int)) (.int (w : Int))) P else P
def parP (S : Nat → List Nat) (f0 n : Nat) : List (Key × D) := (List.range (n - f0)).foldl (fun P i => stepP S P (f0 + i)) [(.inl (f0 : Int), .int (-1))]
theorem in_key {w : Int} {P : List (Key × D)} : inKD false (.int w) (.dk P) = some (.v (.bl (valX P (.inl w)).isSome)) := by
  unfold inKD
  simp only [key_i, Option.bind_some]
  cases (valX P (.inl w)).isSome <;> rfl
abbrev envP (F : List Fo) (r : Rw) (day : Int) (S : Nat → List Nat) (k : Nat) (x5 x6 : Option W) : Pw.Env := [some (.v (hD F)), some (.v r.d), some (.v (.int day)), some (.v (ssD S F.length)), some (.r k), x5, x6]
theorem par_turn {S : Nat → List Nat} {P : List (Key × D)} {w : Nat} (hw : w < F.length) (hS : ∀ w, (S w).length ≤ 1000) (hP : P.length ≤ 500000) :
    L_parents_by_2 (envP F r day S m.length (some (.v (nD w))) none) (m ++ [.dk P]) = some (.nx, envP F r day S m.length (some (.v (nD w))) none, m ++ [.dk (stepP S P w)]) ∧ (stepP S P w).length ≤ P.length + 1000 := by
  have ik := in_key (w := (w : Int)) (P := P)
  unfold stepP
  cases hv : (valX P (.inl (w : Int))).isSome with
  | false =>
    rw [hv] at ik
    refine ⟨?_, by simp⟩
    simp [L_parents_by_2, sFog, sIf, tVal, eOp, eVar, ik, sNil]
  | true =>
    rw [hv] at ik
    have sa := ss_ix (S := S) hw
    obtain ⟨e, hl⟩ := for_foldN (src := iSeq (eOp ixD (eVar 3) (eVar 5))) (t := gN 6) (b := L_parents_by_1) (dd := [6]) (S w) nD (fun _ : List (Key × D) => envP F r day S m.length (some (.v (nD w))) none) (fun P => m ++ [.dk P]) (fun P c => putX P (.inl (c : Int)) (.int (w : Int))) (fun k Q => Q.length ≤ P.length + k) P
      (by simp [iSeq, eOp, eVar, sa]) (by simp)
      (fun k c hk Q hQ => by
        have hk' : k < 1000 := by have := (List.getElem?_eq_some_iff.mp hk).1; have := hS w; omega
        have pl := @put_len _ _ Q (.inl (c : Int) : Key) (.int (w : Int) : D)
        refine ⟨by omega, _, envP F r day S m.length (some (.v (nD w))) (some (.v (nD c))), rfl, ?_, rfl⟩
        have ql : Q.length < 1000000 := by omega
        have ky : keyOf (nD c) = some (.inl (c : Int)) := rfl
        simp [L_parents_by_1, sPutK, eVar, ky, ql])
    refine ⟨?_, by have := hS w; simp only [if_true]; omega⟩
    simp [L_parents_by_2, sFog, sIf, tVal, eOp, eVar, ik]
    rw [e]
    simp
theorem parents_by_spec {S : Nat → List Nat} {f0 : Nat} {ff : Fo} (hl : F.length ≤ 60) (hS : ∀ w, (S w).length ≤ 1000) (h0 : r.founder = (f0 : Int)) (hf : F[f0]? = some ff) :
    F_parents_by [.v (hD F), .v r.d, .v (.int day), .v (ssD S F.length)] m = some (.f (.dk (if ff.day ≤ day then parP S f0 F.length else [])), m) := by
  have fb : ∀ m, F_founder_is_born [.v (hD F), .v r.d, .v (.int day)] m = some (.v (.bl (decide (ff.day ≤ day))), m) := fun m => founder_spec h0 hf
  have r0 : ixD r.d (.int 0) = some (.v (.int (f0 : Int))) := by simp [Rw.d, h0]
  have hfl : f0 < F.length := (List.getElem?_eq_some_iff.mp hf).1
  by_cases hb : ff.day ≤ day
  · obtain ⟨e, _⟩ := for_foldN (src := iRngB (aCons (eOp ixD (eVar 1) (eC (.int 0))) (aCons (eCB lenD (aCons (eVar 0) aNil)) aNil))) (t := gN 5) (b := L_parents_by_2) (dd := [5, 6]) (List.range (F.length - f0)) (fun i => D.int ((f0 : Int) + (i : Int))) (fun _ : List (Key × D) => envP F r day S m.length none none) (fun P => m ++ [.dk P]) (fun P i => stepP S P (f0 + i)) (fun k Q => Q.length ≤ 1 + 1000 * k) [(.inl (f0 : Int), .int (-1))]
      (by
        have rb : rngB [.int (f0 : Int), .int (F.length : Int)] = some (rngD f0 (F.length - f0)) := by
          unfold rngB
          simp only []
          rw [if_pos ⟨by omega, by omega, by omega, by omega⟩]
          congr 2
          omega
        simp [iRngB, aCons, aNil, eC, eCB, eVar, eOp, r0, rb, rngD]) (by simp)
      (fun k i hk Q hQ => by
        obtain ⟨hkl, hke⟩ := List.getElem?_eq_some_iff.mp hk
        have hik : i = k := by rw [← hke]; simp
        subst hik
        have hil : i < F.length - f0 := by simpa using hkl
        obtain ⟨q, ql⟩ := par_turn (F := F) (r := r) (day := day) (m := m) (S := S) (P := Q) (w := f0 + i) (by omega) hS (by omega)
        have gi : (D.int ((f0 : Int) + (i : Int))) = nD (f0 + i) := by rw [nD]; congr 1
        refine ⟨by omega, _, envP F r day S m.length (some (.v (nD (f0 + i)))) none, rfl, ?_, rfl⟩
        rw [gi]
        exact q)
    have a2 : sSet 4 (eOwn (eDisp [((eOp ixD (eVar 1) (eC (.int 0))), (eUn negD (eC (.int 1))))])) [some (.v (hD F)), some (.v r.d), some (.v (.int day)), some (.v (ssD S F.length)), none, none, none] m = some (.nx, envP F r day S m.length none none, m ++ [.dk [(.inl (f0 : Int), .int (-1))]]) := by
      have ky : keyOf (.int (f0 : Int)) = some (.inl (f0 : Int)) := rfl
      have dd : eDisp [((eOp ixD (eVar 1) (eC (.int 0))), (eUn negD (eC (.int 1))))] [some (.v (hD F)), some (.v r.d), some (.v (.int day)), some (.v (ssD S F.length)), none, none, none] m = some (.f (.dk [(.inl (f0 : Int), .int (-1))]), m) := by
        simp [eDisp, pairsX, eOp, eVar, eC, r0, ky, eUn, putsX, putX]
      unfold sSet eOwn
      rw [dd]
      rfl
    have a1 : sIf (tNot' (tTru (eCall F_founder_is_born (aCons (eVar 0) (aCons (eVar 1) (aCons (eVar 2) aNil)))))) (sRet eNewK) sNil [some (.v (hD F)), some (.v r.d), some (.v (.int day)), some (.v (ssD S F.length)), none, none, none] m = some (.nx, [some (.v (hD F)), some (.v r.d), some (.v (.int day)), some (.v (ssD S F.length)), none, none, none], m) := by
      simp [sIf, tNot', tTru, eCall, aCons, aNil, eVar, fb, hb, truD, sNil]
    have a4 : sRet (eVar 4) (envP F r day S m.length none none) (m ++ [.dk (parP S f0 F.length)]) = some (.ret (.r m.length), envP F r day S m.length none none, m ++ [.dk (parP S f0 F.length)]) := by
      simp [sRet, eVar]
    have all : B_parents_by [some (.v (hD F)), some (.v r.d), some (.v (.int day)), some (.v (ssD S F.length)), none, none, none] m = some (.ret (.r m.length), envP F r day S m.length none none, m ++ [.dk (parP S f0 F.length)]) := seq_at a1 (seq_at a2 (seq_at e a4))
    unfold F_parents_by runF
    rw [if_pos (show ([.v (hD F), .v r.d, .v (.int day), .v (ssD S F.length)] : List W).length = 4 from rfl)]
    rw [show startD 7 [.v (hD F), .v r.d, .v (.int day), .v (ssD S F.length)] = [some (.v (hD F)), some (.v r.d), some (.v (.int day)), some (.v (ssD S F.length)), none, none, none] from rfl, all, if_pos hb]
    simp [outW]
  · simp only [F_parents_by, runF, B_parents_by, startD]
    simp [sSeq, sIf, tNot', tTru, eCall, aCons, aNil, eVar, fb, hb, truD, sRet, eNewK]
end
end Ls
end
section
set_option Elab.async false
set_option linter.all false
set_option maxRecDepth 100000
set_option maxHeartbeats 4000000
/-! what is there on a day is there ever after -/
namespace Ls
open PySem L2 Pw Pv Lx
section
variable {F : List Fo} {B : List Nw} {r : Rw} {d1 d2 : Int} {m : Mem}
theorem days_up {who : Int} {word : Str} (h : d1 ≤ d2) {d : Int} (hd : d ∈ daysOf B d1 who word) : d ∈ daysOf B d2 who word := by
  unfold daysOf dayP at *
  obtain ⟨n, hn, rfl⟩ := List.mem_map.mp hd
  obtain ⟨h1, h2⟩ := List.mem_filter.mp hn
  simp at h2
  exact List.mem_map.mpr ⟨n, List.mem_filter.mpr ⟨h1, by simp [h2.1, h2.2.2]; omega⟩, rfl⟩
theorem days_down {who : Int} {word : Str} {d : Int} (hd : d ∈ daysOf B d2 who word) (h : d ≤ d1) : d ∈ daysOf B d1 who word := by
  unfold daysOf dayP at *
  obtain ⟨n, hn, rfl⟩ := List.mem_map.mp hd
  obtain ⟨h1, h2⟩ := List.mem_filter.mp hn
  simp at h2
  exact List.mem_map.mpr ⟨n, List.mem_filter.mpr ⟨h1, by simp [h2.1, h2.2.2, h]⟩, rfl⟩
theorem back_up (hB : ∀ n ∈ B, 0 ≤ n.day) {who : Int} (h : d1 ≤ d2) : backOf B d1 who ≤ backOf B d2 who := by
  unfold backOf
  rcases max_def (daysOf B d1 who "returns") (-1) with ⟨e1, e2⟩ | ⟨e1, e2⟩
  · rw [e2]
    rcases max_def (daysOf B d2 who "returns") (-1) with ⟨f1, f2⟩ | ⟨f1, f2⟩
    · rw [f2]; exact Int.le_refl _
    · unfold daysOf at f1
      obtain ⟨n, hn, e⟩ := List.mem_map.mp f1
      have := hB n (List.mem_filter.mp hn).1
      unfold daysOf
      omega
  · rcases max_def (daysOf B d2 who "returns") (-1) with ⟨f1, f2⟩ | ⟨f1, f2⟩
    · have := days_up (d2 := d2) h e1
      rw [f1] at this; cases this
    · exact f2 _ (days_up h e1)
/-- a child that the cut leaves is left by later ones -/
theorem cut_up (hB : ∀ n ∈ B, 0 ≤ n.day) {who day : Int} (h : d1 ≤ d2) (hd : day ≤ d1) (h1 : cutFrom B d1 who = -1 ∨ day < cutFrom B d1 who) : cutFrom B d2 who = -1 ∨ day < cutFrom B d2 who := by
  unfold cutFrom at *
  rcases min_def (behind B d2 who "cuts") (-1) with ⟨e1, e2⟩ | ⟨e1, e2⟩
  · exact .inl e2
  · right
    generalize ((behind B d2 who "cuts").foldl bst_min none).getD (-1) = x at e1 e2
    unfold behind at e1
    obtain ⟨f1, f2⟩ := List.mem_filter.mp e1
    simp at f2
    by_cases hx : x ≤ d1
    · have b1 := back_up (who := who) hB h
      have mem : x ∈ behind B d1 who "cuts" := List.mem_filter.mpr ⟨days_down f1 hx, by simp; omega⟩
      rcases min_def (behind B d1 who "cuts") (-1) with ⟨g1, g2⟩ | ⟨g1, g2⟩
      · rw [g1] at mem; cases mem
      · have := g2 x mem
        have g0 : 0 ≤ ((behind B d1 who "cuts").foldl bst_min none).getD (-1) := by
          unfold behind at g1
          have g3 := (List.mem_filter.mp g1).1
          unfold daysOf at g3
          obtain ⟨n, hn, e⟩ := List.mem_map.mp g3
          have := hB n (List.mem_filter.mp hn).1
          unfold behind daysOf
          rw [← e]; exact this
        omega
    · omega
theorem found_up (hB : ∀ n ∈ B, 0 ≤ n.day) {who : Int} (h : d1 ≤ d2) {i : Nat} (hi : i ∈ foundOf F B r d1 who) : i ∈ foundOf F B r d2 who := by
  unfold foundOf at *
  obtain ⟨h1, h2⟩ := List.mem_filter.mp hi
  refine List.mem_filter.mpr ⟨h1, ?_⟩
  unfold ccP at *
  cases e : F[i]? with
  | none => rw [e] at h2; cases h2
  | some f =>
    rw [e] at h2
    simp only [Bool.and_eq_true, Bool.not_eq_true', Bool.or_eq_false_iff, Bool.or_eq_true, decide_eq_true_eq, decide_eq_false_iff_not] at h2 ⊢
    obtain ⟨⟨a1, a2⟩, a3⟩ := h2
    exact ⟨⟨by omega, a2⟩, cut_up hB h (by omega) a3⟩
theorem steps_up (hB : ∀ n ∈ B, 0 ≤ n.day) (h : d1 ≤ d2) {w i : Nat} (hi : i ∈ stepsOf F B r d1 w) : i ∈ stepsOf F B r d2 w := by
  unfold stepsOf at *
  split at hi
  · cases hi
  · rename_i hn
    rw [if_neg hn]
    split at hi
    · rename_i hf
      rw [if_pos hf]
      rcases List.mem_append.mp hi with z | z
      · obtain ⟨z1, z2⟩ := List.mem_filter.mp z
        exact List.mem_append.mpr (.inl (List.mem_filter.mpr ⟨found_up hB h z1, z2⟩))
      · obtain ⟨z1, z2⟩ := List.mem_filter.mp z
        exact List.mem_append.mpr (.inr (List.mem_filter.mpr ⟨found_up hB h z1, z2⟩))
    · rename_i hf
      rw [if_neg hf]
      exact found_up hB h hi
theorem LineOk.up (hB : ∀ n ∈ B, 0 ≤ n.day) (h : d1 ≤ d2) {L : List Nat} (hL : LineOk F B r d1 L) : LineOk F B r d2 L :=
  ⟨hL.head, hL.lt, fun i a b h1 h2 => steps_up hB h (hL.step i a b h1 h2)⟩
/-! the reach -/
theorem val_put' {P : List (Key × D)} {k k' : Key} {d : D} (h : (valX P k').isSome = true) : (valX (putX P k d) k').isSome = true := by
  rw [val_put]
  split
  · rfl
  · exact h
theorem val_puts {w : Nat} {k' : Key} : ∀ (l : List Nat) {P : List (Key × D)}, (valX P k').isSome = true → (valX (l.foldl (fun (P : List (Key × D)) (c : Nat) => putX P (.inl (c : Int)) (.int (w : Int))) P) k').isSome = true
  | [], P, h => h
  | c :: l, P, h => val_puts l (val_put' h)
theorem val_in {w : Nat} {i : Int} : ∀ (l : List Nat) {P : List (Key × D)}, (valX (l.foldl (fun (P : List (Key × D)) (c : Nat) => putX P (.inl (c : Int)) (.int (w : Int))) P) (.inl i)).isSome = ((valX P (.inl i)).isSome || decide (∃ c ∈ l, (c : Int) = i))
  | [], P => by simp
  | c :: l, P => by
    rw [List.foldl_cons, val_in l, val_put]
    by_cases h : i = (c : Int)
    · subst h; simp
    · have h' : ¬ (Sum.inl i : Key) = Sum.inl (c : Int) := fun z => h (Sum.inl.inj z)
      rw [if_neg h']
      have : ¬ (c : Int) = i := fun z => h z.symm
      simp [this]
/-- more steps, more reach -/
theorem par_up {S S' : Nat → List Nat} (hS : ∀ w i, i ∈ S w → i ∈ S' w) {i : Int} : ∀ (l : List Nat) (g : Nat → Nat) (P P' : List (Key × D)), (∀ i, (valX P (.inl i)).isSome = true → (valX P' (.inl i)).isSome = true) →
    (valX (l.foldl (fun P j => stepP S P (g j)) P) (.inl i)).isSome = true → (valX (l.foldl (fun P j => stepP S' P (g j)) P') (.inl i)).isSome = true
  | [], g, P, P', h, hi => h i hi
  | j :: l, g, P, P', h, hi => by
    refine par_up hS l g (stepP S P (g j)) (stepP S' P' (g j)) (fun i hi => ?_) hi
    unfold stepP at *
    by_cases hj : (valX P (.inl ((g j : Nat) : Int))).isSome = true
    · rw [if_pos hj, val_in] at hi
      rw [if_pos (h _ hj), val_in]
      simp only [Bool.or_eq_true, decide_eq_true_eq] at hi ⊢
      rcases hi with z | ⟨c, z1, z2⟩
      · exact .inl (h _ z)
      · exact .inr ⟨c, hS _ _ z1, z2⟩
    · rw [if_neg hj] at hi
      split
      · rw [val_in, h _ hi]; rfl
      · exact h _ hi
end
end Ls
end
section
set_option Elab.async false
set_option linter.all false
set_option maxRecDepth 100000
set_option maxHeartbeats 4000000
namespace Lm
open PySem L2 Pw Pv Lx
theorem in_nats {c : Nat} {L : List Nat} : inD false (nD c) (.lst (L.map nD)) = some (.v (.bl (decide (c ∈ L)))) := by
  have e : ∀ L : List Nat, inV (.int (c : Int)) (L.map fun i : Nat => V.int (i : Int)) = decide (c ∈ L) := fun L => by
    induction L with
    | nil => rfl
    | cons a L ih =>
      have s : inV (.int (c : Int)) ((a :: L).map fun i : Nat => V.int (i : Int)) = ((((a : Int)) == (c : Int)) || inV (.int (c : Int)) (L.map fun i : Nat => V.int (i : Int))) := rfl
      rw [s, ih, Bool.eq_iff_iff]
      simp only [Bool.or_eq_true, beq_iff_eq, decide_eq_true_eq, List.mem_cons]
      constructor
      · rintro (h | h)
        · exact .inl (by omega)
        · exact .inr h
      · rintro (h | h)
        · exact .inl (by omega)
        · exact .inr h
  have ms : ∀ L : List Nat, (L.map nD).mapM sc = some (L.map fun i : Nat => V.int (i : Int)) := fun L => by
    induction L with
    | nil => rfl
    | cons a L ih => rw [List.map_cons, List.mapM_cons, ih]; rfl
  unfold inD inB
  simp only [itmD, Option.bind_some, sc, ms, e, Bool.bne_false]
theorem mul_x1 {a : Int} : mulD (.int a) (.int 1) = some (.v (.int a)) := by rw [Lx.mul_i (.inr (by omega))]; simp
theorem mul_x0 {a : Int} : mulD (.int a) (.int 0) = some (.v (.int 0)) := by rw [Lx.mul_i (.inr (by omega))]; simp
theorem out_new {m : Mem} {ds : List D} : outW m.length (.r m.length) (m ++ [.lst ds]) = some (.f (.lst ds), m) := by simp [outW]
section
variable (F : List Fo) (B : List Nw) (r : Rw) (day : Int)
def b1 (b : Bool) : Int := if b = true then 1 else 0
def parT (L : List Int) (c : Nat) (p : Int) : Int := if p = -1 then 0 else L.getD p.toNat 0 * b1 (decide (c ∈ stepsOf F B r day p.toNat))
def bornF (c : Nat) : Bool := match F[c]? with
  | some f => decide ((c : Int) = r.founder) && decide (f.day ≤ day)
  | none => false
def dueT (L : List Int) (c : Nat) : Int := match F[c]? with
  | some f => b1 (bornF F r day c) + parT F B r day L c f.fa + parT F B r day L c f.mo
  | none => 0
def dueL : Nat → List Int
  | 0 => []
  | k + 1 => dueL k ++ [dueT F B r day (dueL k) k]
end
variable {F : List Fo} {B : List Nw} {r : Rw} {day : Int}
theorem due_len : ∀ k, (dueL F B r day k).length = k
  | 0 => rfl
  | k + 1 => by rw [dueL, List.length_append, due_len k]; rfl
theorem par_in (hF : GoodH F) {c : Nat} {f : Fo} (h : F[c]? = some f) : (f.fa = -1 ∨ (0 ≤ f.fa ∧ f.fa < c ∧ f.fa < F.length)) ∧ (f.mo = -1 ∨ (0 ≤ f.mo ∧ f.mo < c ∧ f.mo < F.length)) := by
  have g : ∀ {v man : Int}, ParOk (F.take c) f.day v man → v = -1 ∨ (0 ≤ v ∧ v < c ∧ v < F.length) := fun {v man} q => by
    rcases q with q | ⟨j, x, rfl, e, _⟩
    · exact .inl q
    · have := (List.getElem?_eq_some_iff.mp e).1
      rw [List.length_take] at this
      exact .inr (by omega)
  exact ⟨g (hF.fa c f h), g (hF.mo c f h)⟩
end Lm
end
section
set_option Elab.async false
set_option linter.all false
set_option maxRecDepth 100000
set_option maxHeartbeats 4000000
namespace Lm
open PySem L2 Pw Pv Lx
section
variable (F : List Fo) (B : List Nw) (r : Rw) (day : Int)
def DD (p : Nat) : Int := (dueL F B r day F.length).getD p 0
def wgt (v p : Nat) : Int := DD F B r day p * b1 (decide (v ∈ stepsOf F B r day p))
def sumS (k v : Nat) : Int := ((List.range k).map (wgt F B r day v)).sum
end
variable {F : List Fo} {B : List Nw} {r : Rw} {day : Int}
theorem due_at : ∀ {n p : Nat}, p < n → (dueL F B r day n).getD p 0 = dueT F B r day (dueL F B r day p) p
  | 0, p, h => by omega
  | n + 1, p, h => by
    rw [dueL]
    by_cases hp : p < n
    · rw [← due_at hp]
      simp [List.getD_eq_getElem?_getD, List.getElem?_append_left (show p < (dueL F B r day n).length by rw [due_len]; exact hp)]
    · obtain rfl : p = n := by omega
      simp [List.getD_eq_getElem?_getD, List.getElem?_append_right (show (dueL F B r day p).length ≤ p by rw [due_len]; omega), due_len]
theorem due_pre {v p : Nat} (h : p < v) (hv : v ≤ F.length) : (dueL F B r day v).getD p 0 = DD F B r day p := by
  unfold DD
  rw [due_at h, due_at (by omega)]
theorem found_par {v p : Nat} (h : v ∈ stepsOf F B r day p) : ∃ f, F[v]? = some f ∧ (f.fa = (p : Int) ∨ f.mo = (p : Int)) := by
  have hk : v ∈ foundOf F B r day p := by
    unfold stepsOf at h
    split at h
    · cases h
    · split at h
      · rcases List.mem_append.mp h with z | z <;> exact (List.mem_filter.mp z).1
      · exact h
  have hk2 := (List.mem_filter.mp (List.mem_filter.mp hk).1).2
  unfold kidP at hk2
  cases e : F[v]? with
  | none => rw [e] at hk2; cases hk2
  | some f =>
    rw [e] at hk2
    exact ⟨f, rfl, by simpa using hk2⟩
theorem sum_two {g : Nat → Int} {a b : Int} (hab : a = b → a < 0) (hz : ∀ p : Nat, (p : Int) ≠ a → (p : Int) ≠ b → g p = 0) : ∀ k : Nat,
    ((List.range k).map g).sum = (if 0 ≤ a ∧ a < k then g a.toNat else 0) + (if 0 ≤ b ∧ b < k then g b.toNat else 0)
  | 0 => by
    rw [if_neg (by omega), if_neg (by omega)]; rfl
  | k + 1 => by
    rw [List.range_succ, List.map_append, List.sum_append, sum_two hab hz k]
    simp only [List.map_cons, List.map_nil, List.sum_cons, List.sum_nil]
    by_cases h1 : (k : Int) = a
    · have h2 : ¬ (k : Int) = b := fun h => by have := hab (by omega); omega
      have e : a.toNat = k := by omega
      rw [if_neg (show ¬ (0 ≤ a ∧ a < (k : Int)) by omega), if_pos (show 0 ≤ a ∧ a < ((k + 1 : Nat) : Int) by omega), e]
      by_cases h3 : 0 ≤ b ∧ b < (k : Int)
      · rw [if_pos h3, if_pos (by omega)]; omega
      · rw [if_neg h3, if_neg (by omega)]; omega
    · by_cases h2 : (k : Int) = b
      · have e : b.toNat = k := by omega
        rw [if_neg (show ¬ (0 ≤ b ∧ b < (k : Int)) by omega), if_pos (show 0 ≤ b ∧ b < ((k + 1 : Nat) : Int) by omega), e]
        by_cases h3 : 0 ≤ a ∧ a < (k : Int)
        · rw [if_pos h3, if_pos (by omega)]; omega
        · rw [if_neg h3, if_neg (by omega)]; omega
      · rw [hz k h1 h2]
        have i1 : (0 ≤ a ∧ a < ((k + 1 : Nat) : Int)) ↔ (0 ≤ a ∧ a < (k : Int)) := by omega
        have i2 : (0 ≤ b ∧ b < ((k + 1 : Nat) : Int)) ↔ (0 ≤ b ∧ b < (k : Int)) := by omega
        simp only [i1, i2]; omega
theorem par_ne (hF : GoodH F) {c : Nat} {f : Fo} (h : F[c]? = some f) : f.fa = f.mo → f.fa < 0 := fun e => by
  rcases hF.fa c f h with q | ⟨j, g, q1, q2, q3, _⟩
  · omega
  · rcases hF.mo c f h with p | ⟨i, g', p1, p2, p3, _⟩
    · omega
    · have : i = j := by omega
      subst this
      rw [p2] at q2; cases q2
      omega
theorem due_sum (hF : GoodH F) {v k : Nat} (hv : v < F.length) (hk : v ≤ k) : DD F B r day v = b1 (bornF F r day v) + sumS F B r day k v := by
  have ev := List.getElem?_eq_getElem hv
  generalize F[v] = f at ev
  obtain ⟨p1, p2⟩ := par_in hF ev
  have z : ∀ p : Nat, (p : Int) ≠ f.fa → (p : Int) ≠ f.mo → wgt F B r day v p = 0 := fun p h1 h2 => by
    unfold wgt
    have : ¬ v ∈ stepsOf F B r day p := fun hm => by
      obtain ⟨g, e, h⟩ := found_par hm
      rw [ev] at e; cases e
      omega
    simp [this, b1]
  unfold sumS
  rw [sum_two (par_ne hF ev) z k]
  have pt : ∀ p : Int, (p = -1 ∨ (0 ≤ p ∧ p < v ∧ p < F.length)) → parT F B r day (dueL F B r day v) v p = if 0 ≤ p ∧ p < k then wgt F B r day v p.toNat else 0 := fun p hp => by
    unfold parT
    rcases hp with rfl | ⟨a1, a2, a3⟩
    · simp
    · rw [if_neg (by omega), if_pos (by omega), due_pre (by omega) (by omega)]; rfl
  unfold DD
  rw [due_at hv]
  unfold dueT
  rw [ev]
  simp only
  rw [pt _ p1, pt _ p2]
  omega
theorem sum_ge : ∀ {l : List Int}, (∀ x ∈ l, 0 ≤ x) → 0 ≤ l.sum
  | [], _ => by simp
  | a :: l, h => by
    rw [List.sum_cons]
    have h1 := h a List.mem_cons_self
    have h2 := sum_ge (l := l) fun x hx => h x (List.mem_cons_of_mem _ hx)
    omega
theorem sum_zero : ∀ {l : List Int}, (∀ x ∈ l, x = 0) → l.sum = 0
  | [], _ => by simp
  | a :: l, h => by
    rw [List.sum_cons]
    have h1 := h a List.mem_cons_self
    have h2 := sum_zero (l := l) fun x hx => h x (List.mem_cons_of_mem _ hx)
    omega
theorem due_nonneg (hF : GoodH F) : ∀ (n v : Nat), v < n → v < F.length → 0 ≤ DD F B r day v
  | 0, v, h, _ => by omega
  | n + 1, v, h, hv => by
    rw [due_sum hF hv (Nat.le_refl _)]
    have ih := due_nonneg hF n
    have s : 0 ≤ sumS F B r day v v := by
      unfold sumS
      refine sum_ge ?_
      intro x hx
      obtain ⟨p, hp, rfl⟩ := List.mem_map.mp hx
      have hp' := List.mem_range.mp hp
      unfold wgt b1
      have := ih p (by omega) (by omega)
      split <;> omega
    have b : 0 ≤ b1 (bornF F r day v) := by unfold b1; split <;> omega
    omega
theorem due_low (hF : GoodH F) : ∀ (n v : Nat), v < n → v < F.length → (v : Int) < r.founder → DD F B r day v = 0
  | 0, v, h, _, _ => by omega
  | n + 1, v, h, hv, hl => by
    rw [due_sum hF hv (Nat.le_refl _)]
    have ih := due_low hF n
    have s : sumS F B r day v v = 0 := by
      unfold sumS
      refine sum_zero fun x hx => ?_
      obtain ⟨p, hp, rfl⟩ := List.mem_map.mp hx
      have hp' := List.mem_range.mp hp
      unfold wgt
      rw [ih p (by omega) (by omega) (by omega)]; simp
    have b : b1 (bornF F r day v) = 0 := by
      unfold bornF b1
      cases F[v]? with
      | none => rfl
      | some f =>
        have : ¬ (v : Int) = r.founder := by omega
        simp [this]
    omega
theorem sum_low (hF : GoodH F) {k v : Nat} (hk : (k : Int) ≤ r.founder) (hn : k ≤ F.length) : sumS F B r day k v = 0 := by
  unfold sumS
  refine sum_zero fun x hx => ?_
  obtain ⟨p, hp, rfl⟩ := List.mem_map.mp hx
  have hp' := List.mem_range.mp hp
  unfold wgt
  rw [due_low hF (p + 1) p (by omega) (by omega) (by omega)]; simp
theorem sum_up {k v : Nat} : sumS F B r day (k + 1) v = sumS F B r day k v + wgt F B r day v k := by
  unfold sumS
  rw [List.range_succ, List.map_append, List.sum_append]
  simp
theorem steps_nodup {w : Nat} : (stepsOf F B r day w).Nodup := by
  have h0 : (foundOf F B r day w).Nodup := (List.nodup_range.filter _).filter _
  unfold stepsOf
  split
  · exact List.nodup_nil
  · split
    · rw [List.nodup_append]
      refine ⟨h0.filter _, h0.filter _, fun a ha b hb e => ?_⟩
      subst e
      have h1 := (List.mem_filter.mp ha).2
      have h2 := (List.mem_filter.mp hb).2
      rw [h1] at h2; cases h2
    · exact h0
end Lm
end
section
set_option Elab.async false
set_option linter.all false
set_option maxRecDepth 100000
set_option maxHeartbeats 4000000
namespace Lm
open PySem L2 Pw Pv Lx
def tab (f : Nat → Int) (n : Nat) : List D := (List.range n).map fun v => D.int (f v)
theorem tab_len {f : Nat → Int} {n : Nat} : (tab f n).length = n := by simp [tab]
theorem tab_at {f : Nat → Int} {n c : Nat} (h : c < n) : atI (tab f n) (c : Int) = some (.int (f c)) := by
  unfold tab atI ixN
  simp [h, List.getElem?_eq_getElem]
theorem tab_ix {f : Nat → Int} {n c : Nat} (h : c < n) : ixN (tab f n).length (c : Int) = some c := by
  unfold tab ixN
  simp [h]
theorem tab_set {f : Nat → Int} {n c : Nat} {x : Int} : (tab f n).set c (.int x) = tab (fun v => if v = c then x else f v) n := by
  unfold tab
  refine List.ext_getElem? fun i => ?_
  rw [List.getElem?_set]
  simp only [List.getElem?_map, List.length_map, List.length_range]
  by_cases h : c = i
  · subst h
    by_cases hc : c < n <;> simp [hc]
  · rw [if_neg h]
    cases e : (List.range n)[i]? with
    | none => rfl
    | some j =>
      have : j = i := by
        obtain ⟨h1, h2⟩ := List.getElem?_eq_some_iff.mp e
        rw [List.getElem_range] at h2
        exact h2.symm
      subst this
      simp [Ne.symm h]
theorem tab_congr {f g : Nat → Int} {n : Nat} (h : ∀ v, v < n → f v = g v) : tab f n = tab g n := by
  unfold tab
  exact List.map_congr_left fun v hv => by rw [h v (List.mem_range.mp hv)]
variable {F : List Fo} {B : List Nw} {r : Rw} {day : Int}
abbrev envN (F : List Fo) (B : List Nw) (r : Rw) (day : Int) (w k : Nat) (x7 x8 : Option W) : Pw.Env := [some (.v (hD F)), some (.v (bD B)), some (.v r.d), some (.v (.int day)), some (.v (nD w)), some (.v (Ls.ssD (stepsOf F B r day) F.length)), some (.r k), x7, x8]
theorem lm1 {f : Nat → Int} {n w p c : Nat} {m : Mem} (hp : p < n) (hc : c < n) :
    Ls.L_lines_many_1 (envN F B r day w m.length (some (.v (nD p))) (some (.v (nD c)))) (m ++ [.lst (tab f n)]) = some (.nx, envN F B r day w m.length (some (.v (nD p))) (some (.v (nD c))), m ++ [.lst (tab (fun v => if v = c then f c + f p else f v) n)]) := by
  have i1 := tab_ix (f := f) hc
  rw [tab_len] at i1
  simp [Ls.L_lines_many_1, sAug, eVar, eOp, augD, tab_at hp, tab_at hc, i1, tab_len]
  exact tab_set
theorem steps_gt (hF : GoodH F) {v p : Nat} (h : v ∈ stepsOf F B r day p) : p < v ∧ v < F.length := by
  obtain ⟨f, e, q⟩ := found_par h
  obtain ⟨p1, p2⟩ := par_in hF e
  have := (List.getElem?_eq_some_iff.mp e).1
  exact ⟨by omega, this⟩
theorem lm2 {f : Nat → Int} {w p : Nat} {m : Mem} (hF : GoodH F) (hp : p < F.length) (hf : f p = DD F B r day p) :
    Ls.L_lines_many_2 (envN F B r day w m.length (some (.v (nD p))) none) (m ++ [.lst (tab f F.length)]) = some (.nx, envN F B r day w m.length (some (.v (nD p))) none, m ++ [.lst (tab (fun v => f v + wgt F B r day v p) F.length)]) := by
  have l1 := hF.le
  have so := Ls.ss_at (S := stepsOf F B r day) hp
  obtain ⟨ρ', m', e, rfl, rfl⟩ := for_inv (src := iSeq (eOp ixD (eVar 5) (eVar 7))) (t := gN 8) (b := Ls.L_lines_many_1) (dd := [8]) (m1 := m ++ [.lst (tab f F.length)]) (ρ := envN F B r day w m.length (some (.v (nD p))) none) (m := m ++ [.lst (tab f F.length)])
    (stepsOf F B r day p) nD (fun k ρ mm => ρ = envN F B r day w m.length (some (.v (nD p))) none ∧ mm = m ++ [.lst (tab (fun v => f v + if v ∈ (stepsOf F B r day p).take k then DD F B r day p else 0) F.length)])
    (by simp [iSeq, eOp, eVar, so]) ⟨rfl, by simp⟩
    (fun k c hk ρ mm inv => by
      obtain ⟨rfl, rfl⟩ := inv
      have hc := List.mem_of_getElem? hk
      obtain ⟨g1, g2⟩ := steps_gt hF hc
      refine ⟨_, _, _, rfl, lm1 hp g2, rfl, ?_⟩
      congr 3
      refine tab_congr fun v hv => ?_
      obtain ⟨hk1, hk2⟩ := List.getElem?_eq_some_iff.mp hk
      have tk : (stepsOf F B r day p).take (k + 1) = (stepsOf F B r day p).take k ++ [c] := by
        rw [List.take_succ, hk]; rfl
      have nc : c ∉ (stepsOf F B r day p).take k := fun h => by
        have nd := steps_nodup (F := F) (B := B) (r := r) (day := day) (w := p)
        rw [← List.take_append_drop (k + 1) (stepsOf F B r day p), tk] at nd
        have nd1 := (List.nodup_append.mp nd).1
        exact (List.nodup_append.mp nd1).2.2 c h c (List.mem_singleton.mpr rfl) rfl
      have np : p ∉ (stepsOf F B r day p).take k := fun h => by
        have := (steps_gt hF (List.mem_of_mem_take h)).1
        omega
      rw [tk]
      by_cases hvc : v = c
      · subst hvc
        simp [nc, np, hf]
      · simp [hvc])
  have fin : (tab (fun v => f v + if v ∈ (stepsOf F B r day p).take (stepsOf F B r day p).length then DD F B r day p else 0) F.length) = tab (fun v => f v + wgt F B r day v p) F.length := tab_congr fun v _ => by
    unfold wgt b1
    rw [List.take_length]
    by_cases h : v ∈ stepsOf F B r day p <;> simp [h]
  rw [fin] at e
  unfold Ls.L_lines_many_2
  rw [e]
theorem due_none (hF : GoodH F) (hb : ∀ v, bornF F r day v = false) : ∀ (n v : Nat), v < n → v < F.length → DD F B r day v = 0
  | 0, v, h, _ => by omega
  | n + 1, v, h, hv => by
    rw [due_sum hF hv (Nat.le_refl _), hb v]
    have ih := due_none hF hb n
    have s : sumS F B r day v v = 0 := by
      unfold sumS
      refine sum_zero fun x hx => ?_
      obtain ⟨p, hp, rfl⟩ := List.mem_map.mp hx
      have hp' := List.mem_range.mp hp
      unfold wgt
      rw [ih p (by omega) (by omega)]; simp
    rw [s]; rfl
theorem rep0 {n : Nat} (h : n ≤ 1000) : mulD (.lst [.int 0]) (.int (n : Int)) = some (.f (.lst (tab (fun _ => 0) n))) := by
  have e : (List.replicate n [D.int 0]).flatten = tab (fun _ => 0) n := by
    unfold tab
    refine List.ext_getElem? fun i => ?_
    have e1 : (List.replicate n [D.int 0]).flatten = List.replicate n (D.int 0) := by
      induction n with
      | zero => rfl
      | succ k ih => rw [List.replicate_succ, List.flatten_cons, ih (by omega)]; rfl
    rw [e1, List.getElem?_replicate]
    by_cases hi : i < n <;> simp [hi]
  have hn : n ≤ 1000000 := by omega
  have hn2 : (n : Int) < 9223372036854775808 := by omega
  simp [mulD, e, hn, hn2]
theorem rng_up {f0 w : Nat} (h1 : f0 ≤ 1000) (h2 : w ≤ 1000) : rngB [.int (f0 : Int), .int (w : Int)] = some ((List.range (w - f0)).map fun i => nD (f0 + i)) := by
  unfold rngB
  dsimp only
  rw [if_pos (by omega), show ((w : Int) - (f0 : Int)).toNat = w - f0 by omega]
  congr 1
theorem lm3 {w f0 : Nat} {m : Mem} (hF : GoodH F) (hw : w < F.length) (hf0 : r.founder = (f0 : Int)) (hfl : f0 < F.length) (bf : ∀ v, v < F.length → bornF F r day v = decide (v = f0)) :
    sFor (iRngB (aCons (eOp ixD (eVar 2) (eC (.int 0))) (aCons (eVar 4) aNil))) (gN 7) Ls.L_lines_many_2 [7, 8] (envN F B r day w m.length none none) (m ++ [.lst (tab (fun v => b1 (decide (v = f0)) + sumS F B r day f0 v) F.length)]) =
      some (.nx, envN F B r day w m.length none none, m ++ [.lst (tab (fun v => b1 (decide (v = f0)) + sumS F B r day (f0 + (w - f0)) v) F.length)]) := by
  have l1 := hF.le
  have src : (iRngB (aCons (eOp ixD (eVar 2) (eC (.int 0))) (aCons (eVar 4) aNil))) (envN F B r day w m.length none none) (m ++ [.lst (tab (fun v => b1 (decide (v = f0)) + sumS F B r day f0 v) F.length)]) = some (.seq ((List.range (w - f0)).map fun i => nD (f0 + i)), m ++ [.lst (tab (fun v => b1 (decide (v = f0)) + sumS F B r day f0 v) F.length)]) := by
    have e := rng_up (f0 := f0) (w := w) (by omega) (by omega)
    have r0 : ixD r.d (.int 0) = some (.v (nD f0)) := by simp [Rw.d, hf0]
    simp [iRngB, aCons, aNil, eOp, eVar, eC, r0, e]
  obtain ⟨ρ', m', e, rfl, rfl⟩ := for_inv (t := gN 7) (b := Ls.L_lines_many_2) (dd := [7, 8]) (List.range (w - f0)) (fun i => nD (f0 + i))
    (fun k ρ mm => ρ = envN F B r day w m.length none none ∧ mm = m ++ [.lst (tab (fun v => b1 (decide (v = f0)) + sumS F B r day (f0 + k) v) F.length)])
    src ⟨rfl, rfl⟩
    (fun k i hk ρ mm inv => by
      obtain ⟨rfl, rfl⟩ := inv
      obtain ⟨hi, rfl⟩ : k < w - f0 ∧ i = k := by
        obtain ⟨h1, h2⟩ := List.getElem?_eq_some_iff.mp hk
        rw [List.getElem_range] at h2
        exact ⟨by simpa using h1, h2.symm⟩
      have hp : f0 + i < F.length := by omega
      have q := lm2 (f := fun v => b1 (decide (v = f0)) + sumS F B r day (f0 + i) v) (w := w) (m := m) hF hp (by rw [due_sum hF hp (Nat.le_refl _), bf _ hp])
      refine ⟨_, _, _, rfl, q, rfl, ?_⟩
      have tc : tab (fun v => b1 (decide (v = f0)) + sumS F B r day (f0 + i) v + wgt F B r day v (f0 + i)) F.length = tab (fun v => b1 (decide (v = f0)) + sumS F B r day (f0 + (i + 1)) v) F.length := tab_congr fun v _ => by
        rw [show f0 + (i + 1) = (f0 + i) + 1 by omega, sum_up]
        omega
      rw [tc])
  rw [List.length_range] at e
  exact e
end Lm
end
section
set_option Elab.async false
set_option linter.all false
set_option maxRecDepth 100000
set_option maxHeartbeats 4000000
namespace Lm
open PySem L2 Pw Pv Lx
theorem op_at {g : D → D → Option W} {a b : Ex} {ρ : Pw.Env} {m m1 m2 : Mem} {wa wb w : W} {x y : D} (h1 : a ρ m = some (wa, m1)) (h2 : b ρ m1 = some (wb, m2)) (h3 : gt wa m2 = some x) (h4 : gt wb m2 = some y) (h5 : g x y = some w) : eOp g a b ρ m = some (w, m2) := by
  unfold eOp
  simp [h1, h2, h3, h4, h5]
theorem set_own {i : Nat} {a : Ex} {ρ : Pw.Env} {m m1 : Mem} {ds : List D} (h : a ρ m = some (.f (.lst ds), m1)) : sSet i (eOwn a) ρ m = some (.nx, ρ.set i (some (.r m1.length)), m1 ++ [.lst ds]) := by
  unfold sSet eOwn
  simp [h]
theorem zeros {F : List Fo} {ρ : Pw.Env} {m : Mem} (h0 : ρ[0]? = some (some (.v (hD F)))) (h : F.length ≤ 1000) : (eOp mulD (eLst (aCons (eC (.int 0)) aNil)) (eCB lenD (aCons (eVar 0) aNil))) ρ m = some (.f (.lst (tab (fun _ => 0) F.length)), m) := by
  refine op_at (wa := .f (.lst [.int 0])) (wb := .v (.int F.length)) (m1 := m) (by simp [eLst, aCons, aNil, eC]) (by simp [eCB, aCons, aNil, eVar, h0]) rfl rfl (rep0 h)
theorem put_at {o i a : Ex} {ρ : Pw.Env} {m m1 : Mem} {n : Nat} {f : Nat → Int} {c k : Nat} {y : Int} (h1 : a ρ m = some (.v (.int y), m)) (h2 : o ρ m = some (.r k, m)) (h3 : i ρ m = some (.v (nD c), m)) (h4 : m[k]? = some (.lst (tab f n))) (h5 : c < n) (h6 : m.set k (.lst (tab (fun v => if v = c then y else f v) n)) = m1) : sPut o i a ρ m = some (.nx, ρ, m1) := by
  unfold sPut
  have ix := tab_ix (f := f) h5
  simp only [h1, h2, h3, Option.bind_some, vl_v, gt_v, put_r, h4]
  rw [ix, Option.map_some, tab_set, h6]
  rfl
theorem seq_at {a b : Sx} {ρ ρ1 : Pw.Env} {m m1 : Mem} {r : Option (Out × Pw.Env × Mem)} (h : a ρ m = some (.nx, ρ1, m1)) (h2 : b ρ1 m1 = r) : sSeq a b ρ m = r := by
  unfold sSeq
  rw [h]
  simp only [Option.bind_some]
  exact h2
theorem call_at {G : Fx} {f : Ax} {ρ : Pw.Env} {m m1 : Mem} {ws : List W} {r : Option (W × Mem)} (h : f ρ m = some (ws, m1)) (h2 : G ws m1 = r) : eCall G f ρ m = r := by
  unfold eCall
  rw [h]
  exact h2
variable {F : List Fo} {B : List Nw} {r : Rw} {day : Int}
theorem lines_many_spec {w : Nat} {m : Mem} (hF : GoodH F) (hB : ∀ n ∈ B, 0 ≤ n.day) (hl : B.length ≤ 1000) (hr : RwOk F r) (hw : w < F.length) :
    Ls.F_lines_many [.v (hD F), .v (bD B), .v r.d, .v (.int day), .v (nD w)] m = some (.v (.int (DD F B r day w)), m) := by
  have l1 := hF.le
  obtain ⟨f0, hf0⟩ : ∃ f0 : Nat, r.founder = (f0 : Int) := ⟨r.founder.toNat, by have := hr.f0; omega⟩
  have hfl : f0 < F.length := by have := hr.f1; omega
  have ef := List.getElem?_eq_getElem hfl
  generalize F[f0] = ff at ef
  have fb : ∀ m, Ls.F_founder_is_born [.v (hD F), .v r.d, .v (.int day)] m = some (.v (.bl (decide (ff.day ≤ day))), m) := fun m => Ls.founder_spec hf0 ef
  have r0 : ixD r.d (.int 0) = some (.v (nD f0)) := by simp [Rw.d, hf0]
  have as : ∀ m, Ls.F_all_steps [.v (hD F), .v (bD B), .v r.d, .v (.int day)] m = _ := fun m => Ls.all_steps_spec (Ls.GoodH.par hF) (by omega) hB hl hr.wed
  by_cases hb : ff.day ≤ day
  · have bf : ∀ v, v < F.length → bornF F r day v = decide (v = f0) := fun v hv => by
      unfold bornF
      by_cases h : v = f0
      · subst h; rw [ef]; simp [hf0, hb]
      · have : ¬ (v : Int) = r.founder := by omega
        rw [List.getElem?_eq_getElem hv]
        simp [h, this]
    have e := lm3 (B := B) (w := w) (m := m) hF hw hf0 hfl bf
    have ta := tab_at (f := fun v => b1 (decide (v = f0)) + sumS F B r day (f0 + (w - f0)) v) hw
    have fin : b1 (decide (w = f0)) + sumS F B r day (f0 + (w - f0)) w = DD F B r day w := by
      rw [due_sum hF hw (show w ≤ f0 + (w - f0) by omega), bf w hw]
    rw [fin] at ta
    have all : Ls.B_lines_many [some (.v (hD F)), some (.v (bD B)), some (.v r.d), some (.v (.int day)), some (.v (nD w)), none, none, none, none] m = some (.ret (.v (.int (DD F B r day w))), envN F B r day w m.length none none, m ++ [.lst (tab (fun v => b1 (decide (v = f0)) + sumS F B r day (f0 + (w - f0)) v) F.length)]) := by
      unfold Ls.B_lines_many
      refine seq_at (ρ1 := [some (.v (hD F)), some (.v (bD B)), some (.v r.d), some (.v (.int day)), some (.v (nD w)), none, none, none, none]) (m1 := m) (by simp [sIf, tNot', tTru, eCall, aCons, aNil, eVar, fb, hb, truD, sNil]) ?_
      refine seq_at (ρ1 := [some (.v (hD F)), some (.v (bD B)), some (.v r.d), some (.v (.int day)), some (.v (nD w)), some (.v (Ls.ssD (stepsOf F B r day) F.length)), none, none, none]) (m1 := m) (by simp [sSet, eCall, aCons, aNil, eVar, as]) ?_
      refine seq_at (set_own (zeros rfl (by omega))) ?_
      refine seq_at (put_at (ρ := envN F B r day w m.length none none) (k := m.length) (c := f0) (f := fun _ => 0) (n := F.length) (y := 1) (m1 := m ++ [.lst (tab (fun v => b1 (decide (v = f0)) + sumS F B r day f0 v) F.length)]) (by simp [eC]) (by simp [eVar]) (op_at (wa := .v r.d) (wb := .v (.int 0)) rfl rfl rfl rfl r0) (by simp) hfl ?_) ?_
      · have start : tab (fun v => if v = f0 then 1 else 0) F.length = tab (fun v => b1 (decide (v = f0)) + sumS F B r day f0 v) F.length := tab_congr fun v _ => by
          rw [sum_low hF (by omega) (by omega)]
          unfold b1
          by_cases h : v = f0 <;> simp [h]
        rw [start]
        simp
      refine seq_at e ?_
      unfold sRet
      rw [op_at (g := ixD) (a := eVar 6) (b := eVar 4) (ρ := envN F B r day w m.length none none) (m := m ++ [MO.lst (tab (fun v => b1 (decide (v = f0)) + sumS F B r day (f0 + (w - f0)) v) F.length)]) (wa := .r m.length) (wb := .v (nD w)) (x := .lst (tab (fun v => b1 (decide (v = f0)) + sumS F B r day (f0 + (w - f0)) v) F.length)) (y := nD w) (w := .v (.int (DD F B r day w))) rfl rfl (by simp) rfl (by rw [ix_l, ta]; rfl)]
      rfl
    unfold Ls.F_lines_many runF
    rw [if_pos (show ([.v (hD F), .v (bD B), .v r.d, .v (.int day), .v (nD w)] : List W).length = 5 from rfl)]
    rw [show startD 9 [.v (hD F), .v (bD B), .v r.d, .v (.int day), .v (nD w)] = [some (.v (hD F)), some (.v (bD B)), some (.v r.d), some (.v (.int day)), some (.v (nD w)), none, none, none, none] from rfl, all]
    simp
  · have z : DD F B r day w = 0 := due_none hF (fun v => by
      unfold bornF
      cases hv : F[v]? with
      | none => rfl
      | some f =>
        by_cases h : (v : Int) = r.founder
        · have : v = f0 := by omega
          subst this
          rw [ef] at hv; cases hv
          simp [hb]
        · simp [h]) (w + 1) w (Nat.lt_succ_self _) hw
    rw [z]
    simp only [Ls.F_lines_many, runF, Ls.B_lines_many, startD]
    simp [sSeq, sIf, tNot', tTru, eCall, aCons, aNil, eVar, fb, hb, truD, sRet, eC]
end Lm
end
section
set_option Elab.async false
set_option linter.all false
set_option maxRecDepth 100000
set_option maxHeartbeats 4000000
namespace Lm
open PySem L2 Pw Pv Lx
section
variable {F : List Fo} {B : List Nw} {r : Rw} {d1 d2 : Int}
theorem getD_snoc {L : List Int} {x : Int} {p : Nat} : (L ++ [x]).getD p 0 = if p < L.length then L.getD p 0 else if p = L.length then x else 0 := by
  rw [List.getD_eq_getElem?_getD, List.getD_eq_getElem?_getD]
  by_cases h : p < L.length
  · rw [if_pos h, List.getElem?_append_left h]
  · rw [if_neg h, List.getElem?_append_right (by omega)]
    by_cases h2 : p = L.length
    · rw [if_pos h2, h2]; simp
    · rw [if_neg h2, List.getElem?_eq_none (by simp; omega)]; rfl
theorem b1_up {a b : Bool} (h : a = true → b = true) : 0 ≤ b1 a ∧ b1 a ≤ b1 b := by
  unfold b1
  cases a <;> cases b <;> simp at *
theorem part_up (hB : ∀ n ∈ B, 0 ≤ n.day) (h : d1 ≤ d2) {L1 L2 : List Int} (hL : ∀ p, 0 ≤ L1.getD p 0 ∧ L1.getD p 0 ≤ L2.getD p 0) (c : Nat) (p : Int) : 0 ≤ parT F B r d1 L1 c p ∧ parT F B r d1 L1 c p ≤ parT F B r d2 L2 c p := by
  unfold parT
  split
  · exact ⟨Int.le_refl _, Int.le_refl _⟩
  · obtain ⟨a0, a1⟩ := hL p.toNat
    obtain ⟨c0, c1⟩ := b1_up (a := decide (c ∈ stepsOf F B r d1 p.toNat)) (b := decide (c ∈ stepsOf F B r d2 p.toNat)) (fun z => by
      rw [decide_eq_true_eq] at z ⊢
      exact Ls.steps_up hB h z)
    exact ⟨Int.mul_nonneg a0 c0, Int.mul_le_mul a1 c1 c0 (Int.le_trans a0 a1)⟩
theorem due_up (hB : ∀ n ∈ B, 0 ≤ n.day) (h : d1 ≤ d2) : ∀ (k p : Nat), 0 ≤ (dueL F B r d1 k).getD p 0 ∧ (dueL F B r d1 k).getD p 0 ≤ (dueL F B r d2 k).getD p 0
  | 0, p => by simp [dueL]
  | k + 1, p => by
    have ih := due_up hB h k
    rw [dueL, dueL, getD_snoc, getD_snoc, due_len, due_len]
    split
    · exact ih p
    · split
      · unfold dueT
        cases e : F[k]? with
        | none => exact ⟨Int.le_refl _, Int.le_refl _⟩
        | some f =>
          have q1 := part_up (F := F) (r := r) hB h ih k f.fa
          have q2 := part_up (F := F) (r := r) hB h ih k f.mo
          have q3 := b1_up (a := bornF F r d1 k) (b := bornF F r d2 k) (fun z => by
            unfold bornF at *
            rw [e] at z ⊢
            simp only [Bool.and_eq_true, decide_eq_true_eq] at z ⊢
            exact ⟨z.1, by omega⟩)
          simp only []
          omega
      · exact ⟨Int.le_refl _, Int.le_refl _⟩
theorem DD_up (hB : ∀ n ∈ B, 0 ≤ n.day) (h : d1 ≤ d2) (w : Nat) : DD F B r d1 w ≤ DD F B r d2 w := (due_up hB h F.length w).2
end
/-! places by the day -/
theorem range_of {p : Nat → Bool} (hp : ∀ i, p (i + 1) = true → p i = true) : ∀ n, ∃ k, (List.range n).filter p = List.range k
  | 0 => ⟨0, rfl⟩
  | n + 1 => by
    obtain ⟨k, hk⟩ := range_of hp n
    rw [List.range_succ, List.filter_append]
    by_cases h : p n = true
    · refine ⟨n + 1, ?_⟩
      have all : ∀ j, ∀ i, i + j = n → p i = true := by
        intro j
        induction j with
        | zero => intro i e; rw [show i = n by omega]; exact h
        | succ j ih => intro i e; exact hp i (ih (i + 1) (by omega))
      rw [List.filter_cons_of_pos h, List.range_succ]
      congr 1
      exact List.filter_eq_self.mpr fun i hi => all (n - i) i (by have := List.mem_range.mp hi; omega)
    · exact ⟨k, by rw [List.filter_cons_of_neg h, hk]; simp⟩
def bornP (F : List Fo) (day : Int) (i : Nat) : Bool := match F[i]? with
  | some f => decide (f.day ≤ day)
  | none => false
theorem some_range {F : List Fo} {day : Int} (hF : GoodH F) : ∃ k, k ≤ F.length ∧ (List.range F.length).filter (bornP F day) = List.range k := by
  obtain ⟨k, hk⟩ := range_of (p := bornP F day) (fun i h => by
    unfold bornP at *
    cases e : F[i + 1]? with
    | none => rw [e] at h; cases h
    | some g =>
      rw [e] at h
      have hl := (List.getElem?_eq_some_iff.mp e).1
      have ei := List.getElem?_eq_getElem (l := F) (i := i) (by omega)
      rw [ei]
      have := List.pairwise_iff_getElem.mp hF.up i (i + 1) (by omega) hl (by omega)
      have eg : F[i + 1] = g := (List.getElem?_eq_some_iff.mp e).2
      simp only [decide_eq_true_eq] at h ⊢
      rw [eg] at this
      omega) F.length
  refine ⟨k, ?_, hk⟩
  have := congrArg List.length hk
  rw [List.length_range] at this
  rw [← this]
  exact Nat.le_trans (List.length_filter_le _ _) (by simp)
theorem some_up {F : List Fo} {d1 d2 : Int} {k1 k2 : Nat} (h : d1 ≤ d2) (e1 : (List.range F.length).filter (bornP F d1) = List.range k1) (e2 : (List.range F.length).filter (bornP F d2) = List.range k2) : k1 ≤ k2 := by
  rcases Nat.eq_zero_or_pos k1 with z | z
  · omega
  · have m1 : k1 - 1 ∈ List.range k1 := List.mem_range.mpr (by omega)
    rw [← e1] at m1
    obtain ⟨a, b⟩ := List.mem_filter.mp m1
    have m2 : k1 - 1 ∈ (List.range F.length).filter (bornP F d2) := List.mem_filter.mpr ⟨a, by
      unfold bornP at *
      cases e : F[k1 - 1]? with
      | none => rw [e] at b; cases b
      | some f =>
        rw [e] at b
        simp only [decide_eq_true_eq] at b ⊢
        omega⟩
    rw [e2] at m2
    have := List.mem_range.mp m2
    omega
end Lm
end
section
set_option Elab.async false
set_option linter.all false
set_option maxRecDepth 100000
set_option maxHeartbeats 4000000
namespace Lm
open PySem L2 Pw Pv Lx Ls
theorem in_ints_aux {c : Int} : (∀ L : List Int, inV (.int c) (L.map V.int) = decide (c ∈ L)) ∧ ∀ L : List Int, (L.map D.int).mapM sc = some (L.map V.int) := by
  constructor
  · intro L
    induction L with
    | nil => rfl
    | cons a L ih =>
      have s : inV (.int c) ((a :: L).map V.int) = ((a == c) || inV (.int c) (L.map V.int)) := rfl
      rw [s, ih, Bool.eq_iff_iff]
      simp only [Bool.or_eq_true, beq_iff_eq, decide_eq_true_eq, List.mem_cons]
      constructor
      · rintro (h | h)
        · exact .inl h.symm
        · exact .inr h
      · rintro (h | h)
        · exact .inl h.symm
        · exact .inr h
  · intro L
    induction L with
    | nil => rfl
    | cons a L ih => rw [List.map_cons, List.mapM_cons, ih]; rfl
theorem in_lst {neg : Bool} {c : Int} {L : List Int} : inD neg (.int c) (.lst (L.map .int)) = some (.v (.bl (decide (c ∈ L) != neg))) := by
  obtain ⟨e, ms⟩ := in_ints_aux (c := c)
  unfold inD inB
  simp only [itmD, Option.bind_some, sc, ms, e]
theorem in_tup {neg : Bool} {c : Int} {L : List Int} : inD neg (.int c) (.tup (L.map .int)) = some (.v (.bl (decide (c ∈ L) != neg))) := by
  obtain ⟨e, ms⟩ := in_ints_aux (c := c)
  unfold inD inB
  simp only [itmD, Option.bind_some, sc, ms, e]
theorem nD_ints (L : List Nat) : L.map nD = (L.map fun i : Nat => (i : Int)).map D.int := by rw [List.map_map]; rfl
theorem eq_tupT (is : List Nat) : eqD true (.tup (is.map nD)) (.tup []) = some (.v (.bl (!is.isEmpty))) := by
  have h1 : pyD (.tup (is.map nD)) = some (.tuple (is.map fun i : Nat => PyData.int i)) := by rw [pyD, pyDs_n]; rfl
  have h2 : pyD (.tup []) = some (.tuple []) := by rw [pyD, pyDs]; rfl
  have s1 : SeqAt.shaped (.tuple (is.map fun i : Nat => PyData.int i)) = true := by
    obtain ⟨a, b⟩ := lay_ints is
    unfold SeqAt.shaped
    rw [PyData.canLay0, a, PyData.depth, Bool.true_and, decide_eq_true_eq]
    omega
  unfold eqD eqB
  simp only [sc, h1, h2]
  rw [if_pos ⟨s1, rfl⟩]
  cases is <;> rfl
/-! the reach -/
theorem keys_ok {P : List (Key × D)} {is : List Int} (h : keysI P = some is) (i : Int) : i ∈ is ↔ (valX P (.inl i)).isSome = true := by
  induction P generalizing is with
  | nil => cases h; simp [valX]
  | cons p r ih =>
    obtain ⟨k, x⟩ := p
    cases k with
    | inr z => rw [keysI] at h; cases h
    | inl j =>
      rw [keysI] at h
      obtain ⟨js, e1, rfl⟩ := Option.map_eq_some_iff.mp h
      have := ih e1
      unfold valX at *
      rw [List.find?_cons]
      by_cases hj : j = i
      · subst hj; simp
      · have hj' : ¬ (Sum.inl j : Key) = Sum.inl i := fun z => hj (Sum.inl.inj z)
        have hj2 : ¬ i = j := fun z => hj z.symm
        simp only [hj', decide_false, List.mem_cons, hj2, false_or]
        exact this
theorem keys_map {k : Key} {d : D} : ∀ {kvs : List (Key × D)} {is : List Int}, keysI kvs = some is → ∃ js, keysI (kvs.map fun kv => if kv.1 = k then (kv.1, d) else kv) = some js
  | [], _, _ => ⟨[], rfl⟩
  | (.inr z, x) :: r, is, h => by rw [keysI] at h; cases h
  | (.inl i, x) :: r, is, h => by
    rw [keysI] at h
    obtain ⟨js, e1, rfl⟩ := Option.map_eq_some_iff.mp h
    obtain ⟨ks, e2⟩ := keys_map (k := k) (d := d) e1
    rw [List.map_cons]
    split
    · rw [keysI, e2]; exact ⟨_, rfl⟩
    · rw [keysI, e2]; exact ⟨_, rfl⟩
theorem keys_app {w : Int} {d : D} : ∀ {kvs : List (Key × D)} {is : List Int}, keysI kvs = some is → ∃ js, keysI (kvs ++ [(.inl w, d)]) = some js
  | [], _, _ => ⟨[w], rfl⟩
  | (.inr z, x) :: r, is, h => by rw [keysI] at h; cases h
  | (.inl i, x) :: r, is, h => by
    rw [keysI] at h
    obtain ⟨js, e1, rfl⟩ := Option.map_eq_some_iff.mp h
    obtain ⟨ks, e2⟩ := keys_app (w := w) (d := d) e1
    rw [List.cons_append, keysI, e2]
    exact ⟨_, rfl⟩
theorem keys_put {w : Int} {d : D} {kvs : List (Key × D)} (h : ∃ is, keysI kvs = some is) : ∃ js, keysI (putX kvs (.inl w) d) = some js := by
  obtain ⟨is, h⟩ := h
  unfold putX
  split
  · exact keys_map h
  · exact keys_app h
theorem keys_puts {w : Nat} : ∀ (l : List Nat) {P : List (Key × D)}, (∃ is, keysI P = some is) → ∃ is, keysI (l.foldl (fun (P : List (Key × D)) (c : Nat) => putX P (.inl (c : Int)) (.int (w : Int))) P) = some is
  | [], P, h => h
  | c :: l, P, h => keys_puts l (keys_put h)
theorem keys_par {S : Nat → List Nat} {f0 n : Nat} : ∃ is, keysI (parP S f0 n) = some is := by
  have gen : ∀ (l : List Nat) (P : List (Key × D)), (∃ is, keysI P = some is) → ∃ is, keysI (l.foldl (fun P i => stepP S P (f0 + i)) P) = some is := by
    intro l
    induction l with
    | nil => intro P h; exact h
    | cons j l ih =>
      intro P h
      rw [List.foldl_cons]
      refine ih _ ?_
      unfold stepP
      split
      · exact keys_puts _ h
      · exact h
  exact gen _ _ ⟨[f0], rfl⟩
section
variable {F : List Fo} {B : List Nw} {r : Rw} {day : Int} {m : Mem}
/-- what parents_by tells -/
def reachD (F : List Fo) (B : List Nw) (r : Rw) (day : Int) : List (Key × D) := match F[r.founder.toNat]? with
  | some ff => if ff.day ≤ day then parP (stepsOf F B r day) r.founder.toNat F.length else []
  | none => []
theorem keys_reach : ∃ is, keysI (reachD F B r day) = some is := by
  unfold reachD
  split
  · split
    · exact keys_par
    · exact ⟨[], rfl⟩
  · exact ⟨[], rfl⟩
theorem reach_of_spec {is : List Int} (hF : GoodH F) (hB : ∀ n ∈ B, 0 ≤ n.day) (hb : B.length ≤ 1000) (hr : RwOk F r) (hi : keysI (reachD F B r day) = some is) (hl : is.length ≤ 100000) :
    F_reach_of [.v (hD F), .v (bD B), .v r.d, .v (.int day)] m = some (.v (.tup ((sortM iLt is).map fun w => .tup [.int w, ((valX (reachD F B r day) (.inl w)).getD .non)])), m) := by
  have l1 := hF.le
  have f0 := hr.f0
  have f1 := hr.f1
  have hf0 : r.founder = (r.founder.toNat : Int) := by omega
  have ef := List.getElem?_eq_getElem (l := F) (i := r.founder.toNat) (by omega)
  have as : ∀ m, F_all_steps [.v (hD F), .v (bD B), .v r.d, .v (.int day)] m = some (.v (ssD (stepsOf F B r day) F.length), m) := fun m => all_steps_spec (GoodH.par hF) (by omega) hB hb hr.wed
  have pb : ∀ m, F_parents_by [.v (hD F), .v r.d, .v (.int day), .v (ssD (stepsOf F B r day) F.length)] m = some (.f (.dk (reachD F B r day)), m) := fun m => by
    rw [parents_by_spec l1 (fun w => Nat.le_trans steps_len (by omega)) hf0 ef]
    unfold reachD
    rw [ef]
  have sk : sortKD [.dk (reachD F B r day)] = some (.f (.lst ((sortM iLt is).map .int))) := by unfold sortKD; simp [hi]
  have pl : (sortM iLt is).length = is.length := (sortM_perm is).length_eq
  have tg : E_reach_of_1 [some (.v (hD F)), some (.v (bD B)), some (.v r.d), some (.v (.int day)), some (.v (.dk (reachD F B r day))), none] m = some (.v (.tup ((sortM iLt is).map fun w => .tup [.int w, ((valX (reachD F B r day) (.inl w)).getD .non)])), m) := by
    have := tupG_map (src := iSeq (eCB sortKD (aCons (eVar 4) aNil))) (t := gN 5) (c := tYes') (f := eTup (aCons (eVar 5) (aCons (eOp ixKD (eVar 4) (eVar 5)) aNil))) (vs := [5]) (ρ := [some (.v (hD F)), some (.v (bD B)), some (.v r.d), some (.v (.int day)), some (.v (.dk (reachD F B r day))), none]) (m := m) (m1 := m) (sortM iLt is) D.int (fun _ => true) (fun w => .tup [.int w, ((valX (reachD F B r day) (.inl w)).getD .non)]) (by simp [iSeq, eCB, aCons, aNil, eVar, sk]) (fun w hw => ⟨_, rfl, rfl, fun _ => ⟨.v (.tup [.int w, ((valX (reachD F B r day) (.inl w)).getD .non)]), ?_, rfl⟩⟩) (by omega)
    · unfold E_reach_of_1
      rw [this, List.filter_eq_self.mpr (fun _ _ => rfl)]
    · have hw' : w ∈ is := (sortM_perm is).mem_iff.mp hw
      obtain ⟨d, hd⟩ := Option.isSome_iff_exists.mp ((keys_ok hi w).mp hw')
      have ix : ixKD (.dk (reachD F B r day)) (.int w) = some (.v d) := by
        unfold ixKD
        simp only [key_i, Option.bind_some, hd]
      simp [eTup, aCons, aNil, eVar, eOp, ix, hd]
  simp only [F_reach_of, runF, B_reach_of, startD]
  simp [sSeq, sSet, eCall, aCons, aNil, eVar, as, pb, sRet, tg]
theorem puts_len {w : Nat} : ∀ (l : List Nat) (P : List (Key × D)), (l.foldl (fun (P : List (Key × D)) (c : Nat) => putX P (.inl (c : Int)) (.int (w : Int))) P).length ≤ P.length + l.length
  | [], P => by simp
  | c :: l, P => by
    rw [List.foldl_cons]
    have h1 := puts_len (w := w) l (putX P (.inl (c : Int)) (.int (w : Int)))
    have h2 := @put_len _ _ P (.inl (c : Int) : Key) (.int (w : Int) : D)
    simp only [List.length_cons]
    omega
theorem par_len {S : Nat → List Nat} (hS : ∀ w, (S w).length ≤ 1000) {f0 : Nat} : ∀ (l : List Nat) (P : List (Key × D)), (l.foldl (fun P i => stepP S P (f0 + i)) P).length ≤ P.length + 1000 * l.length
  | [], P => by simp
  | j :: l, P => by
    rw [List.foldl_cons]
    have h1 := par_len hS (f0 := f0) l (stepP S P (f0 + j))
    have h2 : (stepP S P (f0 + j)).length ≤ P.length + 1000 := by
      unfold stepP
      split
      · have := puts_len (w := f0 + j) (S (f0 + j)) P
        have := hS (f0 + j)
        omega
      · omega
    simp only [List.length_cons]
    omega
theorem reach_len {is : List Int} (hF : GoodH F) (hi : keysI (reachD F B r day) = some is) : is.length ≤ 100000 := by
  have l1 := hF.le
  have a := congrArg List.length (keysI_map hi)
  rw [List.length_map, List.length_map] at a
  rw [← a]
  unfold reachD
  split
  · split
    · have := par_len (S := stepsOf F B r day) (fun w => Nat.le_trans steps_len (by omega)) (f0 := r.founder.toNat) (List.range (F.length - r.founder.toNat)) [(.inl (r.founder.toNat : Int), .int (-1))]
      unfold parP
      rw [List.length_range] at this
      simp only [List.length_singleton] at this
      omega
    · simp
  · simp
/-- who is reached is reached ever after -/
theorem reach_up {d1 d2 : Int} (hB : ∀ n ∈ B, 0 ≤ n.day) (h : d1 ≤ d2) {i : Int} (hi : (valX (reachD F B r d1) (.inl i)).isSome = true) : (valX (reachD F B r d2) (.inl i)).isSome = true := by
  unfold reachD at *
  cases e : F[r.founder.toNat]? with
  | none => rw [e] at hi; cases hi
  | some ff =>
    rw [e] at hi
    simp only at hi ⊢
    split at hi
    · rename_i h1
      rw [if_pos (by omega)]
      unfold parP at *
      exact par_up (fun w i hi => steps_up hB h hi) _ _ _ _ (fun _ h => h) hi
    · cases hi
end
end Lm
end
section
set_option Elab.async false
set_option linter.all false
set_option maxRecDepth 100000
set_option maxHeartbeats 2000000
/-! == of data made of numbers, texts, tuples and lists; tuples and lists of numbers. -/
namespace Lq
open PySem L2 Pw Pv Lx Ls
mutual
def gd : Nat → D → Bool
  | _, .int _ => true
  | _, .str x => PyData.strOk x
  | n, .tup ds => decide (0 < n) && gds (n - 1) ds
  | n, .lst ds => decide (0 < n) && gds (n - 1) ds
  | _, .non => false
  | _, .bl _ => false
  | _, .fl _ => false
  | _, .dk _ => false
  | _, .dt _ => false
  | _, .rl _ _ => false
def gds : Nat → List D → Bool
  | _, [] => true
  | n, d :: ds => gd n d && gds n ds
end
mutual
theorem gd_py : ∀ (n : Nat) (d : D), gd n d = true → ∃ p, pyD d = some p ∧ PyData.canLay0 p = true ∧ PyData.depth p ≤ n
  | n, .int i, _ => ⟨.int i, by rw [pyD], rfl, Nat.zero_le _⟩
  | n, .str x, h => ⟨.str x, by rw [pyD], by rw [gd] at h; exact h, Nat.zero_le _⟩
  | n, .tup ds, h => by
    rw [gd, Bool.and_eq_true] at h
    obtain ⟨ps, e, c, dp⟩ := gds_py (n - 1) ds h.2
    have := of_decide_eq_true h.1
    exact ⟨.tuple ps, by rw [pyD, e]; rfl, c, by rw [PyData.depth]; omega⟩
  | n, .lst ds, h => by
    rw [gd, Bool.and_eq_true] at h
    obtain ⟨ps, e, c, dp⟩ := gds_py (n - 1) ds h.2
    have := of_decide_eq_true h.1
    exact ⟨.list ps, by rw [pyD, e]; rfl, c, by rw [PyData.depth]; omega⟩
  | n, .non, h => by rw [gd] at h; cases h
  | n, .bl _, h => by rw [gd] at h; cases h
  | n, .fl _, h => by rw [gd] at h; cases h
  | n, .dk _, h => by rw [gd] at h; cases h
  | n, .dt _, h => by rw [gd] at h; cases h
  | n, .rl _ _, h => by rw [gd] at h; cases h
theorem gds_py : ∀ (n : Nat) (ds : List D), gds n ds = true → ∃ ps, pyDs ds = some ps ∧ PyData.canLayAll0 ps = true ∧ PyData.depthAll ps ≤ n
  | n, [], _ => ⟨[], by rw [pyDs], rfl, Nat.zero_le _⟩
  | n, d :: ds, h => by
    rw [gds, Bool.and_eq_true] at h
    obtain ⟨p, e, c, dp⟩ := gd_py n d h.1
    obtain ⟨ps, e', c', dp'⟩ := gds_py n ds h.2
    exact ⟨p :: ps, by rw [pyDs, e, e']; rfl, by rw [PyData.canLayAll0, c, c']; rfl, by rw [PyData.depthAll]; omega⟩
end
mutual
theorem gd_same : ∀ (d : D) (n : Nat) (p : PyData), gd n d = true → pyD d = some p → PyData.eqv p p = true
  | .int i, n, p, _, e => by rw [pyD] at e; cases e; rw [PyData.eqv]; exact beq_self_eq_true i
  | .str x, n, p, _, e => by rw [pyD] at e; cases e; rw [PyData.eqv]; exact beq_self_eq_true x
  | .tup ds, n, p, h, e => by
    rw [gd, Bool.and_eq_true] at h
    rw [pyD] at e
    obtain ⟨ps, e1, e⟩ := bnd e
    cases e
    rw [PyData.eqv]
    exact gds_same ds _ ps h.2 e1
  | .lst ds, n, p, h, e => by
    rw [gd, Bool.and_eq_true] at h
    rw [pyD] at e
    obtain ⟨ps, e1, e⟩ := bnd e
    cases e
    rw [PyData.eqv]
    exact gds_same ds _ ps h.2 e1
  | .non, n, p, h, e => by rw [gd] at h; cases h
  | .bl _, n, p, h, e => by rw [gd] at h; cases h
  | .fl _, n, p, h, e => by rw [gd] at h; cases h
  | .dk _, n, p, h, e => by rw [gd] at h; cases h
  | .dt _, n, p, h, e => by rw [gd] at h; cases h
  | .rl _ _, n, p, h, e => by rw [gd] at h; cases h
theorem gds_same : ∀ (ds : List D) (n : Nat) (ps : List PyData), gds n ds = true → pyDs ds = some ps → PyData.eqvAll ps ps = true
  | [], n, ps, _, e => by rw [pyDs] at e; cases e; rfl
  | d :: ds, n, ps, h, e => by
    rw [gds, Bool.and_eq_true] at h
    rw [pyDs] at e
    obtain ⟨p, e1, e⟩ := bnd e
    obtain ⟨qs, e2, e⟩ := bnd e
    cases e
    rw [PyData.eqvAll, gd_same d n p h.1 e1, gds_same ds n qs h.2 e2]; rfl
end
mutual
theorem gd_is : ∀ (d e : D) (n k : Nat) (p q : PyData), gd n d = true → gd k e = true → pyD d = some p → pyD e = some q → PyData.eqv p q = true → d = e
  | .int i, e, n, k, p, q, _, h, e1, e2, z => by
    rw [pyD] at e1; cases e1
    cases e <;> first | (rw [gd] at h; cases h; done) | (rw [pyD] at e2; first | (cases e2; rw [PyData.eqv] at z; first | (cases z; done) | (rw [beq_iff_eq.mp z])) | (obtain ⟨ps, _, e2⟩ := bnd e2; cases e2; rw [PyData.eqv] at z; cases z))
  | .str i, e, n, k, p, q, _, h, e1, e2, z => by
    rw [pyD] at e1; cases e1
    cases e <;> first | (rw [gd] at h; cases h; done) | (rw [pyD] at e2; first | (cases e2; rw [PyData.eqv] at z; first | (cases z; done) | (rw [beq_iff_eq.mp z])) | (obtain ⟨ps, _, e2⟩ := bnd e2; cases e2; rw [PyData.eqv] at z; cases z))
  | .tup ds, e, n, k, p, q, g, h, e1, e2, z => by
    rw [pyD] at e1
    obtain ⟨ps, e9, e3⟩ := bnd e1
    cases e3
    rw [gd, Bool.and_eq_true] at g
    cases e with
    | tup es =>
      rw [pyD] at e2
      obtain ⟨qs, e8, e3⟩ := bnd e2
      cases e3
      rw [gd, Bool.and_eq_true] at h
      rw [PyData.eqv] at z
      rw [gds_is ds es _ _ ps qs g.2 h.2 e9 e8 z]
    | lst es =>
      rw [pyD] at e2
      obtain ⟨qs, e2, e3⟩ := bnd e2
      cases e3
      rw [PyData.eqv] at z; cases z
    | int i => rw [pyD] at e2; cases e2; rw [PyData.eqv] at z; cases z
    | str i => rw [pyD] at e2; cases e2; rw [PyData.eqv] at z; cases z
    | _ => rw [gd] at h; cases h
  | .lst ds, e, n, k, p, q, g, h, e1, e2, z => by
    rw [pyD] at e1
    obtain ⟨ps, e9, e3⟩ := bnd e1
    cases e3
    rw [gd, Bool.and_eq_true] at g
    cases e with
    | lst es =>
      rw [pyD] at e2
      obtain ⟨qs, e8, e3⟩ := bnd e2
      cases e3
      rw [gd, Bool.and_eq_true] at h
      rw [PyData.eqv] at z
      rw [gds_is ds es _ _ ps qs g.2 h.2 e9 e8 z]
    | tup es =>
      rw [pyD] at e2
      obtain ⟨qs, e2, e3⟩ := bnd e2
      cases e3
      rw [PyData.eqv] at z; cases z
    | int i => rw [pyD] at e2; cases e2; rw [PyData.eqv] at z; cases z
    | str i => rw [pyD] at e2; cases e2; rw [PyData.eqv] at z; cases z
    | _ => rw [gd] at h; cases h
  | .non, e, n, k, p, q, h, _, e1, e2, z => by rw [gd] at h; cases h
  | .bl _, e, n, k, p, q, h, _, e1, e2, z => by rw [gd] at h; cases h
  | .fl _, e, n, k, p, q, h, _, e1, e2, z => by rw [gd] at h; cases h
  | .dk _, e, n, k, p, q, h, _, e1, e2, z => by rw [gd] at h; cases h
  | .dt _, e, n, k, p, q, h, _, e1, e2, z => by rw [gd] at h; cases h
  | .rl _ _, e, n, k, p, q, h, _, e1, e2, z => by rw [gd] at h; cases h
theorem gds_is : ∀ (ds es : List D) (n k : Nat) (ps qs : List PyData), gds n ds = true → gds k es = true → pyDs ds = some ps → pyDs es = some qs → PyData.eqvAll ps qs = true → ds = es
  | [], es, n, k, ps, qs, g, h, e1, e2, z => by
    rw [pyDs] at e1; cases e1
    cases es with
    | nil => rfl
    | cons e es =>
      rw [pyDs] at e2
      obtain ⟨p, e3, e2⟩ := bnd e2
      obtain ⟨ps, e4, e2⟩ := bnd e2
      cases e2
      rw [PyData.eqvAll] at z; cases z
  | d :: ds, es, n, k, ps, qs, g, h, e1, e2, z => by
    rw [pyDs] at e1
    obtain ⟨p, e3, e1⟩ := bnd e1
    obtain ⟨ps', e4, e1⟩ := bnd e1
    cases e1
    rw [gds, Bool.and_eq_true] at g
    cases es with
    | nil => rw [pyDs] at e2; cases e2; rw [PyData.eqvAll] at z; cases z
    | cons e es =>
      rw [pyDs] at e2
      obtain ⟨q, e5, e2⟩ := bnd e2
      obtain ⟨qs', e6, e2⟩ := bnd e2
      cases e2
      rw [gds, Bool.and_eq_true] at h
      rw [PyData.eqvAll, Bool.and_eq_true] at z
      rw [gd_is d e n k p q g.1 h.1 e3 e5 z.1, gds_is ds es n k ps' qs' g.2 h.2 e4 e6 z.2]
end
/-- tuples and lists: the same, or not -/
theorem eq_same {neg : Bool} {n : Nat} {d : D} (g : gd n d = true) (hn : n ≤ 64) (hs : sc d = none) : eqD neg d d = some (.v (.bl (!neg))) := by
  obtain ⟨p, e, c, dp⟩ := gd_py n d g
  have sh : SeqAt.shaped p = true := by
    unfold SeqAt.shaped
    rw [c, Bool.true_and]
    exact decide_eq_true (by omega)
  have q := gd_same d n p g e
  unfold eqD eqB
  rw [hs]
  simp [e, sh, q]
theorem eq_not {neg : Bool} {n k : Nat} {d e : D} (g : gd n d = true) (h : gd k e = true) (hn : n ≤ 64) (hk : k ≤ 64) (hs : sc d = none) (ne : d ≠ e) : eqD neg d e = some (.v (.bl neg)) := by
  obtain ⟨p, e1, c, dp⟩ := gd_py n d g
  obtain ⟨q, e2, c', dp'⟩ := gd_py k e h
  have sh : SeqAt.shaped p = true := by
    unfold SeqAt.shaped
    rw [c, Bool.true_and]
    exact decide_eq_true (by omega)
  have sh' : SeqAt.shaped q = true := by
    unfold SeqAt.shaped
    rw [c', Bool.true_and]
    exact decide_eq_true (by omega)
  have z : PyData.eqv p q = false := by
    cases z : PyData.eqv p q with
    | false => rfl
    | true => exact absurd (gd_is d e n k p q g h e1 e2 z) ne
  unfold eqD eqB
  rw [hs]
  simp [e1, e2, sh, sh', z]
theorem gds_all {n : Nat} : ∀ {ds : List D}, (∀ d ∈ ds, gd n d = true) → gds n ds = true
  | [], _ => by rw [gds]
  | d :: ds, h => by
    rw [gds, h d List.mem_cons_self, gds_all fun e he => h e (List.mem_cons_of_mem _ he)]; rfl
theorem gds_map {α : Type} {n : Nat} {f : α → D} {L : List α} (h : ∀ a ∈ L, gd n (f a) = true) : gds n (L.map f) = true := gds_all fun d hd => by
  obtain ⟨a, ha, rfl⟩ := List.mem_map.mp hd
  exact h a ha
theorem gd_i {n : Nat} {i : Int} : gd n (.int i) = true := by rw [gd]
theorem gd_t {n : Nat} {ds : List D} (h : gds n ds = true) : gd (n + 1) (.tup ds) = true := by rw [gd]; simpa using h
theorem gd_l {n : Nat} {ds : List D} (h : gds n ds = true) : gd (n + 1) (.lst ds) = true := by rw [gd]; simpa using h
theorem gd_nil {n : Nat} : gds n [] = true := by rw [gds]
theorem gd_cons {n : Nat} {d : D} {ds : List D} (h : gd n d = true) (hs : gds n ds = true) : gds n (d :: ds) = true := by rw [gds, h, hs]; rfl
mutual
theorem gd_up : ∀ (d : D) (n k : Nat), gd n d = true → n ≤ k → gd k d = true
  | .int i, n, k, h, _ => by rw [gd]
  | .str x, n, k, h, _ => by rw [gd] at h ⊢; exact h
  | .tup ds, n, k, h, hk => by
    rw [gd, Bool.and_eq_true] at h ⊢
    have := of_decide_eq_true h.1
    exact ⟨decide_eq_true (by omega), gds_up ds (n - 1) (k - 1) h.2 (by omega)⟩
  | .lst ds, n, k, h, hk => by
    rw [gd, Bool.and_eq_true] at h ⊢
    have := of_decide_eq_true h.1
    exact ⟨decide_eq_true (by omega), gds_up ds (n - 1) (k - 1) h.2 (by omega)⟩
  | .non, n, k, h, _ => by rw [gd] at h; cases h
  | .bl _, n, k, h, _ => by rw [gd] at h; cases h
  | .fl _, n, k, h, _ => by rw [gd] at h; cases h
  | .dk _, n, k, h, _ => by rw [gd] at h; cases h
  | .dt _, n, k, h, _ => by rw [gd] at h; cases h
  | .rl _ _, n, k, h, _ => by rw [gd] at h; cases h
theorem gds_up : ∀ (ds : List D) (n k : Nat), gds n ds = true → n ≤ k → gds k ds = true
  | [], n, k, h, _ => by rw [gds]
  | d :: ds, n, k, h, hk => by
    rw [gds, Bool.and_eq_true] at h ⊢
    exact ⟨gd_up d n k h.1 hk, gds_up ds n k h.2 hk⟩
end
/-- tuples, lists of numbers -/
abbrev tI (xs : List Int) : D := .tup (xs.map .int)
abbrev lI (xs : List Int) : D := .lst (xs.map .int)
theorem gd_ti {n : Nat} {xs : List Int} : gd (n + 1) (tI xs) = true := gd_t (gds_map fun _ _ => gd_i)
theorem gd_li {n : Nat} {xs : List Int} : gd (n + 1) (lI xs) = true := gd_l (gds_map fun _ _ => gd_i)
theorem map_inj {xs ys : List Int} (h : xs.map D.int = ys.map D.int) : xs = ys := by
  induction xs generalizing ys with
  | nil => cases ys with
    | nil => rfl
    | cons y ys => cases h
  | cons x xs ih => cases ys with
    | nil => cases h
    | cons y ys =>
      rw [List.map_cons, List.map_cons] at h
      injection h with h1 h2
      injection h1 with h1
      rw [h1, ih h2]
theorem eq_ti {neg : Bool} {xs ys : List Int} : eqD neg (tI xs) (tI ys) = some (.v (.bl (decide (xs = ys) != neg))) := by
  by_cases h : xs = ys
  · subst h
    rw [eq_same (gd_ti (n := 0)) (by decide) rfl]; simp
  · rw [eq_not (gd_ti (n := 0)) (gd_ti (n := 0)) (by decide) (by decide) rfl fun z => h (map_inj (by injection z)), decide_eq_false h]; simp
theorem eq_li {neg : Bool} {xs ys : List Int} : eqD neg (lI xs) (lI ys) = some (.v (.bl (decide (xs = ys) != neg))) := by
  by_cases h : xs = ys
  · subst h
    rw [eq_same (gd_li (n := 0)) (by decide) rfl]; simp
  · rw [eq_not (gd_li (n := 0)) (gd_li (n := 0)) (by decide) (by decide) rfl fun z => h (map_inj (by injection z)), decide_eq_false h]; simp
theorem len_ti {xs : List Int} : lenD [tI xs] = some (.v (.int xs.length)) := by simp
theorem at_ti {xs : List Int} {i : Nat} {x : Int} (h : xs[i]? = some x) : ixD (tI xs) (.int i) = some (.v (.int x)) := by
  rw [ix_t, at_nat (x := .int x) (by rw [List.getElem?_map, h]; rfl)]; rfl
end Lq
end
section
set_option Elab.async false
set_option linter.all false
set_option maxRecDepth 100000
set_option maxHeartbeats 2000000
/-! Drawn orders. -/
namespace Lq
open PySem L2 Pw Pv Lx Ls
noncomputable def E_are_numbers_1 : Ex := eLc (iSeq (eVar 0)) (gN 1) (tOr' (tNot' (tTru (eIs .int (eVar 1)))) (tTru (eIs .bool (eVar 1)))) (eVar 1) [1]
noncomputable def B_are_numbers : Sx := (sSeq (sIf (tNot' (tTru (eIs .tuple (eVar 0)))) (sRet (eC (.bl false))) sNil) (sRet (eOp (eqD false) E_are_numbers_1 (eLst aNil))))
noncomputable def F_are_numbers : Fx := runF 1 2 B_are_numbers
noncomputable def L_drawn_order_1 : Sx := (sDrop (eMt isLst appD (eVar 4) (aCons (eMt isLst popAtD (eVar 3) (aCons (eCall F_take (aCons (eVar 0) (aCons (eCB lenD (aCons (eVar 3) aNil)) aNil))) aNil)) aNil)))
noncomputable def B_drawn_order : Sx := (sSeq (sSet 3 (eOwn (eCB listD (aCons (eVar 1) aNil)))) (sSeq (sSet 4 (eOwn (eLst aNil))) (sSeq (sFor (iRngA (aCons (eCB (two minI) (aCons (eVar 2) (aCons (eCB lenD (aCons (eVar 3) aNil)) aNil))) aNil)) (gN 5) L_drawn_order_1 [5]) (sRet (eCB tupleD (aCons (eVar 4) aNil))))))
noncomputable def F_drawn_order : Fx := runF 3 6 B_drawn_order
noncomputable def E_two_orders_1 : Ex := eLc (iSeq (eVar 1)) (gN 7) (tVal (eOp (inD true) (eVar 7) (eSlc (eVar 3) oNone (oSome (eVar 5))))) (eVar 7) [7]
noncomputable def B_two_orders : Sx := (sSeq (sSet 3 (eCall F_drawn_order (aCons (eVar 0) (aCons (eVar 1) (aCons (eCall F_take (aCons (eVar 0) (aCons (eOp addD (eVar 2) (eC (.int 1))) aNil))) aNil))))) (sSeq (sSet 4 (eCall F_take (aCons (eVar 0) (aCons (eC (.int 6)) aNil)))) (sSeq (sSet 5 (eCall F_take (aCons (eVar 0) (aCons (eOp addD (eCB lenD (aCons (eVar 3) aNil)) (eC (.int 1))) aNil)))) (sSeq (sSet 6 E_two_orders_1) (sSeq (sIf (tVal (eOp (eqD false) (eVar 4) (eC (.int 0)))) (sRet (eLst (aCons (eVar 3) (aCons (eVar 3) aNil)))) sNil) (sSeq (sIf (tVal (eOp (eqD false) (eVar 4) (eC (.int 1)))) (sRet (eLst (aCons (eVar 3) (aCons (eSlc (eVar 3) oNone (oSome (eVar 5))) aNil)))) sNil) (sSeq (sIf (tVal (eOp (cmpD ltI) (eVar 4) (eC (.int 4)))) (sRet (eLst (aCons (eVar 3) (aCons (eOp addD (eSlc (eVar 3) oNone (oSome (eVar 5))) (eCall F_drawn_order (aCons (eVar 0) (aCons (eVar 6) (aCons (eCall F_take (aCons (eVar 0) (aCons (eOp subD (eOp addD (eVar 2) (eC (.int 1))) (eVar 5)) aNil))) aNil))))) aNil)))) sNil) (sSeq (sIf (tVal (eOp (eqD false) (eVar 4) (eC (.int 4)))) (sRet (eLst (aCons (eVar 3) (aCons (eCall F_drawn_order (aCons (eVar 0) (aCons (eVar 3) (aCons (eCB lenD (aCons (eVar 3) aNil)) aNil)))) aNil)))) sNil) (sRet (eLst (aCons (eVar 3) (aCons (eCall F_drawn_order (aCons (eVar 0) (aCons (eVar 1) (aCons (eCall F_take (aCons (eVar 0) (aCons (eOp addD (eVar 2) (eC (.int 1))) aNil))) aNil)))) aNil))))))))))))
noncomputable def F_two_orders : Fx := runF 3 8 B_two_orders
noncomputable def B_pool : Sx := (sSeq (sSet 1 (eOp ixD (eLst (aCons (eC (.int 8)) (aCons (eC (.int 12)) (aCons (eC (.int 61)) (aCons (eC (.int 61)) aNil))))) (eCall F_take (aCons (eVar 0) (aCons (eC (.int 4)) aNil))))) (sRet (eOp ixD (eLst (aCons (eUn lrgD (eVar 1)) (aCons (eOp lrg2D (eOp subD (eC (.int 61)) (eVar 1)) (eC (.int 61))) aNil))) (eCall F_take (aCons (eVar 0) (aCons (eC (.int 2)) aNil))))))
noncomputable def F_pool : Fx := runF 1 2 B_pool
section
variable {ns : List Int} {s : Lx.St} {m : Mem}
theorem at_p1 {x A B : MO} : (x :: (m ++ [A, B]))[m.length + 1]? = some A := by simp
theorem at_p2 {x A B : MO} : (x :: (m ++ [A, B]))[m.length + 2]? = some B := by
  rw [List.getElem?_cons_succ, List.getElem?_append_right (by omega)]; simp
theorem set_p1 {x A B C : MO} : (x :: (m ++ [A, B])).set (m.length + 1) C = x :: (m ++ [C, B]) := by simp
theorem set_p2 {x A B C : MO} : (x :: (m ++ [A, B])).set (m.length + 2) C = x :: (m ++ [A, C]) := by
  rw [List.set_cons_succ, List.set_append_right _ _ (by omega)]; simp
theorem map_erase {α β : Type} (f : α → β) : ∀ (xs : List α) (k : Nat), (xs.map f).eraseIdx k = (xs.eraseIdx k).map f
  | [], _ => rfl
  | _ :: _, 0 => rfl
  | x :: xs, k + 1 => by rw [List.map_cons, List.eraseIdx_cons_succ, List.eraseIdx_cons_succ, List.map_cons, map_erase f xs k]
theorem erase_perm {α : Type} : ∀ (l : List α) (j : Nat) (h : j < l.length), (l[j] :: l.eraseIdx j).Perm l
  | [], j, h => by simp at h
  | a :: l, 0, h => List.Perm.refl _
  | a :: l, j + 1, h => by
    have h' : j < l.length := by simpa using h
    show (l[j] :: a :: l.eraseIdx j).Perm (a :: l)
    exact (List.Perm.swap a l[j] (l.eraseIdx j)).trans ((erase_perm l j h').cons a)
theorem ix_nat {n k : Nat} (h : k < n) : ixN n (k : Int) = some k := by
  unfold ixN
  rw [if_pos (by omega), if_pos (by omega)]; simp
abbrev dEnv (pool : D) (many : Int) (m : Mem) (x : Option W) : Pw.Env := [some (.r 0), some (.v pool), some (.v (.int many)), some (.r (m.length + 1)), some (.r (m.length + 2)), x]
theorem drawn_turn {pool : D} {many i : Int} {left found : List Int} (h0 : 0 < left.length) (h1 : left.length ≤ 1000) (h2 : found.length ≤ 1000) :
    ∃ (j : Nat) (s' : Lx.St), ∃ hj : j < left.length, L_drawn_order_1 (dEnv pool many m (some (.v (.int i)))) (stD ns s :: (m ++ [.lst (left.map .int), .lst (found.map .int)])) =
      some (.nx, dEnv pool many m (some (.v (.int i))), stD ns s' :: (m ++ [.lst ((left.eraseIdx j).map .int), .lst ((found ++ [left[j]]).map .int)])) := by
  have lo := tk_lo (ns := ns) (s := s) (b := left.length)
  have hi := tk_hi (ns := ns) (s := s) (b := left.length) (by omega) (by omega)
  obtain ⟨j, hj⟩ := Int.eq_ofNat_of_zero_le lo
  have hjl : j < left.length := by omega
  have ej : (left.map D.int)[j]? = some (.int left[j]) := by rw [List.getElem?_map, List.getElem?_eq_getElem hjl]; rfl
  refine ⟨j, (tk ns s left.length).2, hjl, ?_⟩
  have te := take_eq (ns := ns) (s := s) (b := left.length) (m := m ++ [.lst (left.map .int), .lst (found.map .int)]) (by omega) (by omega)
  rw [hj] at te
  have hp : popAtD (.r (m.length + 1)) [.v (.int (j : Int))] (stD ns (tk ns s left.length).2 :: (m ++ [.lst (left.map .int), .lst (found.map .int)])) = some (.v (.int left[j]), stD ns (tk ns s left.length).2 :: (m ++ [.lst ((left.eraseIdx j).map .int), .lst (found.map .int)])) := by
    unfold popAtD
    simp only [at_p1, List.length_map, if_pos (show left.length ≤ 1000000 by omega), ix_nat hjl, Option.bind_some, ej, set_p1, map_erase]
  have l1 : isLst (.r (m.length + 1)) (stD ns s :: (m ++ [.lst (left.map .int), .lst (found.map .int)])) = true := by rw [isl_r, at_p1]
  have l2 : isLst (.r (m.length + 2)) (stD ns s :: (m ++ [.lst (left.map .int), .lst (found.map .int)])) = true := by rw [isl_r, at_p2]
  have ha : appD (.r (m.length + 2)) [.v (.int left[j])] (stD ns (tk ns s left.length).2 :: (m ++ [.lst ((left.eraseIdx j).map .int), .lst (found.map .int)])) = some (.v .non, stD ns (tk ns s left.length).2 :: (m ++ [.lst ((left.eraseIdx j).map .int), .lst ((found ++ [left[j]]).map .int)])) := by
    rw [app_r, at_p2]
    simp only [vl_v, Option.bind_some, List.length_map, if_pos (show found.length < 1000000 by omega), set_p2, List.map_append, List.map_cons, List.map_nil]
  have g1 : gt (.r (m.length + 1)) (stD ns s :: (m ++ [.lst (left.map .int), .lst (found.map .int)])) = some (.lst (left.map .int)) := by rw [gt_r, at_p1]; rfl
  simp [L_drawn_order_1, sDrop, eMt, eVar, aCons, aNil, eCall, eCB, l1, l2, g1, te, hp, ha, -gt_r, -isl_r, -app_r]
theorem drawn_spec {xs : List Int} (hx : xs.length ≤ 1000) {pool : D} (hp : pool = lI xs ∨ pool = tI xs) {many : Int} (h0 : 0 ≤ many) (h1 : many ≤ 1000) (m : Mem) :
    ∃ (ys rest : List Int) (s' : Lx.St), F_drawn_order [.r 0, .v pool, .v (.int many)] (stD ns s :: m) = some (.v (tI ys), stD ns s' :: m) ∧ (ys ++ rest).Perm xs ∧ ys.length = min many.toNat xs.length := by
  obtain ⟨ρ', m', e, inv⟩ := for_inv (α := Nat) (src := iRngA (aCons (eCB (two minI) (aCons (eVar 2) (aCons (eCB lenD (aCons (eVar 3) aNil)) aNil))) aNil)) (t := gN 5) (b := L_drawn_order_1) (dd := [5])
    (ρ := dEnv pool many m none) (m := stD ns s :: (m ++ [.lst (xs.map .int), .lst []])) (m1 := stD ns s :: (m ++ [.lst (xs.map .int), .lst []])) (List.range (min many.toNat xs.length)) (fun i => .int (i : Int))
    (fun k ρ mm => ρ = dEnv pool many m none ∧ ∃ (s' : Lx.St) (left found : List Int), mm = stD ns s' :: (m ++ [.lst (left.map .int), .lst (found.map .int)]) ∧ (found ++ left).Perm xs ∧ found.length = k)
    (by
      have g1 : gt (.r (m.length + 1)) (stD ns s :: (m ++ [.lst (xs.map .int), .lst []])) = some (.lst (xs.map .int)) := by rw [gt_r, at_p1]; rfl
      have em : min many (xs.length : Int) = ((min many.toNat xs.length : Nat) : Int) := by omega
      simp [iRngA, aCons, aNil, eCB, eVar, g1, em, -gt_r]
      rw [if_pos (by omega), rng0]; rfl)
    ⟨rfl, s, xs, [], rfl, by simp, rfl⟩
    (fun k a ha ρ mm inv => by
      obtain ⟨rfl, s', left, found, rfl, pm, hl⟩ := inv
      obtain ⟨hk, rfl⟩ := List.getElem?_eq_some_iff.mp ha
      have hk' : k < min many.toNat xs.length := by simpa using hk
      have pl := pm.length_eq
      rw [List.length_append] at pl
      obtain ⟨j, s2, hj, q⟩ := drawn_turn (ns := ns) (s := s') (m := m) (pool := pool) (many := many) (i := ((List.range (min many.toNat xs.length))[k] : Nat)) (left := left) (found := found) (by omega) (by omega) (by omega)
      refine ⟨_, _, _, rfl, q, rfl, s2, left.eraseIdx j, found ++ [left[j]], rfl, ?_, by simp [hl]⟩
      rw [List.append_assoc]
      exact ((erase_perm left j hj).append_left found).trans pm)
  obtain ⟨rfl, s', left, found, rfl, pm, hl⟩ := inv
  refine ⟨found, left, s', ?_, pm, by simpa using hl⟩
  have g2 : gt (.r (m.length + 2)) (stD ns s' :: (m ++ [.lst (left.map .int), .lst (found.map .int)])) = some (.lst (found.map .int)) := by rw [gt_r, at_p2]; rfl
  have lp : listD [pool] = some (.f (lI xs)) := by rcases hp with z | z <;> (rw [z]; rfl)
  have tk2 : ∀ (x A B : MO), (x :: (m ++ [A, B])).take (m.length + 1) = x :: m := fun x A B => by simp
  have e' : sFor (iRngA (aCons (eCB (two minI) (aCons (eVar 2) (aCons (eCB lenD (aCons (eVar 3) aNil)) aNil))) aNil)) (gN 5) L_drawn_order_1 [5] [some (.r 0), some (.v pool), some (.v (.int many)), some (.r (m.length + 1)), some (.r (m.length + 1 + 1)), none] (stD ns s :: (m ++ [.lst (xs.map .int), .lst []])) = _ := e
  simp [F_drawn_order, runF, B_drawn_order, startD, sSeq, sSet, eOwn, eCB, aCons, aNil, eVar, lp, eLst, e', sRet, g2, tk2, -gt_r]
theorem cut_to {α : Type} {n : Nat} {k : Int} (h0 : 0 ≤ k) (h : k ≤ n) : HT.sIx n n (some k) = k.toNat := by
  unfold HT.sIx
  simp only
  split <;> omega
theorem cut_take {ds : List D} {k : Int} (h0 : 0 ≤ k) (h : k ≤ ds.length) : cutD ds none (some k) = ds.take k.toNat := by
  unfold cutD
  rw [cut_to (α := D) h0 h]
  simp [HT.sIx]
end
end Lq
end
section
set_option Elab.async false
set_option linter.all false
set_option maxRecDepth 100000
set_option maxHeartbeats 2000000
/-! Pools, two orders, numbers all. -/
namespace Lq
open PySem L2 Pw Pv Lx Ls
section
variable {ns : List Int} {s : Lx.St} {m : Mem}
theorem are_numbers_spec {xs : List Int} (hx : xs.length ≤ 1000000) (m : Mem) : F_are_numbers [.v (tI xs)] m = some (.v (.bl true), m) := by
  have e : E_are_numbers_1 [some (.v (tI xs)), none] m = some (.f (.lst []), m) := by
    have q := lc_map (src := iSeq (eVar 0)) (t := gN 1) (c := tOr' (tNot' (tTru (eIs .int (eVar 1)))) (tTru (eIs .bool (eVar 1)))) (f := eVar 1) (vs := [1]) (ρ := [some (.v (tI xs)), none]) (m := m) (m1 := m) xs D.int (fun _ => false) D.int
      (by simp [iSeq, eVar]) (fun i hi => ⟨_, rfl, by simp [tOr', tNot', tTru, eIs, eVar, isD, truD], fun h => by cases h⟩) hx
    unfold E_are_numbers_1
    rw [q]; simp
  have el : eqD false (.lst []) (.lst []) = some (.v (.bl true)) := eq_li (neg := false) (xs := []) (ys := [])
  simp [F_are_numbers, runF, B_are_numbers, startD, sSeq, sIf, tNot', tTru, eIs, eVar, isD, truD, sNil, sRet, eOp, e, eLst, aNil, el]
structure Ord (P A : List Int) : Prop where
  nd : A.Nodup
  sub : ∀ x ∈ A, x ∈ P
  len : A.length ≤ 200
theorem rg_list (a b : Int) : rgD a b = ((List.range (b - a).toNat).map fun i : Nat => a + (i : Int)).map D.int := by unfold rgD; rw [List.map_map]; rfl
theorem rg_nd (a : Int) (n : Nat) : ((List.range n).map fun i : Nat => a + (i : Int)).Nodup := by
  rw [List.nodup_iff_pairwise_ne, List.pairwise_map]
  exact (List.nodup_iff_pairwise_ne.mp (List.nodup_range (n := n))).imp fun h z => h (by omega)
theorem pool_spec (m : Mem) : ∃ (P : List Int) (s' : Lx.St), F_pool [.r 0] (stD ns s :: m) = some (.v (lI P), stD ns s' :: m) ∧ P.Nodup ∧ (∀ x ∈ P, 0 ≤ x ∧ x ≤ 60) ∧ 8 ≤ P.length ∧ P.length ≤ 61 := by
  obtain ⟨x, hx, ex⟩ := pick_ex ns s 4 [.int 8, .int 12, .int 61, .int 61] rfl (by decide) (by decide)
  obtain ⟨z, rfl, hz⟩ : ∃ z : Int, x = .int z ∧ 8 ≤ z ∧ z ≤ 61 := by
    simp only [List.mem_cons, List.not_mem_nil, or_false] at hx
    rcases hx with h | h | h | h <;> exact ⟨_, h, by decide⟩
  have e1 : lrgD (.int z) = some (.f (lI ((List.range z.toNat).map fun i : Nat => 0 + (i : Int)))) := by
    show (if 0 ≤ z ∧ z ≤ 1000000 then some (W.f (D.lst ((List.range z.toNat).map fun i : Nat => D.int (i : Int)))) else none) = _
    rw [if_pos (by omega)]
    simp [List.map_map, Function.comp_def]
  have e2 : lrg2D (.int (61 - z)) (.int 61) = some (.f (lI ((List.range z.toNat).map fun i : Nat => (61 - z) + (i : Int)))) := by
    show (if 0 ≤ (61 - z) ∧ (61 - z) ≤ 1000000 ∧ (0 : Int) ≤ 61 ∧ (61 : Int) ≤ 1000000 then some (W.f (D.lst (rgD (61 - z) 61))) else none) = _
    rw [if_pos (by omega), rg_list, show (61 - (61 - z) : Int).toNat = z.toNat by omega]
  have t1 := take_eq (ns := ns) (s := s) (b := 4) (m := m) (by decide) (by decide)
  have t2 := take_eq (ns := ns) (s := (tk ns s 4).2) (b := 2) (m := m) (by decide) (by decide)
  have key : ∀ P1 P2 : List Int, lrgD (.int z) = some (.f (lI P1)) → lrg2D (.int (61 - z)) (.int 61) = some (.f (lI P2)) → ∃ P, (P = P1 ∨ P = P2) ∧ F_pool [.r 0] (stD ns s :: m) = some (.v (lI P), stD ns (tk ns (tk ns s 4).2 2).2 :: m) := by
    intro P1 P2 e1 e2
    obtain ⟨y, hy, ey⟩ := pick_ex ns (tk ns s 4).2 2 [lI P1, lI P2] rfl (by simp) (by simp)
    have fin : ∀ P, y = lI P → F_pool [.r 0] (stD ns s :: m) = some (.v (lI P), stD ns (tk ns (tk ns s 4).2 2).2 :: m) := fun P hP => by
      rw [hP] at ey
      simp [F_pool, runF, B_pool, startD, sSeq, sSet, eOp, eLst, aCons, aNil, eC, eVar, eCall, t1, t2, ex, eUn, e1, e2, sRet, ey]
    simp only [List.mem_cons, List.not_mem_nil, or_false] at hy
    rcases hy with h | h
    · exact ⟨P1, .inl rfl, fin _ h⟩
    · exact ⟨P2, .inr rfl, fin _ h⟩
  obtain ⟨P, hP, e⟩ := key _ _ e1 e2
  rcases hP with h | h <;> subst h
  · refine ⟨_, _, e, rg_nd 0 _, fun x hx => ?_, by simp; omega, by simp; omega⟩
    obtain ⟨i, hi, rfl⟩ := List.mem_map.mp hx
    have := List.mem_range.mp hi
    omega
  · refine ⟨_, _, e, rg_nd _ _, fun x hx => ?_, by simp; omega, by simp; omega⟩
    obtain ⟨i, hi, rfl⟩ := List.mem_map.mp hx
    have := List.mem_range.mp hi
    omega
theorem ord_of {P xs ys rest : List Int} (hp : (ys ++ rest).Perm xs) (hn : xs.Nodup) (hs : ∀ x ∈ xs, x ∈ P) (hl : xs.length ≤ 200) : Ord P ys := by
  have n := hp.nodup_iff.mpr hn
  have l := hp.length_eq
  rw [List.length_append] at l
  exact ⟨(List.nodup_append.mp n).1, fun x hx => hs x (hp.mem_iff.mp (List.mem_append_left _ hx)), by omega⟩
theorem Ord.take {P A : List Int} (h : Ord P A) (k : Nat) : Ord P (A.take k) :=
  ⟨h.nd.sublist (List.take_sublist k A), fun x hx => h.sub x (List.mem_of_mem_take hx), by rw [List.length_take]; have := h.len; omega⟩
theorem two_spec {P : List Int} {most : Int} (hn : P.Nodup) (hl : P.length ≤ 61) (h0 : 0 ≤ most) (h1 : most ≤ 61) (m : Mem) :
    ∃ (A B : List Int) (s' : Lx.St), F_two_orders [.r 0, .v (lI P), .v (.int most)] (stD ns s :: m) = some (.f (.lst [tI A, tI B]), stD ns s' :: m) ∧ Ord P A ∧ Ord P B ∧ (A.length : Int) ≤ most ∧ (B.length : Int) ≤ most := by
  have t1 := take_eq (ns := ns) (s := s) (b := most + 1) (m := m) (by omega) (by omega)
  have lo1 := tk_lo (ns := ns) (s := s) (b := most + 1)
  have hi1 := tk_hi (ns := ns) (s := s) (b := most + 1) (by omega) (by omega)
  generalize (tk ns s (most + 1)).1 = k1, (tk ns s (most + 1)).2 = s1 at t1 lo1 hi1
  obtain ⟨A, ra, s2, d1, pa, la⟩ := drawn_spec (ns := ns) (s := s1) (xs := P) (by omega) (.inl rfl) lo1 (by omega) m
  have oA : Ord P A := ord_of pa hn (fun _ h => h) (by omega)
  have t2 := take_eq (ns := ns) (s := s2) (b := 6) (m := m) (by decide) (by decide)
  have lo2 := tk_lo (ns := ns) (s := s2) (b := 6)
  have hi2 := tk_hi (ns := ns) (s := s2) (b := 6) (by decide) (by decide)
  generalize (tk ns s2 6).1 = k2, (tk ns s2 6).2 = s3 at t2 lo2 hi2
  have t3 := take_eq (ns := ns) (s := s3) (b := A.length + 1) (m := m) (by omega) (by omega)
  have lo3 := tk_lo (ns := ns) (s := s3) (b := A.length + 1)
  have hi3 := tk_hi (ns := ns) (s := s3) (b := A.length + 1) (by omega) (by omega)
  generalize (tk ns s3 (A.length + 1)).1 = k3, (tk ns s3 (A.length + 1)).2 = s4 at t3 lo3 hi3
  have am : (A.length : Int) ≤ most := by omega
  have cut : cutD (A.map D.int) none (some k3) = (A.take k3.toNat).map D.int := by rw [cut_take lo3 (by simp; omega), List.map_take]
  have er : E_two_orders_1 [some (.r 0), some (.v (lI P)), some (.v (.int most)), some (.v (tI A)), some (.v (.int k2)), some (.v (.int k3)), none, none] (stD ns s4 :: m) = some (.f (lI (P.filter fun x => !decide (x ∈ A.take k3.toNat))), stD ns s4 :: m) := by
    have q := lc_map (src := iSeq (eVar 1)) (t := gN 7) (c := tVal (eOp (inD true) (eVar 7) (eSlc (eVar 3) oNone (oSome (eVar 5))))) (f := eVar 7) (vs := [7])
      (ρ := [some (.r 0), some (.v (lI P)), some (.v (.int most)), some (.v (tI A)), some (.v (.int k2)), some (.v (.int k3)), none, none]) (m := stD ns s4 :: m) (m1 := stD ns s4 :: m) P D.int (fun x => !decide (x ∈ A.take k3.toNat)) D.int
      (by simp [iSeq, eVar]) (fun i hi => ⟨_, rfl, by
        have := Lm.in_tup (neg := true) (c := i) (L := A.take k3.toNat)
        simp [tVal, eOp, eVar, eSlc, oNone, oSome, slcD, cut, this, -List.map_take], fun h => ⟨.v (.int i), by simp [eVar], rfl⟩⟩) (by omega)
    exact q
  have n3 : k3.toNat ≤ A.length := by omega
  by_cases w0 : k2 = 0
  · subst w0
    refine ⟨A, A, s4, ?_, oA, oA, am, am⟩
    simp [F_two_orders, runF, B_two_orders, startD, sSeq, sSet, eCall, aCons, aNil, eVar, eOp, eC, t1, d1, t2, t3, eCB, er, sIf, tVal, sRet, eLst]
  by_cases w1 : k2 = 1
  · subst w1
    refine ⟨A, A.take k3.toNat, s4, ?_, oA, oA.take _, am, ?_⟩
    · simp [F_two_orders, runF, B_two_orders, startD, sSeq, sSet, eCall, aCons, aNil, eVar, eOp, eC, t1, d1, t2, t3, eCB, er, sIf, tVal, sRet, eLst, sNil, eSlc, oNone, oSome, slcD, cut, -List.map_take]
    · rw [List.length_take]; omega
  by_cases w2 : k2 < 4
  · have t4 := take_eq (ns := ns) (s := s4) (b := most + 1 - k3) (m := m) (by omega) (by omega)
    have lo4 := tk_lo (ns := ns) (s := s4) (b := most + 1 - k3)
    have hi4 := tk_hi (ns := ns) (s := s4) (b := most + 1 - k3) (by omega) (by omega)
    generalize (tk ns s4 (most + 1 - k3)).1 = k4, (tk ns s4 (most + 1 - k3)).2 = s5 at t4 lo4 hi4
    have fl := List.length_filter_le (fun x => !decide (x ∈ A.take k3.toNat)) P
    obtain ⟨B, rb, s6, d2, pb, lb⟩ := drawn_spec (ns := ns) (s := s5) (xs := P.filter fun x => !decide (x ∈ A.take k3.toNat)) (by omega) (.inl rfl) lo4 (by omega) m
    have oB : Ord (P.filter fun x => !decide (x ∈ A.take k3.toNat)) B := ord_of pb (hn.filter _) (fun _ h => h) (by omega)
    refine ⟨A, A.take k3.toNat ++ B, s6, ?_, oA, ⟨?_, fun x hx => ?_, ?_⟩, am, ?_⟩
    · have l1 : ((A.take k3.toNat).map D.int).length + (B.map D.int).length ≤ 1000000 := by
        rw [List.length_map, List.length_map, List.length_take]; omega
      simp [F_two_orders, runF, B_two_orders, startD, sSeq, sSet, eCall, aCons, aNil, eVar, eOp, eC, t1, d1, t2, t3, eCB, er, sIf, tVal, w0, w1, w2, sRet, eLst, sNil, eSlc, oNone, oSome, slcD, cut, t4, d2, -List.map_take]
      rw [if_pos (by simpa using l1)]; simp
    · rw [List.nodup_append]
      refine ⟨(oA.take _).nd, oB.nd, fun a ha b hb z => ?_⟩
      have := (List.mem_filter.mp (oB.sub b hb)).2
      rw [← z] at this
      simp [ha] at this
    · rcases List.mem_append.mp hx with h | h
      · exact (oA.take _).sub x h
      · exact (List.mem_filter.mp (oB.sub x h)).1
    · rw [List.length_append, List.length_take]; omega
    · rw [List.length_append, List.length_take]; omega
  by_cases w4 : k2 = 4
  · subst w4
    obtain ⟨B, rb, s6, d2, pb, lb⟩ := drawn_spec (ns := ns) (s := s4) (xs := A) (by omega) (.inr rfl) (many := A.length) (by omega) (by omega) m
    refine ⟨A, B, s6, ?_, oA, ord_of pb oA.nd oA.sub oA.len, am, by omega⟩
    simp [F_two_orders, runF, B_two_orders, startD, sSeq, sSet, eCall, aCons, aNil, eVar, eOp, eC, t1, d1, t2, t3, eCB, er, sIf, tVal, sRet, eLst, sNil, d2]
  · have t4 := take_eq (ns := ns) (s := s4) (b := most + 1) (m := m) (by omega) (by omega)
    have lo4 := tk_lo (ns := ns) (s := s4) (b := most + 1)
    have hi4 := tk_hi (ns := ns) (s := s4) (b := most + 1) (by omega) (by omega)
    generalize (tk ns s4 (most + 1)).1 = k4, (tk ns s4 (most + 1)).2 = s5 at t4 lo4 hi4
    obtain ⟨B, rb, s6, d2, pb, lb⟩ := drawn_spec (ns := ns) (s := s5) (xs := P) (by omega) (.inl rfl) lo4 (by omega) m
    refine ⟨A, B, s6, ?_, oA, ord_of pb hn (fun _ h => h) (by omega), am, by omega⟩
    simp [F_two_orders, runF, B_two_orders, startD, sSeq, sSet, eCall, aCons, aNil, eVar, eOp, eC, t1, d1, t2, t3, eCB, er, sIf, tVal, w0, w1, w2, w4, sRet, eLst, sNil, d2, t4]
end
end Lq
end
section
set_option Elab.async false
set_option linter.all false
set_option maxRecDepth 100000
set_option maxHeartbeats 2000000
/-! Texts: how long, and of which signs. -/
namespace Lt
open PySem L2 Pw Pv Lx Lq
open Ls hiding allS
abbrev iS (i : Int) : Str := (toString i : String)
theorem ok_of (s : String) : PyData.strOk (Str.ofString s) = true := by
  rw [Str.ofString_eq_toList]
  unfold PyData.strOk
  rw [List.all_toArray, List.all_eq_true]
  intro c hc
  obtain ⟨d, _, rfl⟩ := List.mem_map.mp hc
  have h := d.valid
  simp only [UInt32.isValidChar, Nat.isValidChar] at h
  exact decide_eq_true (by show d.val.toNat < _; omega)
theorem ok_app {a b : Str} (ha : PyData.strOk a = true) (hb : PyData.strOk b = true) : PyData.strOk (a ++ b) = true := by
  show (a.cps ++ b.cps).all _ = true
  rw [Array.all_append]
  simp only [PyData.strOk] at ha hb
  rw [ha, hb]; rfl
theorem ok_join {a : Str} (ha : PyData.strOk a = true) : ∀ {ys : List Str}, (∀ y ∈ ys, PyData.strOk y = true) → PyData.strOk (Str.join a ys) = true
  | [], _ => by simp [Str.join, Str.empty, PyData.strOk]
  | [x], h => h x List.mem_cons_self
  | x :: y :: r, h => by
    show PyData.strOk (x ++ a ++ Str.join a (y :: r)) = true
    exact ok_app (ok_app (h x List.mem_cons_self) ha) (ok_join ha fun z hz => h z (List.mem_cons_of_mem _ hz))
theorem len_join {a : Str} : ∀ {ys : List Str}, (Str.join a ys).length ≤ (ys.map (·.length)).sum + ys.length * a.length
  | [] => Nat.zero_le _
  | [x] => by simp [Str.join]
  | x :: y :: r => by
    show (x ++ a ++ Str.join a (y :: r)).length ≤ _
    rw [Str.length_append, Str.length_append]
    have ih := len_join (a := a) (ys := y :: r)
    simp only [List.map_cons, List.sum_cons, List.length_cons, Nat.add_mul, Nat.one_mul] at ih ⊢
    omega
theorem len_int {i : Int} (h : i.natAbs.log2 < 1900) : (iS i).length ≤ 2000 := by
  exact Nat.le_trans (PyProof.Rows.int_text_len_1921 (Nat.lt_of_lt_of_le h (by decide))) (by decide)
theorem log_small {i : Int} (h0 : -1 ≤ i) (h1 : i ≤ 1000000) : i.natAbs.log2 < 1900 := by
  by_cases hz : i.natAbs = 0
  · rw [hz]; decide
  · refine Nat.lt_of_lt_of_le ((Nat.log2_lt (k := 30) hz).mpr ?_) (by decide)
    have : i.natAbs ≤ 1000000 := by omega
    exact Nat.lt_of_le_of_lt this (by decide)
theorem str_i {i : Int} (h0 : -1 ≤ i) (h1 : i ≤ 1000000) : strD [.int i] = some (.v (.str (iS i))) := by
  show (if i.natAbs.log2 < 1900 then some (W.v (D.str (iS i))) else none) = _
  rw [if_pos (log_small h0 h1)]
/-- words -/
structure WOk (w : Str) : Prop where
  len : w.length ≤ 2000
  ok : PyData.strOk w = true
theorem wok_i {i : Int} (h0 : -1 ≤ i) (h1 : i ≤ 1000000) : WOk (iS i) := ⟨len_int (log_small h0 h1), ok_of _⟩
def nm (i : Int) : Str := if i = -1 then "-" else iS i
theorem wok_nm {i : Int} (h0 : -1 ≤ i) (h1 : i ≤ 1000000) : WOk (nm i) := by
  unfold nm
  split
  · exact ⟨by decide, ok_of _⟩
  · exact wok_i h0 h1
structure LOk (ws : List Str) : Prop where
  len : ws.length ≤ 5
  ok : ∀ w ∈ ws, WOk w
def ln (ws : List Str) : Str := Txt.join " " ws
def tx (Ls : List (List Str)) : Str := Txt.join "" (Ls.map fun ws => ln ws ++ "\n")
theorem sum_le {n : Nat} : ∀ {ys : List Str}, (∀ y ∈ ys, y.length ≤ n) → (ys.map (·.length)).sum ≤ ys.length * n
  | [], _ => by simp
  | y :: ys, h => by
    have ih := sum_le (n := n) (ys := ys) fun z hz => h z (List.mem_cons_of_mem _ hz)
    have := h y List.mem_cons_self
    simp only [List.map_cons, List.sum_cons, List.length_cons, Nat.add_mul, Nat.one_mul]
    omega
theorem LOk.sum {ws : List Str} (h : LOk ws) : (ws.map (·.length)).sum + ws.length * (" " : Str).length ≤ 16000000 := by
  have s := sum_le (n := 2000) (ys := ws) fun y hy => (h.ok y hy).len
  have l := h.len
  have e : (" " : Str).length = 1 := rfl
  rw [e]
  have : ws.length * 2000 ≤ 5 * 2000 := Nat.mul_le_mul_right _ l
  omega
theorem LOk.line {ws : List Str} (h : LOk ws) : (ln ws).length ≤ 20000 ∧ PyData.strOk (ln ws) = true := by
  have s := sum_le (n := 2000) (ys := ws) fun y hy => (h.ok y hy).len
  have l := h.len
  have e : (" " : Str).length = 1 := rfl
  have : ws.length * 2000 ≤ 5 * 2000 := Nat.mul_le_mul_right _ l
  unfold ln
  rw [TL.join_eq]
  refine ⟨Nat.le_trans len_join ?_, ok_join (ok_of _) fun y hy => (h.ok y hy).ok⟩
  rw [e]; omega
theorem allS_map (ys : List Str) : allS (ys.map D.str) = some ys := by
  induction ys with
  | nil => rfl
  | cons y ys ih => rw [List.map_cons, allS, ih]; rfl
theorem join_l {a : Str} {ys : List Str} {m : Mem} (h : (ys.map (·.length)).sum + ys.length * a.length ≤ 16000000) : joinD (.v (.str a)) [.v (.lst (ys.map .str))] m = some (.v (.str (Txt.join a ys)), m) := by
  show (some (D.lst (ys.map D.str))).bind (fun d => (itmD d).bind fun ds => (allS ds).bind fun ys => if (ys.map (·.length)).sum + ys.length * a.length ≤ 16000000 then some (W.v (D.str (Txt.join a ys)), m) else none) = _
  simp only [Option.bind_some, itm_l, allS_map, if_pos h]
structure TOk (Ls : List (List Str)) : Prop where
  len : Ls.length ≤ 64
  ok : ∀ ws ∈ Ls, LOk ws
theorem nl_len : ("\n" : Str).length = 1 := rfl
theorem TOk.sum {Ls : List (List Str)} (h : TOk Ls) : ((Ls.map fun ws => ln ws ++ "\n").map (·.length)).sum + (Ls.map fun ws => ln ws ++ "\n").length * ("" : Str).length ≤ 16000000 := by
  have s := sum_le (n := 20001) (ys := Ls.map fun ws => ln ws ++ "\n") fun y hy => by
    obtain ⟨ws, hw, rfl⟩ := List.mem_map.mp hy
    rw [Str.length_append, nl_len]
    have := ((h.ok ws hw).line).1
    omega
  have l := h.len
  have e : ("" : Str).length = 0 := rfl
  rw [e, List.length_map] at *
  have : Ls.length * 20001 ≤ 64 * 20001 := Nat.mul_le_mul_right _ l
  omega
theorem TOk.txt {Ls : List (List Str)} (h : TOk Ls) : PyData.strOk (tx Ls) = true := by
  unfold tx
  rw [TL.join_eq]
  refine ok_join (ok_of _) fun y hy => ?_
  obtain ⟨ws, hw, rfl⟩ := List.mem_map.mp hy
  exact ok_app ((h.ok ws hw).line).2 (ok_of _)
end Lt
end
section
set_option Elab.async false
set_option linter.all false
set_option maxRecDepth 100000
set_option maxHeartbeats 4000000
namespace K91
open PySem L2 Pw Pv Lx Lq Lt
open Ls hiding allS
section
variable {ns : List Int} {s : Lx.St} {m : Mem} {F : List Fo} {B : List Nw}
theorem who_spec {i : Int} (h0 : -1 ≤ i) (h1 : i ≤ 1000000) (m : Mem) : F_who_word [.v (.int i)] m = some (.v (.str (nm i)), m) := by
  have e := str_i h0 h1
  unfold nm
  simp only [F_who_word, runF, B_who_word, startD]
  by_cases h : i = -1
  · subst h
    simp [sRet, eIf, tVal, eOp, eVar, eUn, eC]
  · simp [sRet, eIf, tVal, eOp, eVar, eUn, eC, h, eCB, aCons, aNil, e]
theorem name_spec {i : Int} (h0 : -1 ≤ i) (h1 : i ≤ 1000000) (m : Mem) : F_name [.v (.int i)] m = some (.v (.str (nm i)), m) := by
  have e := str_i h0 h1
  unfold nm
  simp only [F_name, runF, B_name, startD]
  by_cases h : i = -1
  · subst h
    simp [sRet, eOp, eLst, aCons, aNil, eCB, e, eVar, eC, eUn]
  · simp [sRet, eOp, eLst, aCons, aNil, eCB, e, eVar, eC, eUn, h]
abbrev rD (ws : List Str) : D := .lst (ws.map .str)
theorem text_items {Ls : List (List Str)} {m : Mem} {it : Itm} {w : W} (hT : TOk Ls) (hs : srcW w m = some it) (hw : stl w = w) (hi : itemsAt it m = some (Ls.map rD)) : F_text [w] m = some (.v (.str (tx Ls)), m) := by
  obtain ⟨acc, m', e, hm, ha⟩ := lc_effI (it := it) (src := iSeq (eVar 0)) (t := gN 1) (c := tYes') (f := eOp addD (eMt isStr joinD (eC (.str " ")) (aCons (eVar 1) aNil)) (eC (.str "\n"))) (vs := [1]) (ρ := [some w, none]) (m := m) (m1 := m)
    Ls rD (fun i acc mm => mm = m ∧ acc = (Ls.take i).map fun ws => D.str (ln ws ++ "\n")) (by simp [iSeq, eVar, hw, hs]) (fun i acc mm inv => by rw [inv.1]; exact hi) ⟨rfl, rfl⟩
    (fun i ws hk acc mm inv => by
      obtain ⟨rfl, rfl⟩ := inv
      have lo := hT.ok ws (List.mem_of_getElem? hk)
      have j := join_l (a := " ") (ys := ws) (m := mm) lo.sum
      have ll := lo.line.1
      have al : addD (.str (Txt.join " " ws)) (.str "\n") = some (.v (.str (ln ws ++ "\n"))) := by
        show (if (ln ws).length + ("\n" : Str).length ≤ 1000000 then some (W.v (D.str (ln ws ++ "\n"))) else none) = _
        rw [if_pos (by rw [nl_len]; omega)]
      refine ⟨_, .v (.str (ln ws ++ "\n")), .str (ln ws ++ "\n"), mm, rfl, rfl, ?_, rfl, rfl, ?_⟩
      · simp [eOp, eMt, eC, isStr, aCons, aNil, eVar, j, al]
      · rw [List.take_succ, hk]; simp) (by have := hT.len; omega)
  have j := join_l (a := "") (ys := Ls.map fun ws => ln ws ++ "\n") (m := m) hT.sum
  rw [hm, ha, List.take_length] at e
  have e' : E_text_1 [some w, none] m = some (.f (.lst ((Ls.map fun ws => ln ws ++ "\n").map .str)), m) := by
    rw [List.map_map]; exact e
  have fin : Txt.join "" (Ls.map fun ws => ln ws ++ "\n") = tx Ls := rfl
  simp only [F_text, runF, B_text, startD]
  simp [sRet, eMt, eC, isStr, aCons, aNil, e', -List.map_map]
  rw [j]
  simp [fin]
theorem text_of_spec {Ls : List (List Str)} (hT : TOk Ls) (m : Mem) : F_text_of [.v (.lst (Ls.map fun ws => .str (ln ws)))] m = some (.v (.str (tx Ls)), m) := by
  have e : E_text_of_1 [some (.v (.lst (Ls.map fun ws => .str (ln ws)))), none] m = some (.f (.lst ((Ls.map fun ws => ln ws ++ "\n").map .str)), m) := by
    have q := lc_map (src := iSeq (eVar 0)) (t := gN 1) (c := tYes') (f := eOp addD (eVar 1) (eC (.str "\n"))) (vs := [1]) (ρ := [some (.v (.lst (Ls.map fun ws => .str (ln ws)))), none]) (m := m) (m1 := m) Ls (fun ws => .str (ln ws)) (fun _ => true) (fun ws => .str (ln ws ++ "\n"))
      (by simp [iSeq, eVar]) (fun ws hw => ⟨_, rfl, rfl, fun _ => ⟨.v (.str (ln ws ++ "\n")), by
        have ll := ((hT.ok ws hw).line).1
        have al : addD (.str (ln ws)) (.str "\n") = some (.v (.str (ln ws ++ "\n"))) := by
          show (if (ln ws).length + ("\n" : Str).length ≤ 1000000 then some (W.v (D.str (ln ws ++ "\n"))) else none) = _
          rw [if_pos (by rw [nl_len]; omega)]
        simp [eOp, eVar, eC, al], rfl⟩⟩) (by have := hT.len; omega)
    unfold E_text_of_1
    rw [q, List.filter_eq_self.mpr (fun _ _ => rfl), List.map_map]; rfl
  have j := join_l (a := "") (ys := Ls.map fun ws => ln ws ++ "\n") (m := m) hT.sum
  have fin : Txt.join "" (Ls.map fun ws => ln ws ++ "\n") = tx Ls := rfl
  simp only [F_text_of, runF, B_text_of, startD]
  simp [sRet, eMt, eC, isStr, aCons, aNil, e, -List.map_map]
  rw [j]
  simp [fin]
/-! ### folk -/
def sex (i : Int) : Str := if i = 1 then "man" else "woman"
def brt (i : Int) : Str := if i = 1 then "wed" else "unwed"
def cnt (i : Int) : Str := if i = 1 then "wed" else "all"
def foL (f : Fo) : List Str := [iS f.day, nm f.fa, nm f.mo, sex f.man, brt f.wed]
theorem wok_c (s : String) (h : (Str.ofString s).length ≤ 2000) : WOk (Str.ofString s) := ⟨h, ok_of s⟩
structure FoB (f : Fo) : Prop extends FoOk f where
  f0 : -1 ≤ f.fa
  f1 : f.fa ≤ 1000000
  m0 : -1 ≤ f.mo
  m1 : f.mo ≤ 1000000
theorem foB (hF : GoodH F) : ∀ f ∈ F, FoB f := fun f hf => by
  obtain ⟨i, hi, e⟩ := List.getElem_of_mem hf
  have ei : F[i]? = some f := by rw [List.getElem?_eq_getElem hi, e]
  have le := hF.le
  have bd : ∀ v d man, ParOk (F.take i) d v man → -1 ≤ v ∧ v ≤ 1000000 := fun v d man h => by
    rcases h with h | ⟨j, g, rfl, hj, _⟩
    · omega
    · have := (List.getElem?_eq_some_iff.mp hj).1
      rw [List.length_take] at this
      omega
  obtain ⟨a, b⟩ := bd _ _ _ (hF.fa i f ei)
  obtain ⟨c, d⟩ := bd _ _ _ (hF.mo i f ei)
  exact ⟨hF.ok f hf, a, b, c, d⟩
theorem fo_ok {f : Fo} (h : FoB f) : LOk (foL f) := by
  refine ⟨by simp [foL], fun w hw => ?_⟩
  have := h.d0
  have := h.d1
  simp only [foL, List.mem_cons, List.not_mem_nil, or_false] at hw
  rcases hw with rfl | rfl | rfl | rfl | rfl
  · exact wok_i (by omega) (by omega)
  · exact wok_nm h.f0 h.f1
  · exact wok_nm h.m0 h.m1
  · unfold sex; split <;> exact wok_c _ (by decide)
  · unfold brt; split <;> exact wok_c _ (by decide)
theorem folk_line_spec {f : Fo} (h : FoB f) (m : Mem) : F_folk_line [.v f.d] m = some (.v (.str (ln (foL f))), m) := by
  have := h.d0
  have := h.d1
  have e1 := str_i (i := f.day) (by omega) (by omega)
  have w1 := who_spec h.f0 h.f1 m
  have w2 := who_spec h.m0 h.m1 m
  have j := join_l (a := " ") (ys := foL f) (m := m) (fo_ok h).sum
  have a1 : atI [D.str "woman", D.str "man"] f.man = some (.str (sex f.man)) := by
    rcases h.m with z | z <;> rw [z] <;> rfl
  have a2 : atI [D.str "unwed", D.str "wed"] f.wed = some (.str (brt f.wed)) := by
    rcases h.w with z | z <;> rw [z] <;> rfl
  have j' : joinD (.v (.str " ")) [.v (.lst [.str (iS f.day), .str (nm f.fa), .str (nm f.mo), .str (sex f.man), .str (brt f.wed)])] m = some (.v (.str (ln (foL f))), m) := j
  simp only [F_folk_line, runF, B_folk_line, startD]
  simp [sSeq, sAsg, Fo.d, gT, gL, gN, eVar, sRet, eMt, eC, isStr, aCons, aNil, eLst, eCB, e1, eCall, w1, w2, eOp, a1, a2, j']
theorem house_text_spec (hF : GoodH F) (m : Mem) : F_house_text [.v (hD F)] m = some (.v (.str (tx (F.map foL))), m) := by
  have hB := foB hF
  have hT : TOk (F.map foL) := ⟨by have := hF.le; simp; omega, fun ws hw => by obtain ⟨f, hf, rfl⟩ := List.mem_map.mp hw; exact fo_ok (hB f hf)⟩
  have e : E_house_text_1 [some (.v (hD F)), none] m = some (.f (.lst (F.map fun f => .str (ln (foL f)))), m) := by
    have q := lc_map (src := iSeq (eVar 0)) (t := gN 1) (c := tYes') (f := eCall F_folk_line (aCons (eVar 1) aNil)) (vs := [1]) (ρ := [some (.v (hD F)), none]) (m := m) (m1 := m) F Fo.d (fun _ => true) (fun f => .str (ln (foL f)))
      (by simp [iSeq, eVar]) (fun f hf => ⟨_, rfl, rfl, fun _ => ⟨.v (.str (ln (foL f))), by
        have := folk_line_spec (hB f hf) m
        simp [eCall, aCons, aNil, eVar, this], rfl⟩⟩) (by have := hF.le; omega)
    unfold E_house_text_1
    rw [q, List.filter_eq_self.mpr (fun _ _ => rfl)]
  have t := text_of_spec hT m
  rw [List.map_map] at t
  have t' : F_text_of [.v (.lst (F.map fun f => .str (ln (foL f))))] m = some (.v (.str (tx (F.map foL))), m) := t
  simp only [F_house_text, runF, B_house_text, startD]
  simp [sRet, eCall, aCons, aNil, e, t']
theorem l_turn {f : Fo} {A : List D} {x0 : Option W} (h : FoB f) (hA : A.length < 1000000) (m : Mem) : L_l_house_text_1 [x0, some (.r m.length), some (.v (.int f.day)), some (.v (.int f.fa)), some (.v (.int f.mo)), some (.v (.int f.man)), some (.v (.int f.wed))] (m ++ [.lst A]) =
    some (.nx, [x0, some (.r m.length), some (.v (.int f.day)), some (.v (.int f.fa)), some (.v (.int f.mo)), some (.v (.int f.man)), some (.v (.int f.wed))], m ++ [.lst (A ++ [rD (foL f)])]) := by
  have := h.d0
  have := h.d1
  have e1 := str_i (i := f.day) (by omega) (by omega)
  have w1 := name_spec h.f0 h.f1 (m ++ [.lst A])
  have w2 := name_spec h.m0 h.m1 (m ++ [.lst A])
  have a1 : atI [D.str "woman", D.str "man"] f.man = some (.str (sex f.man)) := by
    rcases h.m with z | z <;> rw [z] <;> rfl
  have a2 : atI [D.str "unwed", D.str "wed"] f.wed = some (.str (brt f.wed)) := by
    rcases h.w with z | z <;> rw [z] <;> rfl
  simp [L_l_house_text_1, sDrop, eMt, eVar, aCons, aNil, eLst, eCB, e1, eCall, w1, w2, eOp, eC, a1, a2, hA, foL, rD]
theorem l_house_text_spec (hF : GoodH F) (m : Mem) : F_l_house_text [.v (hD F)] m = some (.v (.str (tx (F.map foL))), m) := by
  have hB := foB hF
  have hT : TOk (F.map foL) := ⟨by have := hF.le; simp; omega, fun ws hw => by obtain ⟨f, hf, rfl⟩ := List.mem_map.mp hw; exact fo_ok (hB f hf)⟩
  obtain ⟨ρ', m', e, rfl, rfl⟩ := for_inv (src := iSeq (eVar 0)) (t := gT [gN 2, gN 3, gN 4, gN 5, gN 6]) (b := L_l_house_text_1) (dd := [2, 3, 4, 5, 6]) (ρ := [some (.v (hD F)), some (.r m.length), none, none, none, none, none]) (m := m ++ [.lst []]) (m1 := m ++ [.lst []]) F Fo.d
    (fun k ρ mm => ρ = [some (.v (hD F)), some (.r m.length), none, none, none, none, none] ∧ mm = m ++ [.lst ((F.take k).map fun f => rD (foL f))]) (by simp [iSeq, eVar]) ⟨rfl, rfl⟩
    (fun k f hk ρ mm inv => by
      obtain ⟨rfl, rfl⟩ := inv
      have q := l_turn (f := f) (A := (F.take k).map fun f => rD (foL f)) (x0 := some (.v (hD F))) (hB f (List.mem_of_getElem? hk)) (by have := hF.le; simp; omega) m
      refine ⟨_, _, _, rfl, q, rfl, ?_⟩
      rw [List.take_succ, hk]; simp [-List.map_take])
  have tt := text_items (Ls := F.map foL) (m := m ++ [.lst ((F.take F.length).map fun f => rD (foL f))]) (it := .lst m.length) (w := .r m.length) hT (by simp [srcW]) rfl (by simp [itemsAt, List.map_map, Function.comp_def])
  rw [List.take_length] at e tt
  simp only [F_l_house_text, runF, B_l_house_text, startD]
  simp [sSeq, sSet, eOwn, eLst, aNil, aCons, eVar, e, sRet, eCall, tt]
end
end K91
end
section
set_option Elab.async false
set_option linter.all false
set_option maxRecDepth 100000
set_option maxHeartbeats 2000000
/-! Rules drawn, days drawn. -/
namespace Lr
open PySem L2 Pw Pv Lx Ls Lq
noncomputable def E_rows_1 : Ex := eLc (iSeq (eVar 2)) (gN 6) tYes' (eOp ixD (eOp ixD (eVar 1) (eOp ixD (eVar 6) (eC (.int 0)))) (eC (.int 0))) [6]
noncomputable def E_rows_2 : Ex := eLc (iSeq (eVar 2)) (gN 6) tYes' (eOp ixD (eOp ixD (eVar 1) (eOp ixD (eVar 6) (eC (.int 0)))) (eC (.int 0))) [6]
noncomputable def E_rows_3 : Ex := eLc (iRngA (aCons (eOp addD (eC (.int 1)) (eCall F_take (aCons (eVar 0) (aCons (eC (.int 3)) aNil)))) aNil)) (gN 5) tYes' (eCall F_row (aCons (eVar 0) (aCons (eVar 1) aNil))) [5]
noncomputable def B_rows : Sx := (sSeq (sSet 2 E_rows_3) (sSeq (sSet 3 (eCB (topD maxI) (aCons E_rows_2 aNil))) (sSeq (sSet 4 (eMt isLA idxD E_rows_1 (aCons (eVar 3) aNil))) (sRet (eCB tupleD (aCons (eOp addD (eSlc (eVar 2) (oSome (eVar 4)) oNone) (eSlc (eVar 2) oNone (oSome (eVar 4)))) aNil))))))
noncomputable def F_rows : Fx := runF 2 7 B_rows
noncomputable def B_day : Sx := (sSeq (sSet 2 (eOp ixD (eOp ixD (eVar 1) (eCall F_take (aCons (eVar 0) (aCons (eCB lenD (aCons (eVar 1) aNil)) aNil)))) (eC (.int 0)))) (sRet (eCB (two minI) (aCons (eC (.int 99998)) (aCons (eOp ixD (eLst (aCons (eVar 2) (aCons (eOp addD (eVar 2) (eC (.int 1))) (aCons (eOp addD (eOp ixD (eOp ixD (eVar 1) (eUn negD (eC (.int 1)))) (eC (.int 0))) (eC (.int 400))) (aCons (eOp ixD (eOp ixD (eVar 1) (eUn negD (eC (.int 1)))) (eC (.int 0))) aNil))))) (eCall F_take (aCons (eVar 0) (aCons (eC (.int 4)) aNil)))) aNil)))))
noncomputable def F_day : Fx := runF 2 3 B_day
section
variable {ns : List Int} {s : Lx.St} {F : List Fo}
/-- the day of the founder -/
def fday (F : List Fo) (r : Rw) : Int := ((F[r.founder.toNat]?).map Fo.day).getD 0
theorem fday_at {r : Rw} (hr : RwOk F r) : ∃ f, f ∈ F ∧ F[r.founder.toNat]? = some f ∧ atI (F.map Fo.d) r.founder = some f.d ∧ f.day = fday F r := by
  obtain ⟨f, hf, e, a⟩ := fo_some hr.f0 hr.f1
  exact ⟨f, hf, e, a, by unfold fday; rw [e]; rfl⟩
theorem cut_from' {ds : List D} {k : Nat} (h : k ≤ ds.length) : cutD ds (some (k : Int)) none = ds.drop k := by
  unfold cutD
  rw [HT.sIx_nat, HT.sIx_none]
  rw [Nat.min_eq_left h]
  exact List.take_of_length_le (by simp)
theorem rows_spec (hF : GoodH F) (m : Mem) : ∃ (R : List Rw) (s' : Lx.St), F_rows [.r 0, .v (hD F)] (stD ns s :: m) = some (.v (.tup (R.map Rw.d)), stD ns s' :: m) ∧ 1 ≤ R.length ∧ R.length ≤ 3 ∧ (∀ r ∈ R, RwOk F r) ∧
    ∃ r0 rest, R = r0 :: rest ∧ ∀ r ∈ R, fday F r ≤ fday F r0 := by
  have t3 : ∀ m : Mem, F_take [.r 0, .v (.int 3)] (stD ns s :: m) = _ := fun m => take_eq (by decide) (by decide)
  have lo := tk_lo (ns := ns) (s := s) (b := 3)
  have hi := tk_hi (ns := ns) (s := s) (b := 3) (by decide) (by decide)
  obtain ⟨k, hk⟩ : ∃ k : Nat, 1 + (tk ns s 3).1 = (k : Int) := ⟨(1 + (tk ns s 3).1).toNat, by omega⟩
  have hk2 : (k : Int) ≤ 1000000000 := by omega
  obtain ⟨acc, m', e, R, s', rfl, rfl, hl, hok⟩ := lc_eff (src := iRngA (aCons (eOp addD (eC (.int 1)) (eCall F_take (aCons (eVar 0) (aCons (eC (.int 3)) aNil)))) aNil)) (t := gN 5) (c := tYes') (f := eCall F_row (aCons (eVar 0) (aCons (eVar 1) aNil))) (vs := [5])
    (ρ := [some (.r 0), some (.v (hD F)), none, none, none, none, none]) (m := stD ns s :: m) (m1 := stD ns (tk ns s 3).2 :: m) (List.range k) (fun i : Nat => D.int (i : Int))
    (fun i acc mm => ∃ (R : List Rw) (s' : Lx.St), acc = R.map Rw.d ∧ mm = stD ns s' :: m ∧ R.length = i ∧ ∀ n ∈ R, RwOk F n)
    (by simp [iRngA, aCons, aNil, eCall, eVar, eOp, eC, t3, hk, hk2, rng0]) ⟨[], _, rfl, rfl, rfl, fun n hn => nomatch hn⟩
    (fun i a acc mm inv => by
      obtain ⟨R, s', rfl, rfl, hl, hok⟩ := inv
      obtain ⟨n, s2, e1, e2⟩ := row_spec (ns := ns) (s := s') hF m
      refine ⟨_, .v n.d, n.d, stD ns s2 :: m, rfl, rfl, by simp [eCall, aCons, aNil, eVar, e1], rfl, R ++ [n], s2, by simp, rfl, by simp [hl], fun x hx => ?_⟩
      rcases List.mem_append.mp hx with z | z
      · exact hok x z
      · rw [List.mem_singleton.mp z]; exact e2) (by simp; omega)
  have hl' : R.length = k := by rw [hl]; simp
  have days : ∀ (x3 x4 : Option W), E_rows_2 [some (.r 0), some (.v (hD F)), some (.v (.lst (R.map Rw.d))), x3, x4, none, none] (stD ns s' :: m) = some (.f (lI (R.map (fday F))), stD ns s' :: m) := fun x3 x4 => by
    have q := lc_map (src := iSeq (eVar 2)) (t := gN 6) (c := tYes') (f := eOp ixD (eOp ixD (eVar 1) (eOp ixD (eVar 6) (eC (.int 0)))) (eC (.int 0))) (vs := [6]) (ρ := [some (.r 0), some (.v (hD F)), some (.v (.lst (R.map Rw.d))), x3, x4, none, none]) (m := stD ns s' :: m) (m1 := stD ns s' :: m)
      R Rw.d (fun _ => true) (fun r => .int (fday F r)) (by simp [iSeq, eVar]) (fun r hr => ⟨_, rfl, rfl, fun _ => by
        obtain ⟨f, hf, _, a, ed⟩ := fday_at (hok r hr)
        refine ⟨.v (.int (fday F r)), ?_, rfl⟩
        simp [eOp, eVar, eC, a, ed]⟩) (by omega)
    unfold E_rows_2
    rw [q, List.filter_eq_self.mpr (fun _ _ => rfl), lI, List.map_map]; rfl
  obtain ⟨r0, R', hR⟩ : ∃ r0 R', R = r0 :: R' := by
    cases R with
    | nil => simp at hl'; omega
    | cons r0 R' => exact ⟨r0, R', rfl⟩
  have allI_m : ∀ xs : List Int, allI (xs.map D.int) = some xs := fun xs => by
    induction xs with
    | nil => rfl
    | cons x xs ih => rw [List.map_cons, allI, ih]; rfl
  obtain ⟨top, ht, hmem, hge⟩ : ∃ top, topD maxI [lI (R.map (fday F))] = some (.v (.int top)) ∧ top ∈ R.map (fday F) ∧ ∀ z ∈ R.map (fday F), z ≤ top := by
    rw [hR, List.map_cons]
    obtain ⟨h1, h2, h3⟩ := fold_maxI (R'.map (fday F)) (fday F r0)
    refine ⟨(R'.map (fday F)).foldl maxI (fday F r0), ?_, ?_, ?_⟩
    · show (some ((fday F r0 :: R'.map (fday F)).map D.int)).bind (fun ds => (allI ds).bind fun is => match is with
        | [] => none
        | i :: is => some (W.v (D.int (is.foldl maxI i)))) = _
      simp only [Option.bind_some, allI_m]
    · rcases h1 with h | h
      · rw [h]; exact List.mem_cons_self
      · exact List.mem_cons_of_mem _ h
    · intro z hz
      rcases List.mem_cons.mp hz with h | h
      · rw [h]; exact h2
      · exact h3 z h
  obtain ⟨a, ha⟩ : ∃ a, (R.map (fday F)).findIdx? (fun j => j == top) = some a := by
    have : ((R.map (fday F)).findIdx? (fun j => j == top)).isSome = true := by
      rw [List.findIdx?_isSome, List.any_eq_true]
      exact ⟨top, hmem, by simp⟩
    exact Option.isSome_iff_exists.mp this
  obtain ⟨hal, hat, _⟩ := List.findIdx?_eq_some_iff_getElem.mp ha
  have hal' : a < R.length := by simpa using hal
  have ix : idxD (.f (lI (R.map (fday F)))) [.v (.int top)] (stD ns s' :: m) = some (.v (.int (a : Int)), stD ns s' :: m) := by
    show (some (lI (R.map (fday F)))).bind (fun d => (itmL d).bind fun ds => (allI ds).bind fun is => (some (D.int top)).bind fun x => match x with
      | .int i => (is.findIdx? fun j => j == i).bind fun k => some (W.v (.int (k : Int)), stD ns s' :: m)
      | _ => none) = _
    simp only [Option.bind_some, itmL_l, allI_m, ha]
  have isl : isLA (.f (lI (R.map (fday F)))) (stD ns s' :: m) = true := rfl
  have days1 : ∀ (x3 x4 : Option W), E_rows_1 [some (.r 0), some (.v (hD F)), some (.v (.lst (R.map Rw.d))), x3, x4, none, none] (stD ns s' :: m) = some (.f (lI (R.map (fday F))), stD ns s' :: m) := days
  have c1 := cut_from' (ds := R.map Rw.d) (k := a) (by simp; omega)
  have c2 := cut_take (ds := R.map Rw.d) (k := (a : Int)) (by omega) (by simp; omega)
  have e3 : E_rows_3 [some (.r 0), some (.v (hD F)), none, none, none, none, none] (stD ns s :: m) = some (.f (.lst (R.map Rw.d)), stD ns s' :: m) := e
  refine ⟨R.drop a ++ R.take a, s', ?_, by simp; omega, by simp; omega, fun r hr => ?_, ?_⟩
  · have ll : (R.drop a).length + (R.take a).length ≤ 1000000 := by simp; omega
    simp only [F_rows, runF, B_rows, startD]
    simp [sSeq, sSet, e3, eCB, aCons, aNil, days, ht, eMt, days1, isl, eVar, ix, sRet, eOp, eSlc, oSome, oNone, slcD, c1, c2, -List.map_take, -List.map_drop, -List.length_take, -List.length_drop]
    rw [if_pos (by simp; omega)]
    simp
  · rcases List.mem_append.mp hr with z | z
    · exact hok r (List.mem_of_mem_drop z)
    · exact hok r (List.mem_of_mem_take z)
  · have hd : R.drop a = R[a] :: R.drop (a + 1) := List.drop_eq_getElem_cons hal'
    refine ⟨R[a], R.drop (a + 1) ++ R.take a, by rw [hd]; rfl, fun r hr => ?_⟩
    have et : fday F R[a] = top := by simpa using hat
    rw [et]
    refine hge _ (List.mem_map.mpr ⟨r, ?_, rfl⟩)
    rcases List.mem_append.mp hr with z | z
    · exact List.mem_of_mem_drop z
    · exact List.mem_of_mem_take z
theorem day_spec (hF : GoodH F) (m : Mem) : ∃ (d : Int) (s' : Lx.St), F_day [.r 0, .v (hD F)] (stD ns s :: m) = some (.v (.int d), stD ns s' :: m) ∧ 0 ≤ d ∧ d ≤ 99998 ∧ ∃ f ∈ F, f.day ≤ d := by
  have l0 := hF.ne
  have l1 := hF.le
  have t1 : ∀ m : Mem, F_take [.r 0, .v (.int (F.length : Int))] (stD ns s :: m) = _ := fun m => take_eq (by omega) (by omega)
  have lo := tk_lo (ns := ns) (s := s) (b := F.length)
  have hi := tk_hi (ns := ns) (s := s) (b := F.length) (by omega) (by omega)
  obtain ⟨f, hf, _, ea⟩ := fo_some (F := F) lo hi
  have t2 : ∀ m : Mem, F_take [.r 0, .v (.int 4)] (stD ns (tk ns s F.length).2 :: m) = _ := fun m => take_eq (by decide) (by decide)
  obtain ⟨g, hg, eg⟩ : ∃ g, g ∈ F ∧ atI (F.map Fo.d) (-1) = some g.d := by
    have hl : F.length - 1 < F.length := by omega
    refine ⟨F[F.length - 1], List.getElem_mem hl, ?_⟩
    unfold atI ixN
    rw [if_neg (by decide), if_pos (by simp; omega), List.length_map]
    simp only [Option.bind_some]
    rw [show (-1 + (F.length : Int)).toNat = F.length - 1 by omega, List.getElem?_map, List.getElem?_eq_getElem hl]; rfl
  have f0 := (hF.ok f hf).d0
  have f1 := (hF.ok f hf).d1
  have g0 := (hF.ok g hg).d0
  have g1 := (hF.ok g hg).d1
  obtain ⟨x, hx, ex⟩ := pick_ex ns (tk ns s F.length).2 4 [.int f.day, .int (f.day + 1), .int (g.day + 400), .int g.day] rfl (by simp) (by simp)
  obtain ⟨z, rfl, hz, h, hh, hd⟩ : ∃ z : Int, x = .int z ∧ 0 ≤ z ∧ ∃ h ∈ F, h.day ≤ min 99998 z := by
    simp only [List.mem_cons, List.not_mem_nil, or_false] at hx
    rcases hx with h | h | h | h
    · exact ⟨_, h, by omega, f, hf, by omega⟩
    · exact ⟨_, h, by omega, f, hf, by omega⟩
    · exact ⟨_, h, by omega, g, hg, by omega⟩
    · exact ⟨_, h, by omega, g, hg, by omega⟩
  refine ⟨min 99998 z, (tk ns (tk ns s F.length).2 4).2, ?_, by omega, by omega, h, hh, hd⟩
  · simp only [F_day, runF, B_day, startD]
    simp [sSeq, sSet, eOp, eVar, eCall, aCons, aNil, eCB, t1, ea, eC, sRet, eLst, eUn, eg, t2, ex]
end
end Lr
end
section
set_option Elab.async false
set_option linter.all false
set_option maxRecDepth 100000
set_option maxHeartbeats 4000000
namespace K91
open PySem L2 Pw Pv Lx Lq Lt
open Ls hiding allS
section
variable {ns : List Int} {s : Lx.St} {m : Mem} {F : List Fo} {B : List Nw}
/-! ### news -/
def nwL (n : Nw) : List Str := [n.word, iS n.day, iS n.who] ++ if n.word = "awaits" then [nm n.other] else []
structure NwB (n : Nw) : Prop where
  w : WOk n.word
  d0 : 0 ≤ n.day
  d1 : n.day ≤ 1000000
  w0 : 0 ≤ n.who
  w1 : n.who ≤ 1000000
  o0 : -1 ≤ n.other
  o1 : n.other ≤ 1000000
theorem nwB (hF : GoodH F) (hB : GoodB F B) : ∀ n ∈ B, NwB n := fun n hn => by
  have ok := hB.ok n hn
  have le := hF.le
  have a := ok.d0
  have b := ok.d1
  have c := ok.w0
  have d := ok.w1
  have e := ok.o0
  have f := ok.o1
  refine ⟨?_, a, by omega, c, by omega, e, by omega⟩
  have := ok.word
  simp only [List.mem_cons, List.not_mem_nil, or_false] at this
  rcases this with z | z | z | z | z <;> rw [z] <;> exact wok_c _ (by decide)
theorem nw_ok {n : Nw} (h : NwB n) : LOk (nwL n) := by
  refine ⟨?_, fun w hw => ?_⟩
  · unfold nwL; split <;> simp
  · unfold nwL at hw
    rcases List.mem_append.mp hw with z | z
    · simp only [List.mem_cons, List.not_mem_nil, or_false] at z
      have := h.d0
      have := h.d1
      have := h.w0
      have := h.w1
      rcases z with rfl | rfl | rfl
      · exact h.w
      · exact wok_i (by omega) (by omega)
      · exact wok_i (by omega) (by omega)
    · split at z
      · rw [List.mem_singleton.mp z]; exact wok_nm h.o0 h.o1
      · cases z
theorem join_r {a : Str} {ys : List Str} {m : Mem} {n : Nat} (hm : m[n]? = some (.lst (ys.map .str))) (h : (ys.map (·.length)).sum + ys.length * a.length ≤ 16000000) : joinD (.v (.str a)) [.r n] m = some (.v (.str (Txt.join a ys)), m) := by
  show ((m[n]?).map moD).bind (fun d => (itmD d).bind fun ds => (Pw.allS ds).bind fun ys => if (ys.map (·.length)).sum + ys.length * a.length ≤ 16000000 then some (W.v (D.str (Txt.join a ys)), m) else none) = _
  rw [hm]
  simp only [Option.map_some, moD_l, Option.bind_some, itm_l, allS_map, if_pos h]
theorem news_line_spec {n : Nw} (h : NwB n) (m : Mem) : F_news_line [.v n.d] m = some (.v (.str (ln (nwL n))), m) := by
  have := h.d0
  have := h.d1
  have := h.w0
  have := h.w1
  have e1 := str_i (i := n.day) (by omega) (by omega)
  have e2 := str_i (i := n.who) (by omega) (by omega)
  have jl := (nw_ok h).sum
  simp only [F_news_line, runF, B_news_line, startD]
  by_cases hw : n.word = "awaits"
  · have w1 := who_spec h.o0 h.o1 (m ++ [.lst [.str "awaits", .str (iS n.day), .str (iS n.who)]])
    have el : nwL n = [("awaits" : Str), iS n.day, iS n.who, nm n.other] := by unfold nwL; rw [if_pos hw, hw]; rfl
    rw [el] at jl ⊢
    have j' : joinD (.v (.str " ")) [.r m.length] (m ++ [.lst [.str "awaits", .str (iS n.day), .str (iS n.who), .str (nm n.other)]]) = some (.v (.str (ln [("awaits" : Str), iS n.day, iS n.who, nm n.other])), m ++ [.lst [.str "awaits", .str (iS n.day), .str (iS n.who), .str (nm n.other)]]) :=
      join_r (by simp) jl
    simp [sSeq, sAsg, Nw.d, gT, gL, gN, eVar, hw, sSet, eOwn, eLst, aCons, aNil, eCB, e1, e2, sIf, tVal, eOp, eC, sDrop, eMt, eCall, w1, sRet, isStr, j']
  · have el : nwL n = [n.word, iS n.day, iS n.who] := by unfold nwL; rw [if_neg hw]; rfl
    rw [el] at jl ⊢
    have j' : joinD (.v (.str " ")) [.r m.length] (m ++ [.lst [.str n.word, .str (iS n.day), .str (iS n.who)]]) = some (.v (.str (ln [n.word, iS n.day, iS n.who])), m ++ [.lst [.str n.word, .str (iS n.day), .str (iS n.who)]]) :=
      join_r (by simp) jl
    simp [sSeq, sAsg, Nw.d, gT, gL, gN, eVar, hw, sSet, eOwn, eLst, aCons, aNil, eCB, e1, e2, sIf, tVal, eOp, eC, sNil, sRet, eMt, isStr, j']
theorem news_words_spec {n : Nw} (h : NwB n) (m : Mem) : ∃ w, F_news_words [.v n.d] m = some (w, m) ∧ vl w = some (rD (nwL n)) := by
  have := h.d0
  have := h.d1
  have := h.w0
  have := h.w1
  have e1 := str_i (i := n.day) (by omega) (by omega)
  have e2 := str_i (i := n.who) (by omega) (by omega)
  have w1 := name_spec h.o0 h.o1 m
  simp only [F_news_words, runF, B_news_words, startD]
  by_cases hw : n.word = "awaits"
  · have el : nwL n = [("awaits" : Str), iS n.day, iS n.who, nm n.other] := by unfold nwL; rw [if_pos hw, hw]; rfl
    rw [el]
    exact ⟨.f (rD [("awaits" : Str), iS n.day, iS n.who, nm n.other]), by simp [sRet, eOp, eLst, aCons, aNil, eVar, eC, eCB, e1, e2, eCall, w1, hw, mulD], rfl⟩
  · have el : nwL n = [n.word, iS n.day, iS n.who] := by unfold nwL; rw [if_neg hw]; rfl
    rw [el]
    exact ⟨.f (rD [n.word, iS n.day, iS n.who]), by simp [sRet, eOp, eLst, aCons, aNil, eVar, eC, eCB, e1, e2, eCall, w1, hw, mulD], rfl⟩
theorem bookT (hF : GoodH F) (hB : GoodB F B) : TOk (B.map nwL) := ⟨by have := hB.le; simp; omega, fun ws hw => by
  obtain ⟨n, hn, rfl⟩ := List.mem_map.mp hw
  exact nw_ok (nwB hF hB n hn)⟩
theorem book_text_spec (hF : GoodH F) (hB : GoodB F B) (m : Mem) : F_book_text [.v (bD B)] m = some (.v (.str (tx (B.map nwL))), m) := by
  have e : E_book_text_1 [some (.v (bD B)), none] m = some (.f (.lst (B.map fun f => .str (ln (nwL f)))), m) := by
    have q := lc_map (src := iSeq (eVar 0)) (t := gN 1) (c := tYes') (f := eCall F_news_line (aCons (eVar 1) aNil)) (vs := [1]) (ρ := [some (.v (bD B)), none]) (m := m) (m1 := m) B Nw.d (fun _ => true) (fun f => .str (ln (nwL f)))
      (by simp [iSeq, eVar]) (fun f hf => ⟨_, rfl, rfl, fun _ => ⟨.v (.str (ln (nwL f))), by
        have := news_line_spec (nwB hF hB f hf) m
        simp [eCall, aCons, aNil, eVar, this], rfl⟩⟩) (by have := hB.le; omega)
    unfold E_book_text_1
    rw [q, List.filter_eq_self.mpr (fun _ _ => rfl)]
  have t := text_of_spec (bookT hF hB) m
  rw [List.map_map] at t
  have t' : F_text_of [.v (.lst (B.map fun f => .str (ln (nwL f))))] m = some (.v (.str (tx (B.map nwL))), m) := t
  simp only [F_book_text, runF, B_book_text, startD]
  simp [sRet, eCall, aCons, aNil, e, t']
theorem l_book_text_spec (hF : GoodH F) (hB : GoodB F B) (m : Mem) : F_l_book_text [.v (bD B)] m = some (.v (.str (tx (B.map nwL))), m) := by
  have e : E_l_book_text_1 [some (.v (bD B)), none] m = some (.f (.lst (B.map fun f => rD (nwL f))), m) := by
    have q := lc_map (src := iSeq (eVar 0)) (t := gN 1) (c := tYes') (f := eCall F_news_words (aCons (eVar 1) aNil)) (vs := [1]) (ρ := [some (.v (bD B)), none]) (m := m) (m1 := m) B Nw.d (fun _ => true) (fun f => rD (nwL f))
      (by simp [iSeq, eVar]) (fun f hf => ⟨_, rfl, rfl, fun _ => by
        obtain ⟨w, q, v⟩ := news_words_spec (nwB hF hB f hf) m
        exact ⟨w, by simp [eCall, aCons, aNil, eVar, q], v⟩⟩) (by have := hB.le; omega)
    unfold E_l_book_text_1
    rw [q, List.filter_eq_self.mpr (fun _ _ => rfl)]
  have tt := text_items (Ls := B.map nwL) (m := m) (it := .seq (B.map fun f => rD (nwL f))) (w := .v (.lst (B.map fun f => rD (nwL f)))) (bookT hF hB) rfl rfl (by simp [List.map_map, Function.comp_def])
  simp only [F_l_book_text, runF, B_l_book_text, startD]
  simp [sRet, eCall, aCons, aNil, e, tt]
/-! ### rules -/
def rwL (r : Rw) : List Str := [iS r.founder, r.men, cnt r.wed, r.way]
theorem rw_ok (hF : GoodH F) {r : Rw} (h : RwOk F r) : LOk (rwL r) := by
  have := h.f0
  have := h.f1
  have := hF.le
  refine ⟨by simp [rwL], fun w hw => ?_⟩
  simp only [rwL, List.mem_cons, List.not_mem_nil, or_false] at hw
  rcases hw with rfl | rfl | rfl | rfl
  · exact wok_i (by omega) (by omega)
  · have := h.men
    simp only [List.mem_cons, List.not_mem_nil, or_false] at this
    rcases this with z | z | z <;> rw [z] <;> exact wok_c _ (by decide)
  · unfold cnt; split <;> exact wok_c _ (by decide)
  · have := h.way
    simp only [List.mem_cons, List.not_mem_nil, or_false] at this
    rcases this with z | z | z <;> rw [z] <;> exact wok_c _ (by decide)
theorem ruleT (hF : GoodH F) {R : List Rw} (hl : R.length ≤ 3) (hR : ∀ r ∈ R, RwOk F r) : TOk (R.map rwL) := ⟨by simp; omega, fun ws hw => by
  obtain ⟨n, hn, rfl⟩ := List.mem_map.mp hw
  exact rw_ok hF (hR n hn)⟩
theorem row_line_spec (hF : GoodH F) {r : Rw} (h : RwOk F r) (m : Mem) : F_row_line [.v r.d] m = some (.v (.str (ln (rwL r))), m) := by
  have := h.f0
  have := h.f1
  have := hF.le
  have e1 := str_i (i := r.founder) (by omega) (by omega)
  have j := join_l (a := " ") (ys := rwL r) (m := m) (rw_ok hF h).sum
  have a2 : atI [D.str "all", D.str "wed"] r.wed = some (.str (cnt r.wed)) := by
    rcases h.wed with z | z <;> rw [z] <;> rfl
  have j' : joinD (.v (.str " ")) [.v (.lst [.str (iS r.founder), .str r.men, .str (cnt r.wed), .str r.way])] m = some (.v (.str (ln (rwL r))), m) := j
  simp only [F_row_line, runF, B_row_line, startD]
  simp [sSeq, sAsg, Rw.d, gT, gL, gN, eVar, sRet, eMt, eC, isStr, aCons, aNil, eLst, eCB, e1, eOp, a2, j']
abbrev uD (R : List Rw) : D := .tup (R.map Rw.d)
theorem rule_text_spec (hF : GoodH F) {R : List Rw} (hl : R.length ≤ 3) (hR : ∀ r ∈ R, RwOk F r) (m : Mem) : F_rule_text [.v (uD R)] m = some (.v (.str (tx (R.map rwL))), m) := by
  have e : E_rule_text_1 [some (.v (uD R)), none] m = some (.f (.lst (R.map fun f => .str (ln (rwL f)))), m) := by
    have q := lc_map (src := iSeq (eVar 0)) (t := gN 1) (c := tYes') (f := eCall F_row_line (aCons (eVar 1) aNil)) (vs := [1]) (ρ := [some (.v (uD R)), none]) (m := m) (m1 := m) R Rw.d (fun _ => true) (fun f => .str (ln (rwL f)))
      (by simp [iSeq, eVar]) (fun f hf => ⟨_, rfl, rfl, fun _ => ⟨.v (.str (ln (rwL f))), by
        have := row_line_spec hF (hR f hf) m
        simp [eCall, aCons, aNil, eVar, this], rfl⟩⟩) (by omega)
    unfold E_rule_text_1
    rw [q, List.filter_eq_self.mpr (fun _ _ => rfl)]
  have t := text_of_spec (ruleT hF hl hR) m
  rw [List.map_map] at t
  have t' : F_text_of [.v (.lst (R.map fun f => .str (ln (rwL f))))] m = some (.v (.str (tx (R.map rwL))), m) := t
  simp only [F_rule_text, runF, B_rule_text, startD]
  simp [sRet, eCall, aCons, aNil, e, t']
theorem rows_text_spec (hF : GoodH F) {R : List Rw} (hl : R.length ≤ 3) (hR : ∀ r ∈ R, RwOk F r) (m : Mem) : F_rows_text [.v (uD R)] m = some (.v (.str (tx (R.map rwL))), m) := by
  have e : E_rows_text_1 [some (.v (uD R)), none, none, none, none] m = some (.f (.lst (R.map fun f => rD (rwL f))), m) := by
    have q := lc_map (src := iSeq (eVar 0)) (t := gT [gN 1, gN 2, gN 3, gN 4]) (c := tYes') (f := eLst (aCons (eCB strD (aCons (eVar 1) aNil)) (aCons (eVar 2) (aCons (eOp ixD (eLst (aCons (eC (.str "all")) (aCons (eC (.str "wed")) aNil))) (eVar 3)) (aCons (eVar 4) aNil))))) (vs := [1, 2, 3, 4]) (ρ := [some (.v (uD R)), none, none, none, none]) (m := m) (m1 := m) R Rw.d (fun _ => true) (fun f => rD (rwL f))
      (by simp [iSeq, eVar]) (fun r hr => ⟨_, rfl, rfl, fun _ => by
        have h := hR r hr
        have := h.f0
        have := h.f1
        have := hF.le
        have e1 := str_i (i := r.founder) (by omega) (by omega)
        have a2 : atI [D.str "all", D.str "wed"] r.wed = some (.str (cnt r.wed)) := by
          rcases h.wed with z | z <;> rw [z] <;> rfl
        exact ⟨.f (rD (rwL r)), by simp [eLst, aCons, aNil, eCB, eVar, e1, eOp, eC, a2, rwL], rfl⟩⟩) (by omega)
    unfold E_rows_text_1
    rw [q, List.filter_eq_self.mpr (fun _ _ => rfl)]
  have tt := text_items (Ls := R.map rwL) (m := m) (it := .seq (R.map fun f => rD (rwL f))) (w := .v (.lst (R.map fun f => rD (rwL f)))) (ruleT hF hl hR) rfl rfl (by simp [List.map_map, Function.comp_def])
  simp only [F_rows_text, runF, B_rows_text, startD]
  simp [sRet, eCall, aCons, aNil, e, tt]
end
end K91
end
section
set_option Elab.async false
set_option linter.all false
set_option maxRecDepth 100000
set_option maxHeartbeats 4000000
namespace K91
open PySem L2 Pw Pv Lx Lq Lt
open Ls hiding allS
section
variable {ns : List Int} {s : Lx.St} {m : Mem} {F : List Fo} {B : List Nw}
theorem some_spec (m : Mem) : ∃ (F : List Fo) (B : List Nw) (d : Int) (s' : Lx.St), F_some [.r 0, .v (.int 16)] (stD ns s :: m) = some (.f (.lst [hD F, bD B, .int d]), stD ns s' :: m) ∧ GoodH F ∧ GoodB F B := by
  have t8 : K91.F_take [.r 0, .v (.int 8)] (stD ns s :: m) = _ := take_eq (ns := ns) (s := s) (m := m) (b := 8) (by decide) (by decide)
  obtain ⟨mo, hmo, h1, h2⟩ : ∃ mo : Int, atI [D.int 16, .int 60] (if (tk ns s 8).1 = 0 then 1 else 0) = some (.int mo) ∧ 1 ≤ mo ∧ mo ≤ 60 := by
    by_cases h : (tk ns s 8).1 = 0
    · exact ⟨60, by simp [h], by decide, by decide⟩
    · exact ⟨16, by simp [h], by decide, by decide⟩
  obtain ⟨bo, hbo, b1, b2⟩ : ∃ bo : Int, atI [D.int 8, .int 40] (if (tk ns s 8).1 = 0 then 1 else 0) = some (.int bo) ∧ 0 ≤ bo ∧ bo ≤ 60 := by
    by_cases h : (tk ns s 8).1 = 0
    · exact ⟨40, by simp [h], by decide, by decide⟩
    · exact ⟨8, by simp [h], by decide, by decide⟩
  obtain ⟨F, s1, e1, hF⟩ := house_spec (ns := ns) (s := (tk ns s 8).2) h1 h2 m
  obtain ⟨B, s2, e2, hB, _⟩ := book_spec (ns := ns) (s := s1) hF b1 b2 m
  obtain ⟨d, s3, e3, _⟩ := Lr.day_spec (ns := ns) (s := s2) hF m
  have e1' : K91.F_house [.r 0, .v (.int mo)] (stD ns (tk ns s 8).2 :: m) = some (.v (hD F), stD ns s1 :: m) := e1
  have e2' : K91.F_book [.r 0, .v (hD F), .v (.int bo)] (stD ns s1 :: m) = some (.v (bD B), stD ns s2 :: m) := e2
  have e3' : K91.F_day [.r 0, .v (hD F)] (stD ns s2 :: m) = some (.v (.int d), stD ns s3 :: m) := e3
  refine ⟨F, B, d, s3, ?_, hF, hB⟩
  simp only [F_some, runF, B_some, startD]
  simp [sSeq, sSet, eOp, eCall, aCons, aNil, eVar, eC, t8, eLst, eCB, hmo, e1', hbo, e2', e3', sRet]
abbrev eL (ns : List Int) (x2 x3 x4 x5 x6 x7 : Option W) : Pw.Env := [some (.v (.fl (ns.map .int))), some (.r 0), x2, x3, x4, x5, x6, x7, none, none]
theorem texts_list {α : Type} {L : List α} {f : α → Str} (hL : ∀ a ∈ L, PyData.strOk (f a) = true) : eqD true (.lst (L.map fun a => .str (f a))) (.lst (L.map fun a => .str (f a))) = some (.v (.bl false)) :=
  eq_same (n := 1) (gd_l (gds_map fun a ha => by rw [gd]; exact hL a ha)) (by decide) rfl
theorem inner_turn {x2 x4 x7 : Option W} {Rs : List (List Rw)} (hF : GoodH F) (hB : GoodB F B) (hl : Rs.length ≤ 10) (hR : ∀ R ∈ Rs, R.length ≤ 3 ∧ ∀ r ∈ R, RwOk F r) :
    L_law_1 (eL ns x2 (some (.v (.lst (Rs.map uD)))) x4 (some (.v (hD F))) (some (.v (bD B))) x7) m = some (.nx, eL ns x2 (some (.v (.lst (Rs.map uD)))) x4 (some (.v (hD F))) (some (.v (bD B))) x7, m) := by
  have h1 := house_text_spec hF m
  have h2 := l_house_text_spec hF m
  have b1 := book_text_spec hF hB m
  have b2 := l_book_text_spec hF hB m
  have r1 : E_law_1 (eL ns x2 (some (.v (.lst (Rs.map uD)))) x4 (some (.v (hD F))) (some (.v (bD B))) x7) m = some (.f (.lst (Rs.map fun R => .str (tx (R.map rwL)))), m) := by
    have q := lc_map (src := iSeq (eVar 3)) (t := gN 9) (c := tYes') (f := eCall F_rule_text (aCons (eVar 9) aNil)) (vs := [9]) (ρ := eL ns x2 (some (.v (.lst (Rs.map uD)))) x4 (some (.v (hD F))) (some (.v (bD B))) x7) (m := m) (m1 := m) Rs uD (fun _ => true) (fun R => .str (tx (R.map rwL)))
      (by simp [iSeq, eVar]) (fun R hr => ⟨_, rfl, rfl, fun _ => ⟨.v (.str (tx (R.map rwL))), by
        have := rule_text_spec hF (hR R hr).1 (hR R hr).2 m
        simp [eCall, aCons, aNil, eVar, this], rfl⟩⟩) (by omega)
    unfold E_law_1
    rw [q, List.filter_eq_self.mpr (fun _ _ => rfl)]
  have r2 : E_law_2 (eL ns x2 (some (.v (.lst (Rs.map uD)))) x4 (some (.v (hD F))) (some (.v (bD B))) x7) m = some (.f (.lst (Rs.map fun R => .str (tx (R.map rwL)))), m) := by
    have q := lc_map (src := iSeq (eVar 3)) (t := gN 9) (c := tYes') (f := eCall F_rows_text (aCons (eVar 9) aNil)) (vs := [9]) (ρ := eL ns x2 (some (.v (.lst (Rs.map uD)))) x4 (some (.v (hD F))) (some (.v (bD B))) x7) (m := m) (m1 := m) Rs uD (fun _ => true) (fun R => .str (tx (R.map rwL)))
      (by simp [iSeq, eVar]) (fun R hr => ⟨_, rfl, rfl, fun _ => ⟨.v (.str (tx (R.map rwL))), by
        have := rows_text_spec hF (hR R hr).1 (hR R hr).2 m
        simp [eCall, aCons, aNil, eVar, this], rfl⟩⟩) (by omega)
    unfold E_law_2
    rw [q, List.filter_eq_self.mpr (fun _ _ => rfl)]
  have el := texts_list (L := Rs) (f := fun R => tx (R.map rwL)) fun R hr => (ruleT hF (hR R hr).1 (hR R hr).2).txt
  simp [L_law_1, sSeq, sIf, tOr', tVal, eOp, eCall, aCons, aNil, eVar, h1, h2, b1, b2, sNil, r1, r2, el, tNot', tTru, eIs, isD, truD]
theorem rules_spec {x2 x4 x6 x7 : Option W} (hF : GoodH F) : ∃ (Rs : List (List Rw)) (s' : Lx.St), E_law_3 (eL ns x2 none x4 (some (.v (hD F))) x6 x7) [stD ns s] = some (.f (.lst (Rs.map uD)), [stD ns s']) ∧ Rs.length ≤ 10 ∧ ∀ R ∈ Rs, R.length ≤ 3 ∧ ∀ r ∈ R, RwOk F r := by
  obtain ⟨acc, m', e, Rs, s', rfl, rfl, hl, hok⟩ := lc_eff (src := iRngA (aCons (eC (.int 3)) aNil)) (t := gN 8) (c := tYes') (f := eCall F_rows (aCons (eVar 1) (aCons (eVar 5) aNil))) (vs := [8])
    (ρ := eL ns x2 none x4 (some (.v (hD F))) x6 x7) (m := [stD ns s]) (m1 := [stD ns s]) (List.range 3) (fun i : Nat => D.int (i : Int))
    (fun i acc mm => ∃ (Rs : List (List Rw)) (s' : Lx.St), acc = Rs.map uD ∧ mm = [stD ns s'] ∧ Rs.length = i ∧ ∀ R ∈ Rs, R.length ≤ 3 ∧ ∀ r ∈ R, RwOk F r)
    (by simp [iRngA, aCons, aNil, eC]; rfl) ⟨[], _, rfl, rfl, rfl, fun n hn => nomatch hn⟩
    (fun i a acc mm inv => by
      obtain ⟨Rs, s', rfl, rfl, hl, hok⟩ := inv
      obtain ⟨R, s2, e1, _, r3, rok, _⟩ := Lr.rows_spec (ns := ns) (s := s') hF []
      have e1' : K91.F_rows [.r 0, .v (hD F)] [stD ns s'] = some (.v (uD R), [stD ns s2]) := e1
      refine ⟨_, .v (uD R), uD R, [stD ns s2], rfl, rfl, by simp [eCall, aCons, aNil, eVar, e1'], rfl, Rs ++ [R], s2, by simp, rfl, by simp [hl], fun x hx => ?_⟩
      rcases List.mem_append.mp hx with z | z
      · exact hok x z
      · rw [List.mem_singleton.mp z]; exact ⟨r3, rok⟩) (by simp)
  exact ⟨Rs, s', e, by rw [hl]; decide, hok⟩
theorem outer_turn {i : Int} : ∃ (ρ2 : Pw.Env) (s' : Lx.St), L_law_2 (eL ns (some (.v (.int i))) none none none none none) [stD ns s] = some (.nx, ρ2, [stD ns s']) ∧ wipeD ρ2 [2, 3, 4, 5, 6, 7] = eL ns none none none none none none := by
  obtain ⟨F, B, d, s1, e1, hF, hB⟩ := some_spec (ns := ns) (s := s) []
  obtain ⟨Rs, s2, e2, hl, hR⟩ := rules_spec (ns := ns) (s := s1) (x2 := some (.v (.int i))) (x4 := none) (x6 := some (.v (bD B))) (x7 := some (.v (.int d))) hF
  obtain ⟨ρ', m', e3, rfl, rfl⟩ := for_inv (α := Nat) (src := iRngA (aCons (eC (.int 2)) aNil)) (t := gN 4) (b := L_law_1) (dd := [4])
    (ρ := eL ns (some (.v (.int i))) (some (.v (.lst (Rs.map uD)))) none (some (.v (hD F))) (some (.v (bD B))) (some (.v (.int d)))) (m := [stD ns s2]) (m1 := [stD ns s2]) (List.range 2) (fun i => .int (i : Int))
    (fun _ ρ mm => ρ = eL ns (some (.v (.int i))) (some (.v (.lst (Rs.map uD)))) none (some (.v (hD F))) (some (.v (bD B))) (some (.v (.int d))) ∧ mm = [stD ns s2])
    (by simp [iRngA, aCons, aNil, eC]; rfl) ⟨rfl, rfl⟩
    (fun k n hk ρ mm inv => by
      obtain ⟨rfl, rfl⟩ := inv
      exact ⟨_, _, _, rfl, inner_turn hF hB hl hR, rfl, rfl⟩)
  refine ⟨eL ns (some (.v (.int i))) (some (.v (.lst (Rs.map uD)))) none (some (.v (hD F))) (some (.v (bD B))) (some (.v (.int d))), s2, ?_, rfl⟩
  simp [L_law_2, sSeq, sAsg, eCall, aCons, aNil, eVar, eC, e1, gTL, gL, gN, sSet, e2]
  exact e3
theorem holds (ns : List Int) (hn : ns.length ≤ 63) : ∃ m', F_law [.v (.fl (ns.map .int))] [] = some (.v (.bl true), m') := by
  obtain ⟨ρ', m', e, rfl, s', rfl⟩ := for_inv (α := Nat) (src := iRngA (aCons (eC (.int 3)) aNil)) (t := gN 2) (b := L_law_2) (dd := [2, 3, 4, 5, 6, 7]) (ρ := eL ns none none none none none none) (m := [stD ns ⟨0, 0, 91, by decide, by decide, by decide, by decide⟩]) (m1 := [stD ns ⟨0, 0, 91, by decide, by decide, by decide, by decide⟩])
    (List.range 3) (fun i => .int (i : Int)) (fun _ ρ mm => ρ = eL ns none none none none none none ∧ ∃ s, mm = [stD ns s]) (by
      simp [iRngA, aCons, aNil, eC]
      rfl) ⟨rfl, _, rfl⟩
    (fun k n hk ρ mm inv => by
      obtain ⟨rfl, s, rfl⟩ := inv
      obtain ⟨ρ2, s', q, w⟩ := outer_turn (ns := ns) (s := s) (i := n)
      exact ⟨_, ρ2, _, rfl, q, w, s', rfl⟩)
  have hb0 : E_book_text_1 [some (.v (.tup [])), none] [stD ns s'] = some (.f (.lst []), [stD ns s']) := by
    have q := lc_map (src := iSeq (eVar 0)) (t := gN 1) (c := tYes') (f := eCall F_news_line (aCons (eVar 1) aNil)) (vs := [1]) (ρ := [some (.v (.tup [])), none]) (m := [stD ns s']) (m1 := [stD ns s']) ([] : List Nw) Nw.d (fun _ => true) (fun f => .str (ln (nwL f)))
      (by simp [iSeq, eVar]) (fun f hf => nomatch hf) (by decide)
    exact q
  have ht0 := text_of_spec (Ls := []) ⟨by decide, fun _ h => nomatch h⟩ [stD ns s']
  have ht0' : F_text_of [.v (.lst [])] [stD ns s'] = some (.v (.str ""), [stD ns s']) := ht0
  have hbt : K91.F_book_text [.v (.tup [])] [stD ns s'] = some (.v (.str ""), [stD ns s']) := by
    simp only [F_book_text, runF, B_book_text, startD]
    simp [sRet, eCall, aCons, aNil, hb0, ht0']
  have e' : sFor (iRngA (aCons (eC (.int 3)) aNil)) (gN 2) L_law_2 [2, 3, 4, 5, 6, 7] [some (.v (.fl (ns.map .int))), some (.r 0), none, none, none, none, none, none, none, none] [.lst [.fl (ns.map .int), .int 0, .int 0, .int 91]] = some (.nx, eL ns none none none none none none, [stD ns s']) := e
  refine ⟨[], ?_⟩
  simp only [F_law, runF, B_law, startD]
  simp [sSeq, sSet, eOwn, eLst, aCons, aNil, eVar, eC, e', sRet, eOp, eCall, eTup, hbt]
end
end K91
end
section
set_option Elab.async false
set_option linter.all false
set_option maxRecDepth 100000
set_option maxHeartbeats 4000000
namespace K91
open PySem PySem.Spec PyProof.Rows L2 Pw
theorem all_mk {l : PySem.W.OpenLaw} {w : World} {K : FRG} {h : Heap} {mg : Str → Option Value} {fa : Addr} (X : K.In h) (G : h.Ns mainGlobals mg) (hfa : mg "law" = some (.ref fa))
    {f0 : Addr} {od0 an0 : Option Addr} {sl0 : Array (Option Value)} {oc0 kV0 dc0 pm0 cd0 ct0 : Value}
    (a0 : PySem.W.nsIn K mainGlobals "_law_name" = some (some (.ref f0))) (l0 : K.lookup f0 = some ⟨oc0, od0, .func (PySem.W.fnOf "_law_name" "_law_name" (defArgs s_name) (defBody s_name) (defScope s_name) .none kV0 dc0 pm0 an0 cd0 ct0), sl0⟩) (c0 : PySem.W.codeIn K cd0 "_law_name" = true) (k0 : PySem.W.keepIn K (.ref f0) = true)
    {f1 : Addr} {od1 an1 : Option Addr} {sl1 : Array (Option Value)} {oc1 kV1 dc1 pm1 cd1 ct1 : Value}
    (a1 : PySem.W.nsIn K mainGlobals "_law_news_words" = some (some (.ref f1))) (l1 : K.lookup f1 = some ⟨oc1, od1, .func (PySem.W.fnOf "_law_news_words" "_law_news_words" (defArgs s_news_words) (defBody s_news_words) (defScope s_news_words) .none kV1 dc1 pm1 an1 cd1 ct1), sl1⟩) (c1 : PySem.W.codeIn K cd1 "_law_news_words" = true) (k1 : PySem.W.keepIn K (.ref f1) = true)
    {f2 : Addr} {od2 an2 : Option Addr} {sl2 : Array (Option Value)} {oc2 kV2 dc2 pm2 cd2 ct2 : Value}
    (a2 : PySem.W.nsIn K mainGlobals "_law_text" = some (some (.ref f2))) (l2 : K.lookup f2 = some ⟨oc2, od2, .func (PySem.W.fnOf "_law_text" "_law_text" (defArgs s_text) (defBody s_text) (defScope s_text) .none kV2 dc2 pm2 an2 cd2 ct2), sl2⟩) (c2 : PySem.W.codeIn K cd2 "_law_text" = true) (k2 : PySem.W.keepIn K (.ref f2) = true)
    {f3 : Addr} {od3 an3 : Option Addr} {sl3 : Array (Option Value)} {oc3 kV3 dc3 pm3 cd3 ct3 : Value}
    (a3 : PySem.W.nsIn K mainGlobals "_law_book_text" = some (some (.ref f3))) (l3 : K.lookup f3 = some ⟨oc3, od3, .func (PySem.W.fnOf "_law_book_text" "_law_book_text" (defArgs s_l_book_text) (defBody s_l_book_text) (defScope s_l_book_text) .none kV3 dc3 pm3 an3 cd3 ct3), sl3⟩) (c3 : PySem.W.codeIn K cd3 "_law_book_text" = true) (k3 : PySem.W.keepIn K (.ref f3) = true)
    {f4 : Addr} {od4 an4 : Option Addr} {sl4 : Array (Option Value)} {oc4 kV4 dc4 pm4 cd4 ct4 : Value}
    (a4 : PySem.W.nsIn K mainGlobals "_law_house_text" = some (some (.ref f4))) (l4 : K.lookup f4 = some ⟨oc4, od4, .func (PySem.W.fnOf "_law_house_text" "_law_house_text" (defArgs s_l_house_text) (defBody s_l_house_text) (defScope s_l_house_text) .none kV4 dc4 pm4 an4 cd4 ct4), sl4⟩) (c4 : PySem.W.codeIn K cd4 "_law_house_text" = true) (k4 : PySem.W.keepIn K (.ref f4) = true)
    {f5 : Addr} {od5 an5 : Option Addr} {sl5 : Array (Option Value)} {oc5 kV5 dc5 pm5 cd5 ct5 : Value}
    (a5 : PySem.W.nsIn K mainGlobals "_law_take" = some (some (.ref f5))) (l5 : K.lookup f5 = some ⟨oc5, od5, .func (PySem.W.fnOf "_law_take" "_law_take" (defArgs s_take) (defBody s_take) (defScope s_take) .none kV5 dc5 pm5 an5 cd5 ct5), sl5⟩) (c5 : PySem.W.codeIn K cd5 "_law_take" = true) (k5 : PySem.W.keepIn K (.ref f5) = true)
    {f6 : Addr} {od6 an6 : Option Addr} {sl6 : Array (Option Value)} {oc6 kV6 dc6 pm6 cd6 ct6 : Value}
    (a6 : PySem.W.nsIn K mainGlobals "_law_row" = some (some (.ref f6))) (l6 : K.lookup f6 = some ⟨oc6, od6, .func (PySem.W.fnOf "_law_row" "_law_row" (defArgs s_row) (defBody s_row) (defScope s_row) .none kV6 dc6 pm6 an6 cd6 ct6), sl6⟩) (c6 : PySem.W.codeIn K cd6 "_law_row" = true) (k6 : PySem.W.keepIn K (.ref f6) = true)
    {f7 : Addr} {od7 an7 : Option Addr} {sl7 : Array (Option Value)} {oc7 kV7 dc7 pm7 cd7 ct7 : Value}
    (a7 : PySem.W.nsIn K mainGlobals "_law_rows" = some (some (.ref f7))) (l7 : K.lookup f7 = some ⟨oc7, od7, .func (PySem.W.fnOf "_law_rows" "_law_rows" (defArgs s_rows) (defBody s_rows) (defScope s_rows) .none kV7 dc7 pm7 an7 cd7 ct7), sl7⟩) (c7 : PySem.W.codeIn K cd7 "_law_rows" = true) (k7 : PySem.W.keepIn K (.ref f7) = true)
    {f8 : Addr} {od8 an8 : Option Addr} {sl8 : Array (Option Value)} {oc8 kV8 dc8 pm8 cd8 ct8 : Value}
    (a8 : PySem.W.nsIn K mainGlobals "_law_rows_text" = some (some (.ref f8))) (l8 : K.lookup f8 = some ⟨oc8, od8, .func (PySem.W.fnOf "_law_rows_text" "_law_rows_text" (defArgs s_rows_text) (defBody s_rows_text) (defScope s_rows_text) .none kV8 dc8 pm8 an8 cd8 ct8), sl8⟩) (c8 : PySem.W.codeIn K cd8 "_law_rows_text" = true) (k8 : PySem.W.keepIn K (.ref f8) = true)
    {f9 : Addr} {od9 an9 : Option Addr} {sl9 : Array (Option Value)} {oc9 kV9 dc9 pm9 cd9 ct9 : Value}
    (a9 : PySem.W.nsIn K mainGlobals "_law_news" = some (some (.ref f9))) (l9 : K.lookup f9 = some ⟨oc9, od9, .func (PySem.W.fnOf "_law_news" "_law_news" (defArgs s_news) (defBody s_news) (defScope s_news) .none kV9 dc9 pm9 an9 cd9 ct9), sl9⟩) (c9 : PySem.W.codeIn K cd9 "_law_news" = true) (k9 : PySem.W.keepIn K (.ref f9) = true)
    {f10 : Addr} {od10 an10 : Option Addr} {sl10 : Array (Option Value)} {oc10 kV10 dc10 pm10 cd10 ct10 : Value}
    (a10 : PySem.W.nsIn K mainGlobals "_law_book" = some (some (.ref f10))) (l10 : K.lookup f10 = some ⟨oc10, od10, .func (PySem.W.fnOf "_law_book" "_law_book" (defArgs s_book) (defBody s_book) (defScope s_book) .none kV10 dc10 pm10 an10 cd10 ct10), sl10⟩) (c10 : PySem.W.codeIn K cd10 "_law_book" = true) (k10 : PySem.W.keepIn K (.ref f10) = true)
    {f11 : Addr} {od11 an11 : Option Addr} {sl11 : Array (Option Value)} {oc11 kV11 dc11 pm11 cd11 ct11 : Value}
    (a11 : PySem.W.nsIn K mainGlobals "_law_day" = some (some (.ref f11))) (l11 : K.lookup f11 = some ⟨oc11, od11, .func (PySem.W.fnOf "_law_day" "_law_day" (defArgs s_day) (defBody s_day) (defScope s_day) .none kV11 dc11 pm11 an11 cd11 ct11), sl11⟩) (c11 : PySem.W.codeIn K cd11 "_law_day" = true) (k11 : PySem.W.keepIn K (.ref f11) = true)
    {f12 : Addr} {od12 an12 : Option Addr} {sl12 : Array (Option Value)} {oc12 kV12 dc12 pm12 cd12 ct12 : Value}
    (a12 : PySem.W.nsIn K mainGlobals "_law_parent" = some (some (.ref f12))) (l12 : K.lookup f12 = some ⟨oc12, od12, .func (PySem.W.fnOf "_law_parent" "_law_parent" (defArgs s_parent) (defBody s_parent) (defScope s_parent) .none kV12 dc12 pm12 an12 cd12 ct12), sl12⟩) (c12 : PySem.W.codeIn K cd12 "_law_parent" = true) (k12 : PySem.W.keepIn K (.ref f12) = true)
    {f13 : Addr} {od13 an13 : Option Addr} {sl13 : Array (Option Value)} {oc13 kV13 dc13 pm13 cd13 ct13 : Value}
    (a13 : PySem.W.nsIn K mainGlobals "_law_house" = some (some (.ref f13))) (l13 : K.lookup f13 = some ⟨oc13, od13, .func (PySem.W.fnOf "_law_house" "_law_house" (defArgs s_house) (defBody s_house) (defScope s_house) .none kV13 dc13 pm13 an13 cd13 ct13), sl13⟩) (c13 : PySem.W.codeIn K cd13 "_law_house" = true) (k13 : PySem.W.keepIn K (.ref f13) = true)
    {f14 : Addr} {od14 an14 : Option Addr} {sl14 : Array (Option Value)} {oc14 kV14 dc14 pm14 cd14 ct14 : Value}
    (a14 : PySem.W.nsIn K mainGlobals "_law_some" = some (some (.ref f14))) (l14 : K.lookup f14 = some ⟨oc14, od14, .func (PySem.W.fnOf "_law_some" "_law_some" (defArgs s_some) (defBody s_some) (defScope s_some) .none kV14 dc14 pm14 an14 cd14 ct14), sl14⟩) (c14 : PySem.W.codeIn K cd14 "_law_some" = true) (k14 : PySem.W.keepIn K (.ref f14) = true)
    {f15 : Addr} {od15 an15 : Option Addr} {sl15 : Array (Option Value)} {oc15 kV15 dc15 pm15 cd15 ct15 : Value}
    (a15 : PySem.W.nsIn K mainGlobals "who_word" = some (some (.ref f15))) (l15 : K.lookup f15 = some ⟨oc15, od15, .func (PySem.W.fnOf "who_word" "who_word" (defArgs s_who_word) (defBody s_who_word) (defScope s_who_word) .none kV15 dc15 pm15 an15 cd15 ct15), sl15⟩) (c15 : PySem.W.codeIn K cd15 "who_word" = true) (k15 : PySem.W.keepIn K (.ref f15) = true)
    {f16 : Addr} {od16 an16 : Option Addr} {sl16 : Array (Option Value)} {oc16 kV16 dc16 pm16 cd16 ct16 : Value}
    (a16 : PySem.W.nsIn K mainGlobals "news_line" = some (some (.ref f16))) (l16 : K.lookup f16 = some ⟨oc16, od16, .func (PySem.W.fnOf "news_line" "news_line" (defArgs s_news_line) (defBody s_news_line) (defScope s_news_line) .none kV16 dc16 pm16 an16 cd16 ct16), sl16⟩) (c16 : PySem.W.codeIn K cd16 "news_line" = true) (k16 : PySem.W.keepIn K (.ref f16) = true)
    {f17 : Addr} {od17 an17 : Option Addr} {sl17 : Array (Option Value)} {oc17 kV17 dc17 pm17 cd17 ct17 : Value}
    (a17 : PySem.W.nsIn K mainGlobals "text_of" = some (some (.ref f17))) (l17 : K.lookup f17 = some ⟨oc17, od17, .func (PySem.W.fnOf "text_of" "text_of" (defArgs s_text_of) (defBody s_text_of) (defScope s_text_of) .none kV17 dc17 pm17 an17 cd17 ct17), sl17⟩) (c17 : PySem.W.codeIn K cd17 "text_of" = true) (k17 : PySem.W.keepIn K (.ref f17) = true)
    {f18 : Addr} {od18 an18 : Option Addr} {sl18 : Array (Option Value)} {oc18 kV18 dc18 pm18 cd18 ct18 : Value}
    (a18 : PySem.W.nsIn K mainGlobals "book_text" = some (some (.ref f18))) (l18 : K.lookup f18 = some ⟨oc18, od18, .func (PySem.W.fnOf "book_text" "book_text" (defArgs s_book_text) (defBody s_book_text) (defScope s_book_text) .none kV18 dc18 pm18 an18 cd18 ct18), sl18⟩) (c18 : PySem.W.codeIn K cd18 "book_text" = true) (k18 : PySem.W.keepIn K (.ref f18) = true)
    {f19 : Addr} {od19 an19 : Option Addr} {sl19 : Array (Option Value)} {oc19 kV19 dc19 pm19 cd19 ct19 : Value}
    (a19 : PySem.W.nsIn K mainGlobals "folk_line" = some (some (.ref f19))) (l19 : K.lookup f19 = some ⟨oc19, od19, .func (PySem.W.fnOf "folk_line" "folk_line" (defArgs s_folk_line) (defBody s_folk_line) (defScope s_folk_line) .none kV19 dc19 pm19 an19 cd19 ct19), sl19⟩) (c19 : PySem.W.codeIn K cd19 "folk_line" = true) (k19 : PySem.W.keepIn K (.ref f19) = true)
    {f20 : Addr} {od20 an20 : Option Addr} {sl20 : Array (Option Value)} {oc20 kV20 dc20 pm20 cd20 ct20 : Value}
    (a20 : PySem.W.nsIn K mainGlobals "house_text" = some (some (.ref f20))) (l20 : K.lookup f20 = some ⟨oc20, od20, .func (PySem.W.fnOf "house_text" "house_text" (defArgs s_house_text) (defBody s_house_text) (defScope s_house_text) .none kV20 dc20 pm20 an20 cd20 ct20), sl20⟩) (c20 : PySem.W.codeIn K cd20 "house_text" = true) (k20 : PySem.W.keepIn K (.ref f20) = true)
    {f21 : Addr} {od21 an21 : Option Addr} {sl21 : Array (Option Value)} {oc21 kV21 dc21 pm21 cd21 ct21 : Value}
    (a21 : PySem.W.nsIn K mainGlobals "row_line" = some (some (.ref f21))) (l21 : K.lookup f21 = some ⟨oc21, od21, .func (PySem.W.fnOf "row_line" "row_line" (defArgs s_row_line) (defBody s_row_line) (defScope s_row_line) .none kV21 dc21 pm21 an21 cd21 ct21), sl21⟩) (c21 : PySem.W.codeIn K cd21 "row_line" = true) (k21 : PySem.W.keepIn K (.ref f21) = true)
    {f22 : Addr} {od22 an22 : Option Addr} {sl22 : Array (Option Value)} {oc22 kV22 dc22 pm22 cd22 ct22 : Value}
    (a22 : PySem.W.nsIn K mainGlobals "rule_text" = some (some (.ref f22))) (l22 : K.lookup f22 = some ⟨oc22, od22, .func (PySem.W.fnOf "rule_text" "rule_text" (defArgs s_rule_text) (defBody s_rule_text) (defScope s_rule_text) .none kV22 dc22 pm22 an22 cd22 ct22), sl22⟩) (c22 : PySem.W.codeIn K cd22 "rule_text" = true) (k22 : PySem.W.keepIn K (.ref f22) = true)
    {f23 : Addr} {od23 an23 : Option Addr} {sl23 : Array (Option Value)} {oc23 kV23 dc23 pm23 cd23 ct23 : Value}
    (a23 : PySem.W.nsIn K mainGlobals "law" = some (some (.ref f23))) (l23 : K.lookup f23 = some ⟨oc23, od23, .func (PySem.W.fnOf "law" "law" (defArgs s_law) (defBody s_law) (defScope s_law) .none kV23 dc23 pm23 an23 cd23 ct23), sl23⟩) (c23 : PySem.W.codeIn K cd23 "law" = true) (k23 : PySem.W.keepIn K (.ref f23) = true)
    (z_int : PySem.W.nsIn K mainGlobals "int" = some none)
    (z_isinstance : PySem.W.nsIn K mainGlobals "isinstance" = some none)
    (z_len : PySem.W.nsIn K mainGlobals "len" = some none)
    (z_max : PySem.W.nsIn K mainGlobals "max" = some none)
    (z_min : PySem.W.nsIn K mainGlobals "min" = some none)
    (z_range : PySem.W.nsIn K mainGlobals "range" = some none)
    (z_set : PySem.W.nsIn K mainGlobals "set" = some none)
    (z_sorted : PySem.W.nsIn K mainGlobals "sorted" = some none)
    (z_str : PySem.W.nsIn K mainGlobals "str" = some none)
    (z_tuple : PySem.W.nsIn K mainGlobals "tuple" = some none)
    {a_BIRTHS : Addr} {t0_BIRTHS t1_BIRTHS : Tok} {n_BIRTHS : Nat} {d_BIRTHS : Option Addr} {s_BIRTHS : Array (Option Value)} (v_BIRTHS : PySem.W.nsIn K mainGlobals "BIRTHS" = some (some (.ref a_BIRTHS))) (w_BIRTHS : K.lookup a_BIRTHS = some ⟨.type "tuple", d_BIRTHS, .seq #[.str "unwed" t0_BIRTHS, .str "wed" t1_BIRTHS] n_BIRTHS, s_BIRTHS⟩)
    {a_COUNTED : Addr} {t0_COUNTED t1_COUNTED : Tok} {n_COUNTED : Nat} {d_COUNTED : Option Addr} {s_COUNTED : Array (Option Value)} (v_COUNTED : PySem.W.nsIn K mainGlobals "COUNTED" = some (some (.ref a_COUNTED))) (w_COUNTED : K.lookup a_COUNTED = some ⟨.type "tuple", d_COUNTED, .seq #[.str "all" t0_COUNTED, .str "wed" t1_COUNTED] n_COUNTED, s_COUNTED⟩)
    {t_NOBODY : _} (v_NOBODY : PySem.W.nsIn K mainGlobals "NOBODY" = some (some (.str "-" t_NOBODY)))
    {a_SEXES : Addr} {t0_SEXES t1_SEXES : Tok} {n_SEXES : Nat} {d_SEXES : Option Addr} {s_SEXES : Array (Option Value)} (v_SEXES : PySem.W.nsIn K mainGlobals "SEXES" = some (some (.ref a_SEXES))) (w_SEXES : K.lookup a_SEXES = some ⟨.type "tuple", d_SEXES, .seq #[.str "woman" t0_SEXES, .str "man" t1_SEXES] n_SEXES, s_SEXES⟩)
    : ∃ (fd : FuncData) (cs : List (Addr × Addr)), (∀ p ∈ cs, h.get? p.2 = some { cls := .none, data := .fields #[] }) ∧ (∀ p ∈ cs, K.lookup p.2 = none) ∧ (∀ p ∈ cs, PySem.W.CodeHd h p.1 p.2) ∧ (∀ (s : Shared) (u : Value), BindsTo s fd ⟨[u], []⟩ [("_law_script", u)]) ∧
      ∀ base : Heap, K.In base → base.Ns mainGlobals mg → (∀ p ∈ cs, GxR.TabB base mg p.1 p.2) → FnG l.prog w K mg base 5 fa fd ["_law_script"] (spF K (cs.map (·.2)) P_law.length F_law) := by
  have isLaw : fa = f23 := by
    have e := hfa.symm.trans (PySem.W.mg_of X G a23)
    cases e; rfl
  have F0 : FunC K "_law_name" "_law_name" s_name f0 _ cd0 := ⟨⟨oc0, od0, kV0, dc0, pm0, an0, ct0, sl0, rfl, l0, c0⟩, k0⟩
  have b0 := F0.binds (ps := P_name) fun _ _ _ _ _ us hl => match us, hl with | [_], _ => rfl
  have F1 : FunC K "_law_news_words" "_law_news_words" s_news_words f1 _ cd1 := ⟨⟨oc1, od1, kV1, dc1, pm1, an1, ct1, sl1, rfl, l1, c1⟩, k1⟩
  have b1 := F1.binds (ps := P_news_words) fun _ _ _ _ _ us hl => match us, hl with | [_], _ => rfl
  have F2 : FunC K "_law_text" "_law_text" s_text f2 _ cd2 := ⟨⟨oc2, od2, kV2, dc2, pm2, an2, ct2, sl2, rfl, l2, c2⟩, k2⟩
  have b2 := F2.binds (ps := P_text) fun _ _ _ _ _ us hl => match us, hl with | [_], _ => rfl
  have F3 : FunC K "_law_book_text" "_law_book_text" s_l_book_text f3 _ cd3 := ⟨⟨oc3, od3, kV3, dc3, pm3, an3, ct3, sl3, rfl, l3, c3⟩, k3⟩
  have b3 := F3.binds (ps := P_l_book_text) fun _ _ _ _ _ us hl => match us, hl with | [_], _ => rfl
  have F4 : FunC K "_law_house_text" "_law_house_text" s_l_house_text f4 _ cd4 := ⟨⟨oc4, od4, kV4, dc4, pm4, an4, ct4, sl4, rfl, l4, c4⟩, k4⟩
  have b4 := F4.binds (ps := P_l_house_text) fun _ _ _ _ _ us hl => match us, hl with | [_], _ => rfl
  have F5 : FunC K "_law_take" "_law_take" s_take f5 _ cd5 := ⟨⟨oc5, od5, kV5, dc5, pm5, an5, ct5, sl5, rfl, l5, c5⟩, k5⟩
  have b5 := F5.binds (ps := P_take) fun _ _ _ _ _ us hl => match us, hl with | [_, _], _ => rfl
  have F6 : FunC K "_law_row" "_law_row" s_row f6 _ cd6 := ⟨⟨oc6, od6, kV6, dc6, pm6, an6, ct6, sl6, rfl, l6, c6⟩, k6⟩
  have b6 := F6.binds (ps := P_row) fun _ _ _ _ _ us hl => match us, hl with | [_, _], _ => rfl
  have F7 : FunC K "_law_rows" "_law_rows" s_rows f7 _ cd7 := ⟨⟨oc7, od7, kV7, dc7, pm7, an7, ct7, sl7, rfl, l7, c7⟩, k7⟩
  have b7 := F7.binds (ps := P_rows) fun _ _ _ _ _ us hl => match us, hl with | [_, _], _ => rfl
  have F8 : FunC K "_law_rows_text" "_law_rows_text" s_rows_text f8 _ cd8 := ⟨⟨oc8, od8, kV8, dc8, pm8, an8, ct8, sl8, rfl, l8, c8⟩, k8⟩
  have b8 := F8.binds (ps := P_rows_text) fun _ _ _ _ _ us hl => match us, hl with | [_], _ => rfl
  have F9 : FunC K "_law_news" "_law_news" s_news f9 _ cd9 := ⟨⟨oc9, od9, kV9, dc9, pm9, an9, ct9, sl9, rfl, l9, c9⟩, k9⟩
  have b9 := F9.binds (ps := P_news) fun _ _ _ _ _ us hl => match us, hl with | [_, _], _ => rfl
  have F10 : FunC K "_law_book" "_law_book" s_book f10 _ cd10 := ⟨⟨oc10, od10, kV10, dc10, pm10, an10, ct10, sl10, rfl, l10, c10⟩, k10⟩
  have b10 := F10.binds (ps := P_book) fun _ _ _ _ _ us hl => match us, hl with | [_, _, _], _ => rfl
  have F11 : FunC K "_law_day" "_law_day" s_day f11 _ cd11 := ⟨⟨oc11, od11, kV11, dc11, pm11, an11, ct11, sl11, rfl, l11, c11⟩, k11⟩
  have b11 := F11.binds (ps := P_day) fun _ _ _ _ _ us hl => match us, hl with | [_, _], _ => rfl
  have F12 : FunC K "_law_parent" "_law_parent" s_parent f12 _ cd12 := ⟨⟨oc12, od12, kV12, dc12, pm12, an12, ct12, sl12, rfl, l12, c12⟩, k12⟩
  have b12 := F12.binds (ps := P_parent) fun _ _ _ _ _ us hl => match us, hl with | [_, _, _, _], _ => rfl
  have F13 : FunC K "_law_house" "_law_house" s_house f13 _ cd13 := ⟨⟨oc13, od13, kV13, dc13, pm13, an13, ct13, sl13, rfl, l13, c13⟩, k13⟩
  have b13 := F13.binds (ps := P_house) fun _ _ _ _ _ us hl => match us, hl with | [_, _], _ => rfl
  have F14 : FunC K "_law_some" "_law_some" s_some f14 _ cd14 := ⟨⟨oc14, od14, kV14, dc14, pm14, an14, ct14, sl14, rfl, l14, c14⟩, k14⟩
  have b14 := F14.binds (ps := P_some) fun _ _ _ _ _ us hl => match us, hl with | [_, _], _ => rfl
  have F15 : FunC K "who_word" "who_word" s_who_word f15 _ cd15 := ⟨⟨oc15, od15, kV15, dc15, pm15, an15, ct15, sl15, rfl, l15, c15⟩, k15⟩
  have b15 := F15.binds (ps := P_who_word) fun _ _ _ _ _ us hl => match us, hl with | [_], _ => rfl
  have F16 : FunC K "news_line" "news_line" s_news_line f16 _ cd16 := ⟨⟨oc16, od16, kV16, dc16, pm16, an16, ct16, sl16, rfl, l16, c16⟩, k16⟩
  have b16 := F16.binds (ps := P_news_line) fun _ _ _ _ _ us hl => match us, hl with | [_], _ => rfl
  have F17 : FunC K "text_of" "text_of" s_text_of f17 _ cd17 := ⟨⟨oc17, od17, kV17, dc17, pm17, an17, ct17, sl17, rfl, l17, c17⟩, k17⟩
  have b17 := F17.binds (ps := P_text_of) fun _ _ _ _ _ us hl => match us, hl with | [_], _ => rfl
  have F18 : FunC K "book_text" "book_text" s_book_text f18 _ cd18 := ⟨⟨oc18, od18, kV18, dc18, pm18, an18, ct18, sl18, rfl, l18, c18⟩, k18⟩
  have b18 := F18.binds (ps := P_book_text) fun _ _ _ _ _ us hl => match us, hl with | [_], _ => rfl
  have F19 : FunC K "folk_line" "folk_line" s_folk_line f19 _ cd19 := ⟨⟨oc19, od19, kV19, dc19, pm19, an19, ct19, sl19, rfl, l19, c19⟩, k19⟩
  have b19 := F19.binds (ps := P_folk_line) fun _ _ _ _ _ us hl => match us, hl with | [_], _ => rfl
  have F20 : FunC K "house_text" "house_text" s_house_text f20 _ cd20 := ⟨⟨oc20, od20, kV20, dc20, pm20, an20, ct20, sl20, rfl, l20, c20⟩, k20⟩
  have b20 := F20.binds (ps := P_house_text) fun _ _ _ _ _ us hl => match us, hl with | [_], _ => rfl
  have F21 : FunC K "row_line" "row_line" s_row_line f21 _ cd21 := ⟨⟨oc21, od21, kV21, dc21, pm21, an21, ct21, sl21, rfl, l21, c21⟩, k21⟩
  have b21 := F21.binds (ps := P_row_line) fun _ _ _ _ _ us hl => match us, hl with | [_], _ => rfl
  have F22 : FunC K "rule_text" "rule_text" s_rule_text f22 _ cd22 := ⟨⟨oc22, od22, kV22, dc22, pm22, an22, ct22, sl22, rfl, l22, c22⟩, k22⟩
  have b22 := F22.binds (ps := P_rule_text) fun _ _ _ _ _ us hl => match us, hl with | [_], _ => rfl
  have F23 : FunC K "law" "law" s_law f23 _ cd23 := ⟨⟨oc23, od23, kV23, dc23, pm23, an23, ct23, sl23, rfl, l23, c23⟩, k23⟩
  have b23 := F23.binds (ps := P_law) fun _ _ _ _ _ us hl => match us, hl with | [_], _ => rfl
  let C : Ctx K mg (([] : List (Addr × Addr)).map (·.2)) := { f_name := f0, fd_name := _, cd_name := cd0, F_name := F0, b_name := b0, g_name := PySem.W.mg_of X G a0, f_news_words := f1, fd_news_words := _, cd_news_words := cd1, F_news_words := F1, b_news_words := b1, g_news_words := PySem.W.mg_of X G a1, f_text := f2, fd_text := _, cd_text := cd2, F_text := F2, b_text := b2, g_text := PySem.W.mg_of X G a2, f_l_book_text := f3, fd_l_book_text := _, cd_l_book_text := cd3, F_l_book_text := F3, b_l_book_text := b3, g_l_book_text := PySem.W.mg_of X G a3, f_l_house_text := f4, fd_l_house_text := _, cd_l_house_text := cd4, F_l_house_text := F4, b_l_house_text := b4, g_l_house_text := PySem.W.mg_of X G a4, f_take := f5, fd_take := _, cd_take := cd5, F_take := F5, b_take := b5, g_take := PySem.W.mg_of X G a5, f_row := f6, fd_row := _, cd_row := cd6, F_row := F6, b_row := b6, g_row := PySem.W.mg_of X G a6, f_rows := f7, fd_rows := _, cd_rows := cd7, F_rows := F7, b_rows := b7, g_rows := PySem.W.mg_of X G a7, f_rows_text := f8, fd_rows_text := _, cd_rows_text := cd8, F_rows_text := F8, b_rows_text := b8, g_rows_text := PySem.W.mg_of X G a8, f_news := f9, fd_news := _, cd_news := cd9, F_news := F9, b_news := b9, g_news := PySem.W.mg_of X G a9, f_book := f10, fd_book := _, cd_book := cd10, F_book := F10, b_book := b10, g_book := PySem.W.mg_of X G a10, f_day := f11, fd_day := _, cd_day := cd11, F_day := F11, b_day := b11, g_day := PySem.W.mg_of X G a11, f_parent := f12, fd_parent := _, cd_parent := cd12, F_parent := F12, b_parent := b12, g_parent := PySem.W.mg_of X G a12, f_house := f13, fd_house := _, cd_house := cd13, F_house := F13, b_house := b13, g_house := PySem.W.mg_of X G a13, f_some := f14, fd_some := _, cd_some := cd14, F_some := F14, b_some := b14, g_some := PySem.W.mg_of X G a14, f_who_word := f15, fd_who_word := _, cd_who_word := cd15, F_who_word := F15, b_who_word := b15, g_who_word := PySem.W.mg_of X G a15, f_news_line := f16, fd_news_line := _, cd_news_line := cd16, F_news_line := F16, b_news_line := b16, g_news_line := PySem.W.mg_of X G a16, f_text_of := f17, fd_text_of := _, cd_text_of := cd17, F_text_of := F17, b_text_of := b17, g_text_of := PySem.W.mg_of X G a17, f_book_text := f18, fd_book_text := _, cd_book_text := cd18, F_book_text := F18, b_book_text := b18, g_book_text := PySem.W.mg_of X G a18, f_folk_line := f19, fd_folk_line := _, cd_folk_line := cd19, F_folk_line := F19, b_folk_line := b19, g_folk_line := PySem.W.mg_of X G a19, f_house_text := f20, fd_house_text := _, cd_house_text := cd20, F_house_text := F20, b_house_text := b20, g_house_text := PySem.W.mg_of X G a20, f_row_line := f21, fd_row_line := _, cd_row_line := cd21, F_row_line := F21, b_row_line := b21, g_row_line := PySem.W.mg_of X G a21, f_rule_text := f22, fd_rule_text := _, cd_rule_text := cd22, F_rule_text := F22, b_rule_text := b22, g_rule_text := PySem.W.mg_of X G a22, f_law := f23, fd_law := _, cd_law := cd23, F_law := F23, b_law := b23, g_law := PySem.W.mg_of X G a23, z_int := PySem.W.mg_none_of X G z_int, z_isinstance := PySem.W.mg_none_of X G z_isinstance, z_len := PySem.W.mg_none_of X G z_len, z_max := PySem.W.mg_none_of X G z_max, z_min := PySem.W.mg_none_of X G z_min, z_range := PySem.W.mg_none_of X G z_range, z_set := PySem.W.mg_none_of X G z_set, z_sorted := PySem.W.mg_none_of X G z_sorted, z_str := PySem.W.mg_none_of X G z_str, z_tuple := PySem.W.mg_none_of X G z_tuple, v_BIRTHS := ⟨a_BIRTHS, _, _, _, PySem.W.mg_of X G v_BIRTHS, w_BIRTHS, rfl, rfl, (by simp), (.cons ⟨_, rfl⟩ (.cons ⟨_, rfl⟩ .nil))⟩, v_COUNTED := ⟨a_COUNTED, _, _, _, PySem.W.mg_of X G v_COUNTED, w_COUNTED, rfl, rfl, (by simp), (.cons ⟨_, rfl⟩ (.cons ⟨_, rfl⟩ .nil))⟩, v_NOBODY := ⟨_, PySem.W.mg_of X G v_NOBODY, ⟨_, rfl⟩⟩, v_SEXES := ⟨a_SEXES, _, _, _, PySem.W.mg_of X G v_SEXES, w_SEXES, rfl, rfl, (by simp), (.cons ⟨_, rfl⟩ (.cons ⟨_, rfl⟩ .nil))⟩ }
  exact ⟨_, [], (fun p hp => by cases hp), (fun p hp => by cases hp), (fun p hp => by cases hp), fun s u => .of_eq rfl, fun base _ _ hT => by rw [isLaw]; exact ok_law C⟩

end K91
open PySem PySem.W PyProof.Rows
set_option maxHeartbeats 0 in
theorem PySem.Challenge.cw_thronewalk_k91_texts_told_holds : PySem.Challenge.rw_thronewalk_k91_texts_told.Holds := by
  w_on; o_law; k_head; (case hw => w_witness2)
  k_fill
  refine Pw.walkG (l := PySem.Challenge.rw_thronewalk_k91_texts_told) (n := 63) (k := 5) (x := "_law_script") (F := K91.F_law) rfl (by decide) rfl ⟨rfl, by decide, by decide⟩ (fun w h Y => PySem.W.kIn_of Y) ?F K91.holds
  case F =>
    intro w mg fa h KX G hmg tabs
    refine' K91.all_mk KX G hmg ?a0 ?l0 ?c0 ?k0 ?a1 ?l1 ?c1 ?k1 ?a2 ?l2 ?c2 ?k2 ?a3 ?l3 ?c3 ?k3 ?a4 ?l4 ?c4 ?k4 ?a5 ?l5 ?c5 ?k5 ?a6 ?l6 ?c6 ?k6 ?a7 ?l7 ?c7 ?k7 ?a8 ?l8 ?c8 ?k8 ?a9 ?l9 ?c9 ?k9 ?a10 ?l10 ?c10 ?k10 ?a11 ?l11 ?c11 ?k11 ?a12 ?l12 ?c12 ?k12 ?a13 ?l13 ?c13 ?k13 ?a14 ?l14 ?c14 ?k14 ?a15 ?l15 ?c15 ?k15 ?a16 ?l16 ?c16 ?k16 ?a17 ?l17 ?c17 ?k17 ?a18 ?l18 ?c18 ?k18 ?a19 ?l19 ?c19 ?k19 ?a20 ?l20 ?c20 ?k20 ?a21 ?l21 ?c21 ?k21 ?a22 ?l22 ?c22 ?k22 ?a23 ?l23 ?c23 ?k23 ?z_int ?z_isinstance ?z_len ?z_max ?z_min ?z_range ?z_set ?z_sorted ?z_str ?z_tuple ?v_BIRTHS ?w_BIRTHS ?v_COUNTED ?w_COUNTED ?v_NOBODY ?v_SEXES ?w_SEXES
    (case a0 => k_is)
    (case l0 => k_is)
    (case c0 => k_is)
    (case k0 => k_is)
    (case a1 => k_is)
    (case l1 => k_is)
    (case c1 => k_is)
    (case k1 => k_is)
    (case a2 => k_is)
    (case l2 => k_is)
    (case c2 => k_is)
    (case k2 => k_is)
    (case a3 => k_is)
    (case l3 => k_is)
    (case c3 => k_is)
    (case k3 => k_is)
    (case a4 => k_is)
    (case l4 => k_is)
    (case c4 => k_is)
    (case k4 => k_is)
    (case a5 => k_is)
    (case l5 => k_is)
    (case c5 => k_is)
    (case k5 => k_is)
    (case a6 => k_is)
    (case l6 => k_is)
    (case c6 => k_is)
    (case k6 => k_is)
    (case a7 => k_is)
    (case l7 => k_is)
    (case c7 => k_is)
    (case k7 => k_is)
    (case a8 => k_is)
    (case l8 => k_is)
    (case c8 => k_is)
    (case k8 => k_is)
    (case a9 => k_is)
    (case l9 => k_is)
    (case c9 => k_is)
    (case k9 => k_is)
    (case a10 => k_is)
    (case l10 => k_is)
    (case c10 => k_is)
    (case k10 => k_is)
    (case a11 => k_is)
    (case l11 => k_is)
    (case c11 => k_is)
    (case k11 => k_is)
    (case a12 => k_is)
    (case l12 => k_is)
    (case c12 => k_is)
    (case k12 => k_is)
    (case a13 => k_is)
    (case l13 => k_is)
    (case c13 => k_is)
    (case k13 => k_is)
    (case a14 => k_is)
    (case l14 => k_is)
    (case c14 => k_is)
    (case k14 => k_is)
    (case a15 => k_is)
    (case l15 => k_is)
    (case c15 => k_is)
    (case k15 => k_is)
    (case a16 => k_is)
    (case l16 => k_is)
    (case c16 => k_is)
    (case k16 => k_is)
    (case a17 => k_is)
    (case l17 => k_is)
    (case c17 => k_is)
    (case k17 => k_is)
    (case a18 => k_is)
    (case l18 => k_is)
    (case c18 => k_is)
    (case k18 => k_is)
    (case a19 => k_is)
    (case l19 => k_is)
    (case c19 => k_is)
    (case k19 => k_is)
    (case a20 => k_is)
    (case l20 => k_is)
    (case c20 => k_is)
    (case k20 => k_is)
    (case a21 => k_is)
    (case l21 => k_is)
    (case c21 => k_is)
    (case k21 => k_is)
    (case a22 => k_is)
    (case l22 => k_is)
    (case c22 => k_is)
    (case k22 => k_is)
    (case a23 => k_is)
    (case l23 => k_is)
    (case c23 => k_is)
    (case k23 => k_is)
    (case z_int => k_is)
    (case z_isinstance => k_is)
    (case z_len => k_is)
    (case z_max => k_is)
    (case z_min => k_is)
    (case z_range => k_is)
    (case z_set => k_is)
    (case z_sorted => k_is)
    (case z_str => k_is)
    (case z_tuple => k_is)
    (case v_BIRTHS => k_is)
    (case w_BIRTHS => k_is)
    (case v_COUNTED => k_is)
    (case w_COUNTED => k_is)
    (case v_NOBODY => k_is)
    (case v_SEXES => k_is)
    (case w_SEXES => k_is)
end
