import PyProof.Rows.All
import HandS.ForMost
import HandS.Flow
import HandS.SortInts
import HandS.TupAny
import HandS.EndTab
import HandS.AnyAll
import HandS.Lambda
import HandS.Records
import KE.KMinKey
import HandS.SortKw
import HandS.Deep
import HandS.Strs
import HandS.SetFor
import KE.KSortTupG
import HandS.TupSets
import KE.KSortTupUse
import KE.LtData
import PyProof.TupleOfGen
import HandS.Conv
import HandS.More
import HandS.Style
import PyProof.Rows.MinMaxN
import HandS.DictComp
import HandS.Rev
import HandS.GenOver
import HandS.GenBody
import PyProof.GenQ
import HandS.GenList
import HandS.Zip
import HandS.IsInst
import HandS.IterVal
import HandS.NoneIn
import HandS.Text
import HandS.TupLe
import KE.KSortTup
import KE.GoesMore
import HandS.Iter
import KE.SortKeyHeap
import KE.DataMinKey
import KE.SortData
import PyProof.SeqRoads
import HandS.Dict
import PySem.Challenge.RW_thronewalk_k83_books_of_scrolls
import Wide.All
import OpenK.AllK
import Wide.FinOn
section
set_option Elab.async false
set_option linter.all false
set_option maxRecDepth 100000
set_option maxHeartbeats 1000000
namespace Pw
open PySem PySem.Spec PyProof.Rows L2
inductive D where
  | non | bl (b : Bool) | int (i : Int) | str (x : Str) | tup (xs : List D) | tx (xs : List D) | fl (xs : List D) | lst (xs : List D) | dk (kvs : List (Key × D)) | dt (kvs : List (List Key × D)) | rl (b k : Nat)
inductive MO where
  | lst (xs : List D)
  | dk (kvs : List (Key × D))
  | dt (kvs : List (List Key × D))
  | rl (b k : Nat)
inductive W where
  | v (d : D) | r (n : Nat) | f (d : D)
abbrev Mem := List MO
abbrev Env := List (Option W)
abbrev FRG := PySem.W.Frag
def Fz (K : FRG) (H : Hp) (a : Addr) (vs : List V) : Prop :=
  (∃ o, H a = some (.frz o (.lst vs))) ∨
    ∃ (o : Obj) (its : Array Value) (n : Nat), K.lookup a = some o ∧ o.cls = .type "list" ∧ o.dict = none ∧ o.data = .seq its n ∧ its.size ≤ sizeLine ∧ Vals vs its.toList
theorem Fz.sq {K : FRG} {H : Hp} {a : Addr} {vs : List V} (h : Fz K H a vs) : SqL K H a vs := by
  rcases h with ⟨o, h⟩ | h
  · exact .inl (.inr ⟨o, h⟩)
  · exact .inr h
def kyV : List V → Bool
  | .str _ :: .int _ :: _ => true
  | _ => false
def SqN (K : FRG) (H : Hp) (a : Addr) (vs : List V) : Prop := SqT K H a vs ∧ (kyV vs = true → H a = some (.tup vs))
theorem SqN.of {K : FRG} {H : Hp} {a : Addr} {vs : List V} (h : H a = some (.tup vs)) : SqN K H a vs := ⟨SqT.of h, fun _ => h⟩
def Tz (H : Hp) (a : Addr) (vs : List V) : Prop := ∃ o : Obj, H a = some (.frz o (.tup vs)) ∧ o.dict = none ∧ ∀ x, V.str x ∉ vs
theorem Tz.sq {K : FRG} {H : Hp} {a : Addr} {vs : List V} (h : Tz H a vs) : SqT K H a vs := by
  obtain ⟨o, h, _⟩ := h
  exact .inl (.inr ⟨o, h⟩)
mutual
inductive Rep (K : FRG) (φ ψ : List Addr) (H : Hp) : D → V → Prop
  | non : Rep K φ ψ H .non .non
  | bl (b : Bool) : Rep K φ ψ H (.bl b) (.bl b)
  | int (i : Int) : Rep K φ ψ H (.int i) (.int i)
  | str (x : Str) : Rep K φ ψ H (.str x) (.str x)
  | tup {a : Addr} {vs : List V} {ds : List D} : SqN K H a vs → Reps K φ ψ H ds vs → Rep K φ ψ H (.tup ds) (.ref a)
  | tx {a : Addr} {vs : List V} {ds : List D} : Tz H a vs → Reps K φ ψ H ds vs → Rep K φ ψ H (.tx ds) (.ref a)
  | fl {a : Addr} {vs : List V} {ds : List D} : Fz K H a vs → Reps K φ ψ H ds vs → Rep K φ ψ H (.fl ds) (.ref a)
  | lst {a : Addr} {vs : List V} {ds : List D} : a ∉ φ → a ∉ ψ → H a = some (.lst vs) → Reps K φ ψ H ds vs → Rep K φ ψ H (.lst ds) (.ref a)
  | dk {a : Addr} {vs : List (Key × V)} {kvs : List (Key × D)} : a ∉ φ → a ∉ ψ → Rd H a (.dK vs) → kvs.map (·.1) = vs.map (·.1) → Reps K φ ψ H (kvs.map (·.2)) (vs.map (·.2)) → Rep K φ ψ H (.dk kvs) (.ref a)
  | dt {a : Addr} {vs : List (List Key × V)} {kvs : List (List Key × D)} : a ∉ φ → a ∉ ψ → H a = some (.dT vs) → kvs.map (·.1) = vs.map (·.1) → Reps K φ ψ H (kvs.map (·.2)) (vs.map (·.2)) → Rep K φ ψ H (.dt kvs) (.ref a)
inductive Reps (K : FRG) (φ ψ : List Addr) (H : Hp) : List D → List V → Prop
  | nil : Reps K φ ψ H [] []
  | cons {d : D} {v : V} {ds : List D} {vs : List V} : Rep K φ ψ H d v → Reps K φ ψ H ds vs → Reps K φ ψ H (d :: ds) (v :: vs)
end
def ObjR (K : FRG) (φ ψ : List Addr) (H : Hp) (a : Addr) : MO → Prop
  | .lst ds => ∃ vs, H a = some (.lst vs) ∧ Reps K φ ψ H ds vs
  | .dk kvs => ∃ vs : List (Key × V), H a = some (.dK vs) ∧ kvs.map (·.1) = vs.map (·.1) ∧ Reps K φ ψ H (kvs.map (·.2)) (vs.map (·.2))
  | .dt kvs => ∃ vs : List (List Key × V), H a = some (.dT vs) ∧ kvs.map (·.1) = vs.map (·.1) ∧ Reps K φ ψ H (kvs.map (·.2)) (vs.map (·.2))
  | .rl b k => H a = some (.lst ((List.range k).map fun i => .ref (φ.getD (b + i) 0))) ∧ φ[b + k]? = some a
def lamDefs : List Str := ["by_nearness", "to_join"]
def lamQ (x : Str) : Str := x ++ ".<locals>." ++ "<lambda>"
def TabL (K : FRG) (H : Hp) (P : Addr) : Prop := ∀ x ∈ lamDefs, ∀ c, PySem.W.tabIn K x = some (c, P) → LamX.TabS H P (lamQ x)
def NotL (K : FRG) (P : Addr) : Prop := ∀ x ∈ lamDefs, ∀ c, PySem.W.tabIn K x ≠ some (c, P)
theorem TabL.of {K : FRG} {H H' : Hp} {P : Addr} (h : TabL K H P) (e : H' P = H P) (k : ∀ c φ, H c = some (.ext φ) → H' c = H c) : TabL K H' P := fun x hx c hc => by
  obtain ⟨ps, h1, h2, h3⟩ := h x hx c hc
  refine ⟨ps, e.trans h1, h2, fun pos cv hcv => ?_⟩
  obtain ⟨d, e1, e2⟩ := h3 pos cv hcv
  exact ⟨d, e1, (k d _ e2).trans e2⟩
theorem TabL.upd {K : FRG} {H : Hp} {P a : Addr} {o : HO} (h : TabL K H P) (n : P ≠ a) (x : ∀ φ, H a ≠ some (.ext φ)) : TabL K (upd H a o) P :=
  h.of (upd_ne n) fun c φ e => upd_ne fun z => x φ (by rw [← z]; exact e)
structure Rel (K : FRG) (tb : List Addr) (φ ψ : List Addr) (H : Hp) (m : Mem) : Prop where
  len : φ.length = m.length
  nd : φ.Nodup
  obj : ∀ (n : Nat) (mo : MO) (a : Addr), m[n]? = some mo → φ[n]? = some a → ObjR K φ ψ H a mo
  tab : ∀ p ∈ tb, GxR.TabG H p
  sd : ∀ p ∈ ψ, H p ≠ none
  ap : ∀ p ∈ ψ, p ∉ φ
  lam : ∀ p ∈ tb, TabL K H p
def Kp (ψ : List Addr) (H' : Hp) (b : Addr) (o : HO) : Prop := H' b = some o ∨ (b ∉ ψ ∧ ∃ kvs od, o = .dK kvs ∧ H' b = some (.frz od o))
theorem Kp.ex {ψ : List Addr} {H' : Hp} {b : Addr} {o : HO} (h : Kp ψ H' b o) (n : ∀ kvs, o ≠ .dK kvs) : H' b = some o := by
  rcases h with h | ⟨_, kvs, _, e, _⟩
  · exact h
  · exact absurd e (n kvs)
theorem Kp.own {ψ : List Addr} {H' : Hp} {b : Addr} {o : HO} (h : Kp ψ H' b o) (n : b ∈ ψ) : H' b = some o := by
  rcases h with h | ⟨z, _⟩
  · exact h
  · exact absurd n z
structure Post (φ ψ : List Addr) (H : Hp) (φ' ψ' : List Addr) (H' : Hp) : Prop where
  pre : φ <+: φ'
  new : ∀ a ∈ φ', a ∈ φ ∨ H a = none
  side : ∀ a ∈ ψ', a ∈ ψ ∨ H a = none
  frm : ∀ b o, b ∉ φ → H b = some o → (∀ ps, o ≠ .tbl ps) → Kp ψ H' b o
  kp : ∀ b, H' b = none → H b = none
  sub : ∀ a ∈ ψ, a ∈ ψ'
section
variable {K : FRG} {tb φ φ1 φ2 φ' ψ ψ1 ψ2 ψ' : List Addr} {H H1 H2 H' : Hp} {m : Mem}
theorem Post.refl : Post φ ψ H φ ψ H := ⟨List.prefix_refl _, fun _ h => .inl h, fun _ h => .inl h, fun _ _ _ h _ => .inl h, fun _ h => h, fun _ h => h⟩
theorem Post.trans (p : Post φ ψ H φ1 ψ1 H1) (q : Post φ1 ψ1 H1 φ2 ψ2 H2) : Post φ ψ H φ2 ψ2 H2 := by
  refine ⟨p.pre.trans q.pre, fun a h => ?_, fun a h => ?_, fun b o hb e ht => ?_, fun b h => p.kp b (q.kp b h), fun a h => q.sub a (p.sub a h)⟩
  · rcases q.new a h with z | z
    · exact p.new a z
    · exact .inr (p.kp a z)
  · rcases q.side a h with z | z
    · exact p.side a z
    · exact .inr (p.kp a z)
  · have nb : b ∉ φ1 := fun z => by
      rcases p.new b z with y | y
      · exact hb y
      · rw [y] at e; cases e
    rcases p.frm b o hb e ht with h1 | ⟨h0, kvs, od, rfl, h1⟩
    · rcases q.frm b o nb h1 ht with h2 | ⟨h3, h2⟩
      · exact .inl h2
      · exact .inr ⟨fun z => h3 (p.sub b z), h2⟩
    · exact .inr ⟨h0, kvs, od, rfl, (q.frm b _ nb h1 fun _ z => nomatch z).ex fun _ z => nomatch z⟩
theorem Rel.mut {a : Addr} (R : Rel K tb φ ψ H m) (h : a ∈ φ) : (∃ vs, H a = some (.lst vs)) ∨ (∃ vs, H a = some (.dK vs)) ∨ ∃ vs, H a = some (.dT vs) := by
  obtain ⟨n, hn, e⟩ := List.getElem_of_mem h
  have e' : φ[n]? = some a := by rw [List.getElem?_eq_getElem hn, e]
  have hm : n < m.length := by rw [← R.len]; exact hn
  have q := R.obj n m[n] a (List.getElem?_eq_getElem hm) e'
  cases z : m[n] with
  | lst ds => rw [z] at q; obtain ⟨vs, q, _⟩ := q; exact .inl ⟨vs, q⟩
  | dk kvs => rw [z] at q; obtain ⟨vs, q, _⟩ := q; exact .inr (.inl ⟨vs, q⟩)
  | dt kvs => rw [z] at q; obtain ⟨vs, q, _⟩ := q; exact .inr (.inr ⟨vs, q⟩)
  | rl b k => rw [z] at q; exact .inl ⟨_, q.1⟩
theorem Rel.trk {a : Addr} (R : Rel K tb φ ψ H m) (h : a ∈ φ) : H a ≠ none := by
  rcases R.mut h with ⟨vs, e⟩ | ⟨vs, e⟩ | ⟨vs, e⟩ <;> (rw [e]; exact fun z => nomatch z)
theorem Rel.fresh {a : Addr} (R : Rel K tb φ ψ H m) (h : H a = none) : a ∉ φ := fun z => R.trk z h
theorem Rel.freshS {a : Addr} (R : Rel K tb φ ψ H m) (h : H a = none) : a ∉ ψ := fun z => R.sd a z h
theorem Rel.ntup {a : Addr} {xs : List V} (R : Rel K tb φ ψ H m) (h : H a = some (.tup xs)) : a ∉ φ := fun z => by
  rcases R.mut z with ⟨vs, e⟩ | ⟨vs, e⟩ | ⟨vs, e⟩ <;> (rw [h] at e; cases e)
theorem Rel.nfrz {a : Addr} {o : Obj} {u : HO} (R : Rel K tb φ ψ H m) (h : H a = some (.frz o u)) : a ∉ φ := fun z => by
  rcases R.mut z with ⟨vs, e⟩ | ⟨vs, e⟩ | ⟨vs, e⟩ <;> (rw [h] at e; cases e)
theorem Rel.ntbl {a : Addr} {ps : Array Value} (R : Rel K tb φ ψ H m) (h : H a = some (.tbl ps)) : a ∉ φ := fun z => by
  rcases R.mut z with ⟨vs, e⟩ | ⟨vs, e⟩ | ⟨vs, e⟩ <;> (rw [h] at e; cases e)
theorem Post.sqT {a : Addr} {xs : List V} (p : Post φ ψ H φ' ψ' H') (R : Rel K tb φ ψ H m) (h : SqT K H a xs) : SqT K H' a xs := by
  rcases h with (h | ⟨o, h⟩) | h
  · exact .inl (.inl ((p.frm _ _ (R.ntup h) h fun _ z => nomatch z).ex fun _ z => nomatch z))
  · exact .inl (.inr ⟨o, (p.frm _ _ (R.nfrz h) h fun _ z => nomatch z).ex fun _ z => nomatch z⟩)
  · exact .inr h
theorem Post.sqN {a : Addr} {xs : List V} (p : Post φ ψ H φ' ψ' H') (R : Rel K tb φ ψ H m) (h : SqN K H a xs) : SqN K H' a xs := ⟨p.sqT R h.1, fun z => (p.frm _ _ (R.ntup (h.2 z)) (h.2 z) fun _ z => nomatch z).ex fun _ z => nomatch z⟩
theorem Post.off {a : Addr} {o : HO} (p : Post φ ψ H φ' ψ' H') (h1 : a ∉ φ) (h2 : a ∉ ψ) (h : H a = some o) (ht : ∀ ps, o ≠ .tbl ps) (hk : ∀ kvs, o ≠ .dK kvs) : a ∉ φ' ∧ a ∉ ψ' ∧ H' a = some o := by
  refine ⟨fun z => ?_, fun z => ?_, (p.frm a o h1 h ht).ex hk⟩
  · rcases p.new a z with y | y
    · exact h1 y
    · rw [h] at y; cases y
  · rcases p.side a z with y | y
    · exact h2 y
    · rw [h] at y; cases y
theorem Post.offD {a : Addr} {kvs : List (Key × V)} (p : Post φ ψ H φ' ψ' H') (R : Rel K tb φ ψ H m) (h1 : a ∉ φ) (h2 : a ∉ ψ) (h : Rd H a (.dK kvs)) : a ∉ φ' ∧ a ∉ ψ' ∧ Rd H' a (.dK kvs) := by
  have n : H a ≠ none := fun z => by rcases h with h | ⟨o, h⟩ <;> (rw [z] at h; cases h)
  refine ⟨fun z => ?_, fun z => ?_, ?_⟩
  · rcases p.new a z with y | y
    · exact h1 y
    · exact n y
  · rcases p.side a z with y | y
    · exact h2 y
    · exact n y
  · rcases h with h | ⟨o, h⟩
    · rcases p.frm a _ h1 h fun _ z => nomatch z with q | ⟨_, _, od, _, q⟩
      · exact .inl q
      · exact .inr ⟨od, q⟩
    · exact .inr ⟨o, (p.frm a _ h1 h fun _ z => nomatch z).ex fun _ z => nomatch z⟩
theorem Post.fz {a : Addr} {xs : List V} (p : Post φ ψ H φ' ψ' H') (R : Rel K tb φ ψ H m) (h : Fz K H a xs) : Fz K H' a xs := by
  rcases h with ⟨o, h⟩ | h
  · exact .inl ⟨o, (p.frm _ _ (R.nfrz h) h fun _ z => nomatch z).ex fun _ z => nomatch z⟩
  · exact .inr h
theorem Post.tz {a : Addr} {xs : List V} (p : Post φ ψ H φ' ψ' H') (R : Rel K tb φ ψ H m) (h : Tz H a xs) : Tz H' a xs := by
  obtain ⟨o, h, d⟩ := h
  exact ⟨o, (p.frm _ _ (R.nfrz h) h fun _ z => nomatch z).ex (fun _ z => nomatch z), d⟩
theorem pre_get {n : Nat} {a : Addr} (p : φ <+: φ') (h : φ[n]? = some a) : φ'[n]? = some a := by
  obtain ⟨t, rfl⟩ := p
  obtain ⟨hn, _⟩ := List.getElem?_eq_some_iff.mp h
  rw [List.getElem?_append_left hn]; exact h
mutual
theorem Rep.map (ht : ∀ a xs, SqN K H a xs → SqN K H' a xs) (hz : ∀ a xs, Tz H a xs → Tz H' a xs) (hf : ∀ a xs, Fz K H a xs → Fz K H' a xs) (hd : ∀ a o, a ∉ φ → a ∉ ψ → H a = some o → (∀ ps, o ≠ .tbl ps) → (∀ kvs, o ≠ .dK kvs) → a ∉ φ' ∧ a ∉ ψ' ∧ H' a = some o) (hD : ∀ a kvs, a ∉ φ → a ∉ ψ → Rd H a (.dK kvs) → a ∉ φ' ∧ a ∉ ψ' ∧ Rd H' a (.dK kvs)) : ∀ {d : D} {v : V}, Rep K φ ψ H d v → Rep K φ' ψ' H' d v
  | _, _, .non => .non
  | _, _, .bl b => .bl b
  | _, _, .int i => .int i
  | _, _, .str x => .str x
  | _, _, .tup h r => .tup (ht _ _ h) (Reps.map ht hz hf hd hD r)
  | _, _, .tx h r => .tx (hz _ _ h) (Reps.map ht hz hf hd hD r)
  | _, _, .fl h r => .fl (hf _ _ h) (Reps.map ht hz hf hd hD r)
  | _, _, .lst h1 h2 h3 r => let z := hd _ _ h1 h2 h3 (fun _ z => nomatch z) fun _ z => nomatch z; .lst z.1 z.2.1 z.2.2 (Reps.map ht hz hf hd hD r)
  | _, _, .dk h1 h2 h3 h4 r => let z := hD _ _ h1 h2 h3; .dk z.1 z.2.1 z.2.2 h4 (Reps.map ht hz hf hd hD r)
  | _, _, .dt h1 h2 h3 h4 r => let z := hd _ _ h1 h2 h3 (fun _ z => nomatch z) fun _ z => nomatch z; .dt z.1 z.2.1 z.2.2 h4 (Reps.map ht hz hf hd hD r)
theorem Reps.map (ht : ∀ a xs, SqN K H a xs → SqN K H' a xs) (hz : ∀ a xs, Tz H a xs → Tz H' a xs) (hf : ∀ a xs, Fz K H a xs → Fz K H' a xs) (hd : ∀ a o, a ∉ φ → a ∉ ψ → H a = some o → (∀ ps, o ≠ .tbl ps) → (∀ kvs, o ≠ .dK kvs) → a ∉ φ' ∧ a ∉ ψ' ∧ H' a = some o) (hD : ∀ a kvs, a ∉ φ → a ∉ ψ → Rd H a (.dK kvs) → a ∉ φ' ∧ a ∉ ψ' ∧ Rd H' a (.dK kvs)) : ∀ {ds : List D} {vs : List V}, Reps K φ ψ H ds vs → Reps K φ' ψ' H' ds vs
  | _, _, .nil => .nil
  | _, _, .cons h r => .cons (Rep.map ht hz hf hd hD h) (Reps.map ht hz hf hd hD r)
end
theorem Rep.mono (p : Post φ ψ H φ' ψ' H') (R : Rel K tb φ ψ H m) {d : D} {v : V} (h : Rep K φ ψ H d v) : Rep K φ' ψ' H' d v := h.map (fun _ _ => p.sqN R) (fun _ _ => p.tz R) (fun _ _ => p.fz R) (fun _ _ h1 h2 h3 h4 h5 => p.off h1 h2 h3 h4 h5) fun _ _ h1 h2 h3 => p.offD R h1 h2 h3
theorem Reps.mono (p : Post φ ψ H φ' ψ' H') (R : Rel K tb φ ψ H m) {ds : List D} {vs : List V} (h : Reps K φ ψ H ds vs) : Reps K φ' ψ' H' ds vs := h.map (fun _ _ => p.sqN R) (fun _ _ => p.tz R) (fun _ _ => p.fz R) (fun _ _ h1 h2 h3 h4 h5 => p.off h1 h2 h3 h4 h5) fun _ _ h1 h2 h3 => p.offD R h1 h2 h3
theorem Rep.fewer (h : ∀ a, a ∉ φ → a ∉ ψ → a ∉ φ' ∧ a ∉ ψ') {d : D} {v : V} (q : Rep K φ ψ H d v) : Rep K φ' ψ' H d v := q.map (fun _ _ z => z) (fun _ _ z => z) (fun _ _ z => z) (fun a _ h1 h2 z _ _ => ⟨(h a h1 h2).1, (h a h1 h2).2, z⟩) fun a _ h1 h2 z => ⟨(h a h1 h2).1, (h a h1 h2).2, z⟩
theorem Reps.fewer (h : ∀ a, a ∉ φ → a ∉ ψ → a ∉ φ' ∧ a ∉ ψ') {d : List D} {v : List V} (q : Reps K φ ψ H d v) : Reps K φ' ψ' H d v := q.map (fun _ _ z => z) (fun _ _ z => z) (fun _ _ z => z) (fun a _ h1 h2 z _ _ => ⟨(h a h1 h2).1, (h a h1 h2).2, z⟩) fun a _ h1 h2 z => ⟨(h a h1 h2).1, (h a h1 h2).2, z⟩
theorem getD_of {l l' : List Addr} {i : Nat} (h : l'[i]? = l[i]?) : l'.getD i 0 = l.getD i 0 := by
  rw [List.getD_eq_getElem?_getD, List.getD_eq_getElem?_getD, h]
theorem ObjR.fewer (h : ∀ a, a ∉ φ → a ∉ ψ → a ∉ φ' ∧ a ∉ ψ') {a : Addr} {mo : MO} (q : ObjR K φ ψ H a mo) (hφ : (∃ b k, mo = .rl b k) → ∀ n : Nat, φ[n]? = some a → ∀ i : Nat, i ≤ n → φ'[i]? = φ[i]? := by first | exact (fun _ _ _ _ _ => rfl)) : ObjR K φ' ψ' H a mo := by
  cases mo with
  | rl b k =>
    have hh := hφ ⟨b, k, rfl⟩ _ q.2
    refine ⟨q.1.trans ?_, (hh _ (Nat.le_refl _)).trans q.2⟩
    congr 2
    refine List.map_congr_left fun i hi => ?_
    rw [getD_of (hh (b + i) (by have := List.mem_range.mp hi; omega))]
  | lst ds => obtain ⟨vs, q1, q2⟩ := q; exact ⟨vs, q1, q2.fewer h⟩
  | dk kvs => obtain ⟨vs, q1, q2, q3⟩ := q; exact ⟨vs, q1, q2, q3.fewer h⟩
  | dt kvs => obtain ⟨vs, q1, q2, q3⟩ := q; exact ⟨vs, q1, q2, q3.fewer h⟩
theorem Reps.length : ∀ {ds : List D} {vs : List V}, Reps K φ ψ H ds vs → ds.length = vs.length
  | _, _, .nil => rfl
  | _, _, .cons _ r => by simp [Reps.length r]
theorem Reps.get : ∀ {ds : List D} {vs : List V} {i : Nat} {d : D}, Reps K φ ψ H ds vs → ds[i]? = some d → ∃ v, vs[i]? = some v ∧ Rep K φ ψ H d v
  | _, _, _, _, .nil, e => by simp at e
  | _, _, 0, _, .cons h _, e => by simp at e; subst e; exact ⟨_, rfl, h⟩
  | _, _, i + 1, d, .cons _ r, e => by
    obtain ⟨v, h1, h2⟩ := Reps.get (i := i) (d := d) r (by simpa using e)
    exact ⟨v, by simpa using h1, h2⟩
theorem Reps.app : ∀ {ds es : List D} {vs ws : List V}, Reps K φ ψ H ds vs → Reps K φ ψ H es ws → Reps K φ ψ H (ds ++ es) (vs ++ ws)
  | _, _, _, _, .nil, s => s
  | _, _, _, _, .cons h r, s => .cons h (Reps.app r s)
theorem Reps.set {d : D} {v : V} (h : Rep K φ ψ H d v) : ∀ {ds : List D} {vs : List V} (i : Nat), Reps K φ ψ H ds vs → Reps K φ ψ H (ds.set i d) (vs.set i v)
  | _, _, _, .nil => .nil
  | _, _, 0, .cons _ r => .cons h r
  | _, _, i + 1, .cons q r => .cons q (Reps.set h i r)
theorem Reps.take : ∀ {ds : List D} {vs : List V} (n : Nat), Reps K φ ψ H ds vs → Reps K φ ψ H (ds.take n) (vs.take n)
  | _, _, 0, _ => .nil
  | _, _, _ + 1, .nil => .nil
  | _, _, n + 1, .cons h r => .cons h (Reps.take n r)
theorem Reps.drop : ∀ {ds : List D} {vs : List V} (n : Nat), Reps K φ ψ H ds vs → Reps K φ ψ H (ds.drop n) (vs.drop n)
  | _, _, 0, r => r
  | _, _, _ + 1, .nil => .nil
  | _, _, n + 1, .cons _ r => Reps.drop n r
theorem Reps.snoc {ds : List D} {vs : List V} {d : D} {v : V} (r : Reps K φ ψ H ds vs) (h : Rep K φ ψ H d v) : Reps K φ ψ H (ds ++ [d]) (vs ++ [v]) := r.app (.cons h .nil)
theorem ObjR.mono {a : Addr} {mo : MO} (p : Post φ ψ H φ' ψ' H') (R : Rel K tb φ ψ H m) (q : ObjR K φ ψ H a mo) (e : H' a = H a) : ObjR K φ' ψ' H' a mo := by
  cases mo with
  | rl b k =>
    have q' : ObjR K φ' ψ' H' a (.rl b k) := by
      obtain ⟨t, rfl⟩ := p.pre
      have hl := (List.getElem?_eq_some_iff.mp q.2).1
      refine ⟨(e.trans q.1).trans ?_, by rw [List.getElem?_append_left hl]; exact q.2⟩
      congr 2
      refine List.map_congr_left fun i hi => ?_
      rw [getD_of (l := φ) (l' := φ ++ t) (List.getElem?_append_left (by have := List.mem_range.mp hi; omega))]
    exact q'
  | lst ds => obtain ⟨vs, q1, q2⟩ := q; exact ⟨vs, e.trans q1, q2.mono p R⟩
  | dk kvs => obtain ⟨vs, q1, q2, q3⟩ := q; exact ⟨vs, e.trans q1, q2, q3.mono p R⟩
  | dt kvs => obtain ⟨vs, q1, q2, q3⟩ := q; exact ⟨vs, e.trans q1, q2, q3.mono p R⟩
theorem TabG.keep {p : Addr} (h : GxR.TabG H p) (e : H' p = H p) : GxR.TabG H' p := by
  obtain ⟨ps, q, r⟩ := h; exact ⟨ps, e.trans q, r⟩
theorem Rel.tsome {p : Addr} (R : Rel K tb φ ψ H m) (h : p ∈ tb) : H p ≠ none := by
  obtain ⟨ps, q, _⟩ := R.tab p h; rw [q]; exact fun z => nomatch z
theorem Rel.tnot {p : Addr} (R : Rel K tb φ ψ H m) (h : p ∈ tb) : p ∉ φ := by
  obtain ⟨ps, q, _⟩ := R.tab p h; exact R.ntbl q
theorem Post.lay {p : Addr} {o : HO} (h : H p = none) : Post φ ψ H φ ψ (upd H p o) :=
  ⟨List.prefix_refl _, fun _ z => .inl z, fun _ z => .inl z, fun b u _ e _ => .inl (by rw [upd_ne (ne_of_none e h)]; exact e), (fun b z => by
    by_cases hb : b = p
    · rw [hb]; exact h
    · rw [upd_ne hb] at z; exact z), fun _ z => z⟩
theorem Rel.lay {p : Addr} {o : HO} (R : Rel K tb φ ψ H m) (h : H p = none) : Rel K tb φ ψ (upd H p o) m := by
  refine ⟨R.len, R.nd, fun n mo a e1 e2 => ?_, fun q hq => TabG.keep (R.tab q hq) (upd_ne fun z => R.tsome hq (z ▸ h)), fun q hq z => R.sd q hq ((Post.lay (φ := φ) (ψ := ψ) h).kp q z), R.ap, fun q hq => (R.lam q hq).upd (fun z => R.tsome hq (z ▸ h)) fun _ e => by rw [h] at e; cases e⟩
  exact (R.obj n mo a e1 e2).mono (Post.lay h) R (upd_ne fun z => R.trk (List.mem_of_getElem? e2) (z ▸ h))
theorem Post.nw {p : Addr} {o : HO} (h : H p = none) : Post φ ψ H φ (p :: ψ) (upd H p o) :=
  ⟨List.prefix_refl _, fun _ z => .inl z, fun a z => by
    rcases List.mem_cons.mp z with z | z
    · rw [z]; exact .inr h
    · exact .inl z, (Post.lay (φ := φ) (ψ := ψ) h).frm, (Post.lay (φ := φ) (ψ := ψ) h).kp, fun _ z => List.mem_cons_of_mem _ z⟩
theorem Rel.nw {p : Addr} {o : HO} (R : Rel K tb φ ψ H m) (h : H p = none) : Rel K tb φ (p :: ψ) (upd H p o) m := by
  refine ⟨R.len, R.nd, fun n mo a e1 e2 => ?_, (R.lay (o := o) h).tab, fun q hq => ?_, fun q hq => ?_, (R.lay (o := o) h).lam⟩
  · exact (R.obj n mo a e1 e2).mono (Post.nw h) R (upd_ne fun z => R.trk (List.mem_of_getElem? e2) (z ▸ h))
  · rcases List.mem_cons.mp hq with z | z
    · rw [z, upd_same]; exact fun z => nomatch z
    · exact (R.lay (o := o) h).sd q z
  · rcases List.mem_cons.mp hq with z | z
    · rw [z]; exact R.fresh h
    · exact R.ap q z
theorem Rel.weak {p : Addr} (R : Rel K tb φ (p :: ψ) H m) : Rel K tb φ ψ H m :=
  ⟨R.len, R.nd, fun n mo a e1 e2 => (R.obj n mo a e1 e2).fewer fun b h1 h2 => ⟨h1, fun z => h2 (List.mem_cons_of_mem _ z)⟩, R.tab, fun q hq => R.sd q (List.mem_cons_of_mem _ hq), fun q hq => R.ap q (List.mem_cons_of_mem _ hq), R.lam⟩
theorem Post.weak {p : Addr} (P : Post φ ψ H φ' (p :: ψ') H') (hp : p ∉ ψ) : Post φ ψ H φ' ψ' H' := ⟨P.pre, P.new, fun a z => P.side a (List.mem_cons_of_mem _ z), P.frm, P.kp, fun a z => by
  rcases List.mem_cons.mp (P.sub a z) with y | y
  · exact absurd (y ▸ z) hp
  · exact y⟩
theorem Rep.weak {p : Addr} {d : D} {v : V} (h : Rep K φ (p :: ψ) H d v) : Rep K φ ψ H d v := h.fewer fun b h1 h2 => ⟨h1, fun z => h2 (List.mem_cons_of_mem _ z)⟩
theorem Reps.weak {p : Addr} {d : List D} {v : List V} (h : Reps K φ (p :: ψ) H d v) : Reps K φ ψ H d v := h.fewer fun b h1 h2 => ⟨h1, fun z => h2 (List.mem_cons_of_mem _ z)⟩
theorem nodup_snoc {p : Addr} (nd : φ.Nodup) (h : p ∉ φ) : (φ ++ [p]).Nodup := by
  rw [List.nodup_append]
  exact ⟨nd, by simp, fun a ha b hb => by rw [List.mem_singleton.mp hb]; exact fun z => h (z ▸ ha)⟩
theorem own_off {p : Addr} : ∀ a, a ∉ φ → a ∉ p :: ψ → a ∉ φ ++ [p] ∧ a ∉ ψ := fun a h1 h2 => ⟨fun z => by
    rcases List.mem_append.mp z with z | z
    · exact h1 z
    · rw [List.mem_singleton.mp z] at h2; exact h2 List.mem_cons_self, fun z => h2 (List.mem_cons_of_mem _ z)⟩
theorem Rel.own {p : Addr} {mo : MO} (R : Rel K tb φ (p :: ψ) H m) (hp : p ∉ ψ) (q : ObjR K φ (p :: ψ) H p mo) : Rel K tb (φ ++ [p]) ψ H (m ++ [mo]) := by
  have np := R.ap p List.mem_cons_self
  refine ⟨by simp [R.len], nodup_snoc R.nd np, fun n mo' a e1 e2 => ?_, R.tab, fun q hq => R.sd q (List.mem_cons_of_mem _ hq), fun q hq z => ?_, R.lam⟩
  · rcases Nat.lt_trichotomy n m.length with hn | hn | hn
    · rw [List.getElem?_append_left hn] at e1
      rw [List.getElem?_append_left (by rw [R.len]; exact hn)] at e2
      exact (R.obj n mo' a e1 e2).fewer own_off fun _ k hk i hi => List.getElem?_append_left (by have := (List.getElem?_eq_some_iff.mp hk).1; omega)
    · subst hn
      rw [List.getElem?_append_right (Nat.le_refl _), Nat.sub_self] at e1
      rw [← R.len, List.getElem?_append_right (Nat.le_refl _), Nat.sub_self] at e2
      have e1' : mo = mo' := Option.some.inj e1
      have e2' : p = a := Option.some.inj e2
      rw [← e1', ← e2']; exact q.fewer own_off fun _ k hk => absurd (List.mem_of_getElem? hk) np
    · rw [List.getElem?_eq_none (by simp; omega)] at e1; cases e1
  · rcases List.mem_append.mp z with z | z
    · exact R.ap q (List.mem_cons_of_mem _ hq) z
    · rw [List.mem_singleton.mp z] at hq; exact hp hq
theorem Post.own {p : Addr} (P : Post φ ψ H φ' (p :: ψ) H') (hp : p ∉ ψ) : Post φ ψ H (φ' ++ [p]) ψ H' :=
  ⟨P.pre.trans (List.prefix_append _ _), fun a z => by
    rcases List.mem_append.mp z with z | z
    · exact P.new a z
    · rw [List.mem_singleton.mp z]
      rcases P.side p List.mem_cons_self with y | y
      · exact absurd y hp
      · exact .inr y, fun a z => .inl z, P.frm, P.kp, fun _ z => z⟩
theorem Post.wr {a : Addr} {o : HO} (h : a ∈ φ) (hs : H a ≠ none) : Post φ ψ H φ ψ (upd H a o) :=
  ⟨List.prefix_refl _, fun _ z => .inl z, fun _ z => .inl z, fun b u hb e _ => .inl (by rw [upd_ne (fun z => hb (by rw [z]; exact h))]; exact e), (fun b z => by
    by_cases hb : b = a
    · rw [hb, upd_same] at z; cases z
    · rw [upd_ne hb] at z; exact z), fun _ z => z⟩
theorem Rel.wr {a : Addr} {n : Nat} {o : HO} {mo : MO} (R : Rel K tb φ ψ H m) (h : φ[n]? = some a) (q : ObjR K φ ψ (upd H a o) a mo) : Rel K tb φ ψ (upd H a o) (m.set n mo) := by
  have ha : a ∈ φ := List.mem_of_getElem? h
  have P : Post φ ψ H φ ψ (upd H a o) := Post.wr (o := o) ha (R.trk ha)
  obtain ⟨hn, en⟩ := List.getElem?_eq_some_iff.mp h
  refine ⟨by simp [R.len], R.nd, fun k mo' b e1 e2 => ?_, fun q hq => TabG.keep (R.tab q hq) (upd_ne fun z => R.tnot hq (z ▸ ha)), fun q hq z => R.sd q hq (P.kp q z), R.ap, fun q hq => (R.lam q hq).upd (fun z => R.tnot hq (z ▸ ha)) fun _ e => by rcases R.mut ha with ⟨_, y⟩ | ⟨_, y⟩ | ⟨_, y⟩ <;> (rw [y] at e; cases e)⟩
  by_cases hk : k = n
  · subst hk
    rw [h] at e2; cases e2
    rw [List.getElem?_set_self (by rw [← R.len]; exact hn)] at e1
    cases e1; exact q
  · rw [List.getElem?_set_ne (Ne.symm hk)] at e1
    refine (R.obj k mo' b e1 e2).mono P R (upd_ne fun z => hk ?_)
    obtain ⟨hk2, ek⟩ := List.getElem?_eq_some_iff.mp e2
    exact (List.getElem_inj R.nd).mp (ek.trans (z.trans en.symm))
theorem Rel.wrL {a : Addr} {n : Nat} {ds : List D} {vs : List V} (R : Rel K tb φ ψ H m) (h : φ[n]? = some a) (r : Reps K φ ψ H ds vs) : Rel K tb φ ψ (upd H a (.lst vs)) (m.set n (.lst ds)) :=
  R.wr h ⟨vs, upd_same, r.mono (Post.wr (List.mem_of_getElem? h) (R.trk (List.mem_of_getElem? h))) R⟩
theorem Post.sdw {p : Addr} {o : HO} (h : p ∈ ψ) (hp : p ∉ φ) (hs : H p ≠ none) : ∀ {φ0 ψ0 : List Addr} {H0 : Hp}, Post φ0 ψ0 H0 φ ψ H → H0 p = none → Post φ0 ψ0 H0 φ ψ (upd H p o) := fun {φ0 ψ0 H0} P h0 =>
  ⟨P.pre, P.new, P.side, fun b u hb e ht => by unfold Kp; rw [upd_ne (ne_of_none e h0)]; exact P.frm b u hb e ht, (fun b z => by
    by_cases hb : b = p
    · rw [hb, upd_same] at z; cases z
    · rw [upd_ne hb] at z; exact P.kp b z), P.sub⟩
theorem sd_sqT {p a : Addr} {vs xs : List V} {o : HO} (h : H p = some (.lst vs)) (q : SqT K H a xs) : SqT K (upd H p o) a xs := by
  rcases q with (q | ⟨o, q⟩) | q
  · exact .inl (.inl (by rw [upd_ne fun z => by rw [z, h] at q; cases q]; exact q))
  · exact .inl (.inr ⟨o, by rw [upd_ne fun z => by rw [z, h] at q; cases q]; exact q⟩)
  · exact .inr q
theorem sd_sqN {p a : Addr} {vs xs : List V} {o : HO} (h : H p = some (.lst vs)) (q : SqN K H a xs) : SqN K (upd H p o) a xs := ⟨sd_sqT h q.1, fun z => by rw [upd_ne fun y => by have := q.2 z; rw [y, h] at this; cases this]; exact q.2 z⟩
theorem sd_tz {p a : Addr} {vs xs : List V} {o : HO} (h : H p = some (.lst vs)) (q : Tz H a xs) : Tz (upd H p o) a xs := by
  obtain ⟨u, q, d⟩ := q
  exact ⟨u, by rw [upd_ne fun z => by rw [z, h] at q; cases q]; exact q, d⟩
theorem sd_fz {p a : Addr} {vs xs : List V} {o : HO} (h : H p = some (.lst vs)) (q : Fz K H a xs) : Fz K (upd H p o) a xs := by
  rcases q with ⟨u, q⟩ | q
  · exact .inl ⟨u, by rw [upd_ne fun z => by rw [z, h] at q; cases q]; exact q⟩
  · exact .inr q
theorem Reps.sdw {p : Addr} {vs : List V} {o : HO} (hp : p ∈ ψ) (h : H p = some (.lst vs)) {ds : List D} {us : List V} (r : Reps K φ ψ H ds us) : Reps K φ ψ (upd H p o) ds us :=
  r.map (fun _ _ => sd_sqN h) (fun _ _ => sd_tz h) (fun _ _ => sd_fz h) (fun a xs h1 h2 q _ _ => ⟨h1, h2, by rw [upd_ne (fun z => h2 (by rw [z]; exact hp))]; exact q⟩) fun a xs h1 h2 q => ⟨h1, h2, by unfold Rd at q ⊢; rw [upd_ne (fun z => h2 (by rw [z]; exact hp))]; exact q⟩
theorem Rep.sdw {p : Addr} {vs : List V} {o : HO} (hp : p ∈ ψ) (h : H p = some (.lst vs)) {d : D} {u : V} (r : Rep K φ ψ H d u) : Rep K φ ψ (upd H p o) d u :=
  r.map (fun _ _ => sd_sqN h) (fun _ _ => sd_tz h) (fun _ _ => sd_fz h) (fun a xs h1 h2 q _ _ => ⟨h1, h2, by rw [upd_ne (fun z => h2 (by rw [z]; exact hp))]; exact q⟩) fun a xs h1 h2 q => ⟨h1, h2, by unfold Rd at q ⊢; rw [upd_ne (fun z => h2 (by rw [z]; exact hp))]; exact q⟩
theorem Rel.sdw {p : Addr} {vs : List V} {o : HO} (R : Rel K tb φ ψ H m) (hp : p ∈ ψ) (h : H p = some (.lst vs)) : Rel K tb φ ψ (upd H p o) m := by
  refine ⟨R.len, R.nd, fun n mo a e1 e2 => ?_, fun q hq => TabG.keep (R.tab q hq) (upd_ne fun z => by
    obtain ⟨ps, e, _⟩ := R.tab q hq
    rw [z, h] at e; cases e), fun q hq z => ?_, R.ap, fun q hq => (R.lam q hq).upd (fun z => by
    obtain ⟨ps, e, _⟩ := R.tab q hq
    rw [z, h] at e; cases e) fun _ e => by rw [h] at e; cases e⟩
  · have ne : a ≠ p := fun z => R.ap p hp (z ▸ List.mem_of_getElem? e2)
    have q := R.obj n mo a e1 e2
    cases mo with
    | lst ds => obtain ⟨vs', q1, q2⟩ := q; exact ⟨vs', by rw [upd_ne ne]; exact q1, q2.sdw hp h⟩
    | dk kvs => obtain ⟨vs', q1, q2, q3⟩ := q; exact ⟨vs', by rw [upd_ne ne]; exact q1, q2, q3.sdw hp h⟩
    | dt kvs => obtain ⟨vs', q1, q2, q3⟩ := q; exact ⟨vs', by rw [upd_ne ne]; exact q1, q2, q3.sdw hp h⟩
    | rl b k => exact ⟨by rw [upd_ne ne]; exact q.1, q.2⟩
  · by_cases hb : q = p
    · rw [hb, upd_same] at z; cases z
    · rw [upd_ne hb] at z; exact R.sd q hq z
end
def stl : W → W
  | .f d => .v d
  | w => w
def RepS (K : FRG) (φ ψ : List Addr) (H : Hp) : W → V → Prop
  | .v d, v => Rep K φ ψ H d v
  | .f d, v => Rep K φ ψ H d v
  | .r n, v => ∃ a, φ[n]? = some a ∧ v = .ref a
def moD : MO → D
  | .lst ds => .lst ds
  | .dk kvs => .dk kvs
  | .dt kvs => .dt kvs
  | .rl b k => .rl b k
def dMO : D → Option MO
  | .lst ds => some (.lst ds)
  | .dk kvs => some (.dk kvs)
  | .dt kvs => some (.dt kvs)
  | _ => none
def RepW (K : FRG) (φ ψ ψ' : List Addr) (H : Hp) : W → V → Prop
  | .v d, v => ψ' = ψ ∧ Rep K φ ψ H d v
  | .r n, v => ψ' = ψ ∧ ∃ a, φ[n]? = some a ∧ v = .ref a
  | .f d, v => ∃ p mo, v = .ref p ∧ ψ' = p :: ψ ∧ p ∉ ψ ∧ d = moD mo ∧ ObjR K φ (p :: ψ) H p mo
section
variable {K : FRG} {tb φ φ1 φ2 φ' ψ ψ1 ψ2 ψ' : List Addr} {H H1 H2 H' : Hp} {m : Mem} {w : W} {v : V}
theorem ObjR.rep {p : Addr} {mo : MO} (h1 : p ∉ φ) (h2 : p ∉ ψ) (q : ObjR K φ ψ H p mo) : Rep K φ ψ H (moD mo) (.ref p) := by
  cases mo with
  | lst ds => obtain ⟨vs, q1, q2⟩ := q; exact .lst h1 h2 q1 q2
  | dk kvs => obtain ⟨vs, q1, q2, q3⟩ := q; exact .dk h1 h2 (.inl q1) q2 q3
  | dt kvs => obtain ⟨vs, q1, q2, q3⟩ := q; exact .dt h1 h2 q1 q2 q3
  | rl b k => exact absurd (List.mem_of_getElem? q.2) h1
theorem RepW.rel (h : RepW K φ ψ ψ' H w v) (R : Rel K tb φ ψ' H m) : Rel K tb φ ψ H m := by
  cases w with
  | v d => obtain ⟨rfl, _⟩ := h; exact R
  | r n => obtain ⟨rfl, _⟩ := h; exact R
  | f d => obtain ⟨p, mo, _, rfl, _⟩ := h; exact R.weak
theorem RepW.post {φ0 : List Addr} {H0 : Hp} (h : RepW K φ ψ ψ' H w v) (P : Post φ0 ψ H0 φ ψ' H) : Post φ0 ψ H0 φ ψ H := by
  cases w with
  | v d => obtain ⟨rfl, _⟩ := h; exact P
  | r n => obtain ⟨rfl, _⟩ := h; exact P
  | f d => obtain ⟨p, mo, _, rfl, np, _⟩ := h; exact P.weak np
theorem RepW.s (h : RepW K φ ψ ψ' H w v) (R : Rel K tb φ ψ' H m) : RepS K φ ψ H w v := by
  cases w with
  | v d => exact h.2
  | r n => exact h.2
  | f d =>
    obtain ⟨p, mo, rfl, rfl, np, rfl, q⟩ := h
    exact (q.fewer fun b h1 h2 => ⟨h1, fun z => h2 (List.mem_cons_of_mem _ z)⟩).rep (R.ap p List.mem_cons_self) np
theorem RepS.stl (h : RepS K φ ψ H w v) : RepS K φ ψ H (Pw.stl w) v := by cases w <;> exact h
theorem RepS.mono (p : Post φ ψ H φ' ψ' H') (R : Rel K tb φ ψ H m) (h : RepS K φ ψ H w v) : RepS K φ' ψ' H' w v := by
  cases w with
  | v d => exact Rep.mono p R h
  | f d => exact Rep.mono p R h
  | r n => obtain ⟨a, e, q⟩ := h; exact ⟨a, pre_get p.pre e, q⟩
theorem RepS.fewer (h : ∀ a, a ∉ φ → a ∉ ψ → a ∉ φ ∧ a ∉ ψ') (q : RepS K φ ψ H w v) : RepS K φ ψ' H w v := by
  cases w with
  | v d => exact Rep.fewer h q
  | f d => exact Rep.fewer h q
  | r n => exact q
end
inductive RepSs (K : FRG) (φ ψ : List Addr) (H : Hp) : List W → List V → Prop
  | nil : RepSs K φ ψ H [] []
  | cons {w : W} {v : V} {ws : List W} {vs : List V} : RepS K φ ψ H w v → RepSs K φ ψ H ws vs → RepSs K φ ψ H (w :: ws) (v :: vs)
theorem RepSs.mono {K : FRG} {tb φ φ' ψ ψ' : List Addr} {H H' : Hp} {m : Mem} (p : Post φ ψ H φ' ψ' H') (R : Rel K tb φ ψ H m) {ws : List W} {vs : List V} (h : RepSs K φ ψ H ws vs) : RepSs K φ' ψ' H' ws vs := by
  induction h with
  | nil => exact .nil
  | cons h r ih => exact .cons (h.mono p R) ih
theorem RepSs.length {K : FRG} {φ ψ : List Addr} {H : Hp} {ws : List W} {vs : List V} (h : RepSs K φ ψ H ws vs) : ws.length = vs.length := by
  induction h with
  | nil => rfl
  | cons h r ih => simp [ih]
theorem RepSs.get {K : FRG} {φ ψ : List Addr} {H : Hp} {ws : List W} {vs : List V} (h : RepSs K φ ψ H ws vs) : ∀ {i : Nat} {w : W}, ws[i]? = some w → ∃ v, vs[i]? = some v ∧ RepS K φ ψ H w v := by
  induction h with
  | nil => intro i w e; simp at e
  | cons h r ih =>
    intro i w e
    cases i with
    | zero => simp at e; subst e; exact ⟨_, rfl, h⟩
    | succ i => obtain ⟨v, h1, h2⟩ := ih (i := i) (w := w) (by simpa using e); exact ⟨v, by simpa using h1, h2⟩
def gt : W → Mem → Option D
  | .v d, _ => some d
  | .f d, _ => some d
  | .r n, m => (m[n]?).map moD
def RepC (K : FRG) (φ ψ : List Addr) (H : Hp) (d : D) (v : V) : Prop := Rep K φ ψ H d v ∨ ∃ a mo, v = .ref a ∧ d = moD mo ∧ ObjR K φ ψ H a mo
section
variable {K : FRG} {tb φ ψ : List Addr} {H : Hp} {m : Mem} {w : W} {v : V} {d : D}
theorem gt_c (R : Rel K tb φ ψ H m) (h : RepS K φ ψ H w v) (e : gt w m = some d) : RepC K φ ψ H d v := by
  cases w with
  | v d' => cases e; exact .inl h
  | f d' => cases e; exact .inl h
  | r n =>
    obtain ⟨a, e1, rfl⟩ := h
    obtain ⟨mo, e2, rfl⟩ := Option.map_eq_some_iff.mp e
    exact .inr ⟨a, mo, rfl, rfl, R.obj n mo a e2 e1⟩
theorem RepC.lst {ds : List D} (h : RepC K φ ψ H (.lst ds) v) : ∃ a vs, v = .ref a ∧ H a = some (.lst vs) ∧ Reps K φ ψ H ds vs := by
  rcases h with h | ⟨a, mo, rfl, e, q⟩
  · cases h with
    | lst h1 h2 h3 r => exact ⟨_, _, rfl, h3, r⟩
  · cases mo with
    | lst es => cases e; obtain ⟨vs, q1, q2⟩ := q; exact ⟨_, _, rfl, q1, q2⟩
    | dk es => cases e
    | dt es => cases e
    | rl b k => cases e
theorem RepC.fl {ds : List D} (h : RepC K φ ψ H (.fl ds) v) : ∃ a vs, v = .ref a ∧ SqL K H a vs ∧ Reps K φ ψ H ds vs := by
  rcases h with h | ⟨a, mo, rfl, e, q⟩
  · cases h with
    | fl h r => exact ⟨_, _, rfl, h.sq, r⟩
  · cases mo <;> cases e
theorem RepC.tup {ds : List D} (h : RepC K φ ψ H (.tup ds) v) : ∃ a vs, v = .ref a ∧ SqT K H a vs ∧ Reps K φ ψ H ds vs := by
  rcases h with h | ⟨a, mo, rfl, e, q⟩
  · cases h with
    | tup h r => exact ⟨_, _, rfl, h.1, r⟩
  · cases mo <;> cases e
theorem RepC.tupN {ds : List D} (h : RepC K φ ψ H (.tup ds) v) : ∃ a vs, v = .ref a ∧ SqN K H a vs ∧ Reps K φ ψ H ds vs := by
  rcases h with h | ⟨a, mo, rfl, e, q⟩
  · cases h with
    | tup h r => exact ⟨_, _, rfl, h, r⟩
  · cases mo <;> cases e
theorem RepC.dk {kvs : List (Key × D)} (h : RepC K φ ψ H (.dk kvs) v) : ∃ (a : Addr) (vs : List (Key × V)), v = .ref a ∧ Rd H a (.dK vs) ∧ kvs.map (·.1) = vs.map (·.1) ∧ Reps K φ ψ H (kvs.map (·.2)) (vs.map (·.2)) := by
  rcases h with h | ⟨a, mo, rfl, e, q⟩
  · cases h with
    | dk h1 h2 h3 h4 r => exact ⟨_, _, rfl, h3, h4, r⟩
  · cases mo with
    | lst es => cases e
    | dk es => cases e; obtain ⟨vs, q1, q2, q3⟩ := q; exact ⟨_, _, rfl, .inl q1, q2, q3⟩
    | dt es => cases e
    | rl b k => cases e
theorem RepC.dt {kvs : List (List Key × D)} (h : RepC K φ ψ H (.dt kvs) v) : ∃ (a : Addr) (vs : List (List Key × V)), v = .ref a ∧ H a = some (.dT vs) ∧ kvs.map (·.1) = vs.map (·.1) ∧ Reps K φ ψ H (kvs.map (·.2)) (vs.map (·.2)) := by
  rcases h with h | ⟨a, mo, rfl, e, q⟩
  · cases h with
    | dt h1 h2 h3 h4 r => exact ⟨_, _, rfl, h3, h4, r⟩
  · cases mo with
    | lst es => cases e
    | dk es => cases e
    | dt es => cases e; obtain ⟨vs, q1, q2, q3⟩ := q; exact ⟨_, _, rfl, q1, q2, q3⟩
    | rl b k => cases e
theorem RepC.int {i : Int} (h : RepC K φ ψ H (.int i) v) : v = .int i := by
  rcases h with h | ⟨a, mo, rfl, e, q⟩
  · cases h; rfl
  · cases mo <;> cases e
theorem RepC.bl {i : Bool} (h : RepC K φ ψ H (.bl i) v) : v = .bl i := by
  rcases h with h | ⟨a, mo, rfl, e, q⟩
  · cases h; rfl
  · cases mo <;> cases e
theorem RepC.str {i : Str} (h : RepC K φ ψ H (.str i) v) : v = .str i := by
  rcases h with h | ⟨a, mo, rfl, e, q⟩
  · cases h; rfl
  · cases mo <;> cases e
theorem RepC.non (h : RepC K φ ψ H .non v) : v = .non := by
  rcases h with h | ⟨a, mo, rfl, e, q⟩
  · cases h; rfl
  · cases mo <;> cases e
end
abbrev Ex := Env → Mem → Option (W × Mem)
abbrev Tx := Env → Mem → Option (Bool × Mem)
abbrev Ax := Env → Mem → Option (List W × Mem)
inductive Out where
  | nx | ret (w : W) | bk | ct
abbrev Sx := Env → Mem → Option (Out × Env × Mem)
structure RE (K : FRG) (φ ψ : List Addr) (H : Hp) (ρ : Env) (σ : L2.St) : Prop where
  val : ∀ (i : Nat) (w : W), ρ[i]? = some (some w) → ∃ v, σ[i]? = some (some v) ∧ RepS K φ ψ H w v
  len : ρ.length = σ.length
theorem RE.mono {K : FRG} {tb φ φ' ψ ψ' : List Addr} {H H' : Hp} {m : Mem} {ρ : Env} {σ : L2.St} (p : Post φ ψ H φ' ψ' H') (R : Rel K tb φ ψ H m) (e : RE K φ ψ H ρ σ) : RE K φ' ψ' H' ρ σ :=
  ⟨fun i d h => let ⟨v, h1, h2⟩ := e.val i d h; ⟨v, h1, h2.mono p R⟩, e.len⟩
theorem RE.set {K : FRG} {φ ψ : List Addr} {H : Hp} {ρ : Env} {σ : L2.St} {d : W} {v : V} (e : RE K φ ψ H ρ σ) (i : Nat) (h : RepS K φ ψ H d v) : RE K φ ψ H (ρ.set i (some d)) (σ.set i (some v)) := by
  refine ⟨fun j x hj => ?_, by simp [e.len]⟩
  by_cases hij : i = j
  · subst hij
    have hl : i < (ρ.set i (some d)).length := (List.getElem?_eq_some_iff.mp hj).1
    rw [List.length_set] at hl
    rw [List.getElem?_set_self hl] at hj
    cases hj
    exact ⟨v, by rw [List.getElem?_set_self (by rw [← e.len]; exact hl)], h⟩
  · rw [List.getElem?_set_ne hij] at hj
    rw [List.getElem?_set_ne hij]
    exact e.val j x hj
theorem RE.wipe1 {K : FRG} {φ ψ : List Addr} {H : Hp} {ρ : Env} {σ : L2.St} (e : RE K φ ψ H ρ σ) (i : Nat) : RE K φ ψ H (ρ.set i none) (σ.set i none) := by
  refine ⟨fun j x hj => ?_, by simp [e.len]⟩
  by_cases hij : i = j
  · subst hij
    have hl : i < (ρ.set i none).length := (List.getElem?_eq_some_iff.mp hj).1
    rw [List.length_set] at hl
    rw [List.getElem?_set_self hl] at hj
    cases hj
  · rw [List.getElem?_set_ne hij] at hj
    rw [List.getElem?_set_ne hij]
    exact e.val j x hj
theorem RE.fog1 {K : FRG} {φ ψ : List Addr} {H : Hp} {ρ : Env} {σ : L2.St} (e : RE K φ ψ H ρ σ) (i : Nat) : RE K φ ψ H (ρ.set i none) σ := by
  refine ⟨fun j x hj => ?_, by simp [e.len]⟩
  by_cases hij : i = j
  · subst hij
    have hl : i < (ρ.set i none).length := (List.getElem?_eq_some_iff.mp hj).1
    rw [List.length_set] at hl
    rw [List.getElem?_set_self hl] at hj
    cases hj
  · rw [List.getElem?_set_ne hij] at hj
    exact e.val j x hj
def wipeD (ρ : Env) : List Nat → Env
  | [] => ρ
  | v :: vs => (wipeD ρ vs).set v none
theorem RE.wipe {K : FRG} {φ ψ : List Addr} {H : Hp} {ρ : Env} {σ : L2.St} (e : RE K φ ψ H ρ σ) : ∀ vs : List Nat, RE K φ ψ H (wipeD ρ vs) (L2.wipe σ vs)
  | [] => e
  | v :: vs => (RE.wipe e vs).wipe1 v
theorem RE.fog {K : FRG} {φ ψ : List Addr} {H : Hp} {ρ : Env} {σ : L2.St} (e : RE K φ ψ H ρ σ) : ∀ vs : List Nat, RE K φ ψ H (wipeD ρ vs) σ
  | [] => e
  | v :: vs => (RE.fog e vs).fog1 v
section
variable (K : FRG) (tb : List Addr)
abbrev Go (φ ψ : List Addr) (H : Hp) (m' : Mem) (w : W) (Q : VK) : Prop := ∀ φ' ψ' H' v, Post φ ψ H φ' ψ' H' → Rel K tb φ' ψ' H' m' → RepW K φ' ψ ψ' H' w v → Q v H'
abbrev GoT (φ ψ : List Addr) (H : Hp) (m' : Mem) (b : Bool) (Q : Bool → Hp → Prop) : Prop := ∀ φ' H', Post φ ψ H φ' ψ H' → Rel K tb φ' ψ H' m' → Q b H'
abbrev GoA (φ ψ : List Addr) (H : Hp) (m' : Mem) (ds : List W) (Q : List V → Hp → Prop) : Prop := ∀ φ' H' vs, Post φ ψ H φ' ψ H' → Rel K tb φ' ψ H' m' → RepSs K φ' ψ H' ds vs → Q vs H'
def T (f : Ex) : TE := fun σ H Q => ∃ φ ψ ρ m w m', Rel K tb φ ψ H m ∧ RE K φ ψ H ρ σ ∧ f ρ m = some (w, m') ∧ Go K tb φ ψ H m' w Q
def Tt (f : Tx) : TT := fun σ H Q => ∃ φ ψ ρ m b m', Rel K tb φ ψ H m ∧ RE K φ ψ H ρ σ ∧ f ρ m = some (b, m') ∧ GoT K tb φ ψ H m' b Q
def Ta (f : Ax) : TA := fun σ H Q => ∃ φ ψ ρ m ds m', Rel K tb φ ψ H m ∧ RE K φ ψ H ρ σ ∧ f ρ m = some (ds, m') ∧ GoA K tb φ ψ H m' ds Q
def OutK (φ' ψ ψ' : List Addr) (H' : Hp) (E : Ends) (ρ' : Env) : Out → Prop
  | .nx => ψ' = ψ → ∀ σ', RE K φ' ψ H' ρ' σ' → E.nx σ' H'
  | .bk => ψ' = ψ → ∀ σ', RE K φ' ψ H' ρ' σ' → E.bk σ' H'
  | .ct => ψ' = ψ → ∀ σ', RE K φ' ψ H' ρ' σ' → E.ct σ' H'
  | .ret w => ∀ v, RepW K φ' ψ ψ' H' w v → E.rt v H'
def Ts (g : Sx) : TS := fun E σ H => ∃ φ ψ ρ m o ρ' m', Rel K tb φ ψ H m ∧ RE K φ ψ H ρ σ ∧ g ρ m = some (o, ρ', m') ∧ ∀ φ' ψ' H', Post φ ψ H φ' ψ' H' → Rel K tb φ' ψ' H' m' → OutK K φ' ψ ψ' H' E ρ' o
end
theorem pe_mono {X : Cx} {e : Expr} {t t' : TE} (h : PE X e t) (i : ∀ σ H Q, t' σ H Q → t σ H Q) : PE X e t' := ⟨fun pins s σ H Q I q => h.run pins s σ H Q I (i σ H Q q)⟩
theorem pt_mono {X : Cx} {e : Expr} {t t' : TT} (h : PT X e t) (i : ∀ σ H Q, t' σ H Q → t σ H Q) : PT X e t' := ⟨fun pins s σ H Q I q => h.run pins s σ H Q I (i σ H Q q)⟩
theorem pa_mono {X : Cx} {e : List Expr} {t t' : TA} (h : PA X e t) (i : ∀ σ H Q, t' σ H Q → t σ H Q) : PA X e t' := ⟨fun pos pins s σ H Q I q => h.run pos pins s σ H Q I (i σ H Q q)⟩
theorem ps_mono {X : Cx} {e : Stmt} {t t' : TS} (h : PS X e t) (i : ∀ D σ H, t' D σ H → t D σ H) : PS X e t' := ⟨fun pins s σ H D I q => h.run pins s σ H D I (i D σ H q)⟩
theorem pss_mono {X : Cx} {e : List Stmt} {t t' : TS} (h : PSs X e t) (i : ∀ D σ H, t' D σ H → t D σ H) : PSs X e t' := ⟨fun pins s σ H D I q => h.run pins s σ H D I (i D σ H q)⟩
end Pw
end
section
set_option Elab.async false
set_option linter.all false
set_option maxRecDepth 100000
set_option maxHeartbeats 1000000
namespace Pw
open PySem PySem.Spec PyProof.Rows L2
theorem small {n : Nat} (h : n ≤ 1000000) : n ≤ sizeLine := Nat.le_trans h (by rw [sizeLine_eq]; decide)
theorem smallT {n : Nat} (h : n < 1000000) : n < sizeLine := Nat.lt_of_lt_of_le h (by rw [sizeLine_eq]; decide)
theorem bnd {α β : Type} {o : Option α} {f : α → Option β} {b : β} (h : o.bind f = some b) : ∃ a, o = some a ∧ f a = some b := Option.bind_eq_some_iff.mp h
inductive RepCs (K : FRG) (φ ψ : List Addr) (H : Hp) : List D → List V → Prop
  | nil : RepCs K φ ψ H [] []
  | cons {d : D} {v : V} {ds : List D} {vs : List V} : RepC K φ ψ H d v → RepCs K φ ψ H ds vs → RepCs K φ ψ H (d :: ds) (v :: vs)
def gts : List W → Mem → Option (List D)
  | [], _ => some []
  | w :: ws, m => (gt w m).bind fun d => (gts ws m).bind fun ds => some (d :: ds)
def vls : List W → Option (List D)
  | [] => some []
  | .v d :: ws => (vls ws).bind fun ds => some (d :: ds)
  | .f d :: ws => (vls ws).bind fun ds => some (d :: ds)
  | .r _ :: _ => none
section
variable {K : FRG} {tb φ ψ : List Addr} {H : Hp} {m : Mem}
theorem gts_c (R : Rel K tb φ ψ H m) {ws : List W} {vs : List V} (h : RepSs K φ ψ H ws vs) : ∀ {ds : List D}, gts ws m = some ds → RepCs K φ ψ H ds vs := by
  induction h with
  | nil => intro ds e; cases e; exact .nil
  | cons h r ih =>
    intro ds e
    obtain ⟨d, e1, e⟩ := bnd e
    obtain ⟨es, e2, e⟩ := bnd e
    cases e
    exact .cons (gt_c R h e1) (ih e2)
theorem vls_c {ws : List W} {vs : List V} (h : RepSs K φ ψ H ws vs) : ∀ {ds : List D}, vls ws = some ds → Reps K φ ψ H ds vs := by
  induction h with
  | nil => intro ds e; cases e; exact .nil
  | @cons w v ws vs h r ih =>
    intro ds e
    cases w with
    | v d => obtain ⟨es, e2, e⟩ := bnd (show (vls ws).bind _ = _ from e); cases e; exact .cons h (ih e2)
    | f d => obtain ⟨es, e2, e⟩ := bnd (show (vls ws).bind _ = _ from e); cases e; exact .cons h (ih e2)
    | r n => cases e
end
section
variable (K : FRG) (tb : List Addr)
def OpS (r : R2) (g : D → D → Option W) : Prop := ∀ φ ψ H m x y dx dy w Q, Rel K tb φ ψ H m → RepC K φ ψ H dx x → RepC K φ ψ H dy y → g dx dy = some w → Go K tb φ ψ H m w Q → r x y H Q
def UnS (r : V → Hp → VK → Prop) (g : D → Option W) : Prop := ∀ φ ψ H m x dx w Q, Rel K tb φ ψ H m → RepC K φ ψ H dx x → g dx = some w → Go K tb φ ψ H m w Q → r x H Q
def CallS (r : List V → Hp → VK → Prop) (g : List D → Option W) : Prop := ∀ φ ψ H m vs ds w Q, Rel K tb φ ψ H m → RepCs K φ ψ H ds vs → g ds = some w → Go K tb φ ψ H m w Q → r vs H Q
def MtS (r : V → List V → Hp → VK → Prop) (g : W → List W → Mem → Option (W × Mem)) : Prop := ∀ φ ψ H m x vs w ws w' m' Q, Rel K tb φ ψ H m → RepS K φ ψ H w x → RepSs K φ ψ H ws vs → g w ws m = some (w', m') → Go K tb φ ψ H m' w' Q → r x vs H Q
end
section
variable {K : FRG} {tb φ ψ : List Addr} {H : Hp} {m : Mem} {Q : VK}
theorem Go.val {d : D} {v : V} (k : Go K tb φ ψ H m (.v d) Q) (R : Rel K tb φ ψ H m) (h : Rep K φ ψ H d v) : Q v H := k φ ψ H v .refl R ⟨rfl, h⟩
theorem Go.tup {ds : List D} {vs : List V} {p : Addr} (k : Go K tb φ ψ H m (.v (.tup ds)) Q) (R : Rel K tb φ ψ H m) (h : Reps K φ ψ H ds vs) (hp : H p = none) : Q (.ref p) (upd H p (.tup vs)) :=
  k φ ψ _ _ (Post.lay hp) (R.lay hp) ⟨rfl, .tup (SqN.of upd_same) (h.mono (Post.lay hp) R)⟩
theorem Go.lst {ds : List D} {vs : List V} {p : Addr} (k : Go K tb φ ψ H m (.f (.lst ds)) Q) (R : Rel K tb φ ψ H m) (h : Reps K φ ψ H ds vs) (hp : H p = none) : Q (.ref p) (upd H p (.lst vs)) :=
  k φ (p :: ψ) _ _ (Post.nw hp) (R.nw hp) ⟨p, .lst ds, rfl, rfl, R.freshS hp, rfl, vs, upd_same, h.mono (Post.nw hp) R⟩
theorem Go.dt {kvs : List (List Key × D)} {vs : List (List Key × V)} {p : Addr} (k : Go K tb φ ψ H m (.f (.dt kvs)) Q) (R : Rel K tb φ ψ H m) (hk : kvs.map (·.1) = vs.map (·.1)) (h : Reps K φ ψ H (kvs.map (·.2)) (vs.map (·.2))) (hp : H p = none) : Q (.ref p) (upd H p (.dT vs)) :=
  k φ (p :: ψ) _ _ (Post.nw hp) (R.nw hp) ⟨p, .dt kvs, rfl, rfl, R.freshS hp, rfl, vs, upd_same, hk, h.mono (Post.nw hp) R⟩
theorem Go.dk {kvs : List (Key × D)} {vs : List (Key × V)} {p : Addr} (k : Go K tb φ ψ H m (.f (.dk kvs)) Q) (R : Rel K tb φ ψ H m) (hk : kvs.map (·.1) = vs.map (·.1)) (h : Reps K φ ψ H (kvs.map (·.2)) (vs.map (·.2))) (hp : H p = none) : Q (.ref p) (upd H p (.dK vs)) :=
  k φ (p :: ψ) _ _ (Post.nw hp) (R.nw hp) ⟨p, .dk kvs, rfl, rfl, R.freshS hp, rfl, vs, upd_same, hk, h.mono (Post.nw hp) R⟩
end
def eVar (i : Nat) : Ex := fun ρ m => match ρ[i]? with
  | some (some w) => some (stl w, m)
  | _ => none
def eC (d : D) : Ex := fun _ m => some (.v d, m)
def eOp (g : D → D → Option W) (a b : Ex) : Ex := fun ρ m => (a ρ m).bind fun p => (b ρ p.2).bind fun q => (gt p.1 q.2).bind fun x => (gt q.1 q.2).bind fun y => (g x y).bind fun w => some (w, q.2)
def eUn (g : D → Option W) (a : Ex) : Ex := fun ρ m => (a ρ m).bind fun p => (gt p.1 p.2).bind fun x => (g x).bind fun w => some (w, p.2)
def aNil : Ax := fun _ m => some ([], m)
def aCons (a : Ex) (b : Ax) : Ax := fun ρ m => (a ρ m).bind fun p => (b ρ p.2).bind fun q => some (stl p.1 :: q.1, q.2)
def eCB (g : List D → Option W) (a : Ax) : Ex := fun ρ m => (a ρ m).bind fun p => (gts p.1 p.2).bind fun ds => (g ds).bind fun w => some (w, p.2)
def eMt (ck : W → Mem → Bool) (g : W → List W → Mem → Option (W × Mem)) (o : Ex) (a : Ax) : Ex := fun ρ m => (o ρ m).bind fun p => if ck p.1 p.2 = true then (a ρ p.2).bind fun q => g p.1 q.1 q.2 else none
def eTup (a : Ax) : Ex := fun ρ m => (a ρ m).bind fun p => (vls p.1).bind fun ds => if ds.length ≤ 1000000 then some (.v (.tup ds), p.2) else none
def eLst (a : Ax) : Ex := fun ρ m => (a ρ m).bind fun p => (vls p.1).bind fun ds => if ds.length ≤ 1000000 then some (.f (.lst ds), p.2) else none
def blD : D → Option Bool
  | .bl b => some b
  | _ => none
def tVal (a : Ex) : Tx := fun ρ m => (a ρ m).bind fun p => (gt p.1 p.2).bind fun d => (blD d).bind fun b => some (b, p.2)
def truD : D → Option Bool
  | .non => some false
  | .bl b => some b
  | .int i => some (i != 0)
  | .tup ds => some (!ds.isEmpty)
  | .fl ds => some (!ds.isEmpty)
  | .lst ds => some (!ds.isEmpty)
  | .dk kvs => some (!kvs.isEmpty)
  | _ => none
def tTru (a : Ex) : Tx := fun ρ m => (a ρ m).bind fun p => (gt p.1 p.2).bind fun d => (truD d).bind fun b => some (b, p.2)
def tAnd' (a b : Tx) : Tx := fun ρ m => (a ρ m).bind fun p => if p.1 = true then b ρ p.2 else some (false, p.2)
def tOr' (a b : Tx) : Tx := fun ρ m => (a ρ m).bind fun p => if p.1 = true then some (true, p.2) else b ρ p.2
def tNot' (a : Tx) : Tx := fun ρ m => (a ρ m).bind fun p => some (!p.1, p.2)
def eAnd (a b : Ex) : Ex := fun ρ m => (tVal a ρ m).bind fun p => if p.1 = true then b ρ p.2 else some (.v (.bl false), p.2)
def eNot (a : Ex) : Ex := fun ρ m => (tVal a ρ m).bind fun p => some (.v (.bl (!p.1)), p.2)
section
variable {X : Cx} {tb : List Addr} {a b c : Expr} {fa fb fc : Ex} {ta : Tx} {tb' : Tx} {pos : Pos}
theorem RepS.w {K : FRG} {φ ψ : List Addr} {H : Hp} {w : W} {v : V} (h : RepS K φ ψ H w v) : RepW K φ ψ ψ H (Pw.stl w) v := by
  cases w with
  | v d => exact ⟨rfl, h⟩
  | f d => exact ⟨rfl, h⟩
  | r n => exact ⟨rfl, h⟩
theorem ex_var (i : Nat) {x : Str} (hN : X.N[i]? = some x := by rfl) (hv : Vis X.env.scope x := by first | exact Or.inl rfl | exact Or.inr (Or.inl rfl) | exact Or.inr (Or.inr rfl)) (hd : (x == ("__debug__" : Str)) = false := by decide)
    (hcd : (x == ("__classdict__" : Str)) = false := by decide) : PE X (.Name x pos) (T X.K tb (eVar i)) := by
  refine pe_mono (pe_var hN hv hd hcd) fun σ H Q h => ?_
  obtain ⟨φ, ψ, ρ, m, w, m', R, E, e, k⟩ := h
  unfold eVar at e
  split at e
  · rename_i w' hw
    cases e
    obtain ⟨v, h1, h2⟩ := E.val i _ hw
    exact ⟨v, h1, k φ ψ H v .refl R h2.w⟩
  · cases e
theorem ex_int {i : Int} {j : Nat} : PE X (.Constant (.int i) j pos) (T X.K tb (eC (.int i))) := pe_mono pe_int fun σ H Q ⟨φ, ψ, ρ, m, w, m', R, E, e, k⟩ => by
  cases e; exact Go.val k R (.int i)
theorem ex_bl {i : Bool} {j : Nat} : PE X (.Constant (.bool i) j pos) (T X.K tb (eC (.bl i))) := pe_mono pe_bl fun σ H Q ⟨φ, ψ, ρ, m, w, m', R, E, e, k⟩ => by
  cases e; exact Go.val k R (.bl i)
theorem ex_str {i : Str} {j : Nat} : PE X (.Constant (.str i) j pos) (T X.K tb (eC (.str i))) := pe_mono pe_str fun σ H Q ⟨φ, ψ, ρ, m, w, m', R, E, e, k⟩ => by
  cases e; exact Go.val k R (.str i)
theorem op_go {r : R2} {g : D → D → Option W} (hs : OpS X.K tb r g) {σ : L2.St} {H : Hp} {Q : VK} (h : T X.K tb (eOp g fa fb) σ H Q) : tOp r (T X.K tb fa) (T X.K tb fb) σ H Q := by
  obtain ⟨φ, ψ, ρ, m, w, m', R, E, e, k⟩ := h
  obtain ⟨⟨w1, m1⟩, e1, e⟩ := bnd e
  obtain ⟨⟨w2, m2⟩, e2, e⟩ := bnd e
  obtain ⟨x, ex, e⟩ := bnd e
  obtain ⟨y, ey, e⟩ := bnd e
  obtain ⟨w3, eg, e⟩ := bnd e
  cases e
  refine ⟨φ, ψ, ρ, m, w1, m1, R, E, e1, fun φ1 ψ1 H1 xv P1 R1 V1 => ⟨φ1, ψ, ρ, m1, w2, m2, V1.rel R1, E.mono (V1.post P1) R, e2, fun φ2 ψ2 H2 yv P2 R2 V2 => ?_⟩⟩
  have R2' := V2.rel R2
  have P2' := V2.post P2
  exact hs φ2 ψ H2 m2 xv yv x y w Q R2' (gt_c R2' ((V1.s R1).mono P2' (V1.rel R1)) ex) (gt_c R2' (V2.s R2) ey) eg fun φ3 ψ3 H3 v P3 R3 V3 => k φ3 ψ3 H3 v ((V1.post P1).trans (P2'.trans P3)) R3 V3
theorem ex_op {op : Operator} {r : R2} {g : D → D → Option W} (ho : OpR X (binaryOp op) r) (hs : OpS X.K tb r g) (ha : PE X a (T X.K tb fa)) (hb : PE X b (T X.K tb fb)) : PE X (.BinOp a op b pos) (T X.K tb (eOp g fa fb)) :=
  pe_mono (pe_op ho ha hb) fun _ _ _ h => op_go hs h
theorem ex_cmp {op : CmpOp} {r : R2} {g : D → D → Option W} (ho : OpR X (compareOp op) r) (hs : OpS X.K tb r g) (ha : PE X a (T X.K tb fa)) (hb : PE X b (T X.K tb fb)) (hm : behindInMarks op b = false) : PE X (.Compare a [op] [b] pos) (T X.K tb (eOp g fa fb)) :=
  pe_mono (pe_cmpR ho ha hb hm) fun _ _ _ h => op_go hs h
theorem blD_v {K : FRG} {φ ψ : List Addr} {H : Hp} {d : D} {v : V} {b : Bool} (h : RepC K φ ψ H d v) (e : blD d = some b) : v = .bl b := by
  unfold blD at e
  split at e
  · cases e; exact h.bl
  · cases e
theorem val_go {f : Ex} {σ : L2.St} {H : Hp} {Q : Bool → Hp → Prop} (h : Tt X.K tb (tVal f) σ H Q) : T X.K tb f σ H fun x H' => ∃ k, x = .bl k ∧ Q k H' := by
  obtain ⟨φ, ψ, ρ, m, w, m', R, E, e, k⟩ := h
  obtain ⟨⟨w1, m1⟩, e1, e⟩ := bnd e
  obtain ⟨d, ed, e⟩ := bnd e
  obtain ⟨b, eb, e⟩ := bnd e
  cases e
  exact ⟨φ, ψ, ρ, m, w1, _, R, E, e1, fun φ1 ψ1 H1 x P1 R1 V1 => ⟨_, blD_v (gt_c (V1.rel R1) (V1.s R1) ed) eb, k φ1 H1 (V1.post P1) (V1.rel R1)⟩⟩
theorem tx_cmp {op : CmpOp} {r : R2} {g : D → D → Option W} (ho : OpR X (compareOp op) r) (hs : OpS X.K tb r g) (ha : PE X a (T X.K tb fa)) (hb : PE X b (T X.K tb fb)) (hm : behindInMarks op b = false) : PT X (.Compare a [op] [b] pos) (Tt X.K tb (tVal (eOp g fa fb))) :=
  pt_mono (pt_cmpR ho ha hb hm) fun _ _ _ h => op_go hs (val_go h)
theorem un_go {r : V → Hp → VK → Prop} {g : D → Option W} (hs : UnS X.K tb r g) {σ : L2.St} {H : Hp} {Q : VK} (h : T X.K tb (eUn g fa) σ H Q) : tUn r (T X.K tb fa) σ H Q := by
  obtain ⟨φ, ψ, ρ, m, w, m', R, E, e, k⟩ := h
  obtain ⟨⟨w1, m1⟩, e1, e⟩ := bnd e
  obtain ⟨x, ex, e⟩ := bnd e
  obtain ⟨w2, eg, e⟩ := bnd e
  cases e
  exact ⟨φ, ψ, ρ, m, w1, _, R, E, e1, fun φ1 ψ1 H1 xv P1 R1 V1 => hs φ1 ψ H1 _ xv x w Q (V1.rel R1) (gt_c (V1.rel R1) (V1.s R1) ex) eg fun φ3 ψ3 H3 v P3 R3 V3 => k φ3 ψ3 H3 v ((V1.post P1).trans P3) R3 V3⟩
theorem ex_un {op : UnaryOp} {r : V → Hp → VK → Prop} {g : D → Option W} (ho : UnR X (unaryOp op) r) (hs : UnS X.K tb r g) (ha : PE X a (T X.K tb fa)) : PE X (.UnaryOp op a pos) (T X.K tb (eUn g fa)) := pe_mono (pe_un ho ha) fun _ _ _ h => un_go hs h
theorem ax_nil : PA X [] (Ta X.K tb aNil) := pa_mono pa_nil fun σ H Q ⟨φ, ψ, ρ, m, ds, m', R, E, e, k⟩ => by
  cases e; exact k φ H [] .refl R .nil
theorem ax_cons {es : List Expr} {f : Ax} (ha : PE X a (T X.K tb fa)) (hr : PA X es (Ta X.K tb f)) (hs : starEach (a :: es) X.env = (false, eval a X.env) :: starEach es X.env := by rfl) : PA X (a :: es) (Ta X.K tb (aCons fa f)) := by
  refine pa_mono (pa_cons ha hr hs) fun σ H Q ⟨φ, ψ, ρ, m, ds, m', R, E, e, k⟩ => ?_
  obtain ⟨⟨w1, m1⟩, e1, e⟩ := bnd e
  obtain ⟨⟨w2, m2⟩, e2, e⟩ := bnd e
  cases e
  exact ⟨φ, ψ, ρ, m, w1, m1, R, E, e1, fun φ1 ψ1 H1 x P1 R1 V1 => ⟨φ1, ψ, ρ, m1, w2, _, V1.rel R1, E.mono (V1.post P1) R, e2, fun φ2 H2 y P2 R2 V2 => k φ2 H2 _ ((V1.post P1).trans P2) R2 (.cons ((V1.s R1).mono P2 (V1.rel R1)).stl V2)⟩⟩
theorem cb_go {f : Ax} {r : List V → Hp → VK → Prop} {g : List D → Option W} (hs : CallS X.K tb r g) {σ : L2.St} {H : Hp} {Q : VK} (h : T X.K tb (eCB g f) σ H Q) : tCB r (Ta X.K tb f) σ H Q := by
  obtain ⟨φ, ψ, ρ, m, w, m', R, E, e, k⟩ := h
  obtain ⟨⟨ws, m1⟩, e1, e⟩ := bnd e
  obtain ⟨ds, ed, e⟩ := bnd e
  obtain ⟨w2, eg, e⟩ := bnd e
  cases e
  exact ⟨φ, ψ, ρ, m, ws, _, R, E, e1, fun φ1 H1 vs P1 R1 V1 => hs φ1 ψ H1 _ vs ds w Q R1 (gts_c R1 V1 ed) eg fun φ3 ψ3 H3 v P3 R3 V3 => k φ3 ψ3 H3 v (P1.trans P3) R3 V3⟩
theorem ex_callB {x : Str} {p : Pos} {es : List Expr} {id : String} {f : Ax} {r : List V → Hp → VK → Prop} {g : List D → Option W} (hs : CallS X.K tb r g) (hc : CallR X (.builtin id) r) (hg : Gl X x) (hm : X.mg x = none) (hv : bootBuiltins x = some (.builtin id)) (ha : PA X (a :: es) (Ta X.K tb f))
    (hn : x ≠ "__name__" := by decide) (hdb : (x == ("__debug__" : Str)) = false := by decide) (he : starEach (a :: es) X.env = (false, eval a X.env) :: starEach es X.env := by rfl) (hpl : (backTo pos (starEach es X.env)).any (·.1) = false := by rfl) :
    PE X (.Call (.Name x p) (a :: es) [] pos) (T X.K tb (eCB g f)) := pe_mono (pe_callB hc hg hm hv ha hn hdb he hpl) fun _ _ _ h => cb_go hs h
theorem ex_callTy {x : Str} {p : Pos} {es : List Expr} {id : String} {f : Ax} {r : List V → Hp → VK → Prop} {g : List D → Option W} (hs : CallS X.K tb r g) (hc : CallR X (.type id) r) (hg : Gl X x) (hm : X.mg x = none) (hv : bootBuiltins x = some (.type id)) (ha : PA X (a :: es) (Ta X.K tb f))
    (hn : x ≠ "__name__" := by decide) (hdb : (x == ("__debug__" : Str)) = false := by decide) (he : starEach (a :: es) X.env = (false, eval a X.env) :: starEach es X.env := by rfl) (hpl : (backTo pos (starEach es X.env)).any (·.1) = false := by rfl) :
    PE X (.Call (.Name x p) (a :: es) [] pos) (T X.K tb (eCB g f)) := pe_mono (pe_callTy hc hg hm hv ha hn hdb he hpl) fun _ _ _ h => cb_go hs h
theorem ex_tup {es : List Expr} {f : Ax} {x1} (h : PA X es (Ta X.K tb f)) : PE X (.Tuple es x1 pos) (T X.K tb (eTup f)) := by
  refine pe_mono (pe_tup h) fun σ H Q ⟨φ, ψ, ρ, m, w, m', R, E, e, k⟩ => ?_
  obtain ⟨⟨ws, m1⟩, e1, e⟩ := bnd e
  obtain ⟨ds, ed, e⟩ := bnd e
  refine ⟨φ, ψ, ρ, m, ws, m1, R, E, e1, fun φ1 H1 vs P1 R1 V1 => ?_⟩
  split at e
  · rename_i hl
    cases e
    have r := vls_c V1 ed
    exact ⟨small (by rw [← r.length]; exact hl), fun p hp => Go.tup (fun φ3 ψ3 H3 v P3 R3 V3 => k φ3 ψ3 H3 v (P1.trans P3) R3 V3) R1 r hp⟩
  · cases e
theorem ex_lst {es : List Expr} {f : Ax} (h : PA X es (Ta X.K tb f)) : PE X (.List es pos) (T X.K tb (eLst f)) := by
  refine pe_mono (pe_lst h) fun σ H Q ⟨φ, ψ, ρ, m, w, m', R, E, e, k⟩ => ?_
  obtain ⟨⟨ws, m1⟩, e1, e⟩ := bnd e
  obtain ⟨ds, ed, e⟩ := bnd e
  refine ⟨φ, ψ, ρ, m, ws, m1, R, E, e1, fun φ1 H1 vs P1 R1 V1 => ?_⟩
  split at e
  · rename_i hl
    cases e
    have r := vls_c V1 ed
    exact ⟨small (by rw [← r.length]; exact hl), fun p hp => Go.lst (fun φ3 ψ3 H3 v P3 R3 V3 => k φ3 ψ3 H3 v (P1.trans P3) R3 V3) R1 r hp⟩
  · cases e
theorem ex_mt {T' id : String} {name : Str} {apos cpos : Pos} {es : List Expr} {fo : Ex} {f : Ax} {r : V → List V → Hp → VK → Prop} {g : W → List W → Mem → Option (W × Mem)} {ck : W → Mem → Bool} {o : Expr}
    (hck : ∀ φ ψ H m d v, Rel X.K tb φ ψ H m → RepS X.K φ ψ H d v → ck d m = true → tyV X.K T' v H) (hs : MtS X.K tb r g)
    (pa : PlainAttrs T') (slot : Slot T' name id) (hty : typeOf (.builtin id) = pure (.type "method_descriptor")) (hm : MtR X id r) (ho : PE X o (T X.K tb fo)) (ha : PA X (a :: es) (Ta X.K tb f))
    (hbase : attributeBase o name X.env (eval o X.env) = eval o X.env := by rfl)
    (hfew : ((backTo cpos (starEach (a :: es) X.env)).all (fun x => !x.1) && (backToKw cpos (keywordEach [] X.env)).all (fun x => x.1.isSome)
      && decide ((a :: es).length + ([] : List Keyword).length + (if ([] : List Keyword).isEmpty then 0 else 1) < 30)) = true := by rfl)
    (hline : (apos.endLine == cpos.line) = true := by rfl) (hst : starEach (a :: es) X.env = (false, eval a X.env) :: starEach es X.env := by rfl) (hplain : (backTo cpos (starEach es X.env)).any (·.1) = false := by rfl) :
    PE X (.Call (.Attribute o name apos) (a :: es) [] cpos) (T X.K tb (eMt ck g fo f)) := by
  refine pe_mono (pe_bm pa slot hty hm ho ha hbase hfew hline hst hplain) fun σ H Q ⟨φ, ψ, ρ, m, w, m', R, E, e, k⟩ => ?_
  obtain ⟨⟨w1, m1⟩, e1, e⟩ := bnd e
  split at e
  · rename_i hc
    obtain ⟨⟨ws, m2⟩, e2, e⟩ := bnd e
    refine ⟨φ, ψ, ρ, m, w1, m1, R, E, e1, fun φ1 ψ1 H1 x P1 R1 V1 => ⟨hck φ1 ψ H1 m1 w1 x (V1.rel R1) (V1.s R1) hc, φ1, ψ, ρ, m1, ws, m2, V1.rel R1, E.mono (V1.post P1) R, e2, fun φ2 H2 vs P2 R2 V2 => ?_⟩⟩
    exact hs φ2 ψ H2 m2 x vs w1 ws w m' Q R2 ((V1.s R1).mono P2 (V1.rel R1)) V2 e fun φ3 ψ3 H3 v P3 R3 V3 => k φ3 ψ3 H3 v ((V1.post P1).trans (P2.trans P3)) R3 V3
  · cases e
theorem pt_or {X : Cx} {e : Expr} {t t' : TT} (h : PT X e t) (h' : PT X e t') : PT X e (fun σ H Q => t σ H Q ∨ t' σ H Q) := ⟨fun pins s σ H Q I q => q.elim (h.run pins s σ H Q I) (h'.run pins s σ H Q I)⟩
theorem tru_rd {X : Cx} : TruR X (fun x H Q => ∃ a kvs, x = V.ref a ∧ Rd H a (.dK kvs) ∧ Q (!kvs.isEmpty) H) := by
  intro pins s σ H x v Q I rx h
  obtain ⟨a, kvs, rfl, e, q⟩ := h
  cases rx
  exact d_truth I e fun s' I' => ⟨H, I', q⟩
theorem tx_tru {e : Expr} {f : Ex} (h : PE X e (T X.K tb f)) (he : ∀ whole, isTrue e X.env whole = (do let v ← whole; standAt e.pos; holding [v] (truthy v)) := by intro _; rfl) : PT X e (Tt X.K tb (tTru f)) := by
  refine pt_mono (pt_or (pt_truth h he) (pt_truthR h tru_rd he)) fun σ H Q ⟨φ, ψ, ρ, m, b, m', R, E, e, k⟩ => ?_
  obtain ⟨⟨w1, m1⟩, e1, e⟩ := bnd e
  obtain ⟨d, ed, e⟩ := bnd e
  obtain ⟨b1, e2, e⟩ := bnd e
  cases e
  by_cases hdk : ∃ kvs, d = .dk kvs
  · right
    obtain ⟨kvs, rfl⟩ := hdk
    cases e2
    refine ⟨φ, ψ, ρ, m, w1, m1, R, E, e1, fun φ1 ψ1 H1 x P1 R1 V1 => ?_⟩
    obtain ⟨a, vs, rfl, h, r1, r2⟩ := (gt_c (V1.rel R1) (V1.s R1) ed).dk
    refine ⟨a, vs, rfl, h, ?_⟩
    have : kvs.length = vs.length := by simpa using congrArg List.length r1
    have eb : (!kvs.isEmpty) = !vs.isEmpty := by cases kvs <;> cases vs <;> simp_all
    rw [← eb]
    exact k φ1 H1 (V1.post P1) (V1.rel R1)
  left
  refine ⟨φ, ψ, ρ, m, w1, m1, R, E, e1, fun φ1 ψ1 H1 x P1 R1 V1 => ⟨b, ?_, k φ1 H1 (V1.post P1) (V1.rel R1)⟩⟩
  have C := gt_c (V1.rel R1) (V1.s R1) ed
  cases d with
  | non => cases e2; rw [C.non]; rfl
  | bl b => cases e2; rw [C.bl]; rfl
  | int i => cases e2; rw [C.int]; rfl
  | str x => cases e2
  | tup ds => cases e2; obtain ⟨a, vs, rfl, h, r⟩ := C.tup; exact .inr (.inl ⟨_, h, by cases r <;> rfl⟩)
  | tx ds => cases e2
  | fl ds => cases e2; obtain ⟨a, vs, rfl, h, r⟩ := C.fl; exact .inl ⟨_, h, by cases r <;> rfl⟩
  | lst ds => cases e2; obtain ⟨a, vs, rfl, h, r⟩ := C.lst; exact .inl ⟨_, SqL.of h, by cases r <;> rfl⟩
  | dk kvs => exact absurd ⟨kvs, rfl⟩ hdk
  | dt kvs => cases e2
  | rl b k => cases e2
def pwt {e : Expr} {t : TT} (h : PW X e t) : PT X e t := h.pt
theorem tw_and1 (ha : PT X a (Tt X.K tb ta)) : PW X (.BoolOp .And [a] pos) (Tt X.K tb ta) := pw_and1 ha
theorem tw_or1 (ha : PT X a (Tt X.K tb ta)) : PW X (.BoolOp .Or [a] pos) (Tt X.K tb ta) := pw_or1 ha
theorem pw_mono {e : Expr} {t t' : TT} (h : PW X e t) (i : ∀ σ H Q, t' σ H Q → t σ H Q) : PW X e t' := ⟨fun w pins s σ H Q I q => h.run w pins s σ H Q I (i σ H Q q)⟩
theorem tw_and {rest : List Expr} (ha : PT X a (Tt X.K tb ta)) (hb : PW X (.BoolOp .And (b :: rest) pos) (Tt X.K tb tb')) : PW X (.BoolOp .And (a :: b :: rest) pos) (Tt X.K tb (tAnd' ta tb')) := by
  refine pw_mono (pw_and ha hb) fun σ H Q ⟨φ, ψ, ρ, m, d, m', R, E, e, k⟩ => ?_
  obtain ⟨⟨b1, m1⟩, e1, e⟩ := bnd e
  refine ⟨φ, ψ, ρ, m, b1, m1, R, E, e1, fun φ1 H1 P1 R1 => ?_⟩
  cases b1 with
  | true => exact iteT ⟨φ1, ψ, ρ, m1, d, m', R1, E.mono P1 R, e, fun φ2 H2 P2 R2 => k φ2 H2 (P1.trans P2) R2⟩
  | false => cases e; exact iteF (k φ1 H1 P1 R1)
theorem tw_or {rest : List Expr} (ha : PT X a (Tt X.K tb ta)) (hb : PW X (.BoolOp .Or (b :: rest) pos) (Tt X.K tb tb')) : PW X (.BoolOp .Or (a :: b :: rest) pos) (Tt X.K tb (tOr' ta tb')) := by
  refine pw_mono (pw_or ha hb) fun σ H Q ⟨φ, ψ, ρ, m, d, m', R, E, e, k⟩ => ?_
  obtain ⟨⟨b1, m1⟩, e1, e⟩ := bnd e
  refine ⟨φ, ψ, ρ, m, b1, m1, R, E, e1, fun φ1 H1 P1 R1 => ?_⟩
  cases b1 with
  | false => exact iteF ⟨φ1, ψ, ρ, m1, d, m', R1, E.mono P1 R, e, fun φ2 H2 P2 R2 => k φ2 H2 (P1.trans P2) R2⟩
  | true => cases e; exact iteT (k φ1 H1 P1 R1)
theorem tx_not (ha : PT X a (Tt X.K tb ta)) : PT X (.UnaryOp .Not a pos) (Tt X.K tb (tNot' ta)) := by
  refine pt_mono (pt_not ha) fun σ H Q ⟨φ, ψ, ρ, m, d, m', R, E, e, k⟩ => ?_
  obtain ⟨⟨b1, m1⟩, e1, e⟩ := bnd e
  cases e
  exact ⟨φ, ψ, ρ, m, b1, _, R, E, e1, fun φ1 H1 P1 R1 => k φ1 H1 P1 R1⟩
theorem ex_one {op} {f : Ex} (h : PE X a (T X.K tb f)) : PE X (.BoolOp op [a] pos) (T X.K tb f) := pe_one h
theorem ex_and {rest : List Expr} (ha : PE X a (T X.K tb fa)) (hb : PE X (.BoolOp .And (b :: rest) pos) (T X.K tb fb)) : PE X (.BoolOp .And (a :: b :: rest) pos) (T X.K tb (eAnd fa fb)) := by
  refine pe_mono (pe_and ha hb) fun σ H Q ⟨φ, ψ, ρ, m, d, m', R, E, e, k⟩ => ?_
  obtain ⟨⟨b1, m1⟩, e1, e⟩ := bnd e
  refine val_go (X := X) (Q := fun c H1 => if c = true then T X.K tb fb σ H1 Q else Q (.bl false) H1) ⟨φ, ψ, ρ, m, b1, m1, R, E, e1, fun φ1 H1 P1 R1 => ?_⟩
  cases b1 with
  | true => exact iteT ⟨φ1, ψ, ρ, m1, d, m', R1, E.mono P1 R, e, fun φ2 ψ2 H2 v P2 R2 => k φ2 ψ2 H2 v (P1.trans P2) R2⟩
  | false => cases e; exact iteF (k φ1 ψ H1 _ P1 R1 ⟨rfl, .bl false⟩)
theorem ex_not (ha : PE X a (T X.K tb fa)) : PE X (.UnaryOp .Not a pos) (T X.K tb (eNot fa)) := by
  refine pe_mono (pe_not ha) fun σ H Q ⟨φ, ψ, ρ, m, d, m', R, E, e, k⟩ => ?_
  obtain ⟨⟨b1, m1⟩, e1, e⟩ := bnd e
  cases e
  exact val_go (X := X) (Q := fun c H1 => Q (.bl (!c)) H1) ⟨φ, ψ, ρ, m, b1, _, R, E, e1, fun φ1 H1 P1 R1 => k φ1 ψ H1 _ P1 R1 ⟨rfl, .bl _⟩⟩
end
end Pw
end
section
set_option Elab.async false
set_option linter.all false
set_option maxRecDepth 100000
set_option maxHeartbeats 1000000
namespace Pw
open PySem PySem.Spec PyProof.Rows L2
def subD : D → D → Option W
  | .int i, .int j => some (.v (.int (i - j)))
  | _, _ => none
def cmpD (p : Int → Int → Bool) : D → D → Option W
  | .int i, .int j => some (.v (.bl (p i j)))
  | _, _ => none
def ltI (i j : Int) : Bool := decide (i < j)
def leI (i j : Int) : Bool := decide (i ≤ j)
def gtI (i j : Int) : Bool := decide (j < i)
def geI (i j : Int) : Bool := decide (j ≤ i)
open Classical in
noncomputable def intC (C : Int → Int → Prop) (g : Int → Int → Int) : D → D → Option W
  | .int i, .int j => if C i j then some (.v (.int (g i j))) else none
  | _, _ => none
def negD : D → Option W
  | .int i => some (.v (.int (-i)))
  | _ => none
def addD : D → D → Option W
  | .int i, .int j => some (.v (.int (i + j)))
  | .str i, .str j => if i.length + j.length ≤ 1000000 then some (.v (.str (i ++ j))) else none
  | .tup a, .tup b => if a.length + b.length ≤ 1000000 then some (.v (.tup (a ++ b))) else none
  | .lst a, .lst b => if a.length + b.length ≤ 1000000 then some (.f (.lst (a ++ b))) else none
  | _, _ => none
open Classical in
noncomputable def mulD : D → D → Option W
  | .int i, .int j => if CMul i j then some (.v (.int (i * j))) else none
  | .lst a, .int k => if -(2 ^ 63) ≤ k ∧ k < 2 ^ 63 ∧ a.length * k.toNat ≤ 1000000 then some (.f (.lst (List.replicate k.toNat a).flatten)) else none
  | _, _ => none
noncomputable def divD : D → D → Option W := intC CDiv fun i j => i / j
noncomputable def modD : D → D → Option W := intC (fun _ j => 0 < j) fun i j => i % j
noncomputable def powD : D → D → Option W := intC CPow fun i j => i ^ j.toNat
section
variable {K : FRG} {tb : List Addr}
theorem sub_s : OpS K tb (rI0 fun i j => .int (i - j)) subD := fun φ ψ H m x y dx dy w Q R hx hy e k => by
  unfold subD at e
  split at e
  · cases e; rw [hx.int, hy.int]
    exact ⟨_, _, rfl, rfl, Go.val k R (.int _)⟩
  · cases e
theorem cmp_s {p : Int → Int → Bool} : OpS K tb (rI0 fun i j => .bl (p i j)) (cmpD p) := fun φ ψ H m x y dx dy w Q R hx hy e k => by
  unfold cmpD at e
  split at e
  · cases e; rw [hx.int, hy.int]
    exact ⟨_, _, rfl, rfl, Go.val k R (.bl _)⟩
  · cases e
theorem intC_s {C : Int → Int → Prop} {g : Int → Int → Int} : OpS K tb (rI C fun i j => .int (g i j)) (intC C g) := fun φ ψ H m x y dx dy w Q R hx hy e k => by
  unfold intC at e
  split at e
  · split at e
    · rename_i hc
      cases e; rw [hx.int, hy.int]
      exact ⟨_, _, rfl, rfl, hc, Go.val k R (.int _)⟩
    · cases e
  · cases e
theorem neg_s : UnS K tb (rU fun i => .int (-i)) negD := fun φ ψ H m x dx w Q R hx e k => by
  unfold negD at e
  split at e
  · cases e; rw [hx.int]
    exact ⟨_, rfl, Go.val k R (.int _)⟩
  · cases e
abbrev rAdd (K : FRG) : R2 := fun x y H Q => (rI0 (fun i j => .int (i + j)) x y H Q) ∨ ((∃ i j, x = .str i ∧ y = .str j ∧ i.length + j.length ≤ sizeLine ∧ Q (.str (i ++ j)) H) ∨ (rCatA K x y H Q ∨ rCat x y H Q))
theorem op_addA {X : Cx} : OpR X (binaryOp .Add) (rAdd X.K) := op_add.or (op_add_str.or (op_catA.or op_cat))
theorem add_s : OpS K tb (rAdd K) addD := fun φ ψ H m x y dx dy w Q R hx hy e k => by
  unfold addD at e
  split at e
  · cases e; rw [hx.int, hy.int]
    exact .inl ⟨_, _, rfl, rfl, Go.val k R (.int _)⟩
  · split at e
    · rename_i hl
      cases e; rw [hx.str, hy.str]
      exact .inr (.inl ⟨_, _, rfl, rfl, small hl, Go.val k R (.str _)⟩)
    · cases e
  · split at e
    · rename_i hl
      cases e
      obtain ⟨a1, v1, rfl, h1, r1⟩ := hx.tupN
      obtain ⟨a2, v2, rfl, h2, r2⟩ := hy.tupN
      refine .inr (.inr (.inl ⟨_, _, _, _, rfl, rfl, h1.1, h2.1, small (by rw [← r1.length, ← r2.length]; exact hl), fun z => ?_, fun z1 z2 => ?_, fun z1 z2 p hp => Go.tup k R (r1.app r2) hp⟩))
      · subst z; cases r1; exact Go.val k R (.tup h2 r2)
      · subst z2; cases r2; rw [List.append_nil] at k; exact Go.val k R (.tup h1 r1)
    · cases e
  · split at e
    · rename_i hl
      cases e
      obtain ⟨a1, v1, rfl, h1, r1⟩ := hx.lst
      obtain ⟨a2, v2, rfl, h2, r2⟩ := hy.lst
      exact .inr (.inr (.inr ⟨_, _, _, _, rfl, rfl, h1, h2, small (by rw [← r1.length, ← r2.length]; exact hl), fun p hp => Go.lst k R (r1.app r2) hp⟩))
    · cases e
  · cases e
theorem Reps.rep : ∀ (n : Nat) {φ ψ : List Addr} {H : Hp} {ds : List D} {vs : List V}, Reps K φ ψ H ds vs → Reps K φ ψ H (List.replicate n ds).flatten (List.replicate n vs).flatten
  | 0, _, _, _, _, _, _ => .nil
  | n + 1, _, _, _, _, _, r => by
    rw [List.replicate_succ, List.replicate_succ, List.flatten_cons, List.flatten_cons]
    exact r.app (Reps.rep n r)
abbrev rMul : R2 := fun x y H Q => (rI CMul (fun i j => .int (i * j)) x y H Q) ∨ rRep x y H Q
theorem op_mulA {X : Cx} : OpR X (binaryOp .Mult) rMul := op_mul.or op_rep
theorem mul_s : OpS K tb rMul mulD := fun φ ψ H m x y dx dy w Q R hx hy e k => by
  unfold mulD at e
  split at e
  · split at e
    · rename_i hc
      cases e; rw [hx.int, hy.int]
      exact .inl ⟨_, _, rfl, rfl, hc, Go.val k R (.int _)⟩
    · cases e
  · split at e
    · rename_i hl
      cases e
      obtain ⟨a1, v1, rfl, h1, r1⟩ := hx.lst
      rw [hy.int]
      exact .inr ⟨_, _, _, rfl, rfl, h1, hl.1, hl.2.1, small (by rw [← r1.length]; exact hl.2.2), fun p hp => Go.lst k R (Reps.rep _ r1) hp⟩
    · cases e
  · cases e
theorem div_s : OpS K tb (rI CDiv fun i j => .int (i / j)) divD := intC_s
theorem mod_s : OpS K tb (rI (fun _ j => 0 < j) fun i j => .int (i % j)) modD := intC_s
theorem pow_s : OpS K tb (rI CPow fun i j => .int (i ^ j.toNat)) powD := intC_s
theorem lt_s : OpS K tb (rI0 fun i j => .bl (decide (i < j))) (cmpD ltI) := cmp_s
theorem gt_s : OpS K tb (rI0 fun i j => .bl (decide (j < i))) (cmpD gtI) := cmp_s
theorem ge_s : OpS K tb (rI0 fun i j => .bl (decide (j ≤ i))) (cmpD geI) := cmp_s
end
mutual
def pyD : D → Option PyData
  | .non => some .none
  | .bl b => some (.bool b)
  | .int i => some (.int i)
  | .str x => some (.str x)
  | .tup ds => (pyDs ds).bind fun ps => some (.tuple ps)
  | .fl ds => (pyDs ds).bind fun ps => some (.list ps)
  | .lst ds => (pyDs ds).bind fun ps => some (.list ps)
  | .tx _ => none
  | .dk _ => none
  | .dt _ => none
  | .rl _ _ => none
def pyDs : List D → Option (List PyData)
  | [] => some []
  | d :: ds => (pyD d).bind fun x => (pyDs ds).bind fun xs => some (x :: xs)
end
section
variable {K : FRG} {tb : List Addr}
mutual
theorem pyD_dp {φ ψ : List Addr} {H : Hp} : ∀ {d : D} {v : V} {p : PyData}, Rep K φ ψ H d v → pyD d = some p → Dp K H v p
  | .non, v, p, h, e => by cases h; rw [pyD] at e; cases e; exact .non
  | .bl b, v, p, h, e => by cases h; rw [pyD] at e; cases e; exact .bl b
  | .int i, v, p, h, e => by cases h; rw [pyD] at e; cases e; exact .int i
  | .str x, v, p, h, e => by cases h; rw [pyD] at e; cases e; exact .str x
  | .tup ds, v, p, h, e => by
    rw [pyD] at e
    obtain ⟨ps, e1, e⟩ := bnd e
    cases e
    cases h with
    | tup h r => exact .tup h.1 (pyDs_dp r e1)
  | .fl ds, v, p, h, e => by
    rw [pyD] at e
    obtain ⟨ps, e1, e⟩ := bnd e
    cases e
    cases h with
    | fl h r => exact .lst h.sq (pyDs_dp r e1)
  | .lst ds, v, p, h, e => by
    rw [pyD] at e
    obtain ⟨ps, e1, e⟩ := bnd e
    cases e
    cases h with
    | lst h1 h2 h r => exact .lst (SqL.of h) (pyDs_dp r e1)
  | .tx _, v, p, h, e => by rw [pyD] at e; cases e
  | .dk _, v, p, h, e => by rw [pyD] at e; cases e
  | .dt _, v, p, h, e => by rw [pyD] at e; cases e
  | .rl _ _, v, p, h, e => by rw [pyD] at e; cases e
theorem pyDs_dp {φ ψ : List Addr} {H : Hp} : ∀ {ds : List D} {vs : List V} {ps : List PyData}, Reps K φ ψ H ds vs → pyDs ds = some ps → DpAll K H vs ps
  | [], vs, ps, h, e => by cases h; rw [pyDs] at e; cases e; exact .nil
  | d :: ds, vs, ps, h, e => by
    rw [pyDs] at e
    obtain ⟨p, e1, e⟩ := bnd e
    obtain ⟨qs, e2, e⟩ := bnd e
    cases e
    cases h with
    | cons h r => exact .cons (pyD_dp h e1) (pyDs_dp r e2)
end
theorem RepC.dp {φ ψ : List Addr} {H : Hp} {d : D} {v : V} {p : PyData} (h : RepC K φ ψ H d v) (e : pyD d = some p) : Dp K H v p := by
  rcases h with h | ⟨a, mo, rfl, rfl, q⟩
  · exact pyD_dp h e
  · cases mo with
    | lst ds =>
      rw [moD, pyD] at e
      obtain ⟨ps, e1, e⟩ := bnd e
      cases e
      obtain ⟨vs, q1, q2⟩ := q
      exact .lst (SqL.of q1) (pyDs_dp q2 e1)
    | dk kvs => rw [moD, pyD] at e; cases e
    | dt kvs => rw [moD, pyD] at e; cases e
    | rl b k => rw [moD, pyD] at e; cases e
def sc : D → Option V
  | .non => some .non
  | .bl b => some (.bl b)
  | .int i => some (.int i)
  | .str x => some (.str x)
  | _ => none
theorem sc_rep {φ ψ : List Addr} {H : Hp} {d : D} {v w : V} (h : RepC K φ ψ H d v) (e : sc d = some w) : v = w := by
  cases d <;> first | (cases e; first | exact h.non | exact h.bl | exact h.int | exact h.str) | (cases e)
def eqB (neg : Bool) (dx dy : D) : Option Bool := match sc dx, sc dy with
  | some x, some y => if scal x y = true then some (decide (x = y) != neg) else none
  | _, _ => match pyD dx, pyD dy with
    | some p, some q => if SeqAt.shaped p = true ∧ SeqAt.shaped q = true then some (PyData.eqv p q != neg) else none
    | _, _ => none
def eqD (neg : Bool) : D → D → Option W := fun dx dy => (eqB neg dx dy).bind fun b => some (.v (.bl b))
abbrev rEqA (K : FRG) : R2 := fun x y H Q => rEq x y H Q ∨ rEqD K x y H Q
abbrev rNeA (K : FRG) : R2 := fun x y H Q => rNe x y H Q ∨ rNeD K x y H Q
theorem op_eqA {X : Cx} (hu : X.A.units + 64 < cLine) : OpR X (compareOp .Eq) (rEqA X.K) := op_eq.or (op_eqD hu)
theorem op_neA {X : Cx} (hu : X.A.units + 64 < cLine) : OpR X (compareOp .NotEq) (rNeA X.K) := op_ne.or (op_neD hu)
theorem eq_s : OpS K tb (rEqA K) (eqD false) := fun φ ψ H m x y dx dy w Q R hx hy e k => by
  obtain ⟨b, e1, e2⟩ := bnd e
  cases e2
  unfold eqB at e1
  split at e1
  · rename_i a c h1 h2
    split at e1
    · rename_i hs
      cases e1
      rw [sc_rep hx h1, sc_rep hy h2]
      exact .inl ⟨hs, Go.val k R (by rw [Bool.bne_false]; exact .bl _)⟩
    · cases e1
  · split at e1
    · rename_i p q h1 h2
      split at e1
      · rename_i hs
        cases e1
        exact .inr ⟨p, q, hx.dp h1, hy.dp h2, hs.1, hs.2, Go.val k R (by rw [Bool.bne_false]; exact .bl _)⟩
      · cases e1
    · cases e1
theorem ne_s : OpS K tb (rNeA K) (eqD true) := fun φ ψ H m x y dx dy w Q R hx hy e k => by
  obtain ⟨b, e1, e2⟩ := bnd e
  cases e2
  unfold eqB at e1
  split at e1
  · rename_i a c h1 h2
    split at e1
    · rename_i hs
      cases e1
      rw [sc_rep hx h1, sc_rep hy h2]
      exact .inl ⟨hs, Go.val k R (by rw [Bool.bne_true]; exact .bl _)⟩
    · cases e1
  · split at e1
    · rename_i p q h1 h2
      split at e1
      · rename_i hs
        cases e1
        exact .inr ⟨p, q, hx.dp h1, hy.dp h2, hs.1, hs.2, Go.val k R (by rw [Bool.bne_true]; exact .bl _)⟩
      · cases e1
    · cases e1
def ixD : D → D → Option W
  | .tup ds, .int i => (atI ds i).bind fun d => some (.v d)
  | .fl ds, .int i => (atI ds i).bind fun d => some (.v d)
  | .lst ds, .int i => (atI ds i).bind fun d => some (.v d)
  | _, _ => none
theorem Reps.at {φ ψ : List Addr} {H : Hp} {ds : List D} {vs : List V} {i : Int} {d : D} (r : Reps K φ ψ H ds vs) (e : atI ds i = some d) : ∃ v, atI vs i = some v ∧ Rep K φ ψ H d v := by
  unfold atI at e ⊢
  obtain ⟨j, e1, e2⟩ := bnd e
  obtain ⟨v, h1, h2⟩ := r.get e2
  exact ⟨v, by rw [← r.length, e1]; exact h1, h2⟩
abbrev rIxLT (K : FRG) : R2 := fun x y H Q => rIxL K x y H Q ∨ rIxT K x y H Q
theorem ix_lt {X : Cx} : IxR X (rIxLT X.K) := ix_list.or ix_tup
theorem ix_s : OpS K tb (rIxLT K) ixD := fun φ ψ H m x y dx dy w Q R hx hy e k => by
  unfold ixD at e
  split at e
  · obtain ⟨z, e1, e2⟩ := bnd e
    cases e2
    obtain ⟨a, vs, rfl, h, r⟩ := hx.tup
    rw [hy.int]
    obtain ⟨v, h1, h2⟩ := r.at e1
    exact .inr ⟨_, _, _, v, rfl, rfl, h, h1, Go.val k R h2⟩
  · obtain ⟨z, e1, e2⟩ := bnd e
    cases e2
    obtain ⟨a, vs, rfl, h, r⟩ := hx.fl
    rw [hy.int]
    obtain ⟨v, h1, h2⟩ := r.at e1
    exact .inl ⟨_, _, _, v, rfl, rfl, h, h1, Go.val k R h2⟩
  · obtain ⟨z, e1, e2⟩ := bnd e
    cases e2
    obtain ⟨a, vs, rfl, h, r⟩ := hx.lst
    rw [hy.int]
    obtain ⟨v, h1, h2⟩ := r.at e1
    exact .inl ⟨_, _, _, v, rfl, rfl, SqL.of h, h1, Go.val k R h2⟩
  · cases e
theorem ex_ix {X : Cx} {tb : List Addr} {a b : Expr} {fa fb : Ex} {pos : Pos} (ha : PE X a (T X.K tb fa)) (hb : PE X b (T X.K tb fb)) (hs : PlainIx b := by exact fun _ _ => rfl) : PE X (.Subscript a b pos) (T X.K tb (eOp ixD fa fb)) :=
  pe_mono (pe_ix ix_lt ha hb hs) fun _ _ _ h => op_go ix_s h
abbrev Ox := Env → Mem → Option (Option Int × Mem)
def To (K : FRG) (tb : List Addr) (f : Ox) : TO := fun σ H Q => ∃ φ ψ ρ m o m', Rel K tb φ ψ H m ∧ RE K φ ψ H ρ σ ∧ f ρ m = some (o, m') ∧ ∀ φ' H', Post φ ψ H φ' ψ H' → Rel K tb φ' ψ H' m' → Q o H'
def oNone : Ox := fun _ m => some (none, m)
def inD' : D → Option Int
  | .int i => some i
  | _ => none
def oSome (a : Ex) : Ox := fun ρ m => (a ρ m).bind fun p => (gt p.1 p.2).bind fun d => (inD' d).bind fun i => some (some i, p.2)
theorem inD_v {φ ψ : List Addr} {H : Hp} {d : D} {v : V} {i : Int} (h : RepC K φ ψ H d v) (e : inD' d = some i) : v = .int i := by
  unfold inD' at e
  split at e
  · cases e; exact h.int
  · cases e
theorem po_mono {X : Cx} {e : Option Expr} {t t' : TO} (h : PO X e t) (i : ∀ σ H Q, t' σ H Q → t σ H Q) : PO X e t' := ⟨fun pins s σ H Q I q => h.run pins s σ H Q I (i σ H Q q)⟩
theorem ox_none {X : Cx} {tb : List Addr} : PO X none (To X.K tb oNone) := po_mono po_none fun σ H Q ⟨φ, ψ, ρ, m, d, m', R, E, e, k⟩ => by
  cases e; exact k φ H .refl R
theorem ox_some {X : Cx} {tb : List Addr} {a : Expr} {fa : Ex} (ha : PE X a (T X.K tb fa)) : PO X (some a) (To X.K tb (oSome fa)) := by
  refine po_mono (po_some ha) fun σ H Q ⟨φ, ψ, ρ, m, d, m', R, E, e, k⟩ => ?_
  obtain ⟨⟨w1, m1⟩, e1, e⟩ := bnd e
  obtain ⟨d1, e2, e⟩ := bnd e
  obtain ⟨i, e3, e⟩ := bnd e
  cases e
  exact ⟨φ, ψ, ρ, m, w1, _, R, E, e1, fun φ1 ψ1 H1 x P1 R1 V1 => ⟨_, inD_v (gt_c (V1.rel R1) (V1.s R1) e2) e3, k φ1 H1 (V1.post P1) (V1.rel R1)⟩⟩
def cutD (ds : List D) (lo hi : Option Int) : List D := (ds.drop (HT.sIx ds.length 0 lo)).take (HT.sIx ds.length ds.length hi - HT.sIx ds.length 0 lo)
theorem Reps.cut {φ ψ : List Addr} {H : Hp} {ds : List D} {vs : List V} (r : Reps K φ ψ H ds vs) (lo hi : Option Int) : Reps K φ ψ H (cutD ds lo hi) (cutV vs lo hi) := by
  unfold cutD cutV
  rw [r.length]
  exact (r.drop _).take _
def slcD : D → Option Int → Option Int → Option W
  | .lst ds, lo, hi => some (.f (.lst (cutD ds lo hi)))
  | .fl ds, lo, hi => some (.f (.lst (cutD ds lo hi)))
  | .tup ds, lo, hi => some (.v (.tup (cutD ds lo hi)))
  | _, _, _ => none
def eSlc (a : Ex) (lo hi : Ox) : Ex := fun ρ m => (a ρ m).bind fun p => (lo ρ p.2).bind fun l => (hi ρ l.2).bind fun h => (gt p.1 h.2).bind fun d => (slcD d l.1 h.1).bind fun w => some (w, h.2)
abbrev rSlLT (K : FRG) : V → Option Int → Option Int → Hp → VK → Prop := fun x lo hi H Q => rSlL K x lo hi H Q ∨ rSlA K x lo hi H Q
theorem sl_lt {X : Cx} : SlR X (rSlLT X.K) := sl_list.or sl_tupA
theorem cut_whole {ds : List D} {lo hi : Option Int} (h : HT.sIx ds.length 0 lo = 0 ∧ HT.sIx ds.length ds.length hi = ds.length) : cutD ds lo hi = ds := by
  unfold cutD
  rw [h.1, h.2]
  simp
theorem ex_sl {X : Cx} {tb : List Addr} {a : Expr} {lo hi : Option Expr} {fa : Ex} {fl fh : Ox} {pos p2 : Pos} (ha : PE X a (T X.K tb fa)) (hl : PO X lo (To X.K tb fl)) (hh : PO X hi (To X.K tb fh)) : PE X (.Subscript a (.Slice lo hi none p2) pos) (T X.K tb (eSlc fa fl fh)) := by
  refine pe_mono (pe_slice sl_lt ha hl hh) fun σ H Q ⟨φ, ψ, ρ, m, w, m', R, E, e, k⟩ => ?_
  obtain ⟨⟨w1, m1⟩, e1, e⟩ := bnd e
  obtain ⟨⟨o2, m2⟩, e2, e⟩ := bnd e
  obtain ⟨⟨o3, m3⟩, e3, e⟩ := bnd e
  obtain ⟨d, ed, e⟩ := bnd e
  obtain ⟨w2, eg, e⟩ := bnd e
  cases e
  refine ⟨φ, ψ, ρ, m, w1, m1, R, E, e1, fun φ1 ψ1 H1 x P1 R1 V1 => ⟨φ1, ψ, ρ, m1, o2, m2, V1.rel R1, E.mono (V1.post P1) R, e2, fun φ2 H2 P2 R2 => ⟨φ2, ψ, ρ, m2, o3, _, R2, E.mono ((V1.post P1).trans P2) R, e3, fun φ3 H3 P3 R3 => ?_⟩⟩⟩
  have P := (V1.post P1).trans (P2.trans P3)
  have C := gt_c R3 ((V1.s R1).mono (P2.trans P3) (V1.rel R1)) ed
  have k' : Go X.K tb φ3 ψ H3 _ w Q := fun φ4 ψ4 H4 v P4 R4 V4 => k φ4 ψ4 H4 v (P.trans P4) R4 V4
  have e' : slcD d o2 o3 = some w := eg
  unfold slcD at e'
  split at e'
  · cases e'
    obtain ⟨q, vs, rfl, hq, r⟩ := C.lst
    exact .inl ⟨q, vs, rfl, SqL.of hq, fun p hp => Go.lst k' R3 (r.cut _ _) hp⟩
  · cases e'
    obtain ⟨q, vs, rfl, hq, r⟩ := C.fl
    exact .inl ⟨q, vs, rfl, hq, fun p hp => Go.lst k' R3 (r.cut _ _) hp⟩
  · cases e'
    obtain ⟨q, vs, rfl, hq, r⟩ := C.tupN
    refine .inr ⟨_, _, rfl, hq.1, fun z => ?_, fun z p hp => Go.tup k' R3 (r.cut _ _) hp⟩
    rw [← r.length] at z
    rw [cut_whole z] at k'
    exact Go.val k' R3 (.tup hq r)
  · cases e'
end
end Pw
end
section
set_option Elab.async false
set_option linter.all false
set_option maxRecDepth 100000
set_option maxHeartbeats 1000000
namespace Pw
open PySem PySem.Spec PyProof.Rows L2
def ownW : W → Mem → Option (W × Mem)
  | .f d, m => (dMO d).bind fun mo => some (.r m.length, m ++ [mo])
  | .r n, m => some (.r n, m)
  | .v _, _ => none
def eOwn (a : Ex) : Ex := fun ρ m => (a ρ m).bind fun p => ownW p.1 p.2
theorem own_go {K : FRG} {tb : List Addr} {f : Ex} {σ : L2.St} {H : Hp} {Q : VK} (h : T K tb (eOwn f) σ H Q) : T K tb f σ H Q := by
  obtain ⟨φ, ψ, ρ, m, w, m', R, E, e, k⟩ := h
  obtain ⟨⟨w1, m1⟩, e1, e⟩ := bnd e
  refine ⟨φ, ψ, ρ, m, w1, m1, R, E, e1, fun φ1 ψ1 H1 v P1 R1 V1 => ?_⟩
  cases w1 with
  | v d => cases e
  | r n => cases e; exact k φ1 ψ1 H1 v P1 R1 V1
  | f d =>
    obtain ⟨mo, e2, e⟩ := bnd (show (dMO d).bind _ = _ from e)
    cases e
    obtain ⟨p, mo', rfl, rfl, np, rfl, q⟩ := V1
    have : mo' = mo := by cases mo' <;> cases e2 <;> rfl
    subst this
    exact k (φ1 ++ [p]) ψ H1 _ (P1.own np) (R1.own np q) ⟨rfl, p, by rw [← R1.len]; simp, rfl⟩
theorem ex_own {X : Cx} {tb : List Addr} {a : Expr} {fa : Ex} (h : PE X a (T X.K tb fa)) : PE X a (T X.K tb (eOwn fa)) := pe_mono h fun _ _ _ => own_go
def sNil : Sx := fun ρ m => some (.nx, ρ, m)
def sSeq (a b : Sx) : Sx := fun ρ m => (a ρ m).bind fun r => match r.1 with
  | .nx => b r.2.1 r.2.2
  | o => some (o, r.2.1, r.2.2)
def sRet (a : Ex) : Sx := fun ρ m => (a ρ m).bind fun p => some (.ret p.1, ρ, p.2)
def sDrop (a : Ex) : Sx := fun ρ m => (a ρ m).bind fun p => some (.nx, ρ, p.2)
def sIf (t : Tx) (a b : Sx) : Sx := fun ρ m => (t ρ m).bind fun p => if p.1 = true then a ρ p.2 else b ρ p.2
def sSet (i : Nat) (a : Ex) : Sx := fun ρ m => (a ρ m).bind fun p => some (.nx, ρ.set i (some (stl p.1)), p.2)
def sFog (vs : List Nat) (a : Sx) : Sx := fun ρ m => (a ρ m).bind fun r => some (r.1, wipeD r.2.1 vs, r.2.2)
def vl : W → Option D
  | .v d => some d
  | .f d => some d
  | .r _ => none
theorem vl_rep {K : FRG} {φ ψ : List Addr} {H : Hp} {w : W} {v : V} {d : D} (h : RepS K φ ψ H w v) (e : vl w = some d) : Rep K φ ψ H d v := by
  cases w <;> first | (cases e; exact h) | (cases e)
def putD : W → D → D → Mem → Option Mem
  | .r n, .int i, d, m => match m[n]? with
    | some (.lst ds) => (ixN ds.length i).map fun j => m.set n (.lst (ds.set j d))
    | _ => none
  | _, _, _, _ => none
def sPut (o i a : Ex) : Sx := fun ρ m => (a ρ m).bind fun p => (o ρ p.2).bind fun q => (i ρ q.2).bind fun r => (vl p.1).bind fun d => (gt r.1 r.2).bind fun i => (putD q.1 i d r.2).bind fun m' => some (.nx, ρ, m')
section
variable {X : Cx} {tb : List Addr} {a b c : Expr} {fa fb fc : Ex} {ft : Tx} {st : Stmt} {rest rest' : List Stmt} {g h : Sx} {pos : Pos}
theorem bs_nil : PSs X [] (Ts X.K tb sNil) := pss_mono pss_nil fun D σ H ⟨φ, ψ, ρ, m, o, ρ', m', R, E, e, k⟩ => by
  cases e; exact k φ ψ H .refl R rfl σ E
theorem bs_cons (h1 : PS X st (Ts X.K tb g)) (h2 : PSs X rest (Ts X.K tb h)) : PSs X (st :: rest) (Ts X.K tb (sSeq g h)) := by
  refine pss_mono (pss_cons h1 h2) fun D σ H ⟨φ, ψ, ρ, m, o, ρ', m', R, E, e, k⟩ => ?_
  obtain ⟨⟨o1, ρ1, m1⟩, e1, e⟩ := bnd e
  refine ⟨φ, ψ, ρ, m, o1, ρ1, m1, R, E, e1, fun φ1 ψ1 H1 P1 R1 => ?_⟩
  cases o1 with
  | nx =>
    intro z σ1 E1
    subst z
    exact ⟨φ1, _, ρ1, m1, o, ρ', m', R1, E1, e, fun φ2 ψ2 H2 P2 R2 => k φ2 ψ2 H2 (P1.trans P2) R2⟩
  | bk => cases e; exact k φ1 ψ1 H1 P1 R1
  | ct => cases e; exact k φ1 ψ1 H1 P1 R1
  | ret d => cases e; exact k φ1 ψ1 H1 P1 R1
theorem bs_one (h1 : PS X st (Ts X.K tb g)) : PSs X [st] (Ts X.K tb g) := pss_one h1
theorem bs_fog (vs : List Nat) (h1 : PS X st (Ts X.K tb g)) : PS X st (Ts X.K tb (sFog vs g)) := by
  refine ps_mono h1 fun D σ H ⟨φ, ψ, ρ, m, o, ρ', m', R, E, e, k⟩ => ?_
  obtain ⟨⟨o1, ρ1, m1⟩, e1, e⟩ := bnd e
  cases e
  refine ⟨φ, ψ, ρ, m, o1, ρ1, _, R, E, e1, fun φ1 ψ1 H1 P1 R1 => ?_⟩
  have q := k φ1 ψ1 H1 P1 R1
  cases o1 with
  | nx => exact fun z σ1 E1 => q z σ1 (E1.fog vs)
  | bk => exact fun z σ1 E1 => q z σ1 (E1.fog vs)
  | ct => exact fun z σ1 E1 => q z σ1 (E1.fog vs)
  | ret d => exact q
theorem bs_ret (ha : PE X a (T X.K tb fa)) : PS X (.Return (some a) pos) (Ts X.K tb (sRet fa)) := by
  refine ps_mono (ps_ret ha) fun D σ H ⟨φ, ψ, ρ, m, o, ρ', m', R, E, e, k⟩ => ?_
  obtain ⟨⟨d1, m1⟩, e1, e⟩ := bnd e
  cases e
  exact ⟨φ, ψ, ρ, m, d1, _, R, E, e1, fun φ1 ψ1 H1 v P1 R1 V1 => k φ1 ψ1 H1 P1 R1 v V1⟩
theorem bs_drop (ha : PE X a (T X.K tb fa)) (hs : swapsWith a none pos.line X.env = pure false := by rfl) : PS X (.Expr a pos) (Ts X.K tb (sDrop fa)) := by
  refine ps_mono (ps_expr ha hs) fun D σ H ⟨φ, ψ, ρ, m, o, ρ', m', R, E, e, k⟩ => ?_
  obtain ⟨⟨d1, m1⟩, e1, e⟩ := bnd e
  cases e
  exact ⟨φ, ψ, ρ, m, d1, _, R, E, e1, fun φ1 ψ1 H1 v P1 R1 V1 => k φ1 ψ H1 (V1.post P1) (V1.rel R1) rfl σ (E.mono (V1.post P1) R)⟩
theorem bs_if (hc : PT X c (Tt X.K tb ft)) (h1 : PSs X rest (Ts X.K tb g)) (h2 : PSs X rest' (Ts X.K tb h)) : PS X (.If c rest rest' pos) (Ts X.K tb (sIf ft g h)) := by
  refine ps_mono (ps_if hc h1 h2) fun D σ H ⟨φ, ψ, ρ, m, o, ρ', m', R, E, e, k⟩ => ?_
  obtain ⟨⟨b1, m1⟩, e1, e⟩ := bnd e
  refine ⟨φ, ψ, ρ, m, b1, m1, R, E, e1, fun φ1 H1 P1 R1 => ?_⟩
  cases b1 with
  | true => exact iteT ⟨φ1, ψ, ρ, m1, o, ρ', m', R1, E.mono P1 R, e, fun φ2 ψ2 H2 P2 R2 => k φ2 ψ2 H2 (P1.trans P2) R2⟩
  | false => exact iteF ⟨φ1, ψ, ρ, m1, o, ρ', m', R1, E.mono P1 R, e, fun φ2 ψ2 H2 P2 R2 => k φ2 ψ2 H2 (P1.trans P2) R2⟩
theorem set_go {i : Nat} {D : Ends} {σ : L2.St} {H : Hp} (h : Ts X.K tb (sSet i fa) D σ H) : tAsg (T X.K tb fa) (gName i) D σ H := by
  obtain ⟨φ, ψ, ρ, m, o, ρ', m', R, E, e, k⟩ := h
  obtain ⟨⟨d1, m1⟩, e1, e⟩ := bnd e
  cases e
  exact ⟨φ, ψ, ρ, m, d1, _, R, E, e1, fun φ1 ψ1 H1 v P1 R1 V1 => k φ1 ψ H1 (V1.post P1) (V1.rel R1) rfl _ ((E.mono (V1.post P1) R).set i (V1.s R1).stl)⟩
theorem bs_set (i : Nat) {x : Str} {pos' : Pos} (hN : X.N.Nodup) (ha : PE X a (T X.K tb fa)) (hi : X.N[i]? = some x := by rfl) (hx : Loc X.env.scope x := by first | exact Or.inl rfl | exact Or.inr rfl) (hs : swapsWith a (some (.Name x pos')) pos.line X.env = pure false := by rfl)
    (hf : X.fn x = true ∨ X.env.scope.names.lookup x = some .local := by first | exact .inl rfl | exact .inr rfl | assumption) : PS X (.Assign [.Name x pos'] a pos) (Ts X.K tb (sSet i fa)) :=
  ps_mono (ps_set hN hi hx ha hs hf) fun _ _ _ h => set_go h
theorem bs_put {o i : Expr} {fo fi : Ex} {tpos : Pos} (ho : PE X o (T X.K tb fo)) (hi : PE X i (T X.K tb fi)) (ha : PE X a (T X.K tb fa))
    (hss : ∀ v, assign (.Subscript o i tpos) X.env v = (do
      let ov ← holding [v] (eval o X.env)
      let iv ← holding [v, ov] (eval i X.env)
      standAt tpos
      holding [v, ov, iv] (setItem ov iv v)
      release [v, ov, iv] []) := by intro _; rfl)
    (hs : swapsWithSole [.Subscript o i tpos] a pos.line X.env = pure false := by rfl) (hw : swappedStores [.Subscript o i tpos] a X.env = pure none := by rfl)
    (h1 : (assignEach [.Subscript o i tpos] X.env).map (·.2) = [assign (.Subscript o i tpos) X.env] := by rfl) : PS X (.Assign [.Subscript o i tpos] a pos) (Ts X.K tb (sPut fo fi fa)) := by
  refine ps_mono (ps_asg ha (pg_sub ho hi set_list hss) hs hw h1) fun D σ H ⟨φ, ψ, ρ, m, o', ρ', m', R, E, e, k⟩ => ?_
  obtain ⟨⟨w1, m1⟩, e1, e⟩ := bnd e
  obtain ⟨⟨w2, m2⟩, e2, e⟩ := bnd e
  obtain ⟨⟨w3, m3⟩, e3, e⟩ := bnd e
  obtain ⟨d1, ev, e⟩ := bnd e
  obtain ⟨d3, eg, e⟩ := bnd e
  obtain ⟨m4, e4, e⟩ := bnd e
  cases e
  refine ⟨φ, ψ, ρ, m, w1, m1, R, E, e1, fun φ1 ψ1 H1 v P1 R1 V1 => ⟨φ1, ψ, ρ, m1, w2, m2, V1.rel R1, E.mono (V1.post P1) R, e2, fun φ2 ψ2 H2 x P2 R2 V2 => ⟨φ2, ψ, ρ, m2, w3, m3, V2.rel R2, E.mono ((V1.post P1).trans (V2.post P2)) R, e3, fun φ3 ψ3 H3 y P3 R3 V3 => ?_⟩⟩⟩
  have R3' := V3.rel R3
  have P3' := V3.post P3
  have e4' : putD w2 d3 d1 m3 = some m' := e4
  have P123 := (V1.post P1).trans ((V2.post P2).trans P3')
  unfold putD at e4'
  split at e4'
  · rename_i n i _ _
    split at e4'
    · rename_i hm
      obtain ⟨j, hj, rfl⟩ := Option.map_eq_some_iff.mp e4'
      have hy := (gt_c R3' (V3.s R3) eg).int
      subst hy
      obtain ⟨q, h1, rfl⟩ := (V2.s R2).mono P3' (V2.rel R2)
      obtain ⟨vs, hq, r⟩ := R3'.obj _ _ q hm h1
      have V1' := (vl_rep (V1.s R1) ev).mono ((V2.post P2).trans P3') (V1.rel R1)
      have hmem := List.mem_of_getElem? h1
      have Pw : Post φ3 ψ H3 φ3 ψ _ := Post.wr (o := .lst (vs.set j v)) hmem (R3'.trk hmem)
      refine ⟨q, vs, _, j, rfl, rfl, hq, by rw [← r.length]; exact hj, ?_⟩
      have P := P123.trans Pw
      exact k φ3 ψ _ P (R3'.wrL h1 (r.set V1' j)) rfl σ (E.mono P R)
    · cases e4'
  · cases e4'
end
inductive Itm where
  | seq (ds : List D)
  | lst (n : Nat)
  | zip (a b : Itm)
def itemsAt : Itm → Mem → Option (List D)
  | .seq ds, _ => some ds
  | .lst n, m => match m[n]? with
    | some (.lst ds) => some ds
    | _ => none
  | .zip a b, m => (itemsAt a m).bind fun xs => (itemsAt b m).bind fun ys => some (List.zipWith (fun x y => D.tup [x, y]) xs ys)
abbrev Ix := Env → Mem → Option (Itm × Mem)
def ItR (K : FRG) (tb : List Addr) (φ' ψ : List Addr) (H' : Hp) (J : It) (it : Itm) : Prop := ∀ φ2 ψ2 H2 m2 xs, Post φ' ψ H' φ2 ψ2 H2 → Rel K tb φ2 ψ2 H2 m2 → itemsAt it m2 = some xs →
  (∀ (i : Nat) (d : D), xs[i]? = some d → J.go i H2 ∧ ∀ x H3, J.yld i H2 x H3 → Post φ2 ψ2 H2 φ2 ψ2 H3 ∧ Rel K tb φ2 ψ2 H3 m2 ∧ Rep K φ2 ψ2 H3 d x ∧ (∀ b o, H2 b = some o → H3 b = some o)) ∧ ∀ i, xs.length ≤ i → J.stop i H2
def Ti (K : FRG) (tb : List Addr) (f : Ix) : TI := fun σ H Q => ∃ φ ψ ρ m it m', Rel K tb φ ψ H m ∧ RE K φ ψ H ρ σ ∧ f ρ m = some (it, m') ∧ ∀ φ' H' J, Post φ ψ H φ' ψ H' → Rel K tb φ' ψ H' m' → ItR K tb φ' ψ H' J it → Q J H'
theorem pi_mono {X : Cx} {tg e : Expr} {t t' : TI} (h : PI X tg e t) (i : ∀ σ H Q, t' σ H Q → t σ H Q) : PI X tg e t' := ⟨fun pins s σ H Q I q => h.run pins s σ H Q I (i σ H Q q)⟩
theorem pi_or {X : Cx} {tg e : Expr} {t t' : TI} (h : PI X tg e t) (h' : PI X tg e t') : PI X tg e (fun σ H Q => t σ H Q ∨ t' σ H Q) := ⟨fun pins s σ H Q I q => q.elim (h.run pins s σ H Q I) (h'.run pins s σ H Q I)⟩
def srcV : D → Option Itm
  | .tup ds => some (.seq ds)
  | .fl ds => some (.seq ds)
  | .lst ds => some (.seq ds)
  | _ => none
def srcW : W → Mem → Option Itm
  | .v d, _ => srcV d
  | .f d, _ => srcV d
  | .r n, m => match m[n]? with
    | some (.lst _) => some (.lst n)
    | _ => none
def iSeq (a : Ex) : Ix := fun ρ m => (a ρ m).bind fun p => (srcW p.1 p.2).bind fun it => some (it, p.2)
theorem Rep.is {K : FRG} {φ ψ : List Addr} {H : Hp} {d : D} {v w : V} (h : Rep K φ ψ H d v) (e : v = w) : Rep K φ ψ H d w := e ▸ h
theorem ix_seq' {X : Cx} {tb : List Addr} {tg a : Expr} {fa : Ex} (ha : PE X a (T X.K tb fa)) : PI X tg a (Ti X.K tb (iSeq fa)) := by
  refine pi_mono (pi_or (pi_list ha) (pi_tup ha)) fun σ H Q ⟨φ, ψ, ρ, m, it, m', R, E, e, k⟩ => ?_
  obtain ⟨⟨w1, m1⟩, e1, e⟩ := bnd e
  obtain ⟨it', e2, e⟩ := bnd e
  obtain ⟨rfl, rfl⟩ : it' = it ∧ m1 = m' := by cases e; exact ⟨rfl, rfl⟩
  have e2' : srcW w1 m1 = some it' := e2
  have val : ∀ d, vl w1 = some d → srcV d = some it' → iList X.K (T X.K tb fa) σ H Q ∨ iTup X.K (T X.K tb fa) σ H Q := fun d hv hs => by
    unfold srcV at hs
    split at hs
    · cases hs
      refine .inr ⟨φ, ψ, ρ, m, _, m1, R, E, e1, fun φ1 ψ1 H1 v P1 R1 V1 => ?_⟩
      have R1' := V1.rel R1
      cases vl_rep (V1.s R1) hv with
      | tup h r =>
        refine ⟨_, rfl, ⟨_, h.1⟩, k φ1 H1 _ (V1.post P1) R1' fun φ2 ψ2 H2 m2 xs P2 R2 ex => ?_⟩
        cases ex
        have h2 := P2.sqT R1' h.1
        have r2 := r.mono P2 R1'
        refine ⟨fun i d hd => ?_, fun i hi => ⟨_, h2, by rw [← r2.length]; exact hi⟩⟩
        obtain ⟨w, hw, rw⟩ := r2.get hd
        refine ⟨⟨_, w, h2, hw⟩, fun x H3 hy => ?_⟩
        obtain ⟨rfl, hy⟩ := hy
        exact ⟨.refl, R2, rw.is (Option.some.inj (hw.symm.trans (hy _ h2))), fun _ _ z => z⟩
    · cases hs
      refine .inl ⟨φ, ψ, ρ, m, _, m1, R, E, e1, fun φ1 ψ1 H1 v P1 R1 V1 => ?_⟩
      have R1' := V1.rel R1
      cases vl_rep (V1.s R1) hv with
      | fl h r =>
        refine ⟨_, rfl, ⟨_, h.sq⟩, k φ1 H1 _ (V1.post P1) R1' fun φ2 ψ2 H2 m2 xs P2 R2 ex => ?_⟩
        cases ex
        have h2 := (P2.fz R1' h).sq
        have r2 := r.mono P2 R1'
        refine ⟨fun i d hd => ?_, fun i hi => ⟨_, h2, by rw [← r2.length]; exact hi⟩⟩
        obtain ⟨w, hw, rw⟩ := r2.get hd
        refine ⟨⟨_, w, h2, hw⟩, fun x H3 hy => ?_⟩
        obtain ⟨rfl, hy⟩ := hy
        exact ⟨.refl, R2, rw.is (Option.some.inj (hw.symm.trans (hy _ h2))), fun _ _ z => z⟩
    · cases hs
      refine .inl ⟨φ, ψ, ρ, m, _, m1, R, E, e1, fun φ1 ψ1 H1 v P1 R1 V1 => ?_⟩
      have R1' := V1.rel R1
      cases vl_rep (V1.s R1) hv with
      | lst g1 g2 h r =>
        refine ⟨_, rfl, ⟨_, SqL.of h⟩, k φ1 H1 _ (V1.post P1) R1' fun φ2 ψ2 H2 m2 xs P2 R2 ex => ?_⟩
        cases ex
        have h2 : SqL X.K H2 _ _ := SqL.of (P2.off g1 g2 h (fun _ z => nomatch z) fun _ z => nomatch z).2.2
        have r2 := r.mono P2 R1'
        refine ⟨fun i d hd => ?_, fun i hi => ⟨_, h2, by rw [← r2.length]; exact hi⟩⟩
        obtain ⟨w, hw, rw⟩ := r2.get hd
        refine ⟨⟨_, w, h2, hw⟩, fun x H3 hy => ?_⟩
        obtain ⟨rfl, hy⟩ := hy
        exact ⟨.refl, R2, rw.is (Option.some.inj (hw.symm.trans (hy _ h2))), fun _ _ z => z⟩
    · cases hs
  cases w1 with
  | v d => exact val d rfl e2'
  | f d => exact val d rfl e2'
  | r n =>
    unfold srcW at e2'
    simp only at e2'
    split at e2'
    · rename_i ds0 hm
      cases e2'
      refine .inl ⟨φ, ψ, ρ, m, _, m1, R, E, e1, fun φ1 ψ1 H1 v P1 R1 V1 => ?_⟩
      have R1' := V1.rel R1
      obtain ⟨q, h1, rfl⟩ := V1.s R1
      obtain ⟨vs, hq, r⟩ := R1'.obj n _ q hm h1
      refine ⟨q, rfl, ⟨_, SqL.of hq⟩, k φ1 H1 _ (V1.post P1) R1' fun φ2 ψ2 H2 m2 xs P2 R2 ex => ?_⟩
      have hm2 : m2[n]? = some (.lst xs) := by
        unfold itemsAt at ex
        split at ex
        · rename_i h9
          cases ex
          exact h9
        · cases ex
      obtain ⟨vs2, hq2, r2⟩ := R2.obj n _ q hm2 (pre_get P2.pre h1)
      have h2 : SqL X.K H2 q vs2 := SqL.of hq2
      refine ⟨fun i d hd => ?_, fun i hi => ⟨_, h2, by rw [← r2.length]; exact hi⟩⟩
      obtain ⟨w, hw, rw⟩ := r2.get hd
      refine ⟨⟨_, w, h2, hw⟩, fun x H3 hy => ?_⟩
      obtain ⟨rfl, hy⟩ := hy
      exact ⟨.refl, R2, rw.is (Option.some.inj (hw.symm.trans (hy _ h2))), fun _ _ z => z⟩
    · cases e2'
def rngD (lo : Int) (n : Nat) : List D := (List.range n).map fun (i : Nat) => D.int (lo + (i : Int))
def rngA : List D → Option (List D)
  | [.int j] => if -1000000000 ≤ j ∧ j ≤ 1000000000 then some (rngD 0 j.toNat) else none
  | _ => none
def iRngA (a : Ax) : Ix := fun ρ m => (a ρ m).bind fun p => (gts p.1 p.2).bind fun ds => (rngA ds).bind fun xs => some (.seq xs, p.2)
theorem itr_r {K : FRG} {tb φ ψ : List Addr} {H : Hp} {lo : Int} {n : Nat} : ItR K tb φ ψ H (Itr lo n) (.seq (rngD lo n)) := fun φ2 ψ2 H2 m2 xs P2 R2 ex => by
  cases ex
  have hl : (rngD lo n).length = n := by simp [rngD]
  refine ⟨fun i d hd => ?_, fun i hi => by rw [hl] at hi; exact hi⟩
  have hi : i < n := by rw [← hl]; exact (List.getElem?_eq_some_iff.mp hd).1
  refine ⟨hi, fun x H3 hy => ?_⟩
  obtain ⟨rfl, rfl⟩ := hy
  have e : (rngD lo n)[i]? = some (.int (lo + i)) := by simp [rngD, hi]
  rw [e] at hd
  cases hd
  exact ⟨.refl, R2, .int _, fun _ _ z => z⟩
theorem ix_rng1 {X : Cx} {tb : List Addr} {tg a : Expr} {f : Ax} {p pos : Pos} (hg : Gl X "range") (hm : X.mg "range" = none) (ha : PA X [a] (Ta X.K tb f)) (hs : starEach [a] X.env = [(false, eval a X.env)] := by rfl) : PI X tg (.Call (.Name "range" p) [a] [] pos) (Ti X.K tb (iRngA f)) := by
  refine pi_mono (pi_range1 hg hm ha hs) fun σ H Q ⟨φ, ψ, ρ, m, it, m', R, E, e, k⟩ => ?_
  obtain ⟨⟨ws, m1⟩, e1, e⟩ := bnd e
  obtain ⟨ds, e2, e⟩ := bnd e
  obtain ⟨xs, e3, e⟩ := bnd e
  cases e
  refine ⟨φ, ψ, ρ, m, ws, _, R, E, e1, fun φ1 H1 vs P1 R1 V1 => ?_⟩
  have C := gts_c R1 V1 e2
  have e3' : rngA ds = some xs := e3
  unfold rngA at e3'
  split at e3'
  · rename_i j
    split at e3'
    · rename_i hb
      cases e3'
      cases C with
      | cons h1 r1 =>
        cases r1
        rw [h1.int]
        exact ⟨j, rfl, by omega, by omega, k φ1 H1 _ P1 R1 itr_r⟩
    · cases e3'
  · cases e3'
abbrev Gx := D → Env → Option Env
def gN (i : Nat) : Gx := fun d ρ => some (ρ.set i (some (.v d)))
def gL : List Gx → List D → Env → Option Env
  | [], [], ρ => some ρ
  | g :: gs, d :: ds, ρ => (g d ρ).bind fun ρ1 => gL gs ds ρ1
  | _, _, _ => none
def gT (gs : List Gx) : Gx := fun d ρ => match d with
  | .tup ds => gL gs ds ρ
  | _ => none
def TgS (K : FRG) (tb : List Addr) (g : TG) (t : Gx) : Prop := ∀ φ ψ H m ρ σ d v ρ' (Q : L2.St → Hp → Prop), Rel K tb φ ψ H m → RE K φ ψ H ρ σ → Rep K φ ψ H d v → t d ρ = some ρ' → (∀ σ', RE K φ ψ H ρ' σ' → Q σ' H) → g v σ H Q
def TgsS (K : FRG) (tb : List Addr) (g : TGs) (t : List Gx) : Prop := ∀ φ ψ H m ρ σ ds vs ρ' (Q : L2.St → Hp → Prop), Rel K tb φ ψ H m → RE K φ ψ H ρ σ → Reps K φ ψ H ds vs → gL t ds ρ = some ρ' → (∀ σ', RE K φ ψ H ρ' σ' → Q σ' H) → g vs σ H Q
def TgW (g : TG) (vs : List Nat) : Prop := ∀ v σ H (Q : L2.St → Hp → Prop), g v σ H Q → g v σ H fun σ2 H2 => wipe σ2 vs = wipe σ vs ∧ Q σ2 H2
theorem wipe_set {σ : L2.St} {x : Option V} : ∀ {vs : List Nat} {i : Nat}, i ∈ vs → wipe (σ.set i x) vs = wipe σ vs
  | [], i, h => by simp at h
  | w :: ws, i, h => by
    unfold wipe
    by_cases hi : i ∈ ws
    · rw [wipe_set hi]
    · have e : i = w := by
        rcases List.mem_cons.mp h with z | z
        · exact z
        · exact absurd z hi
      subst e
      have comm : ∀ (ws : List Nat) (τ : L2.St), i ∉ ws → wipe (τ.set i x) ws = (wipe τ ws).set i x := by
        intro ws
        induction ws with
        | nil => intro τ _; rfl
        | cons u us ih =>
          intro τ hn
          unfold wipe
          rw [ih τ fun z => hn (List.mem_cons_of_mem _ z), List.set_comm _ _ fun z => hn (by rw [z]; exact List.mem_cons_self)]
      rw [comm ws σ hi]
      simp
theorem wipe_wipe {σ : L2.St} (vs : List Nat) : wipe (wipe σ vs) vs = wipe σ vs := by
  have gen : ∀ (ws : List Nat), (∀ i ∈ ws, i ∈ vs) → wipe (wipe σ ws) vs = wipe σ vs := by
    intro ws
    induction ws with
    | nil => intro _; rfl
    | cons u us ih =>
      intro h
      show wipe ((wipe σ us).set u none) vs = _
      rw [wipe_set (h u List.mem_cons_self)]
      exact ih fun i hi => h i (List.mem_cons_of_mem _ hi)
  exact gen vs fun _ h => h
theorem tg_name {K : FRG} {tb : List Addr} (i : Nat) : TgS K tb (gName i) (gN i) := fun φ ψ H m ρ σ d v ρ' Q R E V e k => by
  cases e; exact k _ (E.set i V)
theorem tw_name (i : Nat) {vs : List Nat} (h : i ∈ vs) : TgW (gName i) vs := fun v σ H Q q => ⟨wipe_set h, q⟩
theorem tgs_nil {K : FRG} {tb : List Addr} : TgsS K tb gNil [] := fun φ ψ H m ρ σ ds vs ρ' Q R E V e k => by
  cases V with
  | nil => cases e; exact ⟨rfl, k _ E⟩
  | cons h r => cases e
theorem tgs_cons {K : FRG} {tb : List Addr} {g : TG} {gs : TGs} {t : Gx} {ts : List Gx} (h1 : TgS K tb g t) (h2 : TgsS K tb gs ts) : TgsS K tb (gCons g gs) (t :: ts) := fun φ ψ H m ρ σ ds vs ρ' Q R E V e k => by
  cases V with
  | nil => cases e
  | cons h r =>
    obtain ⟨ρ1, e1, e2⟩ := bnd (show (t _ ρ).bind (fun ρ1 => gL ts _ ρ1) = some ρ' from e)
    refine ⟨_, _, rfl, h1 φ ψ H m ρ σ _ _ ρ1 _ R E h e1 fun σ1 E1 => ?_⟩
    exact h2 φ ψ H m ρ1 σ1 _ _ ρ' Q R E1 r e2 k
theorem gL_len : ∀ {ts : List Gx} {ds : List D} {ρ ρ' : Env}, gL ts ds ρ = some ρ' → ds.length = ts.length
  | [], [], _, _, _ => rfl
  | [], _ :: _, _, _, h => by cases h
  | _ :: _, [], _, _, h => by cases h
  | t :: ts, d :: ds, ρ, ρ', h => by
    obtain ⟨ρ1, e1, e2⟩ := bnd (show (t d ρ).bind (fun ρ1 => gL ts ds ρ1) = some ρ' from h)
    simp [gL_len e2]
theorem tg_tup {K : FRG} {tb : List Addr} {gs : TGs} {ts : List Gx} {n : Nat} (hn : ts.length = n) (h : TgsS K tb gs ts) : TgS K tb (gTup K n gs) (gT ts) := fun φ ψ H m ρ σ d v ρ' Q R E V e k => by
  cases V with
  | tup hq r => exact ⟨_, _, rfl, hq.1, by rw [← r.length, gL_len e]; exact hn, h φ ψ H m ρ σ _ _ ρ' Q R E r e k⟩
  | _ => cases e
def sAsg (t : Gx) (a : Ex) : Sx := fun ρ m => (a ρ m).bind fun p => (vl p.1).bind fun d => (t d ρ).bind fun ρ' => some (.nx, ρ', p.2)
theorem bs_asg {X : Cx} {tb : List Addr} {tg a : Expr} {fa : Ex} {g : TG} {t : Gx} {pos : Pos} (ht : TgS X.K tb g t) (ha : PE X a (T X.K tb fa)) (hg : PG X tg g) (hs : swapsWithSole [tg] a pos.line X.env = pure false := by rfl) (hw : swappedStores [tg] a X.env = pure none := by rfl)
    (h1 : (assignEach [tg] X.env).map (·.2) = [assign tg X.env] := by rfl) : PS X (.Assign [tg] a pos) (Ts X.K tb (sAsg t fa)) := by
  refine ps_mono (ps_asg ha hg hs hw h1) fun D σ H ⟨φ, ψ, ρ, m, o, ρ', m', R, E, e, k⟩ => ?_
  obtain ⟨⟨d1, m1⟩, e1, e⟩ := bnd e
  obtain ⟨d, ev, e⟩ := bnd e
  obtain ⟨ρ1, e2, e⟩ := bnd e
  cases e
  exact ⟨φ, ψ, ρ, m, d1, _, R, E, e1, fun φ1 ψ1 H1 v P1 R1 V1 => ht φ1 ψ H1 _ ρ σ d v _ _ (V1.rel R1) (E.mono (V1.post P1) R) (vl_rep (V1.s R1) ev) e2 fun σ' E' => k φ1 ψ H1 (V1.post P1) (V1.rel R1) rfl σ' E'⟩
open Classical in
noncomputable def forL (it : Itm) (xs : List D) (t : Gx) (b : Sx) (dd : List Nat) : List D → Sx
  | [], ρ, m => if itemsAt it m = some xs then some (.nx, ρ, m) else none
  | d :: ds, ρ, m => if itemsAt it m = some xs then (t d ρ).bind fun ρ1 => (b ρ1 m).bind fun r => match r.1 with
      | .nx => forL it xs t b dd ds (wipeD r.2.1 dd) r.2.2
      | .ct => forL it xs t b dd ds (wipeD r.2.1 dd) r.2.2
      | .bk => some (.nx, wipeD r.2.1 dd, r.2.2)
      | .ret d => some (.ret d, r.2.1, r.2.2)
    else none
noncomputable def sFor (src : Ix) (t : Gx) (b : Sx) (dd : List Nat) : Sx := fun ρ m => (src ρ m).bind fun p => (itemsAt p.1 p.2).bind fun xs => forL p.1 xs t b dd xs ρ p.2
theorem bs_for {X : Cx} {tb : List Addr} {tg iter : Expr} {body : List Stmt} {src : Ix} {g : TG} {t : Gx} {b : Sx} {dd : List Nat} {pos : Pos} (hc : X.calm = true) (ht : TgS X.K tb g t) (hp : PassesOwn (model X.prog X.w) X.A X.env X.xe) (hi : PI X tg iter (Ti X.K tb src)) (hg : PG X tg g) (hb : PSs X body (Ts X.K tb b))
    (hs : ∀ x, foldedSetIterable iter X.env x = pure x := by intro _; rfl) : PS X (.For tg iter body [] pos) (Ts X.K tb (sFor src t b dd)) := by
  refine ps_mono (ps_for hp hc hi hg hb hs) fun D σ H ⟨φ, ψ, ρ, m, o, ρF, mF, R, E, e, k⟩ => ?_
  obtain ⟨⟨it, m1⟩, e1, e⟩ := bnd e
  obtain ⟨xs, e2, e⟩ := bnd e
  refine ⟨φ, ψ, ρ, m, it, m1, R, E, e1, fun φ1 H1 J P1 R1 IR => ?_⟩
  refine ⟨fun i n σ2 H2 => n = xs.length - i ∧ i ≤ xs.length ∧ ∃ φ2 ρ2 m2, Post φ1 ψ H1 φ2 ψ H2 ∧ Rel X.K tb φ2 ψ H2 m2 ∧ RE X.K φ2 ψ H2 ρ2 σ2 ∧ forL it xs t b dd (xs.drop i) ρ2 m2 = some (o, ρF, mF),
    ⟨xs.length, by simp, Nat.zero_le _, φ1, ρ, m1, .refl, R1, E.mono P1 R, by simpa using e⟩, ?_⟩
  rintro i n σ2 H2 ⟨rfl, hi2, φ2, ρ2, m2, P2, R2, E2, ef⟩
  by_cases hlt : i < xs.length
  · rw [List.drop_eq_getElem_cons hlt] at ef
    unfold forL at ef
    split at ef
    · rename_i hx
      obtain ⟨ρ3, e3, ef⟩ := bnd ef
      obtain ⟨⟨o4, ρ4, m4⟩, e4, ef⟩ := bnd ef
      obtain ⟨hgo, hy⟩ := (IR φ2 ψ H2 m2 xs P2 R2 hx).1 i xs[i] (List.getElem?_eq_getElem hlt)
      refine .inr ⟨hgo, fun σ' H' => i + 1 ≤ xs.length ∧ ∃ φ2 ρ2 m2, Post φ1 ψ H1 φ2 ψ H' ∧ Rel X.K tb φ2 ψ H' m2 ∧ RE X.K φ2 ψ H' ρ2 σ' ∧ forL it xs t b dd (xs.drop (i + 1)) ρ2 m2 = some (o, ρF, mF), fun σ' H' q => ⟨xs.length - (i + 1), by omega, rfl, q⟩, fun x H3 y => ?_⟩
      obtain ⟨P3, R3, V3, _⟩ := hy x H3 y
      refine ht φ2 ψ H3 m2 ρ2 σ2 _ x ρ3 _ R3 (E2.mono P3 R2) V3 e3 fun σ3 E3 => ?_
      refine ⟨φ2, ψ, ρ3, m2, o4, ρ4, m4, R3, E3, e4, fun φ5 ψ5 H5 P5 R5 => ?_⟩
      have P15 : Post φ1 ψ H1 φ5 ψ5 H5 := P2.trans (P3.trans P5)
      cases o4 with
      | nx => exact fun z σ5 E5 => by subst z; exact ⟨hlt, φ5, _, m4, P15, R5, E5.fog dd, ef⟩
      | ct => exact fun z σ5 E5 => by subst z; exact ⟨hlt, φ5, _, m4, P15, R5, E5.fog dd, ef⟩
      | bk => cases ef; exact fun z σ5 E5 => by subst z; exact k φ5 _ H5 (P1.trans P15) R5 rfl σ5 (E5.fog dd)
      | ret d => cases ef; exact k φ5 ψ5 H5 (P1.trans P15) R5
    · cases ef
  · rw [List.drop_of_length_le (by omega)] at ef
    unfold forL at ef
    split at ef
    · rename_i hx
      cases ef
      exact .inl ⟨(IR φ2 ψ H2 _ xs P2 R2 hx).2 i (by omega), k φ2 ψ H2 (P1.trans P2) R2 rfl σ2 E2⟩
    · cases ef
open Classical in
noncomputable def lcL (it : Itm) (xs : List D) (t : Gx) (c : Tx) (f : Ex) (ρ : Env) : List D → List D → Mem → Option (List D × Mem)
  | [], acc, m => if itemsAt it m = some xs then some (acc, m) else none
  | d :: ds, acc, m => if itemsAt it m = some xs then (t d ρ).bind fun ρ1 => (c ρ1 m).bind fun p => if p.1 = true then (f ρ1 p.2).bind fun q => (vl q.1).bind fun y => if acc.length < 1000000 then lcL it xs t c f ρ ds (acc ++ [y]) q.2 else none else lcL it xs t c f ρ ds acc p.2
    else none
noncomputable def eLc (src : Ix) (t : Gx) (c : Tx) (f : Ex) (vs : List Nat) : Ex := fun ρ m => (src ρ m).bind fun p => (itemsAt p.1 p.2).bind fun xs => (lcL p.1 xs t c f (wipeD ρ vs) xs [] p.2).bind fun q => some (.f (.lst q.1), q.2)
theorem lc_go {K : FRG} {tb : List Addr} {src : Ix} {g : TG} {t : Gx} {c : Tx} {f : Ex} {vs : List Nat} {σ : L2.St} {H : Hp} {Q : VK} (ht : TgS K tb g t) (hw : TgW g vs) (h : T K tb (eLc src t c f vs) σ H Q) :
    tLc (Ti K tb src) g (Tt K tb c) (T K tb f) vs σ H Q := by
  obtain ⟨φ, ψ, ρ, m, d, mF, R, E, e, k⟩ := h
  obtain ⟨⟨it, m1⟩, e1, e⟩ := bnd e
  obtain ⟨xs, e2, e⟩ := bnd e
  obtain ⟨⟨accF, m9⟩, e3, e⟩ := bnd e
  cases e
  refine ⟨φ, ψ, ρ, m, it, m1, R, E, e1, fun φ1 H1 J P1 R1 IR A hA => ?_⟩
  have nAS : A ∉ ψ := R1.freshS hA
  let Z : Nat → Hp → Prop := fun i H2 => ∃ φ2 m2 acc accV, Post φ1 ψ H1 φ2 (A :: ψ) H2 ∧ Rel K tb φ2 (A :: ψ) H2 m2 ∧ H2 A = some (.lst accV) ∧ Reps K φ2 (A :: ψ) H2 acc accV ∧ lcL it xs t c f (wipeD ρ vs) (xs.drop i) acc m2 = some (accF, m9)
  refine ⟨fun i n H2 => n = xs.length - i ∧ i ≤ xs.length ∧ Z i H2, ⟨xs.length, by simp, Nat.zero_le _, φ1, m1, [], [], Post.nw hA, R1.nw hA, upd_same, .nil, by simpa using e3⟩, ?_⟩
  rintro i n H2 ⟨rfl, hi2, φ2, m2, acc, accV, P2, R2, hA2, rA, ef⟩
  by_cases hlt : i < xs.length
  · rw [List.drop_eq_getElem_cons hlt] at ef
    unfold lcL at ef
    split at ef
    · rename_i hx
      obtain ⟨ρ3, e3', ef⟩ := bnd ef
      obtain ⟨⟨b4, m4⟩, e4, ef⟩ := bnd ef
      obtain ⟨hgo, hy⟩ := (IR φ2 (A :: ψ) H2 m2 xs P2 R2 hx).1 i xs[i] (List.getElem?_eq_getElem hlt)
      refine .inr ⟨hgo, fun H' => i + 1 ≤ xs.length ∧ Z (i + 1) H', fun H' q => ⟨xs.length - (i + 1), by omega, rfl, q⟩, fun x H3 y => ?_⟩
      obtain ⟨P3, R3, V3, same⟩ := hy x H3 y
      have hA3 : H3 A = some (.lst accV) := same A _ hA2
      have rA3 := rA.mono P3 R2
      have E3 : RE K φ2 (A :: ψ) H3 (wipeD ρ vs) (wipe σ vs) := (E.mono (P1.trans (P2.trans P3)) R).wipe vs
      have st := ht φ2 (A :: ψ) H3 m2 (wipeD ρ vs) (wipe σ vs) _ x ρ3 (fun σ3 H3' => Tt K tb c σ3 H3' fun b H4 => if b = true then T K tb f σ3 H4 fun y H5 => ∃ acc, H5 A = some (.lst acc) ∧ acc.length < sizeLine ∧ (fun H' => i + 1 ≤ xs.length ∧ Z (i + 1) H') (upd H5 A (.lst (acc ++ [y]))) else (fun H' => i + 1 ≤ xs.length ∧ Z (i + 1) H') H4) R3 E3 V3 e3' fun σ3 E3' => ?_
      · have st2 := hw _ _ _ _ st
        simp only [wipe_wipe] at st2
        exact st2
      · refine ⟨φ2, A :: ψ, ρ3, m2, b4, m4, R3, E3', e4, fun φ4 H4 P4 R4 => ?_⟩
        have hA4 : H4 A = some (.lst accV) := (P4.frm A _ (R3.ap A List.mem_cons_self) hA3 fun _ z => nomatch z).ex fun _ z => nomatch z
        have rA4 := rA3.mono P4 R3
        have P14 := P2.trans (P3.trans P4)
        cases b4 with
        | false => exact iteF ⟨hlt, φ4, m4, acc, accV, P14, R4, hA4, rA4, ef⟩
        | true =>
          obtain ⟨⟨w5, m5⟩, e5, ef⟩ := bnd ef
          obtain ⟨y5, ev, ef⟩ := bnd ef
          split at ef
          · rename_i hl
            refine iteT ⟨φ4, A :: ψ, ρ3, m4, w5, m5, R4, E3'.mono P4 R3, e5, fun φ5 ψ5 H5 v P5 R5 V5 => ?_⟩
            have R5' := V5.rel R5
            have P5' := V5.post P5
            have hA5 : H5 A = some (.lst accV) := (P5'.frm A _ (R4.ap A List.mem_cons_self) hA4 fun _ z => nomatch z).ex fun _ z => nomatch z
            have rA5 := rA4.mono P5' R4
            have y5' := vl_rep (V5.s R5) ev
            exact ⟨accV, hA5, smallT (by rw [← rA5.length]; exact hl), hlt, φ5, m5, acc ++ [y5], accV ++ [v], Post.sdw List.mem_cons_self (R5'.ap A List.mem_cons_self) (R5'.sd A List.mem_cons_self) (P14.trans P5') hA, R5'.sdw List.mem_cons_self hA5, upd_same, (rA5.snoc y5').sdw List.mem_cons_self hA5, ef⟩
          · cases ef
    · cases ef
  · rw [List.drop_of_length_le (by omega)] at ef
    unfold lcL at ef
    split at ef
    · rename_i hx
      cases ef
      refine .inl ⟨(IR φ2 (A :: ψ) H2 _ xs P2 R2 hx).2 i (by omega), ?_⟩
      exact k φ2 (A :: ψ) H2 _ (P1.trans P2) R2 ⟨A, .lst accF, rfl, rfl, nAS, rfl, accV, hA2, rA⟩
    · cases ef
def tYes' : Tx := fun _ m => some (true, m)
theorem pts_mono {X : Cx} {e : List Expr} {t t' : TT} (h : PTs X e t) (i : ∀ σ H Q, t' σ H Q → t σ H Q) : PTs X e t' := ⟨fun pins s σ H Q I q => h.run pins s σ H Q I (i σ H Q q)⟩
theorem ts_nil {X : Cx} {tb : List Addr} : PTs X [] (Tt X.K tb tYes') := pts_mono pts_nil fun σ H Q ⟨φ, ψ, ρ, m, b, m', R, E, e, k⟩ => by
  cases e; exact k φ H .refl R
theorem ts_one {X : Cx} {tb : List Addr} {c : Expr} {ft : Tx} (h : PT X c (Tt X.K tb ft)) : PTs X [c] (Tt X.K tb ft) := pts_one h
end Pw
end
section
set_option Elab.async false
set_option linter.all false
set_option maxRecDepth 100000
set_option maxHeartbeats 1000000
namespace Pw
open PySem PySem.Spec PyProof.Rows L2
theorem ex_lc {X : Cx} {tb : List Addr} {elt tg iter : Expr} {ifs : List Expr} {scope : Scope} {own : List (Str × Nat)} {pos : Pos} {src : Ix} {g : TG} {t : Gx} {c : Tx} {f : Ex} (hc : X.calm = true) (hN : X.N.Nodup) (htg : TgS X.K tb g t) (hw : TgW g (own.map (·.2)))
    (hi : PI X tg iter (Ti X.K tb src)) (ok : BlkOk X.N X.env.scope scope own)
    (hg : ∀ (s : Shared) (H : Hp) (C : Addr) (cl : List (Str × Addr)) (fp : List Addr), PG (X.blk s H scope (compEnvC scope cl C X.env) fp) tg g) (ht : ∀ (s : Shared) (H : Hp) (C : Addr) (cl : List (Str × Addr)) (fp : List Addr), PTs (X.blk s H scope (compEnvC scope cl C X.env) fp) ifs (Tt X.K tb c))
    (he : ∀ (s : Shared) (H : Hp) (C : Addr) (cl : List (Str × Addr)) (fp : List Addr), PE (X.blk s H scope (compEnvC scope cl C X.env) fp) elt (T X.K tb f)) (hs : ∀ x, foldedSetIterable iter X.env x = pure x := by intro _; rfl) :
    PE X (.ListComp elt [⟨tg, iter, ifs, 0⟩] scope pos) (T X.K tb (eLc src t c f (own.map (·.2)))) :=
  pe_mono (pe_lc hc hN hi ok hg ht he hs) fun _ _ _ h => lc_go htg hw h
theorem bs_setLc {X : Cx} {tb : List Addr} (i : Nat) {y : Str} {py : Pos} {elt tg iter : Expr} {ifs : List Expr} {scope : Scope} {own : List (Str × Nat)} {pos spos : Pos} {src : Ix} {g : TG} {t : Gx} {c : Tx} {f : Ex} (hc : X.calm = true) (hN : X.N.Nodup) (htg : TgS X.K tb g t) (hw : TgW g (own.map (·.2)))
    (hi : PI X tg iter (Ti X.K tb src)) (ok : BlkOk X.N X.env.scope scope own)
    (hg : ∀ (s : Shared) (H : Hp) (C : Addr) (cl : List (Str × Addr)) (fp : List Addr), PG (X.blk s H scope (compEnvC scope cl C X.env) fp) tg g) (ht : ∀ (s : Shared) (H : Hp) (C : Addr) (cl : List (Str × Addr)) (fp : List Addr), PTs (X.blk s H scope (compEnvC scope cl C X.env) fp) ifs (Tt X.K tb c))
    (he : ∀ (s : Shared) (H : Hp) (C : Addr) (cl : List (Str × Addr)) (fp : List Addr), PE (X.blk s H scope (compEnvC scope cl C X.env) fp) elt (T X.K tb f))
    (hsw : swapsWith (.ListComp elt [⟨tg, iter, ifs, 0⟩] scope pos) (some (.Name y py)) spos.line X.env = pure true) (hy : X.N[i]? = some y := by rfl) (hyl : X.env.scope.names.lookup y = some .local := by rfl)
    (hs : ∀ x, foldedSetIterable iter X.env x = pure x := by intro _; rfl) :
    PS X (.Assign [.Name y py] (.ListComp elt [⟨tg, iter, ifs, 0⟩] scope pos) spos) (Ts X.K tb (sSet i (eLc src t c f (own.map (·.2))))) :=
  ps_mono (ps_setLc hc hN hy hyl hsw hi ok hg ht he hs) fun D σ H h => lc_go htg hw (set_go (X := X) h)
abbrev Fx := List W → Mem → Option (W × Mem)
def startD (n : Nat) (ws : List W) : Env := ws.map some ++ List.replicate (n - ws.length) none
def inner (m : Mem) (b : Nat) : Nat → Option (List D)
  | 0 => some []
  | c + 1 => (inner m b c).bind fun ds => match m[b + c]? with
    | some (.lst es) => some (ds ++ [.lst es])
    | _ => none
def outW (k : Nat) : W → Mem → Option (W × Mem)
  | .v d, m => some (.v d, m.take k)
  | .f d, m => some (.f d, m.take k)
  | .r n, m => if n < k then some (.r n, m.take k) else match m[n]? with
    | some (.rl b c) => if k ≤ b then (inner m b c).bind fun ds => some (.v (.lst ds), m.take k) else none
    | some mo => some (.f (moD mo), m.take k)
    | none => none
def runF (np n : Nat) (b : Sx) : Fx := fun ws m => if ws.length = np then (b (startD n ws) m).bind fun r => match r.1 with
  | .nx => some (.v .non, r.2.2.take m.length)
  | .ret w => outW m.length w r.2.2
  | _ => none
  else none
def spF (K : FRG) (tb : List Addr) (np : Nat) (F : Fx) : Sp := fun vs H Q _ => ∃ φ ψ ws m w m', Rel K tb φ ψ H m ∧ RepSs K φ ψ H ws vs ∧ ws.length = np ∧ F ws m = some (w, m') ∧ Go K tb φ ψ H m' w Q
theorem re_start {K : FRG} {φ ψ : List Addr} {H : Hp} {N : List Str} {ws : List W} {vs : List V} (r : RepSs K φ ψ H ws vs) : RE K φ ψ H (startD N.length ws) (start N vs) := by
  refine ⟨fun i d h => ?_, by simp [startD, L2.start, r.length]⟩
  unfold startD at h
  by_cases hi : i < ws.length
  · rw [List.getElem?_append_left (by simpa using hi), List.getElem?_map] at h
    cases e : ws[i]? with
    | none => rw [e] at h; cases h
    | some x =>
      rw [e] at h
      cases h
      obtain ⟨v, h1, h2⟩ := r.get e
      refine ⟨v, ?_, h2⟩
      unfold L2.start
      rw [List.getElem?_append_left (by rw [List.length_map, ← r.length]; exact hi), List.getElem?_map, h1]
      rfl
  · rw [List.getElem?_append_right (by simpa using hi), List.getElem?_replicate] at h
    split at h <;> cases h
section
variable {K : FRG} {tb φ φ1 ψ ψ1 : List Addr} {H H1 : Hp} {m m1 : Mem}
theorem Rel.cut (R : Rel K tb φ1 ψ1 H m1) (hp : φ <+: φ1) (hs : ∀ a ∈ ψ, a ∈ ψ1 ∨ (a ∈ φ1 ∧ a ∉ φ)) : Rel K tb φ ψ H (m1.take φ.length) := by
  obtain ⟨t, rfl⟩ := hp
  have hl := R.len
  rw [List.length_append] at hl
  have few : ∀ a, a ∉ φ ++ t → a ∉ ψ1 → a ∉ φ ∧ a ∉ ψ := fun a h1 h2 => ⟨fun z => h1 (List.mem_append_left _ z), fun z => (hs a z).elim h2 fun y => h1 y.1⟩
  refine ⟨by rw [List.length_take]; omega, (List.nodup_append.mp R.nd).1, fun n mo a e1 e2 => ?_, R.tab, fun p hp => ?_, fun p hp => ?_, R.lam⟩
  · have hn : n < φ.length := (List.getElem?_eq_some_iff.mp e2).1
    rw [List.getElem?_take_of_lt hn] at e1
    exact (R.obj n mo a e1 (by rw [List.getElem?_append_left hn]; exact e2)).fewer few fun _ k hk i hi => by
      have e2' : (φ ++ t)[n]? = some a := by rw [List.getElem?_append_left hn]; exact e2
      obtain ⟨h1, h2⟩ := List.getElem?_eq_some_iff.mp e2'
      obtain ⟨h3, h4⟩ := List.getElem?_eq_some_iff.mp hk
      have : k = n := (List.getElem_inj R.nd).mp (h4.trans h2.symm)
      exact (List.getElem?_append_left (by omega)).symm
  · rcases hs p hp with z | z
    · exact R.sd p z
    · exact R.trk z.1
  · rcases hs p hp with z | z
    · exact fun y => R.ap p z (List.mem_append_left _ y)
    · exact z.2
theorem out_go {w w' : W} {m' : Mem} {v : V} {Q : VK} (hl : φ.length = m.length) (P : Post φ ψ H φ1 ψ1 H1) (R : Rel K tb φ1 ψ1 H1 m1) (h : RepW K φ1 ψ ψ1 H1 w v) (e : outW m.length w m1 = some (w', m')) (k : Go K tb φ ψ H m' w' Q) : Q v H1 := by
  have few : ∀ (a : Addr), a ∉ φ1 → ∀ (ψ' : List Addr), a ∉ ψ' → a ∉ φ ∧ a ∉ ψ' := fun a h1 ψ' h2 => ⟨fun z => h1 (P.pre.subset z), h2⟩
  have post : ∀ (ψ' : List Addr), (∀ a ∈ ψ', a ∈ ψ ∨ H a = none) → (∀ a ∈ ψ, a ∈ ψ') → Post φ ψ H φ ψ' H1 := fun ψ' hs hb => ⟨List.prefix_refl _, fun _ z => .inl z, hs, P.frm, P.kp, hb⟩
  cases w with
  | v d =>
    cases e
    obtain ⟨rfl, h⟩ := h
    rw [← hl] at k
    exact k φ _ H1 v (post _ P.side P.sub) (R.cut P.pre fun _ z => .inl z) ⟨rfl, h.fewer fun a h1 h2 => few a h1 _ h2⟩
  | f d =>
    cases e
    obtain ⟨p, mo, rfl, rfl, np, rfl, q⟩ := h
    rw [← hl] at k
    exact k φ _ H1 _ (post _ P.side P.sub) (R.cut P.pre fun _ z => .inl z) ⟨p, mo, rfl, rfl, np, rfl, q.fewer (fun a h1 h2 => few a h1 _ h2) fun _ k hk => absurd (List.mem_of_getElem? hk) (R.ap p List.mem_cons_self)⟩
  | r n =>
    obtain ⟨rfl, a, ha, rfl⟩ := h
    unfold outW at e
    simp only at e
    split at e
    · rename_i hn
      cases e
      rw [← hl] at k
      refine k φ _ H1 _ (post _ P.side P.sub) (R.cut P.pre fun _ z => .inl z) ⟨rfl, a, ?_, rfl⟩
      obtain ⟨t, rfl⟩ := P.pre
      rw [List.getElem?_append_left (by rw [hl]; exact hn)] at ha
      exact ha
    · rename_i hn
      have mem : a ∈ φ1 := List.mem_of_getElem? ha
      have nA : a ∉ φ := fun z => by
        obtain ⟨t, rfl⟩ := P.pre
        rw [List.getElem?_append_right (by rw [hl]; omega)] at ha
        exact (List.nodup_append.mp R.nd).2.2 a z a (List.mem_of_getElem? ha) rfl
      have h0 : H a = none := (P.new a mem).resolve_left nA
      have nP : a ∉ ψ1 := fun z => R.ap a z mem
      have hk : ∀ j, m.length ≤ j → ∀ c, φ1[j]? = some c → c ∉ φ := fun j hj c hc z => by
        obtain ⟨t, rfl⟩ := P.pre
        rw [List.getElem?_append_right (by rw [hl]; exact hj)] at hc
        exact (List.nodup_append.mp R.nd).2.2 c z c (List.mem_of_getElem? hc) rfl
      have isRl : ∀ b c, m1[n]? = some (.rl b c) → outW m.length (.r n) m1 = some (w', m') → Q (.ref a) H1 := fun b c e1 e => by
        unfold outW at e
        simp only [e1, if_neg hn] at e
        split at e
        · rename_i hb
          obtain ⟨ds, ed, e⟩ := bnd e
          cases e
          obtain ⟨o1, o2⟩ := R.obj n _ a e1 ha
          have hlen := (List.getElem?_eq_some_iff.mp o2).1
          have rs : ∀ c', c' ≤ c → ∀ ds, inner m1 b c' = some ds → Reps K φ ψ1 H1 ds ((List.range c').map fun i => V.ref (φ1.getD (b + i) 0)) := by
            intro c'
            induction c' with
            | zero => intro _ ds e; cases e; exact .nil
            | succ c' ih =>
              intro hc ds e
              obtain ⟨ds', e3, e⟩ := bnd e
              split at e
              · rename_i es e4
                cases e
                rw [List.range_succ, List.map_append]
                have hj : b + c' < φ1.length := by omega
                have e5 : φ1[b + c']? = some φ1[b + c'] := List.getElem?_eq_getElem hj
                obtain ⟨us, u1, u2⟩ := R.obj _ _ _ e4 e5
                have e6 : φ1.getD (b + c') 0 = φ1[b + c'] := by rw [List.getD_eq_getElem?_getD, e5]; rfl
                refine (ih (by omega) ds' e3).snoc ?_
                show Rep K φ ψ1 H1 (D.lst es) (V.ref (φ1.getD (b + c') 0))
                rw [e6]
                exact .lst (hk _ (by omega) _ e5) (fun z => R.ap _ z (List.mem_of_getElem? e5)) u1 (u2.fewer fun x h1 h2 => few x h1 _ h2)
              · cases e
          rw [← hl] at k
          exact k φ ψ1 H1 _ (post _ P.side P.sub) (R.cut P.pre fun _ z => .inl z) ⟨rfl, .lst nA nP o1 (rs c (Nat.le_refl _) ds ed)⟩
        · cases e
      by_cases hr : ∃ b c, m1[n]? = some (.rl b c)
      · obtain ⟨b, c, e1⟩ := hr
        refine isRl b c e1 ?_
        unfold outW
        simp only [if_neg hn]
        exact e
      have e' : ∃ mo, m1[n]? = some mo ∧ some (W.f (moD mo), m1.take m.length) = some (w', m') := by
        split at e
        · rename_i b c e1; exact absurd ⟨b, c, e1⟩ hr
        · rename_i mo e1 _; exact ⟨mo, by assumption, e⟩
        · cases e
      obtain ⟨mo, e1, e⟩ := e'
      cases e
      rw [← hl] at k
      refine k φ (a :: ψ1) H1 _ (post _ (fun b hb => ?_) fun b hb => List.mem_cons_of_mem _ hb) (R.cut P.pre fun b hb => ?_) ⟨a, mo, rfl, rfl, nP, rfl, (R.obj n mo a e1 ha).fewer (fun b h1 h2 => few b h1 _ fun z => ?_) fun ⟨b, c, z⟩ => absurd ⟨b, c, by rw [← z]; exact e1⟩ hr⟩
      · rcases List.mem_cons.mp hb with z | z
        · rw [z]; exact .inr h0
        · exact .inl z
      · rcases List.mem_cons.mp hb with z | z
        · rw [z]; exact .inr ⟨mem, nA⟩
        · exact .inl z
      · rcases List.mem_cons.mp z with y | y
        · rw [y] at h1; exact h1 mem
        · exact h2 y
end
theorem body_go {K : FRG} {tb : List Addr} {np : Nat} {N : List Str} {b : Sx} {vs : List V} {H : Hp} {Q : VK} {E : XK} (h : spF K tb np (runF np N.length b) vs H Q E) : Ts K tb b { nx := fun _ H' => Q .non H', rt := Q } (start N vs) H := by
  obtain ⟨φ, ψ, ws, m, w, m', R, r, hl, e, k⟩ := h
  unfold runF at e
  rw [if_pos hl] at e
  obtain ⟨⟨o, ρ', m1⟩, e1, e⟩ := bnd e
  refine ⟨φ, ψ, _, m, o, ρ', m1, R, re_start r, e1, fun φ1 ψ1 H1 P1 R1 => ?_⟩
  cases o with
  | nx =>
    intro z σ1 E1
    subst z
    exact out_go (w := .v .non) R.len P1 R1 ⟨rfl, .non⟩ e k
  | ret x => exact fun v V => out_go R.len P1 R1 V e k
  | bk => cases e
  | ct => cases e
def eCall (F : Fx) (a : Ax) : Ex := fun ρ m => (a ρ m).bind fun p => F p.1 p.2
theorem call_s {X : Cx} {tb : List Addr} {np : Nat} {F : Fx} {f : Ax} {σ : L2.St} {H : Hp} {Q : VK} (hn : ∀ ds m r, F ds m = some r → ds.length = np) (h : T X.K tb (eCall F f) σ H Q) : tCall (spF X.K tb np F) [] E0 (Ta X.K tb f) σ H Q := by
  obtain ⟨φ, ψ, ρ, m, w, m', R, E, e, k⟩ := h
  obtain ⟨⟨ws, m1⟩, e1, e⟩ := bnd e
  refine ⟨φ, ψ, ρ, m, ws, m1, R, E, e1, fun φ1 H1 vs P1 R1 V1 => ?_⟩
  show spF X.K tb np F (vs ++ []) H1 Q E0
  rw [List.append_nil]
  exact ⟨φ1, ψ, ws, m1, w, m', R1, V1, hn _ _ _ e, e, fun φ3 ψ3 H3 v P3 R3 V3 => k φ3 ψ3 H3 v (P1.trans P3) R3 V3⟩
theorem runF_len {np n : Nat} {b : Sx} {ws : List W} {m : Mem} {r : W × Mem} (h : runF np n b ws m = some r) : ws.length = np := by
  unfold runF at h
  split at h
  · assumption
  · cases h
structure FnG (P : Program) (w : World) (K : FRG) (mg : Str → Option Value) (base : Heap) (k : Nat) (f : Addr) (fd : FuncData) (ps : List Str) (sp : Sp) : Prop where
  len : ∀ vs H Q E, sp vs H Q E → vs.length = ps.length
  run : ∀ (A : Around) (outer : List PySem.Env) (s : Shared) (H : Hp) (args : Args) (us : List Value) (vs : List V) (Q : VK) (E : XK), A.guards = some [] → Room k A → Env0 P w K mg base A outer s H → BindsTo s fd args (ps.zip us) → Vals vs us → sp vs H Q E →
    codeAny (model P w) A (.call (.ref f) args) (CR CX0 outer P w H s Q E) s
structure FunC (K : FRG) (x qual : Str) (st : Stmt) (f : Addr) (fd : FuncData) (cdv : Value) : Prop where
  ex : ∃ (oc : Value) (od : Option Addr) (kV doc pm : Value) (an : Option Addr) (ct : Value) (osl : Array (Option Value)),
    fd = PySem.W.fnOf x qual (defArgs st) (defBody st) (defScope st) .none kV doc pm an cdv ct ∧ K.lookup f = some ⟨oc, od, .func fd, osl⟩ ∧ PySem.W.codeIn K cdv qual = true
  kp : PySem.W.keepIn K (.ref f) = true
theorem okG {P : Program} {w : World} {K : FRG} {mg : Str → Option Value} {base : Heap} {tb : List Addr} {x qual : Str} {st : Stmt} {f : Addr} {fd : FuncData} {cdv : Value} {N ps : List Str} {k : Nat} {b : Sx} (F : FunC K x qual st f fd cdv) (S : FnScope N ps (defScope st))
    (hb : ∀ (A : Around) (outer : List PySem.Env) (s : Shared) (H : Hp) (E : XK), A.guards = some [] → Room k (A.deeper (envOfC qual (defScope st) s.heap.objs.size f cdv)) → PSs (cxOf CX0 P w K mg base N qual (defScope st) f cdv A outer s H E).nox (defBody st) (Ts K tb b)) :
    FnG P w K mg base (k + 1) f fd ps (spF K tb ps.length (runF ps.length N.length b)) := by
  obtain ⟨oc, od, kV, doc, pm, an, ct, osl, rfl, known, isCode⟩ := F.ex
  have many : ∀ vs H Q E, spF K tb ps.length (runF ps.length N.length b) vs H Q E → vs.length = ps.length := fun vs H Q E q => by
    obtain ⟨φ, ψ, ws, m, d, m', R, r, hl, e, go⟩ := q
    rw [← r.length]; exact hl
  refine ⟨many, fun A outer s H args us vs Q E noG room entry bound rel want => ?_⟩
  have inK : K.In s.heap := entry.mod.kin.keeps fun c o e => (entry.bs c o e).1
  have free : s.heap.NoLimit := entry.mod.nolimit.keeps fun c o e => (entry.bs c o e).1
  have kinds : ∀ y ∈ ps.zip us, (defScope st).names.lookup y.1 = some .local ∨ ((defScope st).names.lookup y.1 = some .cell ∧ ((cellsFrom (s.heap.objs.size + 1) (defScope st).names []).lookup y.1).isSome = true) := by
    rintro ⟨nm, val⟩ mem
    rcases S.par nm (List.of_mem_zip mem).1 with z | z
    · exact Or.inl z
    · exact Or.inr ⟨z, PySem.W.cellsFrom_some _ _ _ (Or.inl z)⟩
  refine codeAny_call_function room.depth (inK _ _ known) rfl S.co S.gen rfl (PySem.W.codeRec_of inK isCode) (bound _ _ _ _ ?_)
  refine wpAny_newFunctionEnv_cells S.kind kinds fun here isHere t inCall => ?_
  subst isHere
  refine ⟨free.keeps inCall.toInCall.keep, codeAny_func ?_⟩
  have J : Inv (cxOf CX0 P w K mg base N qual (defScope st) f cdv A outer s H E) [] (L2.start N vs) H t := inv_start S room.hd entry (many _ _ _ _ want) rel inCall
  have body := (hb A outer s H E noG (room.deeper _)).nox
  refine wpAny_mono (body.run [] t (L2.start N vs) H _ J (body_go want)) (fun flow t' ends => ?_) fun _ _ z => z
  cases flow with
  | ret u =>
    obtain ⟨v, τ, H', J', rv, q⟩ := ends
    exact ⟨v, H', J'.os, J'.bare, J'.base, J'.hok, rv, q⟩
  | next =>
    obtain ⟨τ, H', J', q⟩ := ends
    exact ⟨.non, H', J'.os, J'.bare, J'.base, J'.hok, rfl, q⟩
  | brk => obtain ⟨_, _, _, z⟩ := ends; exact z.elim
  | cont => obtain ⟨_, _, _, z⟩ := ends; exact z.elim
theorem runG {X : Cx} {k : Nat} {f : Addr} {fd : FuncData} {ps : List Str} {sp : Sp} {pins : List (Addr × Obj)} {σ : L2.St} {H : Hp} {s : Shared} {Q : VK} {us : List Value} {vs : List V} (F : FnG X.prog X.w X.K X.mg X.base k f fd ps sp) (hg : X.A.guards = some []) (hr : Room k X.A) (hb : Binds X.K fd ps [])
    (I : Inv X pins σ H s) (r : Vals vs us) (h : sp vs H Q E0) : wpAny (model X.prog X.w) X.A (call (.ref f) us) (EP X pins σ Q) X.xe s := by
  have hl : us.length = ps.length := r.length.symm.trans (F.len _ _ _ _ h)
  have bound := hb s us I.kIn (by rw [List.append_nil]; exact hl)
  rw [List.append_nil] at bound
  refine wpAny_call (codeAny_mono (F.run X.A X.stack s H ⟨us, []⟩ us vs Q E0 hg hr I.env0 bound r h) fun res t ends => ?_)
  match res, ends with
  | .ok (.ret u), z => exact I.after z
theorem ex_callG {X : Cx} {tb : List Addr} {k : Nat} {f : Addr} {fd : FuncData} {ps : List Str} {x : Str} {p pos : Pos} {e : Expr} {es : List Expr} {fa : Ax} {F : Fx} (hn : ∀ ds m r, F ds m = some r → ds.length = ps.length) (G : FnG X.prog X.w X.K X.mg X.base k f fd ps (spF X.K tb ps.length F)) (hgd : X.A.guards = some []) (hr : Room k X.A) (hg : Gl X x) (hm : X.mg x = some (.ref f)) (hk : PySem.W.keepIn X.K (.ref f) = true) (hb : Binds X.K fd ps [])
    (ha : PA X (e :: es) (Ta X.K tb fa)) (hdb : (x == ("__debug__" : Str)) = false := by decide) (he : starEach (e :: es) X.env = (false, eval e X.env) :: starEach es X.env := by rfl) (hpl : (backTo pos (starEach es X.env)).any (·.1) = false := by rfl) :
    PE X (.Call (.Name x p) (e :: es) [] pos) (T X.K tb (eCall F fa)) := by
  constructor
  intro pins s σ H Q I want
  have h := call_s hn want
  refine wpAny_Call_Name_kw (ld_glob I hg hm ?_ hdb)
  refine PySem.W.callWith_K (h₀ := X.base) I.ok.mod.kin hk (thn (ha.run pos pins s σ H _ I h) fun us t ⟨vs, H1, I1, r, q⟩ => ⟨I1.kIn, ?_⟩) he hpl
  have q' : spF X.K tb ps.length F (vs ++ []) H1 Q E0 := q
  rw [List.append_nil] at q'
  exact runG G hgd hr hb I1 r q'
theorem FunC.binds {K : FRG} {x qual : Str} {st : Stmt} {f : Addr} {fd : FuncData} {cdv : Value} {ps : List Str} (F : FunC K x qual st f fd cdv)
    (h : ∀ (kV doc pm : Value) (an : Option Addr) (ct : Value) (us : List Value), us.length = ps.length → bindArgs (PySem.W.fnOf x qual (defArgs st) (defBody st) (defScope st) .none kV doc pm an cdv ct) ⟨us, []⟩ = pure (ps.zip us)) : Binds K fd ps [] := by
  obtain ⟨oc, od, kV, doc, pm, an, ct, osl, rfl, lk, hcd⟩ := F.ex
  exact .all (h kV doc pm an ct)
end Pw
end
section
set_option Elab.async false
set_option linter.all false
set_option maxRecDepth 100000
set_option maxHeartbeats 1000000
namespace Pv
open PySem PySem.Spec PyProof.Rows L2
def bst_max (b : Option Int) (x : Int) : Option Int := match b with
  | none => some x
  | some y => if x > y then some x else some y
def cell2 (b : Option (Int × Tok)) : Array Value := match b with
  | none => #[]
  | some (y, t) => #[.int y t, .int y t]
section
variable {prog : Program} {w : World} {A : Around} {E : Value → Shared → Prop} {R : Result → Shared → Prop} {I : Addr} {fp wr : List Addr} {n : Nat} {P : Nat → Value → Prop} {St : Nat → Heap → Prop}
theorem max_turns (W : Walks prog w A.in1 I fp wr n P St) (f : Nat → Int) (hP : ∀ i v, P i v → ∃ t, v = .int (f i) t) (B : Addr) (hB : B ∉ fp) (dv : Value) : ∀ (k i : Nat) (s : Shared) (b : Option (Int × Tok)) (c : Nat), n - i = k → i ≤ n → St i s.heap →
    s.heap.get? B = some { cls := .type "list", dict := none, data := .seq (cell2 b) c, slots := #[] } →
    (∀ v h' tk, (match ((List.range' i k).map f).foldl bst_max (b.map (·.1)) with | none => v = dv | some y => ∃ t, v = .int y t) → (∀ a o, a ∉ wr → a ≠ B → s.heap.get? a = some o → h'.get? a = some o) → R (.ok (.ret v)) { s with heap := h', toks := tk }) →
    codeAny (model prog w) A (.builtin "max.loop" ⟨[.ref I, .none, .ref B], [(Str.ofString "default", dv)]⟩) R s := by
  have hw : B ∉ wr := fun z => hB (W.sub _ z)
  have nm : (toString "max" ++ toString ".loop" : String) = "max.loop" := by decide
  intro k
  induction k with
  | zero =>
    intro i s b c hk hi st at0 fin
    obtain rfl : i = n := by omega
    refine codeAny_builtin F.entry_max_loop ?_
    rw [Around.under_plainId F.plain_max_loop _]
    show wpAny _ A.in1 (seqItems? (.ref B) >>= _) _ _ _
    refine wpAny_bind (wpAny_seqItems at0 rfl ?_)
    show wpAny _ A.in1 (tryCatch (pyNext (.ref I)) _ >>= _) _ _ _
    refine wpAny_bind (wpAny_tryCatch (W.done s _ _ st fun h' tk kp => ?_))
    cases b with
    | none =>
      refine wpAny_bind (wpAny_rule ?_)
      exact wpAny_pure (fin dv h' tk (by exact rfl) fun a o q1 _ q3 => kp a o q1 q3)
    | some p =>
      obtain ⟨y, t⟩ := p
      show wpAny _ A.in1 (updateSeq B (fun _ => #[]) >>= _) _ _ _
      have at1 : h'.get? B = some { cls := .type "list", dict := none, data := .seq #[.int y t, .int y t] c, slots := #[] } := kp B _ hw at0
      refine wpAny_bind (wpAny_updateSeq at1 rfl (wpAny_bind (wpAny_letGo (wpAny_pure ?_))))
      exact fin (.int y t) _ tk ⟨t, rfl⟩ fun a o q1 q2 q3 => (Heap.get?_update_other _ _ (Ne.symm q2)).trans (kp a o q1 q3)
  | succ k ih =>
    intro i s b c hk hi st at0 fin
    have lt : i < n := by omega
    refine codeAny_builtin F.entry_max_loop ?_
    rw [Around.under_plainId F.plain_max_loop _]
    show wpAny _ A.in1 (seqItems? (.ref B) >>= _) _ _ _
    refine wpAny_bind (wpAny_seqItems at0 rfl ?_)
    show wpAny _ A.in1 (tryCatch (pyNext (.ref I)) _ >>= _) _ _ _
    refine wpAny_bind (wpAny_tryCatch (W.item i s _ _ lt st fun v h' tk pv st' kp => ?_))
    have at1 := kp B _ hw at0
    obtain ⟨tv, rfl⟩ := hP i v pv
    cases b with
    | none =>
      have at1 : h'.get? B = some { cls := .type "list", dict := none, data := .seq #[] c, slots := #[] } := kp B _ hw at0
      refine wpAny_bind (m := pure (Value.int (f i) tv)) (wpAny_pure ?_)
      show wpAny _ A.in1 (updateSeq B (fun _ => #[.int (f i) tv, .int (f i) tv]) >>= _) _ _ _
      refine wpAny_bind (wpAny_updateSeq at1 rfl ?_)
      rw [nm]
      refine wpAny_pure ⟨plainId_quiet F.plain_max_loop _, ih (i + 1) _ (some (f i, tv)) _ (by omega) lt (W.frame _ _ _ st' fun a ha o e => ?_) (Heap.get?_update_self _ at1 rfl) fun v h2 tk2 q hk2 => ?_⟩
      · exact (Heap.get?_update_other _ _ (fun z : B = a => hB (by rw [z]; exact ha))).trans e
      · exact fin v h2 tk2 (by simpa [List.range'_succ, bst_max] using q) fun a o q1 q2 q3 => hk2 a o q1 q2 ((Heap.get?_update_other _ _ (Ne.symm q2)).trans (kp a o q1 q3))
    | some p =>
      obtain ⟨y, t⟩ := p
      have at1 : h'.get? B = some { cls := .type "list", dict := none, data := .seq #[.int y t, .int y t] c, slots := #[] } := kp B _ hw at0
      refine wpAny_bind (m := pure (Value.int (f i) tv)) (wpAny_pure ?_)
      show wpAny _ A.in1 (tryCatch (holding [Value.int (f i) tv, Value.int (f i) tv] (richCompare .Gt (Value.int (f i) tv) (Value.int y t) >>= _)) _ >>= _) _ _ _
      refine wpAny_bind (wpAny_tryCatch (wpAny_holding (wpAny_bind ?_)))
      refine CmpOf.ints_gt (P := fun j v => ∃ t, v = .int (if j = 0 then f i else y) t) (fun j => if j = 0 then f i else y) (fun _ _ h => h) 0 1 _ _ _ _ _ ⟨tv, rfl⟩ ⟨t, rfl⟩ ?_
      refine wpAny_bind (wpAny_holding (wpAny_truthy_bool ?_))
      refine wpAny_bind (wpAny_letGo (wpAny_pure ?_))
      by_cases hb : f i > y
      · refine wp_if_pos (by simpa using hb) ?_
        show wpAny _ A.in1 (updateSeq B (fun _ => #[.int (f i) tv, .int (f i) tv]) >>= _) _ _ _
        refine wpAny_bind (wpAny_updateSeq at1 rfl (wpAny_bind (wpAny_letGo ?_)))
        rw [nm]
        refine wpAny_pure ⟨plainId_quiet F.plain_max_loop _, ih (i + 1) _ (some (f i, tv)) _ (by omega) lt (W.frame _ _ _ st' fun a ha o e => ?_) (Heap.get?_update_self _ at1 rfl) fun v h2 tk2 q hk2 => ?_⟩
        · exact (Heap.get?_update_other _ _ (fun z : B = a => hB (by rw [z]; exact ha))).trans e
        · exact fin v h2 tk2 (by simpa [List.range'_succ, bst_max, hb] using q) fun a o q1 q2 q3 => hk2 a o q1 q2 ((Heap.get?_update_other _ _ (Ne.symm q2)).trans (kp a o q1 q3))
      · refine wp_if_neg (by simpa using hb) ?_
        refine wpAny_bind (wpAny_letGo ?_)
        rw [nm]
        refine wpAny_pure ⟨plainId_quiet F.plain_max_loop _, ih (i + 1) _ (some (y, t)) _ (by omega) lt st' at1 fun v h2 tk2 q hk2 => ?_⟩
        exact fin v h2 tk2 (by simpa [List.range'_succ, bst_max, hb] using q) fun a o q1 q2 q3 => hk2 a o q1 q2 (kp a o q1 q3)
theorem args_maxd (a d : Value) : argsOk "max" ⟨[a], [(Str.ofString "default", d)]⟩ := by unfold argsOk; kernel_rfl
theorem max_def {s : Shared} {l : Addr} {its : List Value} {ns : List Int} {dv : Value} {Q : Value → Shared → Prop} (hh : A.handled = none) (hl : s.heap.IsList l its.toArray) (hi : IntsAre its ns)
    (h : ∀ v h' tk, (match ns.foldl bst_max none with | none => v = dv | some y => ∃ t, v = .int y t) → (∀ b o, s.heap.get? b = some o → h'.get? b = some o) → Q v { s with heap := h', toks := tk }) :
    wpAny (model prog w) A (call (.builtin "max") [.ref l] [(Str.ofString "default", dv)]) Q E s := by
  have nm : (toString "max" ++ toString ".loop" : String) = "max.loop" := by decide
  obtain ⟨ol, hol, hcl⟩ := id hl
  have lt : l < s.heap.objs.size := Heap.lt_size hol
  refine PyProof.Rows.kmk_tree F.kind_max F.plain_max F.entry_max (args_maxd _ _) ?_
  refine wpAny_bind (m := Builtin.Builtins.bindParams "max" ["key", "default"] 0 ⟨[], [(Str.ofString "default", dv)]⟩) (wpAny_of_eq (t := Builtin.Builtins.bindParams "max" ["key", "default"] 0 ⟨[], [(Str.ofString "default", dv)]⟩) (a := [none, some dv]) rfl ?_)
  refine wpAny_bind (m := pure (Value.ref l)) (wpAny_pure ?_)
  refine wpAny_bind (wpAny_pyIter_list hl ?_)
  refine wpAny_bind (wpAny_newList ?_ (Nat.zero_le _))
  rw [nm]
  let it : Obj := { cls := .type "list_iterator", data := .fields #[.ref l, .int 0 0] }
  have sz : (s.heap.push it).objs.size = s.heap.objs.size + 1 := PyProof.Rows.size_push' ..
  have Wk := Walks.list (prog := prog) (w := w) (A := A.in1) hh s.heap.objs.size l (Nat.ne_of_lt lt) its.toArray
  have hlen : its.toArray.size = ns.length := by rw [List.size_toArray]; exact hi.length
  have hB : (s.heap.push it).objs.size ∉ [s.heap.objs.size, l] := by
    rw [sz]
    intro z
    rcases List.mem_cons.mp z with z | z
    · omega
    · exact Nat.ne_of_gt (Nat.lt_succ_of_lt lt) (List.mem_singleton.mp z)
  refine wpAny_pure ⟨plainId_quiet F.plain_max_loop _, max_turns Wk (fun i => ns.getD i 0) (fun i v hv => ?_) _ hB dv its.toArray.size 0 _ none 0 (Nat.sub_zero _) (Nat.zero_le _) ⟨⟨_, Heap.get?_push_of_some _ (Heap.get?_push_size _ rfl), rfl, rfl⟩, (hl.push _).push _⟩ (Heap.get?_push_size _ rfl) fun v h' tk q kp => ?_⟩
  · exact PyProof.Rows.IntsAre.int_at hi i v (by simpa using hv)
  · refine h v h' tk ?_ fun b o e => ?_
    · have e : (List.range' 0 its.toArray.size).map (fun i => ns.getD i 0) = ns := by
        rw [hlen]
        refine List.ext_getElem (by simp) fun i h1 h2 => ?_
        simp [List.getElem_range', h2]
      rw [e] at q
      exact q
    · have lb := Heap.lt_size e
      refine kp b o (fun z => ?_) (fun z => ?_) (Heap.get?_push_of_some _ (Heap.get?_push_of_some _ e))
      · exact Nat.ne_of_lt lb (List.mem_singleton.mp z)
      · have z' : b = (s.heap.push it).objs.size := z
        rw [sz] at z'; exact Nat.ne_of_lt (Nat.lt_succ_of_lt lb) z'
end
def bst_min (b : Option Int) (x : Int) : Option Int := match b with
  | none => some x
  | some y => if x < y then some x else some y
section
variable {prog : Program} {w : World} {A : Around} {E : Value → Shared → Prop} {R : Result → Shared → Prop} {I : Addr} {fp wr : List Addr} {n : Nat} {P : Nat → Value → Prop} {St : Nat → Heap → Prop}
theorem min_turns (W : Walks prog w A.in1 I fp wr n P St) (f : Nat → Int) (hP : ∀ i v, P i v → ∃ t, v = .int (f i) t) (B : Addr) (hB : B ∉ fp) (dv : Value) : ∀ (k i : Nat) (s : Shared) (b : Option (Int × Tok)) (c : Nat), n - i = k → i ≤ n → St i s.heap →
    s.heap.get? B = some { cls := .type "list", dict := none, data := .seq (cell2 b) c, slots := #[] } →
    (∀ v h' tk, (match ((List.range' i k).map f).foldl bst_min (b.map (·.1)) with | none => v = dv | some y => ∃ t, v = .int y t) → (∀ a o, a ∉ wr → a ≠ B → s.heap.get? a = some o → h'.get? a = some o) → R (.ok (.ret v)) { s with heap := h', toks := tk }) →
    codeAny (model prog w) A (.builtin "min.loop" ⟨[.ref I, .none, .ref B], [(Str.ofString "default", dv)]⟩) R s := by
  have hw : B ∉ wr := fun z => hB (W.sub _ z)
  have nm : (toString "min" ++ toString ".loop" : String) = "min.loop" := by decide
  intro k
  induction k with
  | zero =>
    intro i s b c hk hi st at0 fin
    obtain rfl : i = n := by omega
    refine codeAny_builtin F.entry_min_loop ?_
    rw [Around.under_plainId F.plain_min_loop _]
    show wpAny _ A.in1 (seqItems? (.ref B) >>= _) _ _ _
    refine wpAny_bind (wpAny_seqItems at0 rfl ?_)
    show wpAny _ A.in1 (tryCatch (pyNext (.ref I)) _ >>= _) _ _ _
    refine wpAny_bind (wpAny_tryCatch (W.done s _ _ st fun h' tk kp => ?_))
    cases b with
    | none =>
      refine wpAny_bind (wpAny_rule ?_)
      exact wpAny_pure (fin dv h' tk (by exact rfl) fun a o q1 _ q3 => kp a o q1 q3)
    | some p =>
      obtain ⟨y, t⟩ := p
      show wpAny _ A.in1 (updateSeq B (fun _ => #[]) >>= _) _ _ _
      have at1 : h'.get? B = some { cls := .type "list", dict := none, data := .seq #[.int y t, .int y t] c, slots := #[] } := kp B _ hw at0
      refine wpAny_bind (wpAny_updateSeq at1 rfl (wpAny_bind (wpAny_letGo (wpAny_pure ?_))))
      exact fin (.int y t) _ tk ⟨t, rfl⟩ fun a o q1 q2 q3 => (Heap.get?_update_other _ _ (Ne.symm q2)).trans (kp a o q1 q3)
  | succ k ih =>
    intro i s b c hk hi st at0 fin
    have lt : i < n := by omega
    refine codeAny_builtin F.entry_min_loop ?_
    rw [Around.under_plainId F.plain_min_loop _]
    show wpAny _ A.in1 (seqItems? (.ref B) >>= _) _ _ _
    refine wpAny_bind (wpAny_seqItems at0 rfl ?_)
    show wpAny _ A.in1 (tryCatch (pyNext (.ref I)) _ >>= _) _ _ _
    refine wpAny_bind (wpAny_tryCatch (W.item i s _ _ lt st fun v h' tk pv st' kp => ?_))
    have at1 := kp B _ hw at0
    obtain ⟨tv, rfl⟩ := hP i v pv
    cases b with
    | none =>
      have at1 : h'.get? B = some { cls := .type "list", dict := none, data := .seq #[] c, slots := #[] } := kp B _ hw at0
      refine wpAny_bind (m := pure (Value.int (f i) tv)) (wpAny_pure ?_)
      show wpAny _ A.in1 (updateSeq B (fun _ => #[.int (f i) tv, .int (f i) tv]) >>= _) _ _ _
      refine wpAny_bind (wpAny_updateSeq at1 rfl ?_)
      rw [nm]
      refine wpAny_pure ⟨plainId_quiet F.plain_min_loop _, ih (i + 1) _ (some (f i, tv)) _ (by omega) lt (W.frame _ _ _ st' fun a ha o e => ?_) (Heap.get?_update_self _ at1 rfl) fun v h2 tk2 q hk2 => ?_⟩
      · exact (Heap.get?_update_other _ _ (fun z : B = a => hB (by rw [z]; exact ha))).trans e
      · exact fin v h2 tk2 (by simpa [List.range'_succ, bst_min] using q) fun a o q1 q2 q3 => hk2 a o q1 q2 ((Heap.get?_update_other _ _ (Ne.symm q2)).trans (kp a o q1 q3))
    | some p =>
      obtain ⟨y, t⟩ := p
      have at1 : h'.get? B = some { cls := .type "list", dict := none, data := .seq #[.int y t, .int y t] c, slots := #[] } := kp B _ hw at0
      refine wpAny_bind (m := pure (Value.int (f i) tv)) (wpAny_pure ?_)
      show wpAny _ A.in1 (tryCatch (holding [Value.int (f i) tv, Value.int (f i) tv] (richCompare .Lt (Value.int (f i) tv) (Value.int y t) >>= _)) _ >>= _) _ _ _
      refine wpAny_bind (wpAny_tryCatch (wpAny_holding (wpAny_bind ?_)))
      refine CmpOf.ints_lt (P := fun j v => ∃ t, v = .int (if j = 0 then f i else y) t) (fun j => if j = 0 then f i else y) (fun _ _ h => h) 0 1 _ _ _ _ _ ⟨tv, rfl⟩ ⟨t, rfl⟩ ?_
      refine wpAny_bind (wpAny_holding (wpAny_truthy_bool ?_))
      refine wpAny_bind (wpAny_letGo (wpAny_pure ?_))
      by_cases hb : f i < y
      · refine wp_if_pos (by simpa using hb) ?_
        show wpAny _ A.in1 (updateSeq B (fun _ => #[.int (f i) tv, .int (f i) tv]) >>= _) _ _ _
        refine wpAny_bind (wpAny_updateSeq at1 rfl (wpAny_bind (wpAny_letGo ?_)))
        rw [nm]
        refine wpAny_pure ⟨plainId_quiet F.plain_min_loop _, ih (i + 1) _ (some (f i, tv)) _ (by omega) lt (W.frame _ _ _ st' fun a ha o e => ?_) (Heap.get?_update_self _ at1 rfl) fun v h2 tk2 q hk2 => ?_⟩
        · exact (Heap.get?_update_other _ _ (fun z : B = a => hB (by rw [z]; exact ha))).trans e
        · exact fin v h2 tk2 (by simpa [List.range'_succ, bst_min, hb] using q) fun a o q1 q2 q3 => hk2 a o q1 q2 ((Heap.get?_update_other _ _ (Ne.symm q2)).trans (kp a o q1 q3))
      · refine wp_if_neg (by simpa using hb) ?_
        refine wpAny_bind (wpAny_letGo ?_)
        rw [nm]
        refine wpAny_pure ⟨plainId_quiet F.plain_min_loop _, ih (i + 1) _ (some (y, t)) _ (by omega) lt st' at1 fun v h2 tk2 q hk2 => ?_⟩
        exact fin v h2 tk2 (by simpa [List.range'_succ, bst_min, hb] using q) fun a o q1 q2 q3 => hk2 a o q1 q2 (kp a o q1 q3)
theorem args_mind (a d : Value) : argsOk "min" ⟨[a], [(Str.ofString "default", d)]⟩ := by unfold argsOk; kernel_rfl
theorem min_def {s : Shared} {l : Addr} {its : List Value} {ns : List Int} {dv : Value} {Q : Value → Shared → Prop} (hh : A.handled = none) (hl : s.heap.IsList l its.toArray) (hi : IntsAre its ns)
    (h : ∀ v h' tk, (match ns.foldl bst_min none with | none => v = dv | some y => ∃ t, v = .int y t) → (∀ b o, s.heap.get? b = some o → h'.get? b = some o) → Q v { s with heap := h', toks := tk }) :
    wpAny (model prog w) A (call (.builtin "min") [.ref l] [(Str.ofString "default", dv)]) Q E s := by
  have nm : (toString "min" ++ toString ".loop" : String) = "min.loop" := by decide
  obtain ⟨ol, hol, hcl⟩ := id hl
  have lt : l < s.heap.objs.size := Heap.lt_size hol
  refine PyProof.Rows.kmk_tree F.kind_min F.plain_min F.entry_min (args_mind _ _) ?_
  refine wpAny_bind (m := Builtin.Builtins.bindParams "min" ["key", "default"] 0 ⟨[], [(Str.ofString "default", dv)]⟩) (wpAny_of_eq (t := Builtin.Builtins.bindParams "min" ["key", "default"] 0 ⟨[], [(Str.ofString "default", dv)]⟩) (a := [none, some dv]) rfl ?_)
  refine wpAny_bind (m := pure (Value.ref l)) (wpAny_pure ?_)
  refine wpAny_bind (wpAny_pyIter_list hl ?_)
  refine wpAny_bind (wpAny_newList ?_ (Nat.zero_le _))
  rw [nm]
  let it : Obj := { cls := .type "list_iterator", data := .fields #[.ref l, .int 0 0] }
  have sz : (s.heap.push it).objs.size = s.heap.objs.size + 1 := PyProof.Rows.size_push' ..
  have Wk := Walks.list (prog := prog) (w := w) (A := A.in1) hh s.heap.objs.size l (Nat.ne_of_lt lt) its.toArray
  have hlen : its.toArray.size = ns.length := by rw [List.size_toArray]; exact hi.length
  have hB : (s.heap.push it).objs.size ∉ [s.heap.objs.size, l] := by
    rw [sz]
    intro z
    rcases List.mem_cons.mp z with z | z
    · omega
    · exact Nat.ne_of_gt (Nat.lt_succ_of_lt lt) (List.mem_singleton.mp z)
  refine wpAny_pure ⟨plainId_quiet F.plain_min_loop _, min_turns Wk (fun i => ns.getD i 0) (fun i v hv => ?_) _ hB dv its.toArray.size 0 _ none 0 (Nat.sub_zero _) (Nat.zero_le _) ⟨⟨_, Heap.get?_push_of_some _ (Heap.get?_push_size _ rfl), rfl, rfl⟩, (hl.push _).push _⟩ (Heap.get?_push_size _ rfl) fun v h' tk q kp => ?_⟩
  · exact PyProof.Rows.IntsAre.int_at hi i v (by simpa using hv)
  · refine h v h' tk ?_ fun b o e => ?_
    · have e : (List.range' 0 its.toArray.size).map (fun i => ns.getD i 0) = ns := by
        rw [hlen]
        refine List.ext_getElem (by simp) fun i h1 h2 => ?_
        simp [List.getElem_range', h2]
      rw [e] at q
      exact q
    · have lb := Heap.lt_size e
      refine kp b o (fun z => ?_) (fun z => ?_) (Heap.get?_push_of_some _ (Heap.get?_push_of_some _ e))
      · exact Nat.ne_of_lt lb (List.mem_singleton.mp z)
      · have z' : b = (s.heap.push it).objs.size := z
        rw [sz] at z'; exact Nat.ne_of_lt (Nat.lt_succ_of_lt lb) z'
end
end Pv
end
section
set_option Elab.async false
set_option linter.all false
set_option maxRecDepth 100000
set_option maxHeartbeats 3200000
namespace Pv
open PySem PySem.Spec PyProof.Rows L2
abbrev nso (w : World) : Obj := { cls := .type "set", dict := none, data := .set #[] 0 (.fresh 0 0 (!w.params.followText "set-order")) }
abbrev Kps (h h' : Heap) : Prop := ∀ b o, h.get? b = some o → h'.get? b = some o
section
variable {P : Program} {w : World} {A : Around} {E : Value → Shared → Prop} {s : Shared}
structure Fills (P : Program) (w : World) (h0 : Heap) (S : Addr) (Pv : Nat → Value → Prop) (J : Nat → Heap → Prop) (u : Nat) : Prop where
  keep : ∀ i h h', J i h → (∀ o, h.get? S = some o → h'.get? S = some o) → Kps h0 h' → J i h'
  step : ∀ i v (A : Around) (E : Value → Shared → Prop) (s : Shared) (Q : Bool → Shared → Prop), Pv i v → A.units < u → J i s.heap → Kps h0 s.heap →
    (∀ r h' tk, s.toks ≤ tk → Heap.SameBut S s.heap h' → J (i + 1) h' → Q r { s with heap := h', toks := tk }) → wpAny (model P w) A (setAdd S v) Q E s
theorem fill_turns {I S : Addr} {fp wr : List Addr} {G : Array GenState → Array GenState → Prop} {n u : Nat} {Pv : Nat → Value → Prop} {St : Nat → Shared → Prop} {R : Result → Shared → Prop} {h0 : Heap} {J : Nat → Heap → Prop}
    (W : WalksS P w A.in1 I fp wr G n Pv St) (hf : S ∉ fp) (F0 : Fills P w h0 S Pv J u) (hu : A.in1.units < u) (hS : h0.get? S = none) (hw : ∀ b ∈ wr, h0.get? b = none) : ∀ (k i : Nat) (s : Shared), n - i = k → i ≤ n → St i s → Kps h0 s.heap → J i s.heap →
      (∀ s', Moved (S :: wr) G s s' → J n s'.heap → Kps h0 s'.heap → R (.ok (.ret .none)) s') → codeAny (model P w) A (.builtin "set.update.loop" ⟨[.ref S, .ref I], []⟩) R s := by
  have hsw : S ∉ wr := fun z => hf (W.sub _ z)
  have mv : ∀ {s s' : Shared}, Moved wr G s s' → Kps h0 s.heap → Kps h0 s'.heap := fun m k b o e => m.heap b o (fun z => by rw [hw b z] at e; cases e) (k b o e)
  intro k
  induction k with
  | zero =>
    intro i s hk hi st kp j fin
    obtain rfl : i = n := by omega
    refine codeAny_builtin F.entry_set_update_loop ?_
    rw [Around.under_plainId F.plain_set_update_loop _]
    show wpAny _ A.in1 (pyNext (.ref I) >>= _) _ _ s
    refine wpAny_bind (W.done s _ _ st fun s' m => ?_)
    show wpAny _ A.in1 (ret Value.none) _ _ s'
    exact wpAny_pure (fin s' (m.mono fun b hb => List.mem_cons_of_mem _ hb) (F0.keep _ _ _ j (fun o e => m.heap S o hsw e) (mv m kp)) (mv m kp))
  | succ k ih =>
    intro i s hk hi st kp j fin
    have lt : i < n := by omega
    refine codeAny_builtin F.entry_set_update_loop ?_
    rw [Around.under_plainId F.plain_set_update_loop _]
    show wpAny _ A.in1 (pyNext (.ref I) >>= _) _ _ s
    refine wpAny_bind (W.item i s _ _ lt st fun v s' pv st' m => ?_)
    have kp1 := mv m kp
    show wpAny _ A.in1 (holding [v] (setAdd S v) >>= _) _ _ s'
    refine wpAny_bind (wpAny_holding ?_)
    refine F0.step i v _ _ s' _ pv hu (F0.keep _ _ _ j (fun o e => m.heap S o hsw e) kp1) kp1 fun r h' tk ht sb j' => ?_
    have kp2 : Kps h0 h' := fun b o e => (sb.2 b (fun z => by rw [z, hS] at e; cases e)).trans (kp1 b o e)
    refine wpAny_pure ⟨plainId_quiet F.plain_set_update_loop _, ih (i + 1) _ (by omega) lt (W.frame _ s' _ _ st' ht fun b hb o e => ?_) kp2 j' fun s2 m2 j2 kp3 => ?_⟩
    · rw [sb.2 b (fun z : b = S => hf (by rw [← z]; exact hb))]; exact e
    · refine fin s2 (Moved.trans W.gtrans ((m.mono fun b hb => List.mem_cons_of_mem _ hb).then_heap ht fun b o hb e => ?_) m2) j2 kp3
      rw [sb.2 b (fun z : b = S => hb (by rw [z]; exact List.mem_cons_self))]; exact e
theorem get_none {h : Heap} {b : Addr} (hb : h.objs.size ≤ b) : h.get? b = none := by
  cases q : h.get? b with
  | none => rfl
  | some o => exact absurd (Nat.lt_of_lt_of_le (Heap.lt_size q) hb) (Nat.lt_irrefl _)
theorem call_set_any {l : Addr} {items : Array Value} {u : Nat} {J : Nat → Heap → Prop} {Q : Value → Shared → Prop} (hh : A.handled = none) (hl : s.heap.IsList l items ∨ s.heap.IsTuple l items)
    (F0 : Fills P w s.heap s.heap.objs.size (fun i v => items[i]? = some v) J u) (hu : A.units + 3 < u) (hJ0 : ∀ h, h.get? s.heap.objs.size = some (nso w) → Kps s.heap h → J 0 h)
    (h : ∀ (h' : Heap) (tk : Nat), J items.size h' → Kps s.heap h' → Q (.ref s.heap.objs.size) { s with heap := h', toks := tk }) :
    wpAny (model P w) A (call (.type "set") [.ref l]) Q E s := by
  obtain ⟨c, tl, hmro⟩ := F.called_set.mro
  have hmade := F.called_set.made
  have hsub := F.called_set.sub
  refine wpAny_call (codeAny_of_tree ?_)
  show wpAny _ _ (callAny (.type "set") _) _ _ _
  refine wpAny_pure ⟨Code.quiet_builtin _ (by decide +kernel), codeAny_builtin F.entry_type_call ?_⟩
  rw [Around.under_plain (weight_type_call_type "set" [.ref l] []) rfl]
  have g1 := F.called_set.notType
  have g2 := F.called_set.canCreate
  have g3 := F.typeCall_set_1 (.ref l)
  repeat (any_goals (first | assumption | wp_step))
  refine codeAny_mono (code_set_led1 (.ref l) (E := E) (Q₁ := fun x s1 => x = .ref s.heap.objs.size ∧ s1 = { s with heap := s.heap.push (nso w) }) ⟨rfl, rfl⟩) fun r s1 hr => ?_
  cases r with
  | error e => exact hr
  | ok fl =>
    cases fl with
    | ret x =>
      obtain ⟨rfl, rfl⟩ := hr
      have at0 : (s.heap.push (nso w)).get? s.heap.objs.size = some (nso w) := Heap.get?_push_size _ rfl
      have ty : Shared.TypeIs { s with heap := s.heap.push (nso w) } (.ref s.heap.objs.size) "set" := ⟨_, at0, rfl⟩
      have g4 := F.called_set.init.lookup
      have g5 := F.called_set.init.bind (.ref s.heap.objs.size)
      repeat (any_goals (first | assumption | wp_step))
      refine codeAny_mono (codeAny_call_builtin (R := wants (fun r s2 => r = .none ∧ ∃ h' tk, s2 = { s with heap := h', toks := tk } ∧ J items.size h' ∧ Kps s.heap h') E) F.called_set.init.plain F.entry_set_init (check_set_init_1 ty ?_)) fun r2 s2 hr2 => ?_
      · have hh3 : A.in1.in1.in1.handled = none := by simp [hh]
        rcases hl with hl | hl
        · obtain ⟨ol, hol, hcl, nl, hdl⟩ := hl
          obtain ⟨ocls, odict, odata, oslots⟩ := ol
          simp only at hcl hdl
          subst hcl; subst hdl
          have q0 : (s.heap.push (nso w)).get? l = some { cls := .type "list", dict := odict, data := .seq items nl, slots := oslots } := Heap.get?_push_of_some _ hol
          have q1 := F.sub_list_set
          have q2 := F.sub_list_frozenset
          have q3 : (Value.type "list" == Value.type "dict") = false := by decide
          have q4 : (s.heap.push (nso w)).IsList l items := ⟨_, q0, rfl, nl, rfl⟩
          unfold Builtin.«set.__init__» noKeywords Builtin.Frozenset.updateFrom
          generalize hPI : pyIter = PI
          wp_walk
          subst hPI
          refine wpAny_pyIter_list q4 ?_
          refine wpAny_bind (wpAny_runValue ?_)
          have ll : l < s.heap.objs.size := Heap.lt_size hol
          have ni : l ≠ (s.heap.push (nso w)).objs.size := by rw [Heap.size_push]; exact Nat.ne_of_lt (Nat.lt_succ_of_lt ll)
          have nf : s.heap.objs.size ∉ [(s.heap.push (nso w)).objs.size, l] := by
            rw [Heap.size_push]; simp only [List.mem_cons, List.mem_singleton, List.not_mem_nil, or_false, not_or]
            exact ⟨Nat.ne_of_lt (Nat.lt_succ_self _), Nat.ne_of_gt ll⟩
          refine fill_turns ((Walks.list hh3 _ l ni items).toS) nf F0 hu (get_none (Nat.le_refl _)) (fun b hb => get_none (by rw [List.mem_singleton.mp hb, Heap.size_push]; exact Nat.le_succ _)) (items.size - 0) 0 _ rfl (Nat.zero_le _)
            ⟨⟨_, Heap.get?_push_size _ rfl, rfl, rfl⟩, (q4.push _)⟩ (fun b o e => Heap.get?_push_of_some _ (Heap.get?_push_of_some _ e)) (hJ0 _ (Heap.get?_push_of_some _ at0) fun b o e => Heap.get?_push_of_some _ (Heap.get?_push_of_some _ e)) ?_
          intro s' m j kp
          obtain ⟨h', gg, dd, tk', oo⟩ := s'
          obtain rfl : gg = s.gens := m.gens
          obtain rfl : dd = s.drawn := m.drawn
          obtain rfl : oo = s.os := m.os
          show wpAny _ _ _ _ _ _
          refine wpAny_pure ?_
          show wpAny _ _ (ret Value.none) _ _ _
          exact wpAny_pure ⟨rfl, h', tk', rfl, j, kp⟩
        · obtain ⟨ol, hol, hcl, nl, hdl⟩ := hl
          obtain ⟨ocls, odict, odata, oslots⟩ := ol
          simp only at hcl hdl
          subst hcl; subst hdl
          have q0 : (s.heap.push (nso w)).get? l = some { cls := .type "tuple", dict := odict, data := .seq items nl, slots := oslots } := Heap.get?_push_of_some _ hol
          have q1 := F.sub_tuple_set
          have q2 := F.sub_tuple_frozenset
          have q3 : (Value.type "tuple" == Value.type "dict") = false := by decide
          have q4 : (s.heap.push (nso w)).IsTuple l items := ⟨_, q0, rfl, nl, rfl⟩
          unfold Builtin.«set.__init__» noKeywords Builtin.Frozenset.updateFrom
          generalize hPI : pyIter = PI
          wp_walk
          subst hPI
          refine wpAny_pyIter_tuple q4 ?_
          refine wpAny_bind (wpAny_runValue ?_)
          have ll : l < s.heap.objs.size := Heap.lt_size hol
          have ni : l ≠ (s.heap.push (nso w)).objs.size := by rw [Heap.size_push]; exact Nat.ne_of_lt (Nat.lt_succ_of_lt ll)
          have nf : s.heap.objs.size ∉ [(s.heap.push (nso w)).objs.size, l] := by
            rw [Heap.size_push]; simp only [List.mem_cons, List.mem_singleton, List.not_mem_nil, or_false, not_or]
            exact ⟨Nat.ne_of_lt (Nat.lt_succ_self _), Nat.ne_of_gt ll⟩
          refine fill_turns ((Walks.tuple hh3 _ l ni items).toS) nf F0 hu (get_none (Nat.le_refl _)) (fun b hb => get_none (by rw [List.mem_singleton.mp hb, Heap.size_push]; exact Nat.le_succ _)) (items.size - 0) 0 _ rfl (Nat.zero_le _)
            ⟨⟨_, Heap.get?_push_size _ rfl, rfl, rfl⟩, (q4.push _)⟩ (fun b o e => Heap.get?_push_of_some _ (Heap.get?_push_of_some _ e)) (hJ0 _ (Heap.get?_push_of_some _ at0) fun b o e => Heap.get?_push_of_some _ (Heap.get?_push_of_some _ e)) ?_
          intro s' m j kp
          obtain ⟨h', gg, dd, tk', oo⟩ := s'
          obtain rfl : gg = s.gens := m.gens
          obtain rfl : dd = s.drawn := m.drawn
          obtain rfl : oo = s.os := m.os
          show wpAny _ _ _ _ _ _
          refine wpAny_pure ?_
          show wpAny _ _ (ret Value.none) _ _ _
          exact wpAny_pure ⟨rfl, h', tk', rfl, j, kp⟩
      · cases r2 with
        | error e => exact hr2
        | ok f2 =>
          cases f2 with
          | ret r =>
            obtain ⟨rfl, h', tk, rfl, j, kp⟩ := hr2
            repeat (any_goals (first | assumption | wp_step))
            exact h _ _ j kp
          | _ => exact hr2.elim
    | _ => exact hr.elim
end
end Pv
end
section
set_option Elab.async false
set_option linter.all false
set_option maxRecDepth 100000
set_option maxHeartbeats 1000000
namespace Pv
open PySem PySem.Spec PyProof.Rows L2
section
variable {α : Type} [DecidableEq α] {lt : α → α → Bool}
def insU (lt : α → α → Bool) (x : α) : List α → List α
  | [] => [x]
  | y :: ys => if x = y then y :: ys else if lt x y = true then x :: y :: ys else y :: insU lt x ys
def sortU (lt : α → α → Bool) (xs : List α) : List α := xs.foldr (insU lt) []
structure Lin (lt : α → α → Bool) : Prop where
  irr : ∀ x, lt x x = false
  tr : ∀ x y z, lt x y = true → lt y z = true → lt x z = true
  tot : ∀ x y, lt x y = false → lt y x = false → x = y
theorem mem_insU {x y : α} : ∀ {l : List α}, y ∈ insU lt x l ↔ y = x ∨ y ∈ l
  | [] => by simp [insU]
  | z :: l => by
    unfold insU
    split
    · rename_i h; subst h; simp
    · split
      · simp
      · rw [List.mem_cons, mem_insU (l := l), List.mem_cons]
        constructor
        · rintro (h | h | h)
          · exact .inr (.inl h)
          · exact .inl h
          · exact .inr (.inr h)
        · rintro (h | h | h)
          · exact .inr (.inl h)
          · exact .inl h
          · exact .inr (.inr h)
theorem mem_sortU {y : α} : ∀ {xs : List α}, y ∈ sortU lt xs ↔ y ∈ xs
  | [] => by simp [sortU]
  | x :: xs => by
    show y ∈ insU lt x (sortU lt xs) ↔ _
    rw [mem_insU, mem_sortU, List.mem_cons]
theorem insU_sorted (L : Lin lt) {x : α} : ∀ {l : List α}, l.Pairwise (fun a b => lt a b = true) → (insU lt x l).Pairwise (fun a b => lt a b = true)
  | [], _ => by simp [insU]
  | y :: l, h => by
    obtain ⟨h1, h2⟩ := List.pairwise_cons.mp h
    unfold insU
    split
    · exact h
    · rename_i ne
      split
      · rename_i hl
        refine List.pairwise_cons.mpr ⟨fun z hz => ?_, h⟩
        rcases List.mem_cons.mp hz with rfl | hz
        · exact hl
        · exact L.tr _ _ _ hl (h1 z hz)
      · rename_i hl
        refine List.pairwise_cons.mpr ⟨fun z hz => ?_, insU_sorted L h2⟩
        rcases mem_insU.mp hz with rfl | hz
        · cases q : lt y z with
          | true => rfl
          | false => exact absurd (L.tot _ _ (by simpa using hl) q) ne
        · exact h1 z hz
theorem sortU_sorted (L : Lin lt) : ∀ (xs : List α), (sortU lt xs).Pairwise (fun a b => lt a b = true)
  | [] => List.Pairwise.nil
  | x :: xs => insU_sorted L (sortU_sorted L xs)
theorem sorted_uniq (L : Lin lt) : ∀ {a b : List α}, a.Pairwise (fun x y => lt x y = true) → b.Pairwise (fun x y => lt x y = true) → (∀ x, x ∈ a ↔ x ∈ b) → a = b
  | [], [], _, _, _ => rfl
  | [], y :: b, _, _, h => absurd ((h y).mpr List.mem_cons_self) (by simp)
  | x :: a, [], _, _, h => absurd ((h x).mp List.mem_cons_self) (by simp)
  | x :: a, y :: b, ha, hb, h => by
    obtain ⟨a1, a2⟩ := List.pairwise_cons.mp ha
    obtain ⟨b1, b2⟩ := List.pairwise_cons.mp hb
    have e : x = y := by
      rcases List.mem_cons.mp ((h x).mp List.mem_cons_self) with e | hx
      · exact e
      · rcases List.mem_cons.mp ((h y).mpr List.mem_cons_self) with e | hy
        · exact e.symm
        · exact absurd (L.tr _ _ _ (a1 y hy) (b1 x hx)) (by rw [L.irr]; decide)
    subst e
    congr 1
    refine sorted_uniq L a2 b2 fun z => ⟨fun hz => ?_, fun hz => ?_⟩
    · rcases List.mem_cons.mp ((h z).mp (List.mem_cons_of_mem _ hz)) with e | q
      · exact absurd (a1 z hz) (by rw [e, L.irr]; decide)
      · exact q
    · rcases List.mem_cons.mp ((h z).mpr (List.mem_cons_of_mem _ hz)) with e | q
      · exact absurd (b1 z hz) (by rw [e, L.irr]; decide)
      · exact q
theorem insU_len {x : α} : ∀ {l : List α}, (insU lt x l).length ≤ l.length + 1
  | [] => by simp [insU]
  | y :: l => by
    unfold insU
    split
    · simp
    · split
      · simp
      · have := insU_len (x := x) (l := l); simp; omega
theorem sortU_len : ∀ (xs : List α), (sortU lt xs).length ≤ xs.length
  | [] => Nat.le_refl _
  | x :: xs => by
    show (insU lt x (sortU lt xs)).length ≤ _
    have := insU_len (lt := lt) (x := x) (l := sortU lt xs)
    have := sortU_len xs
    simp; omega
end
def iLt (a b : Int) : Bool := decide (a < b)
theorem lin_i : Lin iLt := by
  refine ⟨fun x => ?_, fun x y z h1 h2 => ?_, fun x y h1 h2 => ?_⟩
  · simp [iLt]
  · simp only [iLt, decide_eq_true_eq] at h1 h2 ⊢; omega
  · simp only [iLt, decide_eq_false_iff_not] at h1 h2; omega
section
variable {P : Program} {w : World} {A : Around} {E : Value → Shared → Prop} {s : Shared} {a : Addr}
theorem sorted_setR {S : Int → Bool} {n : Nat} {Q : Value → Shared → Prop} (R : SetR w s.heap a S n) (hh : A.handled = none)
    (fin : ∀ s' p (out : List Value) (c : Nat) (ns : List Int), (∀ b o, s.heap.get? b = some o → s'.heap.get? b = some o) → s'.gens = s.gens → s'.os = s.os → s.heap.objs.size ≤ p →
      s'.heap.get? p = some (seqObj "list" out.toArray c) → IntsAre out ns → ns.Pairwise (fun x y => iLt x y = true) → (∀ k, k ∈ ns ↔ S k = true) → ns.length ≤ 4096 → Q (.ref p) s') : wpAny (model P w) A (call (.builtin "sorted") [.ref a]) Q E s := by
  obtain ⟨o, es, ep, t, ho, hex, hd, g, nd, hm, hb, hf, hn, hr, hl⟩ := R
  refine Calls.call_function_entry kind_sorted plain_sorted entry_sorted (args_sorted1 _) ?_
  unfold Builtin.«sorted»
  refine wpAny_bind (m := checkCount "sorted" 1 1 _) (wpAny_pure ?_)
  refine wpAny_bind (collect_set (A := A.in1) hh ⟨o, ho, hex.1, hd⟩ hf hb hr hl fun s1 vs k1 hz g1 o1 pm => ?_)
  have vl : vs.length ≤ 4096 := by
    rw [pm.length_eq, List.length_map, Array.length_toList]
    have : scanBound = 4096 := rfl
    omega
  have vi : ∀ v ∈ vs, ∃ i t, v = Value.int i t := fun v hv => by
    obtain ⟨e, he, q⟩ := List.mem_map.mp (pm.mem_iff.mp hv)
    obtain ⟨k, tk, z, _⟩ := g e he
    exact ⟨k, tk, by rw [← q]; exact z⟩
  have hI := SrtO.ints_iv vi
  have ke : ∀ v ∈ es.toList.map (·.2), SrtO.iv v = Builtin.Re.reRawOf v := fun v hv => by
    obtain ⟨i, t, rfl⟩ := vi v (pm.mem_iff.mpr hv)
    rfl
  have pk : (vs.map SrtO.iv).Perm (es.toList.map keyOf) := by
    have q := pm.map SrtO.iv
    rw [List.map_map] at q
    refine q.trans (List.Perm.of_eq (List.map_congr_left fun e he => ?_))
    exact ke e.2 (List.mem_map.mpr ⟨e, he, rfl⟩)
  refine wpAny_bind (wpAny_newList ?_ (by rw [sizeLine_eq]; omega))
  have at1 : (s1.heap.push (seqObj "list" vs.toArray 0)).get? s1.heap.objs.size = some (seqObj "list" vs.toArray 0) := Heap.get?_push_size _ rfl
  refine wpAny_bind (wpAny_holding (wpAny_call_entry slot_list_sort ⟨_, at1, rfl⟩ entry_list_sort
    (SrtO.list_sort_ord SrtO.swo_int at1 (by rw [sizeLine_eq]; omega) (fun h2 => SrtO.ints_sortable hI h2) fun out h1 h2 => ⟨.none, rfl, ?_⟩) (args_list_sort _)))
  obtain ⟨c1, c2, c3⟩ := SrtO.ints_out hI h1 h2
  obtain ⟨c, hc⟩ := sortedHeap_at (vs := vs) (out := out.toArray) at1
  have pn : (out.map SrtO.iv).Perm (es.toList.map keyOf) := c2.trans pk
  refine wpAny_pure ⟨_, rfl, fin _ s1.heap.objs.size out c _ (fun b u e => ?_) g1 o1 hz hc c1 ?_ (fun k => by rw [pn.mem_iff, ← hm k]) ?_⟩
  · have q := k1 b u e
    have hlt := Heap.lt_size q
    show (sortedHeap (s1.heap.push (seqObj "list" vs.toArray 0)) s1.heap.objs.size vs out.toArray).get? b = some u
    rw [sortedHeap_old (Nat.ne_of_lt hlt) (by rw [size_push']; exact Nat.lt_succ_of_lt hlt)]
    exact Heap.get?_push_of_some _ q
  · exact (lt_of_le_nodup _ c3 (pn.nodup_iff.mpr nd)).imp fun {x y} h => decide_eq_true h
  · rw [c2.length_eq, List.length_map]; exact vl
end
section
variable {X : Cx}
def rSortedSA (w : World) : List V → Hp → VK → Prop := fun vs H Q => ∃ (a : Addr) (S : Int → Bool) (n : Nat), vs = [V.ref a] ∧ H a = some (SetO w a S n) ∧
  ∀ (ns : List Int) (p : Addr), ns.Pairwise (fun x y => iLt x y = true) → (∀ k : Int, k ∈ ns ↔ S k = true) → H p = none → Q (.ref p) (upd H p (.lst (ns.map V.int)))
theorem cr_sortedSA (hc : X.calm = true) : CallR X (.builtin "sorted") (rSortedSA X.w) := by
  intro pins s σ H vs us Q I r h
  obtain ⟨a, S, n, rfl, ha, q⟩ := h
  rw [Vals.ref1 r]
  refine sorted_setR (setO_get I ha) (I.ok.hd hc) fun s' p out c ns k g o hp hg hi hs hm hl => ?_
  have hn : H p = none := I.hok.fresh hp
  have hlen : (ns.map V.int).length ≤ sizeLine := by rw [List.length_map, sizeLine_eq]; omega
  have J : Inv X pins σ (upd H p (.lst (ns.map V.int))) { s with heap := s'.heap, gens := s'.gens, drawn := s'.drawn, toks := s'.toks } :=
    I.call (ch := []) (Un.laid k hp hn) (I.hok.laid k hp ⟨hlen, out, c, vals_of_ints hi, hg⟩) (by rw [g]; exact I.bare) (fun _ z => nomatch z)
  have e : s' = { s with heap := s'.heap, gens := s'.gens, drawn := s'.drawn, toks := s'.toks } := by
    cases s'; cases s; cases o; rfl
  rw [e]
  exact ⟨.ref p, _, J, rfl, q ns p hs hm hn⟩
end
end Pv
end
section
set_option Elab.async false
set_option linter.all false
set_option maxRecDepth 100000
set_option maxHeartbeats 1000000
namespace Pv
open PySem PySem.Spec PyProof.Rows L2
abbrev KT' := List L2.Key
abbrev Ent := Addr × KT'
abbrev IsM (P : Program) (w : World) (h : Heap) (k : KT') (b : Addr) : Prop := IsTupleKey (mixKind P w) h k b
abbrev mh (P : Program) (w : World) (k : KT') : Int := tupleKeyHash (mixKind P w) k
abbrev hsE (P : Program) (w : World) (e : Ent) : Int := mh P w e.2
abbrev rowE (P : Program) (w : World) (e : Ent) : Int × Value := (mh P w e.2, Value.ref e.1)
section
variable {P : Program} {w : World} {A : Around} {E : Value → Shared → Prop} {s : Shared}
theorem mix_items {k : KT'} {vs : List Value} (h : ItemsAre (mixKind P w) k vs) : ∀ v ∈ vs, (∃ i t, v = Value.int i t) ∨ ∃ x t, v = Value.str x t := by
  induction h with
  | nil => intro v hv; cases hv
  | @cons k0 v0 ks vs h1 _ ih =>
    intro v hv
    rcases List.mem_cons.mp hv with rfl | hv
    · rcases keyIs_shape (k := k0) (v := v) h1 with ⟨i, t, _, e⟩ | ⟨x, t, _, e⟩
      · exact .inl ⟨i, t, e⟩
      · exact .inr ⟨x, t, e⟩
    · exact ih v hv
theorem ofCls_str (n : Nat) (x : Str) (t : Tok) : ofAClassStatement n (.str x t) = pure false := by cases n <;> rfl
theorem byVal_str (n : Nat) (x : Str) (t : Tok) : hashByValue n (.str x t) = pure false := by cases n <;> rfl
theorem ofCls_mix {k : KT'} {b : Addr} {Q : Bool → Shared → Prop} (hk : IsM P w s.heap k b) (h : Q false s) : wpAny (model P w) A (ofAClassStatement 8 (.ref b)) Q E s := by
  have ty := hk.typeIs
  obtain ⟨o, items, n, ho, _, hd, hi⟩ := hk
  unfold ofAClassStatement
  refine wpAny_bind (wpAny_typeOf ty ?_)
  dsimp only
  simp only [show (("tuple" : String) == "tuple") = true by decide, if_true, Bool.not_true, Bool.false_eq_true, if_false]
  try refine wpAny_bind (wpAny_pure ?_)
  try simp only [Bool.not_true, Bool.false_eq_true, if_false]
  show wpAny _ _ (seqItems? (.ref b) >>= _) _ _ s
  refine wpAny_bind (wpAny_seqItems ho hd ?_)
  dsimp only
  refine wpAny_bind ?_
  show wpAny _ _ (forIn items _ _) _ _ s
  rw [← Array.forIn_toList]
  refine wpAny_forIn_list _ (fun l r s' => r.1 = none ∧ s' = s ∧ ∀ v ∈ l, (∃ i t, v = Value.int i t) ∨ ∃ x t, v = Value.str x t) _ ?_ ?_ _ _ ⟨rfl, rfl, mix_items hi⟩
  · rintro v l r s' ⟨_, rfl, q⟩
    have ql : ∀ u ∈ l, (∃ i t, u = Value.int i t) ∨ ∃ x t, u = Value.str x t := fun u hu => q u (List.mem_cons_of_mem _ hu)
    rcases q v List.mem_cons_self with ⟨i, t, rfl⟩ | ⟨x, t, rfl⟩
    · rw [ofAClass_int]
      refine wpAny_bind (wpAny_pure ?_)
      simp only [Bool.false_eq_true, if_false]
      exact wpAny_pure ⟨rfl, rfl, ql⟩
    · rw [ofCls_str]
      refine wpAny_bind (wpAny_pure ?_)
      simp only [Bool.false_eq_true, if_false]
      exact wpAny_pure ⟨rfl, rfl, ql⟩
  · rintro ⟨r1, r2⟩ s' ⟨q, rfl, _⟩
    simp only at q
    subst q
    exact wpAny_pure h
theorem byVal_mix {k : KT'} {b : Addr} {Q : Bool → Shared → Prop} (hk : IsM P w s.heap k b) (h : ∀ r, Q r s) : wpAny (model P w) A (hashByValue 8 (.ref b)) Q E s := by
  have ty := hk.typeIs
  obtain ⟨o, items, n, ho, _, hd, hi⟩ := hk
  unfold hashByValue
  refine wpAny_bind (wpAny_specialOf ty F.slot_tuple_hash.lookup ?_)
  show wpAny _ _ (seqItems? (.ref b) >>= _) _ _ s
  refine wpAny_bind (wpAny_seqItems ho hd ?_)
  refine wpAny_bind ?_
  show wpAny _ _ (forIn items _ _) _ _ s
  rw [← Array.forIn_toList]
  refine wpAny_forIn_list _ (fun l r s' => r.1 = none ∧ s' = s ∧ ∀ v ∈ l, (∃ i t, v = Value.int i t) ∨ ∃ x t, v = Value.str x t) _ ?_ ?_ _ _ ⟨rfl, rfl, mix_items hi⟩
  · rintro v l r s' ⟨_, rfl, q⟩
    have ql : ∀ u ∈ l, (∃ i t, u = Value.int i t) ∨ ∃ x t, u = Value.str x t := fun u hu => q u (List.mem_cons_of_mem _ hu)
    rcases q v List.mem_cons_self with ⟨i, t, rfl⟩ | ⟨x, t, rfl⟩
    · rw [hashBy_int]
      refine wpAny_bind (wpAny_pure ?_)
      simp only [Bool.not_true, Bool.false_eq_true, if_false]
      exact wpAny_pure ⟨rfl, rfl, ql⟩
    · rw [byVal_str]
      refine wpAny_bind (wpAny_pure ?_)
      simp only [Bool.not_false, if_true]
      exact wpAny_pure (wpAny_pure (h false))
  · rintro ⟨r1, r2⟩ s' ⟨q, rfl, _⟩
    simp only at q
    subst q
    exact wpAny_pure (h true)
theorem unseen_mix {k : KT'} {b : Addr} {Q : Bool → Shared → Prop} (hk : IsM P w s.heap k b) {ys : List Value} (hy : ∀ y ∈ ys, ∃ k' c, y = Value.ref c ∧ IsM P w s.heap k' c) (h : Q false s) :
    wpAny (model P w) A (searchCouldBeSeen (.ref b) ys) Q E s := by
  unfold searchCouldBeSeen
  refine wpAny_bind ?_
  refine wpAny_forIn_list _ (fun l r s' => r.1 = none ∧ s' = s ∧ ∀ y ∈ l, ∃ k' c, y = Value.ref c ∧ IsM P w s.heap k' c) _ ?_ ?_ _ _ ⟨rfl, rfl, hy⟩
  · rintro v l r s' ⟨_, rfl, q⟩
    obtain ⟨k', c, rfl, hc⟩ := q v List.mem_cons_self
    have ql : ∀ y ∈ l, ∃ k' c, y = Value.ref c ∧ IsM P w s'.heap k' c := fun u hu => q u (List.mem_cons_of_mem _ hu)
    dsimp only
    by_cases hv : (b == c || (carriedByValue (.ref b) && carriedByValue (.ref c))) = true
    · exact wp_if_pos hv (wpAny_pure ⟨rfl, rfl, ql⟩)
    · refine wp_if_neg hv ?_
      refine wpAny_bind (wpAny_eqIsQuiet_tuple hk ?_)
      simp only [Bool.not_true, Bool.false_eq_true, if_false]
      refine wpAny_bind (wpAny_eqIsQuiet_tuple hc ?_)
      simp only [Bool.not_true, Bool.false_eq_true, if_false]
      refine wpAny_bind (ofCls_mix hk ?_)
      simp only [Bool.false_eq_true, if_false]
      refine wpAny_bind (ofCls_mix hc ?_)
      simp only [Bool.false_eq_true, if_false]
      exact wpAny_pure ⟨rfl, rfl, ql⟩
  · rintro ⟨r1, r2⟩ s' ⟨q, rfl, _⟩
    simp only at q
    subst q
    exact wpAny_pure h
structure MS (P : Program) (w : World) (h : Heap) (a : Addr) (L : List Ent) (es : Array (Int × Value)) (ep : Nat) (t : SetTable) : Prop where
  ob : ∃ o, h.get? a = some o ∧ o.ExactSet ∧ o.data = .set es ep t
  rw' : es.toList = L.map (rowE P w)
  tb : TabOk t (L.map (hsE P w))
  nd : (L.map (·.2)).Nodup
  tu : ∀ e ∈ L, IsM P w h e.2 e.1
  ld : w.params.followText "set-order" = true ∨ t.led = true
  rm : L.length * 5 < t.mask * 3
  fw : L.length < 64
variable {a : Addr} {L : List Ent} {es : Array (Int × Value)} {ep : Nat} {t : SetTable}
theorem rows_size (r : es.toList = L.map (rowE P w)) : es.size = L.length := by
  have := congrArg List.length r
  simpa using this
theorem rows_at (r : es.toList = L.map (rowE P w)) {i : Nat} {e : Ent} (h : L[i]? = some e) : es[i]? = some (rowE P w e) := by
  rw [← Array.getElem?_toList, r, List.getElem?_map, h]; rfl
theorem MS.fit (R : MS P w s.heap a L es ep t) : t.fits es.size = true := by
  have q1 := R.tb.sz
  rw [List.length_map] at q1
  have q2 := rows_size R.rw'
  have q3 := R.rm
  unfold SetTable.fits SetTable.fill
  rw [R.tb.dm, Bool.and_eq_true, beq_iff_eq, decide_eq_true_eq]
  show t.place.size = es.size ∧ t.place.size + 0 ≤ t.mask
  omega
theorem MS.nogw (R : MS P w s.heap a L es ep t) : ¬ t.gaveWay = true := by
  unfold SetTable.gaveWay
  rw [mask_odd R.tb.mok]; decide
abbrev stp (t : SetTable) (h : Int) (c : Nat) : SetTable.Probe := nth t.mask (runAt t.mask (SetTable.bits h % (t.mask + 1)) (SetTable.bits h)) c
theorem stp_dummy (t : SetTable) (h : Int) (c : Nat) : (stp t h c).dummy = none := by
  have key : ∀ (n : Nat) (p : SetTable.Probe), p.dummy = none → (nth t.mask p n).dummy = none := by
    intro n
    induction n with
    | zero => exact fun _ q => q
    | succ n ih => exact fun p q => ih (adv t.mask p) (by unfold adv; split <;> exact q)
  exact key c _ rfl
theorem stp_add (t : SetTable) (h : Int) (c q : Nat) : nth t.mask (stp t h c) q = stp t h (c + q) := (nth_add t.mask c _ q).symm
theorem ms_find (R : MS P w s.heap a L es ep t) {x : Addr} {k : KT'} (hx : IsM P w s.heap k x) (hu : A.units < cLine) {K : Nat} (k1 : K < 10 * SetTable.turns t.mask)
    (k2 : way t.mask (mh P w k) K ∉ t.place.toList) (k3 : ∀ c, c < K → way t.mask (mh P w k) c ∈ t.place.toList) {Q : SetFound → Shared → Prop}
    (yes : k ∈ L.map (·.2) → Q (.there none) s) (no : k ∉ L.map (·.2) → Q (.free (way t.mask (mh P w k) K) false) s) :
    ∀ (f c : Nat) (st : Option SetTable.Probe), st.getD (t.probeStart (mh P w k)) = stp t (mh P w k) c → c ≤ K → K - c < f →
      (∀ (i : Nat) e, L[i]? = some e → e.2 = k → ∃ d, c ≤ d ∧ d < K ∧ t.place.toList[i]? = some (way t.mask (mh P w k) d)) →
      wpAny (model P w) A (setSearchFrom a (.ref x) (mh P w k) true f st) Q E s
  | 0, c, st, _, _, hf, _ => absurd hf (Nat.not_lt_zero _)
  | f + 1, c, st, e0, hc, hf, left => by
    obtain ⟨o, ho, hex, hd⟩ := R.ob
    rw [setSearchFrom_succ]
    refine wpAny_bind (wpAny_setState_of ho hd R.fit ?_)
    dsimp only
    refine wp_if_neg R.nogw ?_
    try refine wpAny_bind (wpAny_pure ?_)
    have jat : ∀ q, (nth t.mask (stp t (mh P w k) c) q).j = way t.mask (mh P w k) (c + q) := fun q => congrArg SetTable.Probe.j (stp_add t _ c q)
    have sp := go_spec t R.tb.ris R.tb.dm (fun i => (es[i]?.map (·.1)).getD 0) (mh P w k) (10 * SetTable.turns t.mask) (K - c) (stp t (mh P w k) c) (stp_dummy _ _ _) (by omega)
      (fun q hq => by rw [jat]; exact k3 (c + q) (by omega)) (by rw [jat, show c + (K - c) = K by omega]; exact k2)
    have hat : ∀ (i : Nat) e, L[i]? = some e → (es[i]?.map (·.1)).getD 0 = mh P w e.2 := fun i e he => by rw [rows_at R.rw' he]; rfl
    rcases sp with ⟨q, i, hq, hi, hh, hno, hp⟩ | ⟨hno, hp⟩
    · have hp' : t.probe (fun i => (es[i]?.map (·.1)).getD 0) (mh P w k) (st.getD (t.probeStart (mh P w k))) = some (.candidate (way t.mask (mh P w k) (c + q)) i (stp t (mh P w k) (c + (q + 1)))) := by
        rw [e0, ← jat, ← stp_add]; exact hp
      rw [hp']
      dsimp only
      rw [jat] at hi
      have il : i < L.length := by
        have z1 : i < t.place.toList.length := (List.getElem?_eq_some_iff.mp hi).1
        have z2 := R.tb.sz
        rw [List.length_map] at z2
        rw [Array.length_toList] at z1
        omega
      obtain ⟨e, he⟩ : ∃ e, L[i]? = some e := ⟨L[i], List.getElem?_eq_getElem il⟩
      have em : e ∈ L := List.mem_of_getElem? he
      have et := R.tu e em
      have tail : wpAny (model P w) A (searchRest a (.ref x) (mh P w k) true f es t (way t.mask (mh P w k) (c + q)) i (stp t (mh P w k) (c + (q + 1)))) Q E s := by
        unfold searchRest
        rw [rows_at R.rw' he]
        dsimp only
        refine wpAny_bind (wpAny_holding (wpAny_eqBool_tuple hu et hx ?_))
        refine wpAny_bind (wpAny_setState_of ho hd R.fit ?_)
        dsimp only
        by_cases hk : e.2 = k
        · exact wp_if_pos (by simp [hk]) (wpAny_pure (yes (List.mem_map.mpr ⟨e, em, hk⟩)))
        · refine wp_if_neg (by simp [hk]) ?_
          try refine wpAny_bind (wpAny_pure ?_)
          rw [sameMem]
          dsimp only
          have sl : t.slot (way t.mask (mh P w k) (c + q)) = .live i := slot_live R.tb.ris hi
          simp only [if_true, sl, rows_at R.rw' he]
          refine wpAny_bind (wpAny_isSame_ref_self (wpAny_bind (wpAny_pure ?_)))
          simp only [if_true]
          refine wp_if_neg (by simp [hk]) ?_
          refine ms_find R hx hu k1 k2 k3 yes no f (c + (q + 1)) _ rfl (by omega) (by omega) fun i0 e1 z1 z2 => ?_
          obtain ⟨d, d1, d2, d3⟩ := left i0 e1 z1 z2
          refine ⟨d, ?_, d2, d3⟩
          rcases Nat.lt_trichotomy d (c + q) with z | z | z
          · exfalso
            exact hno (d - c) i0 (by omega) (by rw [jat, show c + (d - c) = d by omega]; exact d3) ((hat i0 e1 z1).trans (congrArg (mh P w) z2))
          · exfalso
            rw [z] at d3
            have s0 := slot_live R.tb.ris d3
            rw [sl] at s0
            injection s0 with s0
            rw [← s0, he] at z1
            exact hk ((congrArg Prod.snd (Option.some.inj z1)).trans z2)
          · omega
      by_cases hl : t.led = true
      · refine wp_if_neg (by simp [hl]) ?_
        try refine wpAny_bind (wpAny_pure ?_)
        exact tail
      · refine wp_if_pos (by simp [hl]) ?_
        refine wpAny_bind (unseen_mix hx (fun y hy => ?_) ?_)
        · obtain ⟨r, hr, er⟩ := List.mem_map.mp hy
          have hr1 : r ∈ es ∧ r.1 = mh P w k := by simpa using hr
          have hr2 : r ∈ es.toList := by simpa using hr1.1
          rw [R.rw'] at hr2
          obtain ⟨e2, m2, e3⟩ := List.mem_map.mp hr2
          exact ⟨e2.2, e2.1, by rw [← er, ← e3], R.tu e2 m2⟩
        · refine wp_if_neg (by decide) ?_
          try refine wpAny_bind (wpAny_pure ?_)
          exact tail
    · have hp' : t.probe (fun i => (es[i]?.map (·.1)).getD 0) (mh P w k) (st.getD (t.probeStart (mh P w k))) = some (.empty (way t.mask (mh P w k) K) none) := by
        have z : way t.mask (mh P w k) K = (nth t.mask (stp t (mh P w k) c) (K - c)).j := by rw [jat, show c + (K - c) = K by omega]
        rw [e0, z]; exact hp
      rw [hp']
      dsimp only
      refine wpAny_pure (no fun hm => ?_)
      obtain ⟨e, em, ek⟩ := List.mem_map.mp hm
      obtain ⟨i0, hi0, ei⟩ := List.getElem_of_mem em
      have z1 : L[i0]? = some e := by rw [List.getElem?_eq_getElem hi0, ei]
      obtain ⟨d, d1, d2, d3⟩ := left i0 e z1 ek
      exact hno (d - c) i0 (by omega) (by rw [jat, show c + (d - c) = d by omega]; exact d3) ((hat i0 e z1).trans (congrArg (mh P w) ek))
theorem ms_search (R : MS P w s.heap a L es ep t) {x : Addr} {k : KT'} (hx : IsM P w s.heap k x) (hu : A.units < cLine) {Q : SetFound → Shared → Prop} (yes : k ∈ L.map (·.2) → Q (.there none) s)
    (no : ∀ K, k ∉ L.map (·.2) → way t.mask (mh P w k) K ∉ t.place.toList → (∀ c, c < K → way t.mask (mh P w k) c ∈ t.place.toList) → Q (.free (way t.mask (mh P w k) K) false) s) :
    wpAny (model P w) A (setSearch a (.ref x) (mh P w k) true) Q E s := by
  have rm := R.rm
  obtain ⟨K, k1, k2, k3⟩ := R.tb.first (by rw [List.length_map]; omega) (mh P w k)
  have k4 : K < 100000 := by
    have : 10 * SetTable.turns t.mask ≤ 1420 := by
      unfold SetTable.turns
      rcases R.tb.mok with e | e | e <;> omega
    omega
  unfold setSearch
  refine ms_find R hx hu k1 k2 k3 yes (fun n => no K n k2 k3) 100000 0 none rfl (Nat.zero_le _) (by omega) fun i e he hk => ?_
  have z1 : (L.map (hsE P w))[i]? = some (mh P w k) := by rw [List.getElem?_map, he, ← hk]; rfl
  have z2 : i < t.place.toList.length := by
    have q1 : i < L.length := (List.getElem?_eq_some_iff.mp he).1
    have q2 := R.tb.sz
    rw [List.length_map] at q2
    rw [Array.length_toList]; omega
  have z3 := List.getElem?_eq_getElem z2
  obtain ⟨d, d1, d2⟩ := R.tb.before k2 z1 z3
  exact ⟨d, Nat.zero_le _, d1, by rw [z3, d2]⟩
end
end Pv
end
section
set_option Elab.async false
set_option linter.all false
set_option maxRecDepth 100000
set_option maxHeartbeats 1000000
namespace Pv
open PySem PySem.Spec PyProof.Rows L2
section
variable {P : Program} {w : World} {A : Around} {E : Value → Shared → Prop} {s : Shared} {a : Addr} {L : List Ent} {es : Array (Int × Value)} {ep : Nat} {t : SetTable}
theorem pick_map {α : Type} (l : List α) (d : α) : ∀ is : List Nat, (∀ i ∈ is, i < l.length) → is.filterMap (fun i => l[i]?) = is.map fun i => l.getD i d
  | [], _ => rfl
  | i :: is, h => by
    have hi := h i List.mem_cons_self
    rw [List.filterMap_cons_some (List.getElem?_eq_getElem hi), List.map_cons, pick_map l d is fun j hj => h j (List.mem_cons_of_mem _ hj), List.getD_eq_getElem?_getD, List.getElem?_eq_getElem hi]; rfl
theorem pick_all {α : Type} (l : List α) (d : α) : (List.range l.length).map (fun i => l.getD i d) = l := by
  refine List.ext_getElem (by simp) fun i h1 h2 => ?_
  simp [h2]
theorem reorder {es : Array (Int × Value)} (r : es.toList = L.map (rowE P w)) {ord : Array Nat} (hp : ord.toList.Perm (List.range L.length)) :
    ∃ L2 : List Ent, (ord.filterMap (es[·]?)).toList = L2.map (rowE P w) ∧ L2.Perm L ∧ L2.map (hsE P w) = ord.toList.map fun i => (es.map (·.1)).getD i 0 := by
  have hb : ∀ i ∈ ord.toList, i < L.length := fun i hi => List.mem_range.mp (hp.mem_iff.mp hi)
  refine ⟨ord.toList.filterMap fun i => L[i]?, ?_, ?_, ?_⟩
  · have e : (fun i : Nat => es[i]?) = fun i : Nat => (L[i]?).map (rowE P w) := by
      funext i
      rw [← Array.getElem?_toList, r, List.getElem?_map]
    rw [Array.toList_filterMap, e, List.map_filterMap]
  · have z := hp.filterMap fun i => L[i]?
    have e2 : (List.range L.length).filterMap (fun i => L[i]?) = L := by
      rw [pick_map L ((0 : Addr), []) _ fun i hi => List.mem_range.mp hi, pick_all]
    rw [e2] at z
    exact z
  · rw [pick_map L ((0 : Addr), []) _ hb, List.map_map]
    refine List.map_congr_left fun i hi => ?_
    have hl := hb i hi
    have e1 : es[i]? = some (rowE P w L[i]) := rows_at r (List.getElem?_eq_getElem hl)
    have e2 : (es.map (·.1)).getD i 0 = mh P w (L[i]).2 := by
      have e3 : (es.map (·.1))[i]? = some (mh P w (L[i]).2) := by rw [Array.getElem?_map, e1]; rfl
      simp [Array.getD_eq_getD_getElem?, e3]
    rw [e2]
    show hsE P w (L.getD i ((0 : Addr), [])) = _
    rw [List.getD_eq_getElem?_getD, List.getElem?_eq_getElem hl]; rfl
theorem mix_apart {h h' : Heap} {k : KT'} {b : Addr} {o : Obj} (hb : IsM P w h k b) (ho : h.get? a = some o) (hd : o.data = .set es ep t) (sb : Heap.SameBut a h h') : IsM P w h' k b := by
  obtain ⟨o', its, n, e, r1, r2, r3⟩ := hb
  have ne : b ≠ a := by
    rintro rfl
    obtain rfl : o' = o := Option.some.inj (e.symm.trans ho)
    rw [hd] at r2
    exact nomatch r2
  exact ⟨o', its, n, (sb.2 b ne).trans e, r1, r2, r3⟩
theorem mix_keep {h h' : Heap} {k : KT'} {b : Addr} (x : IsM P w h k b) (hk : Kps h h') : IsM P w h' k b := by
  obtain ⟨o, its, n, e, r⟩ := x
  exact ⟨o, its, n, hk b o e, r⟩
theorem ms_relay {o : Obj} (ho : s.heap.get? a = some o) (hex : o.ExactSet) (hd : o.data = .set es ep t) (r : es.toList = L.map (rowE P w)) (z1 : t.place.size = es.size) (z2 : t.dummies = #[]) (z3 : es.size ≤ t.mask)
    (nd : (L.map (·.2)).Nodup) (tu : ∀ e ∈ L, IsM P w s.heap e.2 e.1) (ld : w.params.followText "set-order" = true ∨ t.led = true) (fw : L.length < 64) {wd M : Nat}
    (m1 : SetTable.sizeAbove wd - 1 = M) (m2 : MaskOk M) (m3 : SetTable.sizeAbove wd ≤ 128) (m4 : L.length * 5 < M * 3) {Q : Unit → Shared → Prop}
    (fin : ∀ h' L' es' ep' t', Heap.SameBut a s.heap h' → MS P w h' a L' es' ep' t' → L'.Perm L → Q () { s with heap := h' }) : wpAny (model P w) A (setRelay a wd) Q E s := by
  have sl := rows_size r
  have ft : t.fits es.size = true := by
    unfold SetTable.fits SetTable.fill
    rw [z2, Bool.and_eq_true, beq_iff_eq, decide_eq_true_eq]
    show t.place.size = es.size ∧ t.place.size + 0 ≤ t.mask
    omega
  obtain ⟨t', ord, e, hp, T, em, el, _, _⟩ := relaid_ok t (hs := es.map (·.1)) (wanted := wd) m1 m2 (by rw [Array.size_map, sl]; omega)
  rw [Array.size_map, sl] at hp
  obtain ⟨L2, r1, r2, r3⟩ := reorder r hp
  rw [← r3] at T
  have s2 : (ord.filterMap (es[·]?)).size = es.size := by
    rw [rows_size r1, r2.length_eq, sl]
  rw [setRelay_eq]
  refine wpAny_bind (wpAny_setState_of ho hd ft ?_)
  dsimp only
  refine wp_if_neg (by rw [sizeLine_eq]; omega) ?_
  try refine wpAny_bind (wpAny_pure ?_)
  rw [e]
  dsimp only
  refine wpAny_bind ?_
  refine wp_if_neg (by rw [s2]; simp) ?_
  try refine wpAny_bind (wpAny_pure ?_)
  refine wpAny_pure ?_
  dsimp only
  refine wpAny_storeSet_of ho hd ?_ (by rw [s2, sl, sizeLine_eq]; omega)
  have sb : Heap.SameBut a s.heap (s.heap.update a (Obj.putSet (ord.filterMap (es[·]?)) t')) := Heap.SameBut.update ..
  refine fin _ L2 (ord.filterMap (es[·]?)) (ep + 1) t' sb ⟨⟨_, store_at ho hd, ⟨hex.1, hex.2.1, hex.2.2⟩, rfl⟩, r1, T, (r2.map (·.2)).nodup_iff.mpr nd, fun e he => mix_apart (tu e (r2.mem_iff.mp he)) ho hd sb, by rw [el]; exact ld, ?_, by rw [r2.length_eq]; exact fw⟩ r2
  rw [r2.length_eq, em]; exact m4
theorem tab_plain {t : SetTable} {hs : List Int} (T : TabOk t hs) (b : Bool) : TabOk { t with plain := b } hs := ⟨T.ris, T.dm, T.sz, T.mok, T.bd, T.reach⟩
theorem ms_add (R : MS P w s.heap a L es ep t) {x : Addr} {k : KT'} (hx : IsM P w s.heap k x) (hu : A.units < cLine) (fw : L.length + 1 < 64) {Q : Bool → Shared → Prop}
    (fin : ∀ b h' L' es' ep' t', Heap.SameBut a s.heap h' → MS P w h' a L' es' ep' t' → (k ∈ L.map (·.2) → L' = L) → (k ∉ L.map (·.2) → L'.Perm ((x, k) :: L)) → Q b { s with heap := h' }) :
    wpAny (model P w) A (setAddHashed a (.ref x) (mh P w k)) Q E s := by
  obtain ⟨o, ho, hex, hd⟩ := R.ob
  have sl := rows_size R.rw'
  have rm := R.rm
  unfold setAddHashed
  refine wpAny_holding ?_
  rw [show (100000 : Nat) = 99999 + 1 from rfl, setAddHashedIn_succ]
  refine wpAny_bind (wpAny_setState_of ho hd R.fit ?_)
  dsimp only
  refine wp_if_neg (by simp [byScan, Value.scannable]) ?_
  try refine wpAny_bind (wpAny_pure ?_)
  refine wpAny_bind (ms_search R hx hu (fun hm => ?_) fun K hm k2 k3 => ?_)
  · dsimp only
    exact wpAny_pure (fin false s.heap L es ep t (Heap.SameBut.refl a s.heap) R (fun _ => rfl) fun z => absurd hm z)
  · dsimp only
    refine wpAny_bind (wpAny_setState_of ho hd R.fit ?_)
    dsimp only
    obtain ⟨q1, q2, q3, q4, q5, _, _, _, q9⟩ := R.tb.put k2 k3
    have hin : (SetTable.insertAt es (SetTable.below t.place (way t.mask (mh P w k) K)) (mh P w k, Value.ref x)).toList = (L.take (SetTable.below t.place (way t.mask (mh P w k) K)) ++ (x, k) :: L.drop (SetTable.below t.place (way t.mask (mh P w k) K))).map (rowE P w) := by
      rw [SetTable.toList_insertAt, R.rw', List.map_append, List.map_cons, List.map_take, List.map_drop]
    generalize hpt : t.put (way t.mask (mh P w k) K) = pt at q1 q3 q4 q5 q9 ⊢
    obtain ⟨t0, p⟩ := pt
    dsimp only at q1 q3 q4 q5 q9 ⊢
    subst q1
    generalize SetTable.below t.place (way t.mask (mh P w k) K) = p at q2 q3 hin ⊢
    have pm : (L.take p ++ (x, k) :: L.drop p).Perm ((x, k) :: L) := put_perm L p (x, k)
    have ln : (L.take p ++ (x, k) :: L.drop p).length = L.length + 1 := pm.length_eq
    have hh : (L.map (hsE P w)).take p ++ mh P w k :: (L.map (hsE P w)).drop p = (L.take p ++ (x, k) :: L.drop p).map (hsE P w) := by
      rw [List.map_append, List.map_cons, List.map_take, List.map_drop]
    rw [hh] at q3
    have nd1 : ((L.take p ++ (x, k) :: L.drop p).map (·.2)).Nodup := (pm.map (·.2)).nodup_iff.mpr (List.nodup_cons.mpr ⟨hm, R.nd⟩)
    have es1 : (SetTable.insertAt es p (mh P w k, Value.ref x)).size = L.length + 1 := by rw [rows_size hin, ln]
    generalize SetTable.insertAt es p (mh P w k, Value.ref x) = fs at hin es1 ⊢
    generalize L.take p ++ (x, k) :: L.drop p = L1 at pm ln q3 nd1 hin
    have go : ∀ pb : Bool, wpAny (model P w) A (storeSet a fs { t0 with plain := pb } >>= fun _ => if (!false && SetTable.tooFull { t0 with plain := pb }) = true then (setRelay a (SetTable.grown (es.size + 1)) >>= fun _ => pure true) else pure true) Q E s := fun pb => by
      have T1 := tab_plain q3 pb
      refine wpAny_bind (wpAny_storeSet_of ho hd ?_ (by rw [es1, sizeLine_eq]; omega))
      have sb : Heap.SameBut a s.heap (s.heap.update a (Obj.putSet fs { t0 with plain := pb })) := Heap.SameBut.update ..
      have ho1 := store_at (es' := fs) (t' := { t0 with plain := pb }) ho hd
      generalize s.heap.update a (Obj.putSet fs { t0 with plain := pb }) = h1 at sb ho1 ⊢
      have tu1 : ∀ e ∈ L1, IsM P w h1 e.2 e.1 := fun e he => by
        rcases List.mem_cons.mp (pm.mem_iff.mp he) with z | z
        · rw [z]; exact mix_apart hx ho hd sb
        · exact mix_apart (R.tu e z) ho hd sb
      have ld1 : w.params.followText "set-order" = true ∨ ({ t0 with plain := pb } : SetTable).led = true := by
        show _ ∨ t0.led = true
        rw [q5]; exact R.ld
      have mk1 : ({ t0 with plain := pb } : SetTable).mask = t.mask := q4
      have fl1 : ({ t0 with plain := pb } : SetTable).fill = (L.map (hsE P w)).length + 1 := q9
      generalize ({ t0 with plain := pb } : SetTable) = t1 at T1 ho1 ld1 mk1 fl1 ⊢
      by_cases hf : t1.tooFull = true
      · have full : (L.length + 1) * 5 ≥ t1.mask * 3 := by
          have z := hf
          unfold SetTable.tooFull at z
          rw [decide_eq_true_eq, fl1, List.length_map] at z
          exact z
        have sz1 : t1.place.size = fs.size := by
          have z := T1.sz
          rw [List.length_map, ln] at z
          rw [z, es1]
        have two : (t.mask = 7 ∧ L.length = 4) ∨ (t.mask = 31 ∧ L.length = 18) := by
          rcases R.tb.mok with e | e | e
          · left; rw [mk1, e] at full; rw [e] at rm; exact ⟨e, by omega⟩
          · right; rw [mk1, e] at full; rw [e] at rm; exact ⟨e, by omega⟩
          · exfalso; rw [mk1, e] at full; omega
        rw [sl]
        refine wp_if_pos (by simp [hf]) (wpAny_bind ?_)
        have rel : ∀ M, SetTable.sizeAbove (SetTable.grown (L.length + 1)) - 1 = M → MaskOk M → SetTable.sizeAbove (SetTable.grown (L.length + 1)) ≤ 128 → (L.length + 1) * 5 < M * 3 →
            wpAny (model P w) A (setRelay a (SetTable.grown (L.length + 1))) (fun _ s' => wpAny (model P w) A (pure true) Q E s') E { s with heap := h1 } := fun M g1 g2 g3 g4 =>
          ms_relay (s := { s with heap := h1 }) ho1 ⟨hex.1, hex.2.1, hex.2.2⟩ rfl hin sz1 T1.dm (by rw [es1, mk1]; rcases two with ⟨e, e2⟩ | ⟨e, e2⟩ <;> omega) nd1 tu1 ld1 (by rw [ln]; exact fw) g1 g2 g3 (by rw [ln]; exact g4)
            fun h2 L2 es2 ep2 t2 sb2 R2 pm2 => wpAny_pure (fin true h2 L2 es2 ep2 t2 (sb.trans sb2) R2 (fun z => absurd z hm) fun _ => pm2.trans pm)
        rcases two with ⟨_, e2⟩ | ⟨_, e2⟩
        · exact rel 31 (by rw [e2, size_20]) (.inr (.inl rfl)) (by rw [e2, size_20]; decide) (by omega)
        · exact rel 127 (by rw [e2, size_76]) (.inr (.inr rfl)) (by rw [e2, size_76]; decide) (by omega)
      · refine wp_if_neg (by simp [hf]) ?_
        refine wpAny_pure (fin true h1 L1 fs (ep + 1) t1 sb ⟨⟨_, ho1, ⟨hex.1, hex.2.1, hex.2.2⟩, rfl⟩, hin, T1, nd1, tu1, ld1, ?_, by rw [ln]; exact fw⟩ (fun z => absurd z hm) fun _ => pm)
        have z := hf
        unfold SetTable.tooFull at z
        rw [decide_eq_true_eq, fl1, List.length_map] at z
        rw [ln]; omega
    have fin2 : ∀ b : Bool, wpAny (model P w) A (storeSet a fs (if b = true then t0 else { t0 with plain := false }) >>= fun _ => if (!false && SetTable.tooFull (if b = true then t0 else { t0 with plain := false })) = true then (setRelay a (SetTable.grown (es.size + 1)) >>= fun _ => pure true) else pure true) Q E s := fun b => by
      cases b with
      | true => exact go t0.plain
      | false => exact go false
    by_cases hpl : t0.plain = true
    · first
        | (refine wpAny_bind ?_; refine wp_if_pos hpl ?_; exact byVal_mix hx fun b => fin2 b)
        | exact wp_if_pos hpl (wpAny_bind (byVal_mix hx fun b => fin2 b))
    · first
        | (refine wpAny_bind ?_; refine wp_if_neg hpl ?_; exact wpAny_pure (fin2 true))
        | exact wp_if_neg hpl (fin2 true)
end
end Pv
end
section
set_option Elab.async false
set_option linter.all false
set_option maxRecDepth 100000
set_option maxHeartbeats 1000000
namespace Pv
open PySem PySem.Spec PyProof.Rows L2
def ck : L2.Key → Int ⊕ List Nat
  | .inl i => .inl i
  | .inr x => .inr x.cps.toList
theorem ck_inj : ∀ {a b : L2.Key}, ck a = ck b → a = b
  | .inl _, .inl _, h => by simpa [ck] using h
  | .inl _, .inr _, h => by simp [ck] at h
  | .inr _, .inl _, h => by simp [ck] at h
  | .inr _, .inr _, h => by
    have : _ = _ := Sum.inr.inj h
    rw [PySem.W.str_of_cps this]
theorem cks_inj : ∀ {a b : KT'}, a.map ck = b.map ck → a = b
  | [], [], _ => rfl
  | [], _ :: _, h => by simp at h
  | _ :: _, [], h => by simp at h
  | x :: a, y :: b, h => by
    simp only [List.map_cons, List.cons.injEq] at h
    rw [ck_inj h.1, cks_inj h.2]
def kLt (a b : KT') : Bool := PyProof.Rows.lexLt itemOrd (a.map ck) (b.map ck)
theorem lin_k : Lin kLt := ⟨fun _ => lex_irrefl _, fun _ _ _ => lex_trans _ _ _, fun _ _ h1 h2 => cks_inj (lex_total _ _ h1 h2)⟩
abbrev refE (e : Ent) : Value := Value.ref e.1
abbrev shp (sh : List Bool) : Nat → Bool := fun i => sh.getD i false
theorem perm_lift {α β : Type} (f : α → β) : ∀ {l : List β} {L : List α}, l.Perm (L.map f) → ∃ L' : List α, l = L'.map f ∧ L'.Perm L
  | [], L, h => ⟨[], rfl, by
      have := h.length_eq
      simp at this
      rw [List.eq_nil_of_length_eq_zero this.symm]⟩
  | x :: l, L, h => by
    obtain ⟨e, he, rfl⟩ := List.mem_map.mp (h.mem_iff.mp List.mem_cons_self)
    obtain ⟨A, B, rfl⟩ := List.append_of_mem he
    have h2 : l.Perm ((A ++ B).map f) := by
      refine List.Perm.cons_inv (h.trans ?_)
      rw [List.map_append, List.map_cons, List.map_append]
      exact List.perm_middle
    obtain ⟨L', rfl, p⟩ := perm_lift f h2
    exact ⟨e :: L', rfl, (p.cons e).trans List.perm_middle.symm⟩
section
variable {P : Program} {w : World} {A : Around} {E : Value → Shared → Prop} {s : Shared} {a : Addr} {L : List Ent} {sh : List Bool}
theorem tupItems_mix : ∀ {k : KT'} {vs : List Value} (f : Nat → Bool) (i : Nat), ItemsAre (mixKind P w) k vs → (∀ j b, (k.map Sum.isRight)[j]? = some b → f (i + j) = b) → tupItems f i vs = some (k.map ck)
  | _, _, _, _, .nil, _ => rfl
  | _, _, f, i, .cons (k := k0) (ks := ks) (vs := vs) h1 h2, hf => by
    have f0 := hf 0 _ rfl
    have ih := tupItems_mix f (i + 1) h2 fun j b hb => by
      have := hf (j + 1) b (by simpa using hb)
      rw [← this]; congr 1; omega
    rcases keyIs_shape (k := k0) h1 with ⟨n, t, rfl, rfl⟩ | ⟨x, t, rfl, rfl⟩
    · unfold tupItems
      have f1 : f i = false := f0
      rw [f1, ih]; rfl
    · unfold tupItems
      have f1 : f i = true := f0
      rw [f1, ih]; rfl
theorem key_mix {h : Heap} {k : KT'} {b : Addr} (x : IsM P w h k b) (e : k.map Sum.isRight = sh) : G.tupKeyC h (shp sh) (.ref b) = some (k.map ck) := by
  obtain ⟨o, its, n, ho, hc, hd, hi⟩ := x
  refine G.tupKeyC_of ho hc hd (tupItems_mix _ 0 hi fun j b hb => ?_)
  rw [e] at hb
  simp [shp, List.getD_eq_getElem?_getD, hb]
theorem tups_mix {h : Heap} (hne : sh ≠ []) : ∀ {L : List Ent}, (∀ e ∈ L, IsM P w h e.2 e.1) → (∀ e ∈ L, e.2.map Sum.isRight = sh) → ∃ fs, TupsOf h (shp sh) (L.map refE) fs
  | [], _, _ => ⟨[], .nil⟩
  | e :: L, ht, hs => by
    obtain ⟨fs, r⟩ := tups_mix hne (L := L) (fun x hx => ht x (List.mem_cons_of_mem _ hx)) fun x hx => hs x (List.mem_cons_of_mem _ hx)
    obtain ⟨o, its, n, ho, hc, hd, hi⟩ := ht e List.mem_cons_self
    have hse := hs e List.mem_cons_self
    cases hk : e.2 with
    | nil => rw [hk] at hse; exact absurd hse.symm hne
    | cons k0 ks =>
      rw [hk] at hi hse
      cases hv : its.toList with
      | nil => rw [hv] at hi; cases hi
      | cons v vs =>
        rw [hv] at hi
        cases hi with
        | cons h1 h2 =>
          have at0 : its[0]? = some v := by rw [← Array.getElem?_toList, hv]; rfl
          have s0 : shp sh 0 = k0.isRight := by rw [← hse]; rfl
          refine ⟨v :: fs, .cons ⟨e.1, o, its, n, rfl, ho, hc, hd, at0, fun z => ?_, fun z => ?_⟩ r⟩
          · rcases keyIs_shape (k := k0) h1 with ⟨i, t, rfl, rfl⟩ | ⟨x, t, rfl, rfl⟩
            · exact ⟨i, t, rfl⟩
            · rw [s0] at z; cases z
          · rcases keyIs_shape (k := k0) h1 with ⟨i, t, rfl, rfl⟩ | ⟨x, t, rfl, rfl⟩
            · rw [s0] at z; cases z
            · exact ⟨x, t, rfl⟩
theorem zip_two : ∀ L : List Ent, (L.map refE).zip (L.map refE) = L.map fun e => (refE e, refE e)
  | [] => rfl
  | e :: L => by rw [List.map_cons, List.zip_cons_cons, zip_two L]; rfl
theorem sort_mix {n : Nat} {R : PySem.Fin → Shared → Prop} (ho : s.heap.get? a = some (seqObj "list" (L.map refE).toArray n)) (ht : ∀ e ∈ L, IsM P w s.heap e.2 e.1) (hs : ∀ e ∈ L, e.2.map Sum.isRight = sh) (hne : sh ≠ [])
    (hz : L.length ≤ sizeLine) (fin : ∀ L' : List Ent, L'.Perm L → L'.Pairwise (fun e f => kLt f.2 e.2 = false) → R (.done (.ret .none)) { s with heap := sortedHeap s.heap a (L.map refE) (L'.map refE).toArray }) :
    wpAny (model P w) A (Builtin.«list.sort» ⟨[.ref a], []⟩) R E s := by
  obtain ⟨fs, tf⟩ := tups_mix hne ht hs
  refine G.list_sort_tups ho tf (fun v hv => ?_) (by rw [List.length_map]; exact hz) fun st h1 h2 h3 => ?_
  · obtain ⟨e, he, rfl⟩ := List.mem_map.mp hv
    exact ⟨_, key_mix (ht e he) (hs e he)⟩
  · have hl : (arrOf st).toList.Perm ((L.map refE).zip (L.map refE)) := by rw [← pairsOf_toList]; exact Array.perm_iff_toList_perm.mp h1
    have hz2 : (L.map refE).zip (L.map refE) = L.map fun e => (refE e, refE e) := zip_two L
    rw [hz2] at hl
    obtain ⟨L', e1, p1⟩ := perm_lift _ hl
    have e2 : ((arrOf st).map (·.2)) = (L'.map refE).toArray := by
      refine Array.ext' ?_
      rw [Array.toList_map, e1, List.map_map]; rfl
    rw [e2]
    refine fin L' p1 (List.pairwise_iff_getElem.mpr fun i j hi hj hij => ?_)
    have hsz : (pairsOf (L.map refE)).size = L'.length := by rw [pairsOf_size, List.length_map, p1.length_eq]
    have q := h2 i j (Nat.le_of_lt hij) (by rw [hsz]; exact hj)
    have kk : ∀ (m : Nat) (hm : m < L'.length), KK (G.tupKindC s.heap (shp sh)) (arrOf st) m = (L'[m]).2.map ck := fun m hm => by
      have at1 : (arrOf st)[m]? = some (refE L'[m], refE L'[m]) := by
        rw [← Array.getElem?_toList, e1, List.getElem?_map, List.getElem?_eq_getElem hm]; rfl
      have me : L'[m] ∈ L := p1.mem_iff.mp (List.getElem_mem hm)
      unfold KK
      rw [at1]
      show (G.tupKeyC s.heap (shp sh) (.ref (L'[m]).1)).getD [] = _
      rw [key_mix (ht _ me) (hs _ me)]; rfl
    rw [kk i hi, kk j hj] at q
    exact q
end
end Pv
end
section
set_option Elab.async false
set_option linter.all false
set_option maxRecDepth 100000
set_option maxHeartbeats 1000000
namespace Pv
open PySem PySem.Spec PyProof.Rows L2
section
variable {P : Program} {w : World} {A : Around} {E : Value → Shared → Prop} {s : Shared}
theorem fillsI {items : Array Value} {ns : List Int} {h0 : Heap} {S : Addr} {u : Nat} (hi : IntsAre items.toList ns) (hb : ns.length + 1 < 4096) :
    Fills P w h0 S (fun i v => items[i]? = some v) (fun i h => ∃ c, c ≤ i ∧ SetR w h S (fun j => decide (j ∈ ns.take i)) c) u where
  keep := fun i h h' ⟨c, hc, R⟩ k1 _ => ⟨c, hc, R.at k1⟩
  step := fun i v A E s Q hv _ ⟨c, hc, R⟩ _ fin => by
    have hl : items.toList.length = ns.length := hi.length
    have il : i < ns.length := by rw [← hl, Array.length_toList]; exact (Array.getElem?_eq_some_iff.mp hv).1
    obtain ⟨t, rfl⟩ := PyProof.Rows.IntsAre.int_at hi i v (by rw [Array.getElem?_toList]; exact hv)
    have hz : ns[i]? = some (ns.getD i 0) := by rw [List.getD_eq_getElem?_getD, List.getElem?_eq_getElem il]; rfl
    generalize ns.getD i 0 = z at hz
    unfold setAdd
    refine wpAny_holding ?_
    refine wpAny_bind ((intKind P w).pyHash (k := z) (intKind_is _ _ _ _) ?_)
    refine setR_add_hashed (s := { s with toks := s.toks + 1 }) R (by show c + 1 < 4096; omega) fun h' sb R2 => ?_
    refine fin _ h' (s.toks + 1) (Nat.le_succ _) sb ⟨_, ?_, R2.congr fun j => ?_⟩
    · split <;> omega
    · rw [List.take_add_one, hz]; simp [List.mem_append]
structure GotE (ks : List Ent) (i : Nat) (L : List Ent) : Prop where
  sub : ∀ e ∈ L, e ∈ ks.take i
  all : ∀ e ∈ ks.take i, e.2 ∈ L.map (·.2)
  len : L.length ≤ i
theorem fillsM {items : Array Value} {ks : List Ent} {h0 : Heap} {S : Addr} (hit : items.toList = ks.map refE) (hk : ∀ e ∈ ks, IsM P w h0 e.2 e.1) (hf : ks.length < 64) :
    Fills P w h0 S (fun i v => items[i]? = some v) (fun i h => ∃ L es ep t, MS P w h S L es ep t ∧ GotE ks i L) cLine where
  keep := fun i h h' ⟨L, es, ep, t, R, g⟩ k1 k2 => by
    obtain ⟨o, ho, r⟩ := R.ob
    exact ⟨L, es, ep, t, ⟨⟨o, k1 o ho, r⟩, R.rw', R.tb, R.nd, fun e he => mix_keep (hk e (List.mem_of_mem_take (g.sub e he))) k2, R.ld, R.rm, R.fw⟩, g⟩
  step := fun i v A E s Q hv hu ⟨L, es, ep, t, R, g⟩ kp fin => by
    have q : items.toList[i]? = some v := by rw [Array.getElem?_toList]; exact hv
    rw [hit, List.getElem?_map] at q
    cases hq : ks[i]? with
    | none => rw [hq] at q; cases q
    | some e =>
      rw [hq] at q
      obtain rfl : refE e = v := Option.some.inj q
      have il : i < ks.length := (List.getElem?_eq_some_iff.mp hq).1
      have hx : IsM P w s.heap e.2 e.1 := mix_keep (hk e (List.mem_of_getElem? hq)) kp
      have tk : ks.take (i + 1) = ks.take i ++ [e] := by rw [List.take_succ, hq]; rfl
      unfold setAdd
      refine wpAny_holding ?_
      refine wpAny_bind (wpAny_pyHash_tuple hu hx ?_)
      refine ms_add (s := { s with toks := s.toks + (e.2.length + 1) }) R hx hu (by have := g.len; omega) fun b h' L' es' ep' t' sb R2 c1 c2 => ?_
      refine fin b h' _ (Nat.le_add_right _ _) sb ⟨L', es', ep', t', R2, ?_⟩
      rcases Classical.em (e.2 ∈ L.map (·.2)) with c | c
      · obtain rfl := c1 c
        refine ⟨fun x hx => by rw [tk]; exact List.mem_append_left _ (g.sub x hx), fun x hx => ?_, Nat.le_succ_of_le g.len⟩
        rw [tk] at hx
        rcases List.mem_append.mp hx with z | z
        · exact g.all x z
        · rw [List.mem_singleton.mp z]; exact c
      · have pm := c2 c
        refine ⟨fun x hx => ?_, fun x hx => ?_, by rw [pm.length_eq, List.length_cons]; have := g.len; omega⟩
        · rw [tk]
          rcases List.mem_cons.mp (pm.mem_iff.mp hx) with z | z
          · rw [z]; exact List.mem_append_right _ (List.mem_singleton.mpr rfl)
          · exact List.mem_append_left _ (g.sub x z)
        · rw [(pm.map (·.2)).mem_iff, List.map_cons]
          rw [tk] at hx
          rcases List.mem_append.mp hx with z | z
          · exact List.mem_cons_of_mem _ (g.all x z)
          · rw [List.mem_singleton.mp z]; exact List.mem_cons_self
theorem ms_new {h : Heap} {a : Addr} (ho : h.get? a = some (nso w)) : MS P w h a [] #[] 0 (.fresh 0 0 (!w.params.followText "set-order")) where
  ob := ⟨_, ho, ⟨rfl, rfl, rfl⟩, rfl⟩
  rw' := rfl
  tb := ⟨List.Pairwise.nil, rfl, rfl, .inl rfl, fun x hx => (by cases hx), fun i h j hi => (by simp at hi)⟩
  nd := List.nodup_nil
  tu := fun e he => (by cases he)
  ld := by
    show _ ∨ (!w.params.followText "set-order") = true
    cases w.params.followText "set-order"
    · exact .inr rfl
    · exact .inl rfl
  rm := by show 0 * 5 < 7 * 3; decide
  fw := by show 0 < 64; decide
def MS0 (P : Program) (w : World) (h : Heap) (a : Addr) (L : List Ent) : Prop := ∃ (es : Array (Int × Value)) (ep : Nat) (t : SetTable), (∃ o, h.get? a = some o ∧ o.ExactSet ∧ o.data = .set es ep t) ∧ es.toList = L.map (rowE P w) ∧ TabOk t (L.map (hsE P w)) ∧
  (L.map (·.2)).Nodup ∧ (w.params.followText "set-order" = true ∨ t.led = true) ∧ L.length * 5 < t.mask * 3 ∧ L.length < 64
def SetM (P : Program) (w : World) (a : Addr) (L : List Ent) : HO := .ext fun h => MS0 P w h a L
theorem setM_new {H : Hp} {h : Heap} {a : Addr} {L : List Ent} {es : Array (Int × Value)} {ep : Nat} {t : SetTable} (R : MS P w h a L es ep t) : ObjOk P w H h a (SetM P w a L) := by
  obtain ⟨o, ho, r⟩ := R.ob
  refine ⟨⟨es, ep, t, ⟨o, ho, r⟩, R.rw', R.tb, R.nd, R.ld, R.rm, R.fw⟩, ⟨o, ho⟩, fun h1 h2 p k => ?_⟩
  obtain ⟨es', ep', t', ⟨o', ho', r'⟩, q⟩ := p
  exact ⟨es', ep', t', ⟨o', k o' ho', r'⟩, q⟩
theorem items_mix : ∀ {k : KT'} {us : List Value}, Vals (k.map kV) us → ItemsAre (mixKind P w) k us
  | [], _, .nil => .nil
  | .inl i :: k, _, .cons r t => by
    obtain ⟨tk, rfl⟩ := r
    exact .cons (k := Sum.inl i) (by show keyIs (Sum.inl i) (Value.int i tk) = true; simp [keyIs, Value.isInt]) (items_mix t)
  | .inr x :: k, _, .cons r t => by
    obtain ⟨tk, rfl⟩ := r
    exact .cons (k := Sum.inr x) (by show keyIs (Sum.inr x) (Value.str x tk) = true; simp [keyIs, Value.isStrOf]) (items_mix t)
theorem refs_mix : ∀ {ks : List Ent} {us : List Value}, Vals (ks.map fun e => V.ref e.1) us → us = ks.map refE
  | [], _, .nil => rfl
  | e :: ks, _, .cons r t => by
    cases r
    rw [refs_mix t]; rfl
theorem vals_mix : ∀ (ks : List Ent), Vals (ks.map fun e => V.ref e.1) (ks.map refE)
  | [] => .nil
  | e :: ks => .cons rfl (vals_mix ks)
end
section
variable {X : Cx}
theorem inv_mix {pins : List (Addr × Obj)} {σ : L2.St} {H : Hp} {s : Shared} {b : Addr} {k : KT'} (I : Inv X pins σ H s) (h : SqT X.K H b (k.map kV)) : IsM X.prog X.w s.heap k b := by
  obtain ⟨its, r, ⟨o, ho, hc, n, hd⟩, _⟩ := I.tuple h
  exact ⟨o, its.toArray, n, ho, hc, hd, by simpa using items_mix r⟩
def Sq (K : PySem.W.Frag) (H : Hp) (l : Addr) (vs : List V) : Prop := SqL K H l vs ∨ SqT K H l vs
theorem inv_sq {pins : List (Addr × Obj)} {σ : L2.St} {H : Hp} {s : Shared} {l : Addr} {vs : List V} (I : Inv X pins σ H s) (h : Sq X.K H l vs) : ∃ its : List Value, Vals vs its ∧ (s.heap.IsList l its.toArray ∨ s.heap.IsTuple l its.toArray) := by
  rcases h with h | h
  · obtain ⟨its, r, pl, _⟩ := I.list h
    exact ⟨its, r, .inl pl.isList⟩
  · obtain ⟨its, r, ⟨o, ho, hc, n, hd⟩, _⟩ := I.tuple h
    exact ⟨its, r, .inr ⟨o, ho, hc, n, hd⟩⟩
def rSetA (K : PySem.W.Frag) (P : Program) (w : World) : List V → Hp → VK → Prop := fun xs H Q => ∃ l, xs = [V.ref l] ∧
  ((∃ ns : List Int, Sq K H l (ns.map V.int) ∧ ns.length + 1 < 4096 ∧ ∀ a n, H a = none → Q (.ref a) (upd H a (SetO w a (fun j => decide (j ∈ ns)) n))) ∨
   (∃ ks : List Ent, Sq K H l (ks.map fun e => V.ref e.1) ∧ (∀ e ∈ ks, SqT K H e.1 (e.2.map kV)) ∧ ks.length < 64 ∧ ∀ a L, H a = none → (∀ e ∈ L, e ∈ ks) → (∀ e ∈ ks, e.2 ∈ L.map (·.2)) → Q (.ref a) (upd H a (SetM P w a L))))
theorem cr_setA (hc : X.calm = true) (hu : X.A.units + 64 < cLine) : CallR X (.type "set") (rSetA X.K X.prog X.w) := by
  intro pins s σ H xs us Q I r h
  obtain ⟨l, rfl, h⟩ := h
  rw [Vals.ref1 r]
  have hn : H s.heap.objs.size = none := I.hok.fresh (Nat.le_refl _)
  rcases h with ⟨ns, hl, hb, q⟩ | ⟨ks, hl, hk, hf, q⟩
  · obtain ⟨its, rv, pl⟩ := inv_sq I hl
    have hi : IntsAre its ns := rv.ints
    refine call_set_any (P := X.prog) (w := X.w) (u := X.A.units + 4) (I.ok.hd hc) pl (fillsI (ns := ns) (by simpa using hi) hb) (by omega) (fun h ho _ => ⟨0, Nat.le_refl _, setR_new_at ho⟩) fun h' tk ⟨c, hc', R⟩ k => ?_
    have e : ns.take its.toArray.size = ns := List.take_of_length_le (by rw [List.size_toArray, hi.length]; exact Nat.le_refl _)
    rw [e] at R
    exact ⟨.ref s.heap.objs.size, _, I.laid (t' := tk) k (Nat.le_refl _) (setO_new R), rfl, q _ c hn⟩
  · obtain ⟨its, rv, pl⟩ := inv_sq I hl
    have hi := refs_mix rv
    subst hi
    refine call_set_any (P := X.prog) (w := X.w) (u := cLine) (I.ok.hd hc) pl (fillsM (ks := ks) (by simp) (fun e he => inv_mix I (hk e he)) hf) (by omega) (fun h ho _ => ⟨[], #[], 0, _, ms_new ho, ⟨fun e he => (by cases he), fun e he => (by simp at he), Nat.le_refl _⟩⟩) fun h' tk ⟨L, es, ep, t, R, g⟩ k => ?_
    have e : ks.take (ks.map refE).toArray.size = ks := List.take_of_length_le (by simp)
    exact ⟨.ref s.heap.objs.size, _, I.laid (t' := tk) k (Nat.le_refl _) (setM_new R), rfl, q _ L hn (fun x hx => List.mem_of_mem_take (g.sub x hx)) fun x hx => g.all x (by rw [e]; exact hx)⟩
def rSortedM (K : PySem.W.Frag) (P : Program) (w : World) : List V → Hp → VK → Prop := fun vs H Q => ∃ (a : Addr) (L : List Ent) (sh : List Bool), vs = [V.ref a] ∧ H a = some (SetM P w a L) ∧ (∀ e ∈ L, SqT K H e.1 (e.2.map kV)) ∧ sh ≠ [] ∧ (∀ e ∈ L, e.2.map Sum.isRight = sh) ∧
  ∀ (L' : List Ent) (p : Addr), L'.Perm L → L'.Pairwise (fun e f => kLt e.2 f.2 = true) → H p = none → Q (.ref p) (upd H p (.lst (L'.map fun e => V.ref e.1)))
theorem cr_sortedM (hc : X.calm = true) : CallR X (.builtin "sorted") (rSortedM X.K X.prog X.w) := by
  intro pins s σ H vs us Q I r h
  obtain ⟨a, L, sh, rfl, ha, hk, hne, hs, q⟩ := h
  rw [Vals.ref1 r]
  have R0 : MS0 X.prog X.w s.heap a L := (I.hok a _ ha).1
  obtain ⟨es, ep, t, ⟨o, ho, hex, hd⟩, rw', tb, nd, ld, rm, fw⟩ := R0
  have R : MS X.prog X.w s.heap a L es ep t := ⟨⟨o, ho, hex, hd⟩, rw', tb, nd, fun e he => inv_mix I (hk e he), ld, rm, fw⟩
  refine Calls.call_function_entry kind_sorted plain_sorted entry_sorted (args_sorted1 _) ?_
  unfold Builtin.«sorted»
  refine wpAny_bind (m := checkCount "sorted" 1 1 _) (wpAny_pure ?_)
  have ez := rows_size rw'
  refine wpAny_bind (collect_set (A := X.A.in1) (I.ok.hd hc) ⟨o, ho, hex.1, hd⟩ R.fit (by rw [ez]; show L.length < 4096; omega) tb.ris ld fun s1 vs k1 hz g1 o1 pm => ?_)
  have hes : es.toList.map (·.2) = L.map refE := by rw [rw', List.map_map]; rfl
  rw [hes] at pm
  obtain ⟨L1, rfl, p1⟩ := perm_lift refE pm
  have l1 : L1.length < 64 := by rw [p1.length_eq]; exact fw
  refine wpAny_bind (wpAny_newList ?_ (by rw [List.length_map, sizeLine_eq]; omega))
  have at1 : (s1.heap.push (seqObj "list" (L1.map refE).toArray 0)).get? s1.heap.objs.size = some (seqObj "list" (L1.map refE).toArray 0) := Heap.get?_push_size _ rfl
  refine wpAny_bind (wpAny_holding (wpAny_call_entry slot_list_sort ⟨_, at1, rfl⟩ entry_list_sort
    (sort_mix (P := X.prog) (w := X.w) (s := { s1 with heap := s1.heap.push (seqObj "list" (L1.map refE).toArray 0) }) at1 (fun e he => mix_keep (R.tu e (p1.mem_iff.mp he)) fun b o e => Heap.get?_push_of_some _ (k1 b o e)) (fun e he => hs e (p1.mem_iff.mp he)) hne (by rw [sizeLine_eq]; omega)
      fun L' p2 pw => ⟨.none, rfl, ?_⟩) (args_list_sort _)))
  obtain ⟨c, hc'⟩ := sortedHeap_at (vs := L1.map refE) (out := (L'.map refE).toArray) at1
  have p3 := p2.trans p1
  have hn : H s1.heap.objs.size = none := I.hok.fresh hz
  have kp : Kps s.heap (sortedHeap (s1.heap.push (seqObj "list" (L1.map refE).toArray 0)) s1.heap.objs.size (L1.map refE) (L'.map refE).toArray) := fun b u e => by
    have q := k1 b u e
    have hlt := Heap.lt_size q
    rw [sortedHeap_old (Nat.ne_of_lt hlt) (by rw [size_push']; exact Nat.lt_succ_of_lt hlt)]
    exact Heap.get?_push_of_some _ q
  have J : Inv X pins σ (upd H s1.heap.objs.size (.lst (L'.map fun e => V.ref e.1))) { s with heap := sortedHeap (s1.heap.push (seqObj "list" (L1.map refE).toArray 0)) s1.heap.objs.size (L1.map refE) (L'.map refE).toArray, gens := s1.gens, drawn := s1.drawn, toks := s1.toks } :=
    I.call (ch := []) (Un.laid kp hz hn) (I.hok.laid kp hz ⟨by rw [List.length_map, p3.length_eq, sizeLine_eq]; omega, L'.map refE, c, vals_mix L', hc'⟩) (by rw [g1]; exact I.bare) (fun _ z => nomatch z)
  have st : L'.Pairwise (fun e f => kLt e.2 f.2 = true) := by
    have nd2 : (L'.map (·.2)).Nodup := (p3.map (·.2)).nodup_iff.mpr nd
    have nd3 : L'.Pairwise (fun e f => e.2 ≠ f.2) := List.pairwise_map.mp nd2
    refine (List.Pairwise.and pw nd3).imp fun {e f} ⟨h1, h2⟩ => ?_
    cases z : kLt e.2 f.2 with
    | true => rfl
    | false => exact absurd (lin_k.tot _ _ z h1) h2
  have e : ({ s1 with heap := sortedHeap (s1.heap.push (seqObj "list" (L1.map refE).toArray 0)) s1.heap.objs.size (L1.map refE) (L'.map refE).toArray } : Shared) = { s with heap := sortedHeap (s1.heap.push (seqObj "list" (L1.map refE).toArray 0)) s1.heap.objs.size (L1.map refE) (L'.map refE).toArray, gens := s1.gens, drawn := s1.drawn, toks := s1.toks } := by
    cases s1; cases s; cases o1; rfl
  refine wpAny_pure ⟨_, rfl, ?_⟩
  show EP X pins σ Q (.ref s1.heap.objs.size) { s1 with heap := sortedHeap (s1.heap.push (seqObj "list" (L1.map refE).toArray 0)) s1.heap.objs.size (L1.map refE) (L'.map refE).toArray }
  rw [e]
  exact ⟨.ref _, _, J, rfl, q L' _ p3 st hn⟩
end
end Pv
end
section
set_option Elab.async false
set_option linter.all false
set_option maxRecDepth 100000
set_option maxHeartbeats 2000000
namespace Pv
open PySem PySem.Spec PyProof.Rows L2
section
variable {α : Type} {lt : α → α → Bool}
def insM (lt : α → α → Bool) (x : α) : List α → List α
  | [] => [x]
  | y :: ys => if lt y x = true then y :: insM lt x ys else x :: y :: ys
def sortM (lt : α → α → Bool) (xs : List α) : List α := xs.foldr (insM lt) []
theorem insM_perm {x : α} : ∀ {l : List α}, (insM lt x l).Perm (x :: l)
  | [] => List.Perm.refl _
  | y :: l => by
    unfold insM
    split
    · exact ((insM_perm (l := l)).cons y).trans (List.Perm.swap x y l)
    · exact List.Perm.refl _
theorem sortM_perm : ∀ (xs : List α), (sortM lt xs).Perm xs
  | [] => List.Perm.refl _
  | x :: xs => insM_perm.trans ((sortM_perm xs).cons x)
end
section
variable {α : Type} [DecidableEq α] {lt : α → α → Bool}
theorem Lin.le_tr (L : Lin lt) {x y z : α} (h1 : lt y x = false) (h2 : lt z y = false) : lt z x = false := by
  cases q : lt z x with
  | false => rfl
  | true =>
    cases q1 : lt x y with
    | true => exact absurd (L.tr _ _ _ q q1) (by rw [h2]; decide)
    | false => rw [L.tot _ _ h1 q1] at h2; rw [q] at h2; cases h2
theorem insM_sorted (L : Lin lt) {x : α} : ∀ {l : List α}, l.Pairwise (fun a b => lt b a = false) → (insM lt x l).Pairwise (fun a b => lt b a = false)
  | [], _ => by simp [insM]
  | y :: l, h => by
    obtain ⟨h1, h2⟩ := List.pairwise_cons.mp h
    unfold insM
    split
    · rename_i hl
      refine List.pairwise_cons.mpr ⟨fun z hz => ?_, insM_sorted L h2⟩
      rcases List.mem_cons.mp (insM_perm.mem_iff.mp hz) with rfl | hz
      · cases q : lt z y with
        | false => rfl
        | true => exact absurd (L.tr _ _ _ hl q) (by rw [L.irr]; decide)
      · exact h1 z hz
    · rename_i hl
      have hl' : lt y x = false := by simpa using hl
      refine List.pairwise_cons.mpr ⟨fun z hz => ?_, h⟩
      rcases List.mem_cons.mp hz with rfl | hz
      · exact hl'
      · exact L.le_tr hl' (h1 z hz)
theorem sortM_sorted (L : Lin lt) : ∀ (xs : List α), (sortM lt xs).Pairwise (fun a b => lt b a = false)
  | [] => List.Pairwise.nil
  | x :: xs => insM_sorted L (sortM_sorted L xs)
theorem sortedM_uniq (L : Lin lt) : ∀ {a b : List α}, a.Pairwise (fun x y => lt y x = false) → b.Pairwise (fun x y => lt y x = false) → a.Perm b → a = b
  | [], b, _, _, h => by
    have := h.length_eq
    exact (List.eq_nil_of_length_eq_zero (by simpa using this.symm)).symm
  | x :: a, [], _, _, h => absurd h.length_eq (by simp)
  | x :: a, y :: b, ha, hb, h => by
    obtain ⟨a1, a2⟩ := List.pairwise_cons.mp ha
    obtain ⟨b1, b2⟩ := List.pairwise_cons.mp hb
    have e : x = y := by
      rcases List.mem_cons.mp (h.mem_iff.mp List.mem_cons_self) with e | hx
      · exact e
      · rcases List.mem_cons.mp (h.mem_iff.mpr List.mem_cons_self) with e | hy
        · exact e.symm
        · exact L.tot _ _ (b1 x hx) (a1 y hy)
    subst e
    rw [sortedM_uniq L a2 b2 (List.Perm.cons_inv h)]
end
theorem roomU {k : Nat} {A : Around} (r : Room k A) : A.units + 100 < cLine := by have := r.un; omega
def shownOk (p : PyData) : Bool := p.showable && !p.hasDict && decide (p.depth ≤ 60) && decide (p.shown.length ≤ 16000000)
theorem cr_repr {X : Cx} (hg : X.A.guards = some []) (hu : X.A.units + 100 < cLine) : CallR X (.builtin "repr") (fun xs H Q => ∃ x d, xs = [x] ∧ Dp X.K H x d ∧ shownOk d = true ∧ Q (.str d.shown) H) := by
  intro pins s σ H xs us Q I r h
  obtain ⟨x, d, rfl, dp, ok, q⟩ := h
  obtain ⟨u, rfl, rx⟩ := r.one
  unfold shownOk at ok
  simp only [Bool.and_eq_true, Bool.not_eq_true', decide_eq_true_eq] at ok
  obtain ⟨⟨⟨o1, o2⟩, o3⟩, o4⟩ := ok
  have o4' : d.shown.length ≤ sizeLine := Nat.le_trans o4 (by rw [sizeLine_eq]; decide)
  obtain ⟨as, rd⟩ := Dp.reads I d x u dp rx
  cases dp with
  | non => cases rx; exact PySem.P.repr_of_none ⟨.str "None", H, I.tok _, ⟨_, rfl⟩, q⟩
  | bl b => cases rx; exact PySem.P.repr_of_bool ⟨.str _, H, I.tok _, ⟨_, rfl⟩, q⟩
  | int i => obtain ⟨t, rfl⟩ := rx; exact PySem.P.repr_of_int (of_decide_eq_true o1) ⟨.str _, H, I.tok _, ⟨_, rfl⟩, q⟩
  | str z => obtain ⟨t, rfl⟩ := rx; exact PySem.P.repr_of_str ⟨.str _, H, I.tok _, ⟨_, rfl⟩, q⟩ o4'
  | lst hq ha =>
    cases rx
    exact repr_of_reads' rd o1 (PyData.noDict_hsm o2) hg (by omega) (fun _ _ z => z) (fun h' t tk kp => ⟨.str _, H, I.kept kp, ⟨_, rfl⟩, q⟩) o4'
  | tup hq ha =>
    cases rx
    exact repr_of_reads' rd o1 (PyData.noDict_hsm o2) hg (by omega) (fun _ _ z => z) (fun h' t tk kp => ⟨.str _, H, I.kept kp, ⟨_, rfl⟩, q⟩) o4'
def FolkRaw (h : Heap) (ah : Addr) (ps : List (Int × Int)) : Prop := ∃ its : Array Value, IsTup h ah its ∧ its.size = ps.length ∧
  ∀ (i : Nat) (p : Int × Int), ps[i]? = some p → ∃ ai itsi t u, its[i]? = some (.ref ai) ∧ IsTup h ai itsi ∧ 3 ≤ itsi.size ∧ itsi[1]? = some (.int p.1 t) ∧ itsi[2]? = some (.int p.2 u)
theorem FolkRaw.keeps {h h' : Heap} {ah : Addr} {ps : List (Int × Int)} (x : FolkRaw h ah ps) (k : ∀ b o, h.get? b = some o → h'.get? b = some o) : FolkRaw h' ah ps := by
  obtain ⟨its, a, b, c⟩ := x
  refine ⟨its, a.keeps k, b, fun i p e => ?_⟩
  obtain ⟨ai, itsi, t, u, e1, e2, e3⟩ := c i p e
  exact ⟨ai, itsi, t, u, e1, e2.keeps k, e3⟩
theorem lt65 {n : Nat} (h : n + 100 < cLine) : n + 65 < cLine := by omega
theorem pe_alt {X : Cx} {e : Expr} {t1 t2 : TE} (h1 : PE X e t1) (h2 : PE X e t2) : PE X e (fun σ H Q => t1 σ H Q ∨ t2 σ H Q) := ⟨fun pins s σ H Q I h => h.elim (fun h => h1.run pins s σ H Q I h) fun h => h2.run pins s σ H Q I h⟩
end Pv
end
section
set_option Elab.async false
set_option linter.all false
set_option maxRecDepth 100000
set_option maxHeartbeats 1000000
namespace Pw
open PySem PySem.Spec PyProof.Rows L2 Pv
section
variable {X : Cx} {K : FRG} {tb : List Addr}
def lenD : List D → Option W
  | [.tup ds] => some (.v (.int ds.length))
  | [.fl ds] => some (.v (.int ds.length))
  | [.lst ds] => some (.v (.int ds.length))
  | [.dk kvs] => some (.v (.int kvs.length))
  | _ => none
abbrev rLenA (K : FRG) : List V → Hp → VK → Prop := fun xs H Q => (∃ p ys, xs = [.ref p] ∧ (SqL K H p ys ∨ SqT K H p ys) ∧ Q (.int (ys.length : Nat)) H) ∨ ∃ a kvs, xs = [V.ref a] ∧ Rd H a (.dK kvs) ∧ Q (.int (kvs.length : Nat)) H
theorem call_lenRd : CallR X (.builtin "len") (fun xs H Q => ∃ a kvs, xs = [V.ref a] ∧ Rd H a (.dK kvs) ∧ Q (.int (kvs.length : Nat)) H) := by
  intro pins s σ H xs us Q I r h
  obtain ⟨a, kvs, rfl, ha, q⟩ := h
  rw [Vals.ref1 r]
  exact d_len I ha fun t s' I' => ⟨.int kvs.length, H, I', ⟨t, rfl⟩, q⟩
theorem cr_lenA : CallR X (.builtin "len") (rLenA X.K) := call_len_seq.or call_lenRd
theorem len_s : CallS K tb (rLenA K) lenD := fun φ ψ H m vs ds w Q R r e k => by
  unfold lenD at e
  split at e
  · cases e
    cases r with
    | cons h r => cases r; obtain ⟨a, vs, rfl, hq, q⟩ := h.tup; exact .inl ⟨_, _, rfl, .inr hq, Go.val k R (by rw [q.length]; exact .int _)⟩
  · cases e
    cases r with
    | cons h r => cases r; obtain ⟨a, vs, rfl, hq, q⟩ := h.fl; exact .inl ⟨_, _, rfl, .inl hq, Go.val k R (by rw [q.length]; exact .int _)⟩
  · cases e
    cases r with
    | cons h r => cases r; obtain ⟨a, vs, rfl, hq, q⟩ := h.lst; exact .inl ⟨_, _, rfl, .inl (SqL.of hq), Go.val k R (by rw [q.length]; exact .int _)⟩
  · cases e
    cases r with
    | cons h r =>
      cases r
      obtain ⟨a, vs, rfl, hq, q1, q2⟩ := h.dk
      refine .inr ⟨_, _, rfl, hq, Go.val k R ?_⟩
      have e9 := congrArg List.length q1
      rw [List.length_map, List.length_map] at e9
      rw [e9]; exact .int _
  · cases e
def maxI (i j : Int) : Int := if j > i then j else i
def minI (i j : Int) : Int := if j < i then j else i
def two (g : Int → Int → Int) : List D → Option W
  | [.int i, .int j] => some (.v (.int (g i j)))
  | _ => none
theorem two_s {g : Int → Int → Int} : CallS K tb (fun xs H Q => ∃ i j, xs = [.int i, .int j] ∧ Q (.int (g i j)) H) (two g) := fun φ ψ H m vs ds w Q R r e k => by
  unfold two at e
  split at e
  · cases e
    cases r with
    | cons h1 r => cases r with
      | cons h2 r => cases r; rw [h1.int, h2.int]; exact ⟨_, _, rfl, Go.val k R (.int _)⟩
  · cases e
theorem cr_max (hc : X.calm = true) : CallR X (.builtin "max") (fun xs H Q => ∃ i j, xs = [.int i, .int j] ∧ Q (.int (maxI i j)) H) := call_max2 hc
theorem cr_min (hc : X.calm = true) : CallR X (.builtin "min") (fun xs H Q => ∃ i j, xs = [.int i, .int j] ∧ Q (.int (minI i j)) H) := call_min2 hc
def intD : List D → Option W
  | [.int i] => some (.v (.int i))
  | [.bl b] => some (.v (.int (if b then 1 else 0)))
  | _ => none
theorem int_s : CallS K tb (fun xs H Q => (∃ i, xs = [.int i] ∧ Q (.int i) H) ∨ ∃ k, xs = [.bl k] ∧ Q (.int (if k then 1 else 0)) H) intD := fun φ ψ H m vs ds w Q R r e k => by
  unfold intD at e
  split at e
  · cases e
    cases r with
    | cons h1 r => cases r; rw [h1.int]; exact .inl ⟨_, rfl, Go.val k R (.int _)⟩
  · cases e
    cases r with
    | cons h1 r => cases r; rw [h1.bl]; exact .inr ⟨_, rfl, Go.val k R (.int _)⟩
  · cases e
def tupleD : List D → Option W
  | [.tup ds] => some (.v (.tup ds))
  | [.fl ds] => some (.v (.tup ds))
  | [.lst ds] => some (.v (.tup ds))
  | _ => none
theorem tuple_s : CallS K tb (fun xs H Q => ∃ p ys, xs = [.ref p] ∧ ((SqL K H p ys ∧ ∀ l, H l = none → Q (.ref l) (upd H l (.tup ys))) ∨ (SqT K H p ys ∧ Q (.ref p) H))) tupleD := fun φ ψ H m vs ds w Q R r e k => by
  unfold tupleD at e
  split at e
  · cases e
    cases r with
    | cons h r => cases r; obtain ⟨a, vs, rfl, hq, q⟩ := h.tupN; exact ⟨_, _, rfl, .inr ⟨hq.1, Go.val k R (.tup hq q)⟩⟩
  · cases e
    cases r with
    | cons h r => cases r; obtain ⟨a, vs, rfl, hq, q⟩ := h.fl; exact ⟨_, _, rfl, .inl ⟨hq, fun p hp => Go.tup k R q hp⟩⟩
  · cases e
    cases r with
    | cons h r => cases r; obtain ⟨a, vs, rfl, hq, q⟩ := h.lst; exact ⟨_, _, rfl, .inl ⟨SqL.of hq, fun p hp => Go.tup k R q hp⟩⟩
  · cases e
def listD : List D → Option W
  | [.tup ds] => some (.f (.lst ds))
  | [.fl ds] => some (.f (.lst ds))
  | [.lst ds] => some (.f (.lst ds))
  | _ => none
def allI : List D → Option (List Int)
  | [] => some []
  | .int i :: ds => (allI ds).bind fun is => some (i :: is)
  | _ => none
def kD : L2.Key → D
  | .inl i => .int i
  | .inr x => .str x
abbrev tD (k : KT') : D := .tup (k.map kD)
def allK : List D → Option KT'
  | [] => some []
  | .int i :: ds => (allK ds).bind fun k => some (Sum.inl i :: k)
  | .str x :: ds => (allK ds).bind fun k => some (Sum.inr x :: k)
  | _ => none
def allT : List D → Option (List KT')
  | [] => some []
  | .tup d :: ds => (allK d).bind fun k => (allT ds).bind fun ks => some (k :: ks)
  | _ => none
def itmD : D → Option (List D)
  | .tup ds => some ds
  | .fl ds => some ds
  | .lst ds => some ds
  | _ => none
def itmL : D → Option (List D)
  | .fl ds => some ds
  | .lst ds => some ds
  | _ => none
def oneSh (ks : List KT') : Bool := ks.all fun k => k.map Sum.isRight == (ks.headD []).map Sum.isRight && !k.isEmpty
end
section
variable {K : FRG} {tb φ ψ : List Addr} {H : Hp} {m : Mem}
theorem allI_rep : ∀ {ds : List D} {vs : List V} {is : List Int}, Reps K φ ψ H ds vs → allI ds = some is → vs = is.map V.int
  | [], _, _, .nil, e => by cases e; rfl
  | .int i :: ds, _, _, .cons h r, e => by
    rw [allI] at e
    obtain ⟨js, e1, e⟩ := bnd e
    cases e
    cases h
    rw [allI_rep r e1]; rfl
  | .non :: _, _, _, _, e => by simp [allI] at e
  | .bl _ :: _, _, _, _, e => by simp [allI] at e
  | .str _ :: _, _, _, _, e => by simp [allI] at e
  | .tup _ :: _, _, _, _, e => by simp [allI] at e
  | .fl _ :: _, _, _, _, e => by simp [allI] at e
  | .lst _ :: _, _, _, _, e => by simp [allI] at e
  | .dk _ :: _, _, _, _, e => by simp [allI] at e
  | .dt _ :: _, _, _, _, e => by simp [allI] at e
  | .rl _ _ :: _, _, _, _, e => by simp [allI] at e
theorem allK_rep : ∀ {ds : List D} {vs : List V} {k : KT'}, Reps K φ ψ H ds vs → allK ds = some k → vs = k.map kV
  | [], _, _, .nil, e => by cases e; rfl
  | .int i :: ds, _, _, .cons h r, e => by
    rw [allK] at e
    obtain ⟨js, e1, e⟩ := bnd e
    cases e
    cases h
    rw [allK_rep r e1]; rfl
  | .str i :: ds, _, _, .cons h r, e => by
    rw [allK] at e
    obtain ⟨js, e1, e⟩ := bnd e
    cases e
    cases h
    rw [allK_rep r e1]; rfl
  | .non :: _, _, _, _, e => by simp [allK] at e
  | .bl _ :: _, _, _, _, e => by simp [allK] at e
  | .tup _ :: _, _, _, _, e => by simp [allK] at e
  | .fl _ :: _, _, _, _, e => by simp [allK] at e
  | .lst _ :: _, _, _, _, e => by simp [allK] at e
  | .dk _ :: _, _, _, _, e => by simp [allK] at e
  | .dt _ :: _, _, _, _, e => by simp [allK] at e
  | .rl _ _ :: _, _, _, _, e => by simp [allK] at e
theorem allT_rep : ∀ {ds : List D} {vs : List V} {ks : List KT'}, Reps K φ ψ H ds vs → allT ds = some ks → ∃ es : List Ent, vs = es.map (fun e => V.ref e.1) ∧ es.map (·.2) = ks ∧ ∀ e ∈ es, SqN K H e.1 (e.2.map kV)
  | [], _, _, .nil, e => by cases e; exact ⟨[], rfl, rfl, fun e he => by cases he⟩
  | .tup d :: ds, _, _, .cons h r, e => by
    rw [allT] at e
    obtain ⟨k, e1, e⟩ := bnd e
    obtain ⟨js, e2, e⟩ := bnd e
    cases e
    obtain ⟨es, rfl, rfl, hs⟩ := allT_rep r e2
    cases h with
    | tup hq q =>
      rename_i a vs
      refine ⟨(a, k) :: es, rfl, rfl, fun e he => ?_⟩
      rcases List.mem_cons.mp he with rfl | he
      · rw [← allK_rep q e1]; exact hq
      · exact hs e he
  | .non :: _, _, _, _, e => by simp [allT] at e
  | .bl _ :: _, _, _, _, e => by simp [allT] at e
  | .int _ :: _, _, _, _, e => by simp [allT] at e
  | .str _ :: _, _, _, _, e => by simp [allT] at e
  | .fl _ :: _, _, _, _, e => by simp [allT] at e
  | .lst _ :: _, _, _, _, e => by simp [allT] at e
  | .dk _ :: _, _, _, _, e => by simp [allT] at e
  | .dt _ :: _, _, _, _, e => by simp [allT] at e
  | .rl _ _ :: _, _, _, _, e => by simp [allT] at e
theorem reps_ints : ∀ is : List Int, Reps K φ ψ H (is.map D.int) (is.map V.int)
  | [] => .nil
  | i :: is => .cons (.int i) (reps_ints is)
theorem reps_keys : ∀ k : KT', Reps K φ ψ H (k.map kD) (k.map kV)
  | [] => .nil
  | .inl i :: k => .cons (.int i) (reps_keys k)
  | .inr x :: k => .cons (.str x) (reps_keys k)
theorem reps_ents : ∀ es : List Ent, (∀ e ∈ es, SqN K H e.1 (e.2.map kV)) → Reps K φ ψ H (es.map fun e => tD e.2) (es.map fun e => V.ref e.1)
  | [], _ => .nil
  | e :: es, h => .cons (.tup (h e List.mem_cons_self) (reps_keys e.2)) (reps_ents es fun x hx => h x (List.mem_cons_of_mem _ hx))
theorem itm_sq {x : D} {v : V} {ds : List D} (hx : RepC K φ ψ H x v) (e : itmD x = some ds) : ∃ l vs, v = .ref l ∧ Sq K H l vs ∧ Reps K φ ψ H ds vs := by
  unfold itmD at e
  split at e
  · cases e; obtain ⟨a, vs, rfl, hq, q⟩ := hx.tup; exact ⟨_, _, rfl, .inr hq, q⟩
  · cases e; obtain ⟨a, vs, rfl, hq, q⟩ := hx.fl; exact ⟨_, _, rfl, .inl hq, q⟩
  · cases e; obtain ⟨a, vs, rfl, hq, q⟩ := hx.lst; exact ⟨_, _, rfl, .inl (SqL.of hq), q⟩
  · cases e
theorem itmL_sq {x : D} {v : V} {ds : List D} (hx : RepC K φ ψ H x v) (e : itmL x = some ds) : ∃ l vs, v = .ref l ∧ SqL K H l vs ∧ Reps K φ ψ H ds vs := by
  unfold itmL at e
  split at e
  · cases e; obtain ⟨a, vs, rfl, hq, q⟩ := hx.fl; exact ⟨_, _, rfl, hq, q⟩
  · cases e; obtain ⟨a, vs, rfl, hq, q⟩ := hx.lst; exact ⟨_, _, rfl, SqL.of hq, q⟩
  · cases e
end
section
variable {X : Cx} {K : FRG} {tb : List Addr} {pos : Pos}
def isLst : W → Mem → Bool
  | .r n, m => match m[n]? with
    | some (.lst _) => true
    | _ => false
  | _, _ => false
theorem isLst_ty {φ ψ : List Addr} {H : Hp} {m : Mem} {w : W} {v : V} (R : Rel K tb φ ψ H m) (h : RepS K φ ψ H w v) (e : isLst w m = true) : tyV K "list" v H := by
  unfold isLst at e
  split at e
  · split at e
    · rename_i hm
      obtain ⟨a, h1, rfl⟩ := h
      obtain ⟨vs, q, r⟩ := R.obj _ _ a hm h1
      exact .inl ⟨rfl, _, SqL.of q⟩
    · cases e
  · cases e
def appD : W → List W → Mem → Option (W × Mem)
  | .r n, [w], m => match m[n]? with
    | some (.lst ds) => (vl w).bind fun d => if ds.length < 1000000 then some (.v .non, m.set n (.lst (ds ++ [d]))) else none
    | _ => none
  | _, _, _ => none
theorem app_s : MtS K tb rAppend appD := fun φ ψ H m x vs w ws w' m' Q R hx r e k => by
  unfold appD at e
  split at e
  · split at e
    · rename_i hm
      obtain ⟨d, ev, e⟩ := bnd e
      split at e
      · rename_i hl
        cases e
        cases r with
        | cons h r =>
          cases r
          obtain ⟨q, h1, rfl⟩ := hx
          obtain ⟨vs, hq, rl⟩ := R.obj _ _ q hm h1
          have hmem := List.mem_of_getElem? h1
          exact ⟨q, vs, _, rfl, rfl, hq, smallT (by rw [← rl.length]; exact hl), k φ ψ _ _ (Post.wr hmem (R.trk hmem)) (R.wrL h1 (rl.snoc (vl_rep h ev))) ⟨rfl, .non⟩⟩
      · cases e
    · cases e
  · cases e
theorem ex_append {o a : Expr} {fo : Ex} {f : Ax} {apos cpos : Pos} {es : List Expr} (ho : PE X o (T X.K tb fo)) (ha : PA X (a :: es) (Ta X.K tb f))
    (hbase : attributeBase o "append" X.env (eval o X.env) = eval o X.env := by rfl)
    (hfew : ((backTo cpos (starEach (a :: es) X.env)).all (fun x => !x.1) && (backToKw cpos (keywordEach [] X.env)).all (fun x => x.1.isSome)
      && decide ((a :: es).length + ([] : List Keyword).length + (if ([] : List Keyword).isEmpty then 0 else 1) < 30)) = true := by rfl)
    (hline : (apos.endLine == cpos.line) = true := by rfl) (hst : starEach (a :: es) X.env = (false, eval a X.env) :: starEach es X.env := by rfl) (hplain : (backTo cpos (starEach es X.env)).any (·.1) = false := by rfl) :
    PE X (.Call (.Attribute o "append" apos) (a :: es) [] cpos) (T X.K tb (eMt isLst appD fo f)) :=
  ex_mt (fun φ ψ H m d v R h e => isLst_ty R h e) app_s PySem.F.plainAttrs_list PySem.F.slot_list_append PySem.F.type_list_append mt_append ho ha hbase hfew hline hst hplain
def reprD : List D → Option W
  | [d] => (pyD d).bind fun p => if shownOk p = true then some (.v (.str p.shown)) else none
  | _ => none
theorem repr_s : CallS K tb (fun xs H Q => ∃ x d, xs = [x] ∧ Dp K H x d ∧ shownOk d = true ∧ Q (.str d.shown) H) reprD := fun φ ψ H m vs ds w Q R r e k => by
  unfold reprD at e
  split at e
  · obtain ⟨p, e1, e⟩ := bnd e
    split at e
    · rename_i hs
      cases e
      cases r with
      | cons h r => cases r; exact ⟨_, p, rfl, h.dp e1, hs, Go.val k R (.str _)⟩
    · cases e
  · cases e
def bestD (f : Option Int → Int → Option Int) : D → D → Option W := fun x y => (itmL x).bind fun ds => (allI ds).bind fun is => match is.foldl f none with
  | none => some (.v y)
  | some i => some (.v (.int i))
def eBest (f : Option Int → Int → Option Int) (a b : Ex) : Ex := fun ρ m => (a ρ m).bind fun p => (b ρ p.2).bind fun q => (gt p.1 q.2).bind fun x => (vl q.1).bind fun y => (bestD f x y).bind fun w => some (w, q.2)
theorem shape {es L : List Ent} (ho : oneSh (es.map (·.2)) = true) (hL : ∀ e ∈ L, e ∈ es) : ∃ sh : List Bool, sh ≠ [] ∧ ∀ e ∈ L, e.2.map Sum.isRight = sh := by
  have sh : ∀ e ∈ L, e.2.map Sum.isRight = ((es.map (·.2)).headD []).map Sum.isRight ∧ e.2 ≠ [] := fun e he => by
    have z := List.all_eq_true.mp ho e.2 (List.mem_map.mpr ⟨e, hL e he, rfl⟩)
    simp only [Bool.and_eq_true, beq_iff_eq, Bool.not_eq_true', List.isEmpty_eq_false_iff] at z
    exact z
  cases L with
  | nil => exact ⟨[true], by simp, fun e he => by cases he⟩
  | cons e L =>
    obtain ⟨z1, z2⟩ := sh e List.mem_cons_self
    refine ⟨_, ?_, fun f hf => (sh f hf).1⟩
    rw [← z1]
    simpa using z2
def sortSetD : List D → Option W
  | [x] => (itmD x).bind fun ds => match allI ds with
    | some is => if is.length < 4000 then some (.f (.lst ((sortU iLt is).map .int))) else none
    | none => (allT ds).bind fun ks => if ks.length < 64 ∧ oneSh ks = true then some (.f (.lst ((sortU kLt ks).map tD))) else none
  | _ => none
theorem ex_sortSet {p p2 q : Pos} {a : Expr} {fa : Ex} (hc : X.calm = true) (hu : X.A.units + 64 < cLine) (hg : Gl X "sorted") (hm : X.mg "sorted" = none) (hg2 : Gl X "set") (hm2 : X.mg "set" = none) (ha : PE X a (T X.K tb fa))
    (h1 : starEach [a] X.env = (false, eval a X.env) :: starEach [] X.env := by rfl) (h2 : starEach [.Call (.Name "set" p2) [a] [] q] X.env = (false, eval (.Call (.Name "set" p2) [a] [] q) X.env) :: starEach [] X.env := by rfl)
    (h3 : (backTo q (starEach [] X.env)).any (·.1) = false := by rfl) (h4 : (backTo pos (starEach [] X.env)).any (·.1) = false := by rfl) :
    PE X (.Call (.Name "sorted" p) [.Call (.Name "set" p2) [a] [] q] [] pos) (T X.K tb (eCB sortSetD (aCons fa aNil))) := by
  have inner := pe_callTy (p := p2) (pos := q) (cr_setA hc hu) hg2 hm2 (by decide +kernel) (pa_cons ha pa_nil h1) (by decide) (by decide) h1 h3
  have outer := pe_alt (pe_callB (p := p) (pos := pos) (cr_sortedSA hc) hg hm (by decide +kernel) (pa_cons inner pa_nil h2) (by decide) (by decide) h2 h4) (pe_callB (p := p) (pos := pos) (cr_sortedM hc) hg hm (by decide +kernel) (pa_cons inner pa_nil h2) (by decide) (by decide) h2 h4)
  refine pe_mono outer fun σ H Q ⟨φ, ψ, ρ, m, w, m', R, E, e, k⟩ => ?_
  obtain ⟨⟨ws, m1⟩, e1, e⟩ := bnd e
  obtain ⟨⟨w1, m2⟩, e2, e3⟩ := bnd e1
  obtain ⟨⟨_, m3⟩, e4, e5⟩ := bnd e3
  cases e4
  cases e5
  obtain ⟨ds0, ed, e⟩ := bnd e
  obtain ⟨x, ex, ed⟩ := bnd ed
  cases ed
  obtain ⟨w3, eb, e⟩ := bnd e
  cases e
  unfold sortSetD at eb
  obtain ⟨ds, e6, eb⟩ := bnd eb
  cases hI : allI ds with
  | some is =>
    rw [hI] at eb
    dsimp only at eb
    split at eb
    · rename_i hb
      cases eb
      left
      refine ⟨φ, ψ, ρ, m, w1, _, R, E, e2, fun φ1 ψ1 H1 v P1 R1 V1 => ?_⟩
      obtain ⟨l, vs, rfl, hq, rs⟩ := itm_sq (gt_c (V1.rel R1) (V1.s R1).stl ex) e6
      obtain rfl := allI_rep rs hI
      refine ⟨l, rfl, .inl ⟨is, hq, by omega, fun a n han => ?_⟩⟩
      refine ⟨a, _, n, rfl, upd_same, fun ns p h1 h2 hp => ?_⟩
      have en : ns = sortU iLt is := sorted_uniq lin_i h1 (sortU_sorted lin_i is) fun z => by rw [h2, mem_sortU]; simp
      rw [en]
      have P2 := Post.lay (φ := φ1) (ψ := ψ) (o := SetO X.w a (fun j => decide (j ∈ is)) n) han
      have R2 := (V1.rel R1).lay (o := SetO X.w a (fun j => decide (j ∈ is)) n) han
      exact Go.lst (fun φ3 ψ3 H3 v P3 R3 V3 => k φ3 ψ3 H3 v (((V1.post P1).trans P2).trans P3) R3 V3) R2 (reps_ints _) hp
    · cases eb
  | none =>
    rw [hI] at eb
    dsimp only at eb
    obtain ⟨ks, e7, eb⟩ := bnd eb
    split at eb
    · rename_i hb
      obtain ⟨hb, ho⟩ := hb
      cases eb
      right
      refine ⟨φ, ψ, ρ, m, w1, _, R, E, e2, fun φ1 ψ1 H1 v P1 R1 V1 => ?_⟩
      obtain ⟨l, vs, rfl, hq, rs⟩ := itm_sq (gt_c (V1.rel R1) (V1.s R1).stl ex) e6
      obtain ⟨es, rfl, rfl, hs⟩ := allT_rep rs e7
      refine ⟨l, rfl, .inr ⟨es, hq, fun e he => (hs e he).1, by simpa using hb, fun a L han l1 l2 => ?_⟩⟩
      have P2 := Post.lay (φ := φ1) (ψ := ψ) (o := SetM X.prog X.w a L) han
      have R2 := (V1.rel R1).lay (o := SetM X.prog X.w a L) han
      obtain ⟨sh', hne, hsh⟩ := shape ho l1
      have hsL : ∀ e ∈ L, SqN X.K (upd H1 a (SetM X.prog X.w a L)) e.1 (e.2.map kV) := fun e he => P2.sqN (V1.rel R1) (hs e (l1 e he))
      refine ⟨a, L, sh', rfl, upd_same, fun e he => (hsL e he).1, hne, hsh, fun L' p p1 pw hp => ?_⟩
      have en : L'.map (·.2) = sortU kLt (es.map (·.2)) := sorted_uniq lin_k (List.pairwise_map.mpr pw) (sortU_sorted lin_k _) fun z => by
        rw [mem_sortU]
        constructor
        · intro hz
          obtain ⟨e, he, rfl⟩ := List.mem_map.mp hz
          exact List.mem_map.mpr ⟨e, l1 e (p1.mem_iff.mp he), rfl⟩
        · intro hz
          obtain ⟨e, he, rfl⟩ := List.mem_map.mp hz
          exact (p1.map (·.2)).mem_iff.mpr (l2 e he)
      have ed : (sortU kLt (es.map (·.2))).map tD = L'.map fun e => tD e.2 := by rw [← en, List.map_map]; rfl
      rw [ed] at k
      exact Go.lst (fun φ3 ψ3 H3 v P3 R3 V3 => k φ3 ψ3 H3 v (((V1.post P1).trans P2).trans P3) R3 V3) R2 (reps_ents L' fun e he => hsL e (p1.mem_iff.mp he)) hp
    · cases eb
end
end Pw
end
section
set_option Elab.async false
set_option linter.all false
set_option maxRecDepth 100000
set_option maxHeartbeats 4000000
namespace Pw
open PySem PySem.Spec PyProof.Rows L2 Pv
def entryH (K : FRG) (tabs : List Addr) (a : Addr) (o : Obj) (vs : List V) : Hp := fun b =>
  if b ∈ tabs then some (.tbl #[]) else if b = a ∧ K.lookup a = none then some (.frz o (.lst vs)) else none
theorem entryH_cases {K : FRG} {tabs : List Addr} {a b : Addr} {o : Obj} {vs : List V} {u : HO} (h : entryH K tabs a o vs b = some u) :
    (b ∈ tabs ∧ u = .tbl #[]) ∨ (b ∉ tabs ∧ b = a ∧ K.lookup a = none ∧ u = .frz o (.lst vs)) := by
  unfold entryH at h
  by_cases hb : b ∈ tabs
  · rw [if_pos hb] at h; cases h; exact .inl ⟨hb, rfl⟩
  · rw [if_neg hb] at h
    by_cases hc : b = a ∧ K.lookup a = none
    · rw [if_pos hc] at h; cases h; exact .inr ⟨hb, hc.1, hc.2, rfl⟩
    · rw [if_neg hc] at h; cases h
theorem entryH_tab {K : FRG} {tabs : List Addr} {a b : Addr} {o : Obj} {vs : List V} (hb : b ∈ tabs) : entryH K tabs a o vs b = some (.tbl #[]) := if_pos hb
theorem law_callG {P : Program} {w : World} {K : FRG} {mg mb : Str → Option Value} {k : Nat} {fa a : Addr} {cs : List (Addr × Addr)} {fd : FuncData} {x : Str} {F : Fx} {t0 : Shared} {us : List Value} {ns : List Int}
    (inK : K.In t0.heap) (glob : t0.heap.Ns mainGlobals mg) (blt : t0.heap.Ns builtinsNs mb) (bltIs : ∀ x : Str, x ≠ "__name__" → mb x = bootBuiltins x) (lim : t0.heap.NoLimit) (gens : t0.gens = #[])
    (tabs : ∀ p ∈ cs, t0.heap.get? p.2 = some { cls := .none, data := .fields #[] }) (notK : ∀ p ∈ cs, K.lookup p.2 = none) (codes : ∀ p ∈ cs, PySem.W.CodeHd t0.heap p.1 p.2)
    (bmod : ∃ (bm : Addr) (ob : Obj), mg "__builtins__" = some (.ref bm) ∧ bm ≠ builtinsNs ∧ t0.heap.get? bm = some ob ∧ ob.cls = .type "module" ∧ ob.dict = some builtinsNs ∧ ob.data = .plain)
    (obj : t0.heap.get? a = some { cls := .type "list", data := .seq us.toArray }) (isI : IntsAre us ns) (few : ns.length ≤ sizeLine) (room : Room k callerA)
    (G : ∀ base : Heap, K.In base → base.Ns mainGlobals mg → (∀ p ∈ cs, GxR.TabB base mg p.1 p.2) → FnG P w K mg base k fa fd [x] (spF K (cs.map (·.2)) 1 F)) (binds : ∀ (s : Shared) (u : Value), BindsTo s fd ⟨[u], []⟩ [(x, u)])
    (holds : ∃ m', F [.v (.fl (ns.map .int))] [] = some (.v (.bl true), m')) :
    codeAny (model P w) callerA (.call (.ref fa) ⟨[.ref a], []⟩) (fun r s' => r = .ok (.ret (.bool true)) ∧ OldK t0.heap s'.heap ∧ s'.os = t0.os ∧ AllBare s'.gens) t0 := by
  obtain ⟨m', holds⟩ := holds
  have rel := vals_ints isI
  have lens := isI.length
  let ob : Obj := { cls := .type "list", data := .seq us.toArray }
  let TB := cs.map (·.2)
  let H := entryH K TB a ob (ns.map V.int)
  have tabAt : ∀ b, b ∈ TB → t0.heap.get? b = some { cls := .none, data := .fields #[] } := fun b hb => by
    obtain ⟨p, hp, rfl⟩ := List.mem_map.mp hb
    exact tabs p hp
  have ok : HOk P w H t0.heap := fun b u e => by
    rcases entryH_cases e with ⟨hb, rfl⟩ | ⟨_, rfl, _, rfl⟩
    · exact tabAt b hb
    · exact ⟨obj, by rw [List.length_map]; exact few, us, _, rel, obj⟩
  have offData : ∀ {b : Addr} {o : Obj}, t0.heap.get? b = some o → (∀ vs n, o.data ≠ .seq vs n) → o.data ≠ .fields #[] → H b = none := fun {b o} e h1 h2 => by
    cases q : H b with
    | none => rfl
    | some u =>
      exfalso
      rcases entryH_cases q with ⟨hb, _⟩ | ⟨_, rfl, _, _⟩
      · rw [tabAt b hb] at e; cases e; exact h2 rfl
      · rw [obj] at e; cases e; exact h1 _ _ rfl
  have down : ∀ {b : Addr} {o : Obj}, t0.heap.get? b = some o → H b = none → (hidT t0.heap H).get? b = some o := fun e n => hidT_get e n
  have nsDown : ∀ {b : Addr} {f : Str → Option Value}, t0.heap.Ns b f → (hidT t0.heap H).Ns b f := by
    rintro b f ⟨o, es, ep, e, d, r⟩
    exact ⟨o, es, ep, down e (offData e (fun vs n z => by rw [d] at z; cases z) fun z => by rw [d] at z; cases z), d, r⟩
  have kDown : K.In (hidT t0.heap H) := fun b o e => down (inK b o e) (by
    cases q : H b with
    | none => rfl
    | some u =>
      exfalso
      rcases entryH_cases q with ⟨hb, _⟩ | ⟨_, rfl, hk, _⟩
      · obtain ⟨p, hp, rfl⟩ := List.mem_map.mp hb
        rw [notK p hp] at e; cases e
      · rw [hk] at e; cases e)
  have modOk : L2.Mod K mg (hidT t0.heap H) := by
    obtain ⟨mc, l1, l2⟩ := lim
    exact ⟨kDown, nsDown glob, ⟨mb, nsDown blt, bltIs⟩, ⟨mc, nsDown l1, l2⟩⟩
  have tabsOk : ∀ p ∈ cs, GxR.TabB (hidT t0.heap H) mg p.1 p.2 := fun p hp => by
    constructor
    · obtain ⟨o, vs, file, tf, flags, tg, inF, text, tt, e1, rest⟩ := codes p hp
      refine ⟨o, vs, file, tf, flags, tg, inF, text, tt, down e1 (offData e1 (fun vs' n z => ?_) fun z => ?_), rest⟩
      · rw [rest.2.1] at z; cases z
      · rw [rest.2.1] at z
        have z' := Data.fields.inj z
        have h11 := rest.2.2.1
        rw [z'] at h11
        simp at h11
    · obtain ⟨bm, o, b1, b2, b3, b4, b5, b6⟩ := bmod
      refine ⟨bm, o, b1, b2, fun z => ?_, fun z => ?_, down b3 (offData b3 (fun vs n z => ?_) fun z => ?_), b4, b5, b6⟩
      · obtain ⟨o', es, ep, e, d, _⟩ := glob
        rw [z, e] at b3; cases b3
        rw [d] at b6; cases b6
      · rw [z, tabs p hp] at b3; cases b3; cases b6
      · rw [b6] at z; cases z
      · rw [b6] at z; cases z
    · intro z
      obtain ⟨o', es, ep, e, d, _⟩ := glob
      rw [z, tabs p hp] at e; cases e; cases d
  have entry : Env0 P w K mg (hidT t0.heap H) callerA [] t0 H := ⟨rfl, modOk, fun b o e => of_hidT e, Nat.le_of_eq (hidT_size _ _), trivial, fun b hb => absurd (show b ∈ ([] : List Addr) from hb) (by simp), ok, AllBare.of_eq gens⟩
  have RL : Rel K TB [] [] H [] := ⟨rfl, List.nodup_nil, fun n mo b e1 _ => by simp at e1, fun p hp => ⟨#[], entryH_tab hp, by trivial⟩, (fun p hp => nomatch hp), (fun p hp => nomatch hp), fun p hp _ _ _ _ => LamX.TabS.nil (entryH_tab hp)⟩
  have rInts : ∀ l : List Int, Reps K [] [] H (l.map .int) (l.map V.int) := fun l => by
    induction l with
    | nil => exact .nil
    | cons i l ih => exact .cons (.int i) ih
  have nT : a ∉ TB := fun z => by
    have e := tabAt a z
    rw [obj] at e
    have e' := congrArg Obj.data (Option.some.inj e)
    cases e'
  have script : Rep K [] [] H (.fl (ns.map .int)) (.ref a) := by
    refine .fl ?_ (rInts ns)
    cases hk : K.lookup a with
    | none =>
      refine .inl ⟨ob, ?_⟩
      show entryH K TB a ob _ a = _
      unfold entryH
      rw [if_neg nT, if_pos ⟨rfl, hk⟩]
    | some o =>
      have e := inK a o hk
      rw [obj] at e
      cases e
      exact .inr ⟨_, us.toArray, _, hk, rfl, rfl, rfl, by rw [List.size_toArray, lens]; exact few, by simpa using rel⟩
  have want : spF K TB 1 F [.ref a] H (fun v _ => v = .bl true) E0 := ⟨[], [], [.v (.fl (ns.map .int))], [], .v (.bl true), m', RL, .cons script .nil, rfl, holds, fun φ' ψ' H' v _ _ r => by obtain ⟨_, r⟩ := r; cases r; rfl⟩
  refine codeAny_mono ((G _ kDown (nsDown glob) tabsOk).run callerA [] t0 H ⟨[.ref a], []⟩ [.ref a] [.ref a] _ _ rfl room entry (binds t0 (.ref a)) (.cons rfl .nil) want) fun res t1 ends => ?_
  match res, ends with
  | .ok (.ret u), ⟨v, H', os, bare, un, ok', rv, isT⟩ =>
    have isT' : v = .bl true := isT
    subst isT'
    obtain rfl : u = Value.bool true := rv
    have kept : ∀ b o, b ∉ TB → t0.heap.get? b = some o → t1.heap.get? b = some o := fun b o nb e => by
      cases q : H b with
      | none => exact un.keep b o e q (fun z => absurd (show b ∈ ([] : List Addr) from z) (by simp)) (by simp)
      | some y =>
        rcases entryH_cases q with ⟨hb, _⟩ | ⟨_, rfl, _, rfl⟩
        · exact absurd hb nb
        · have q2 := un.frzs _ _ _ q
          obtain ⟨e1, _⟩ := ok' _ _ q2
          rw [obj] at e; cases e
          exact e1
    have grown : ∀ p ∈ cs, ∃ more : Array Value, t1.heap.get? p.2 = some { cls := .none, data := .fields more } := fun p hp => by
      obtain ⟨more, z⟩ := un.tbls p.2 #[] (entryH_tab (List.mem_map.mpr ⟨p, hp, rfl⟩))
      exact ⟨_, ok' p.2 _ z⟩
    refine ⟨rfl, ⟨fun b o e => ?_, fun b o e => ?_⟩, os, bare⟩
    · by_cases hb : b ∈ TB
      · obtain ⟨p, hp, rfl⟩ := List.mem_map.mp hb
        obtain ⟨more, hm⟩ := grown p hp
        rw [tabs p hp] at e
        cases e
        exact .inr (.inl ⟨((codes p hp).tab (tabs p hp)).isCodeTable, rfl, #[], more, rfl, by rw [Array.empty_append]; exact hm⟩)
      · exact .inl (kept b o hb e)
    · by_cases hb : b ∈ TB
      · obtain ⟨p, hp, rfl⟩ := List.mem_map.mp hb
        obtain ⟨more, hm⟩ := grown p hp
        exact ⟨_, hm⟩
      · exact ⟨o, kept b o hb e⟩
theorem walkG {l : PySem.W.OpenLaw} {n k : Nat} {q : Program} {loose : List Str} {XP : (Str → Option Value) → Heap → Prop} {YP : World → Heap → Prop} {d : DefRec} {K : Params → FRG} {x : Str} {F : Fx}
    (hn : l.most = some n) (hn2 : n ≤ sizeLine) (hdf : d.params.defaults = []) (room : Room k callerA) (hY : ∀ (w : World) (h : Heap), YP w h → (K w.params).In h)
    (G : ∀ (w : World) (mg : Str → Option Value) (fa : Addr) (h : Heap), (K w.params).In h → h.Ns mainGlobals mg → mg d.name = some (.ref fa) →
      (∀ (x : Str) (d : DefRec) (c P : Addr), (recsOf q).find? (fun e => e.name == x) = some d → PySem.W.tabIn (K w.params) x = some (c, P) → PySem.W.CodeHd h c P ∧ h.get? P = some { cls := .none, data := .fields #[] }) →
      ∃ (fd : FuncData) (cs : List (Addr × Addr)), (∀ p ∈ cs, h.get? p.2 = some { cls := .none, data := .fields #[] }) ∧ (∀ p ∈ cs, (K w.params).lookup p.2 = none) ∧ (∀ p ∈ cs, PySem.W.CodeHd h p.1 p.2) ∧ (∀ (s : Shared) (u : Value), BindsTo s fd ⟨[u], []⟩ [(x, u)]) ∧
        ∀ base : Heap, (K w.params).In base → base.Ns mainGlobals mg → (∀ p ∈ cs, GxR.TabB base mg p.1 p.2) → FnG l.prog w (K w.params) mg base k fa fd [x] (spF (K w.params) (cs.map (·.2)) 1 F))
    (holds : ∀ ns : List Int, ns.length ≤ n → ∃ m', F [.v (.fl (ns.map .int))] [] = some (.v (.bl true), m')) :
    PySem.W.WalkO q loose XP YP l.row.toRowW d [] (fun f vs => PySem.call f vs) := by
  refine Att.attach_callB hn hdf fun w s₀ t0 mg mb fa o pm cd doc a us ns Gr Y ho hd hcd hmg hobj hints hlen hbits hg => ?_
  have inK := hY w _ Y
  obtain ⟨fd, cs, tabs, notK, codes, binds, hG⟩ := G w mg fa _ inK Gr.T.g hmg fun x d c P h1 h2 => PySem.W.tab_of Gr.T inK h1 h2
  exact law_callG inK Gr.T.g Gr.T.b Gr.T.builtins Gr.T.nolimit hg tabs notK codes Gr.T.bmain hobj hints (Nat.le_trans hlen hn2) room hG binds (holds ns hlen)
theorem Post.tbl {φ ψ : List Addr} {H : Hp} {p : Addr} {ps ps' : Array Value} (h : H p = some (.tbl ps)) : Post φ ψ H φ ψ (upd H p (.tbl ps')) :=
  ⟨List.prefix_refl _, fun _ z => .inl z, fun _ z => .inl z, fun b u _ e ht => .inl (by rw [upd_ne (fun z => by rw [z, h] at e; cases e; exact ht _ rfl)]; exact e), (fun b z => by
    by_cases hb : b = p
    · rw [hb, upd_same] at z; cases z
    · rw [upd_ne hb] at z; exact z), fun _ z => z⟩
theorem Rel.tbl {K : FRG} {tb φ ψ : List Addr} {H : Hp} {m : Mem} {p : Addr} {ps ps' : Array Value} (R : Rel K tb φ ψ H m) (h : H p = some (.tbl ps)) (ht : TriplesOk ps'.toList) (hn : NotL K p) : Rel K tb φ ψ (upd H p (.tbl ps')) m := by
  refine ⟨R.len, R.nd, fun n mo a e1 e2 => ?_, fun q hq => ?_, fun q hq z => R.sd q hq ((Post.tbl (φ := φ) (ψ := ψ) h).kp q z), R.ap, fun q hq => ?_⟩
  · exact (R.obj n mo a e1 e2).mono (Post.tbl h) R (upd_ne fun z => R.ntbl h (z ▸ List.mem_of_getElem? e2))
  · by_cases hb : q = p
    · rw [hb]; exact ⟨ps', upd_same, ht⟩
    · exact TabG.keep (R.tab q hq) (upd_ne hb)
  · by_cases hb : q = p
    · exact fun x hx c hc => absurd (hb ▸ hc) (hn x hx c)
    · exact (R.lam q hq).upd hb fun _ e => by rw [h] at e; cases e
end Pw
end
section
set_option Elab.async false
set_option linter.all false
set_option maxRecDepth 100000
set_option maxHeartbeats 2000000
namespace Pv
open PySem PySem.Spec PyProof.Rows L2
section
variable {X : Cx}
def rSortDT : List V → Hp → VK → Prop := fun vs H Q => ∃ (a : Addr) (kvs : List (List Key × V)) (sh : List Bool), vs = [V.ref a] ∧ Rd H a (.dT kvs) ∧ sh ≠ [] ∧ (∀ p ∈ kvs, p.1.map Sum.isRight = sh) ∧
  ∀ (L' : List Ent) (p : Addr), (L'.map (·.2)).Perm (kvs.map (·.1)) → L'.Pairwise (fun e f => kLt f.2 e.2 = false) → (∀ e ∈ L', H e.1 = some (.tup (e.2.map kV))) → H p = none → Q (.ref p) (upd H p (.lst (L'.map fun e => V.ref e.1)))
theorem kt_all {H : Hp} : ∀ {kvs : List (List Key × V)} {xs : List (List Key × Addr × Value)}, KT H kvs xs → kvs.map (·.1) = xs.map (·.1) ∧ ∀ x ∈ xs, H x.2.1 = some (.tup (x.1.map kV)) := by
  intro kvs xs r
  induction r with
  | nil => exact ⟨rfl, fun x hx => nomatch hx⟩
  | @cons p q ps qs h t ih =>
    refine ⟨by rw [List.map_cons, List.map_cons, ih.1, h.1], fun x hx => ?_⟩
    rcases List.mem_cons.mp hx with z | z
    · rw [z, ← h.1]; exact h.2.1
    · exact ih.2 x z
theorem cr_sortDT (hc : X.calm = true) : CallR X (.builtin "sorted") rSortDT := by
  intro pins s σ H vs us Q I r h
  obtain ⟨a, kvs, sh, rfl, hd, hne, hs, q⟩ := h
  rw [Vals.ref1 r]
  obtain ⟨z, lo, ks, pr, o, es, ep, ho, hx, hdt, he, hn⟩ := (show ObjOk X.prog X.w H s.heap a (.dT kvs) from hd.ok I.hok)
  have l1 : es.size = ks.length := size_of_entries he
  have l2 : kvs.length = ks.length := Paired.length pr
  obtain ⟨ek, hk1⟩ := kt_all pr
  refine Calls.call_function_entry kind_sorted plain_sorted entry_sorted (args_sorted1 _) ?_
  unfold Builtin.«sorted»
  refine wpAny_bind (m := checkCount "sorted" 1 1 _) (wpAny_pure ?_)
  refine wpAny_bind (PySem.W.kdu_collect (A := X.A.in1) (kdl_raw lo hx hdt) (I.ok.hd hc) ho (by omega) fun h' tk acc hk hacc => ?_)
  let L : List Ent := ks.map fun x => (x.2.1, x.1)
  have ea : acc.toList = L.map refE := by
    have hl : acc.toList.length = ks.length := by rw [Array.length_toList, hacc.1]; exact l1
    apply List.ext_getElem?
    intro j
    show acc.toList[j]? = ((ks.map fun x => (x.2.1, x.1)).map refE)[j]?
    rw [List.map_map, List.getElem?_map]
    cases hj : acc.toList[j]? with
    | none =>
      have := List.getElem?_eq_none_iff.mp hj
      rw [List.getElem?_eq_none (by omega)]; rfl
    | some v =>
      obtain ⟨en, hen, hv⟩ := hacc.2 j v (by rw [← Array.getElem?_toList]; exact hj)
      have qe := entry_at he j
      rw [hen] at qe
      cases hb : ks[j]? with
      | none => rw [hb] at qe; exact nomatch (show some en = none from qe)
      | some b =>
        rw [hb] at qe
        have e2 : en = entryOfKey (tupleKind (mixKind X.prog X.w)) b := Option.some.inj qe
        rw [hv, e2]; rfl
  have lenL : L.length ≤ sizeLine := by show (ks.map _).length ≤ _; rw [List.length_map]; omega
  have I1 : Inv X pins σ H { s with heap := h', toks := tk } := I.kept hk
  rw [ea]
  refine wpAny_bind (wpAny_newList ?_ (by rw [List.length_map]; exact lenL))
  have at1 : (h'.push (seqObj "list" (L.map refE).toArray 0)).get? h'.objs.size = some (seqObj "list" (L.map refE).toArray 0) := Heap.get?_push_size _ rfl
  have kp0 : Kps h' (h'.push (seqObj "list" (L.map refE).toArray 0)) := fun b u e => Heap.get?_push_of_some _ e
  have mixL : ∀ e ∈ L, H e.1 = some (.tup (e.2.map kV)) := fun e hme => by
    obtain ⟨x, hxm, rfl⟩ := List.mem_map.mp hme
    exact hk1 x hxm
  have shL : ∀ e ∈ L, e.2.map Sum.isRight = sh := fun e hme => by
    obtain ⟨x, hxm, rfl⟩ := List.mem_map.mp hme
    have : x.1 ∈ kvs.map (·.1) := by rw [ek]; exact List.mem_map.mpr ⟨x, hxm, rfl⟩
    obtain ⟨p, hp, e1⟩ := List.mem_map.mp this
    show x.1.map Sum.isRight = sh
    rw [← e1]; exact hs p hp
  show wpAny _ _ _ _ _ { s with heap := h'.push (seqObj "list" (L.map refE).toArray 0), toks := tk }
  refine wpAny_bind (wpAny_holding (wpAny_call_entry slot_list_sort ⟨_, at1, rfl⟩ entry_list_sort
    (sort_mix (P := X.prog) (w := X.w) (s := { s with heap := h'.push (seqObj "list" (L.map refE).toArray 0), toks := tk }) at1 (fun e hme => mix_keep (inv_mix I1 (SqT.of (mixL e hme))) kp0) shL hne lenL fun L' p2 pw => ⟨.none, rfl, ?_⟩) (args_list_sort _)))
  obtain ⟨c, hc'⟩ := sortedHeap_at (vs := L.map refE) (out := (L'.map refE).toArray) at1
  have kp : Kps h' (sortedHeap (h'.push (seqObj "list" (L.map refE).toArray 0)) h'.objs.size (L.map refE) (L'.map refE).toArray) := fun b u e => by
    have lt : b < h'.objs.size := Heap.lt_size e
    rw [sortedHeap_old (Nat.ne_of_lt lt) (by rw [size_push']; exact Nat.lt_succ_of_lt lt)]
    exact kp0 b u e
  have pk : (L'.map (·.2)).Perm (kvs.map (·.1)) := by
    have := p2.map (·.2)
    rw [ek]
    refine this.trans (.of_eq ?_)
    show (ks.map fun x => (x.2.1, x.1)).map (·.2) = _
    rw [List.map_map]; rfl
  exact wpAny_pure ⟨_, rfl, .ref _, upd H h'.objs.size (.lst (L'.map fun e => V.ref e.1)), I1.laid (t' := tk) kp (Nat.le_refl _) ⟨by rw [List.length_map, p2.length_eq]; exact lenL, L'.map refE, c, vals_mix L', hc'⟩, rfl, q L' _ pk pw (fun e hme => mixL e (p2.mem_iff.mp hme)) (I1.hok.fresh (Nat.le_refl _))⟩
end
end Pv
end
section
set_option Elab.async false
set_option linter.all false
set_option maxRecDepth 100000
set_option maxHeartbeats 2000000
namespace Pw
open PySem PySem.Spec PyProof.Rows L2 Pv
section
variable {κ : Type} [DecidableEq κ]
def valX (kvs : List (κ × D)) (k : κ) : Option D := (kvs.find? fun kv => decide (kv.1 = k)).map (·.2)
def putX (kvs : List (κ × D)) (k : κ) (d : D) : List (κ × D) :=
  if (kvs.any fun kv => decide (kv.1 = k)) = true then kvs.map (fun kv => if kv.1 = k then (kv.1, d) else kv) else kvs ++ [(k, d)]
def PR (K : FRG) (φ ψ : List Addr) (H : Hp) (kvs : List (κ × D)) (vs : List (κ × V)) : Prop := kvs.map (·.1) = vs.map (·.1) ∧ Reps K φ ψ H (kvs.map (·.2)) (vs.map (·.2))
variable {K : FRG} {φ ψ : List Addr} {H : Hp}
theorem PR.len {kvs : List (κ × D)} {vs : List (κ × V)} (h : PR K φ ψ H kvs vs) : kvs.length = vs.length := by
  have := congrArg List.length h.1
  simpa using this
theorem PR.uncons {p : κ × D} {q : κ × V} {kvs : List (κ × D)} {vs : List (κ × V)} (h : PR K φ ψ H (p :: kvs) (q :: vs)) : p.1 = q.1 ∧ Rep K φ ψ H p.2 q.2 ∧ PR K φ ψ H kvs vs := by
  obtain ⟨h1, h2⟩ := h
  rw [List.map_cons, List.map_cons] at h1 h2
  cases h2 with
  | cons a b => exact ⟨(List.cons.inj h1).1, a, (List.cons.inj h1).2, b⟩
theorem PR.cons {p : κ × D} {q : κ × V} {kvs : List (κ × D)} {vs : List (κ × V)} (h1 : p.1 = q.1) (h2 : Rep K φ ψ H p.2 q.2) (h : PR K φ ψ H kvs vs) : PR K φ ψ H (p :: kvs) (q :: vs) :=
  ⟨by rw [List.map_cons, List.map_cons, h1, h.1], .cons h2 h.2⟩
theorem PR.val {k : κ} : ∀ {kvs : List (κ × D)} {vs : List (κ × V)}, PR K φ ψ H kvs vs → (∀ d, valX kvs k = some d → ∃ v, valV vs k = some v ∧ Rep K φ ψ H d v) ∧ (valX kvs k = none → valV vs k = none)
  | [], [], _ => ⟨(fun d e => by cases e), fun _ => rfl⟩
  | [], _ :: _, h => by have := h.len; simp at this
  | _ :: _, [], h => by have := h.len; simp at this
  | p :: kvs, q :: vs, h => by
    obtain ⟨e1, e2, e3⟩ := h.uncons
    obtain ⟨i1, i2⟩ := PR.val (k := k) e3
    by_cases hk : p.1 = k
    · refine ⟨fun d e => ⟨q.2, valV_pos (e1 ▸ hk), ?_⟩, fun e => ?_⟩
      · simp [valX, List.find?_cons, hk] at e
        rw [← e]; exact e2
      · simp [valX, List.find?_cons, hk] at e
    · have hq : ¬ q.1 = k := fun z => hk (e1.trans z)
      have ev : valX (p :: kvs) k = valX kvs k := by simp [valX, List.find?_cons, hk]
      rw [ev, valV_neg hq]
      exact ⟨i1, i2⟩
theorem PR.any {k : κ} {kvs : List (κ × D)} {vs : List (κ × V)} (h : PR K φ ψ H kvs vs) : (kvs.any fun kv => decide (kv.1 = k)) = vs.any fun kv => decide (kv.1 = k) := by
  have a : ∀ (l : List (κ × D)), (l.any fun kv => decide (kv.1 = k)) = (l.map (·.1)).any fun x => decide (x = k) := fun l => by rw [List.any_map]; rfl
  have b : ∀ (l : List (κ × V)), (l.any fun kv => decide (kv.1 = k)) = (l.map (·.1)).any fun x => decide (x = k) := fun l => by rw [List.any_map]; rfl
  rw [a, b, h.1]
theorem PR.repl {k : κ} {d : D} {v : V} (r : Rep K φ ψ H d v) : ∀ {kvs : List (κ × D)} {vs : List (κ × V)}, PR K φ ψ H kvs vs → PR K φ ψ H (kvs.map (fun kv => if kv.1 = k then (kv.1, d) else kv)) (vs.map (fun kv => if kv.1 = k then (kv.1, v) else kv))
  | [], [], h => h
  | [], _ :: _, h => by have := h.len; simp at this
  | _ :: _, [], h => by have := h.len; simp at this
  | p :: kvs, q :: vs, h => by
    obtain ⟨e1, e2, e3⟩ := h.uncons
    rw [List.map_cons, List.map_cons]
    by_cases hk : p.1 = k
    · rw [if_pos hk, if_pos (e1 ▸ hk)]
      exact .cons e1 r (PR.repl r e3)
    · rw [if_neg hk, if_neg (fun z => hk (e1.trans z))]
      exact .cons e1 e2 (PR.repl r e3)
theorem PR.put {k : κ} {d : D} {v : V} {kvs : List (κ × D)} {vs : List (κ × V)} (h : PR K φ ψ H kvs vs) (r : Rep K φ ψ H d v) : PR K φ ψ H (putX kvs k d) (putK vs k v) := by
  unfold putX putK
  rw [h.any]
  split
  · exact h.repl r
  · exact ⟨by rw [List.map_append, List.map_append, h.1]; rfl, by rw [List.map_append, List.map_append]; exact h.2.app (.cons r .nil)⟩
end
def eNewT : Ex := fun _ m => some (.f (.dt []), m)
section
variable {X : Cx} {tb : List Addr} {pos : Pos}
theorem ex_newT : PE X (.Dict [] [] pos) (T X.K tb eNewT) := pe_mono pe_dnewT fun σ H Q ⟨φ, ψ, ρ, m, w, m', R, E, e, k⟩ p hp => by
  cases e; exact Go.dt (vs := []) k R rfl .nil hp
def sPutT (o : Ex) (i : Ax) (a : Ex) : Sx := fun ρ m => (a ρ m).bind fun p => (o ρ p.2).bind fun q => (i ρ q.2).bind fun r => (vl p.1).bind fun d => (vls r.1).bind fun ds => (allK ds).bind fun k => match q.1 with
  | .r n => match r.2[n]? with
    | some (.dt kvs) => if kvs.length < 1000000 ∧ ds.length ≤ 1000000 then some (.nx, ρ, r.2.set n (.dt (putX kvs k d))) else none
    | _ => none
  | _ => none
theorem bs_putT {o a : Expr} {es : List Expr} {x1} {fo fa : Ex} {fi : Ax} {ipos pos' : Pos} (hu : X.A.units + 1 < cLine) (ho : PE X o (T X.K tb fo)) (hi : PA X es (Ta X.K tb fi)) (ha : PE X a (T X.K tb fa))
    (hs : swapsWith a (some (.Subscript o (.Tuple es x1 ipos) pos')) pos.line X.env = pure false := by rfl) : PS X (.Assign [.Subscript o (.Tuple es x1 ipos) pos'] a pos) (Ts X.K tb (sPutT fo fi fa)) := by
  refine ps_mono (ps_dput hu ho (pe_tup hi) ha hs) fun D σ H ⟨φ, ψ, ρ, m, o', ρ', m', R, E, e, k⟩ => ?_
  obtain ⟨⟨w1, m1⟩, e1, e⟩ := bnd e
  obtain ⟨⟨w2, m2⟩, e2, e⟩ := bnd e
  obtain ⟨⟨ws, m3⟩, e3, e⟩ := bnd e
  obtain ⟨d, ev, e⟩ := bnd e
  obtain ⟨ds, es', e⟩ := bnd e
  obtain ⟨ky, ek, e⟩ := bnd e
  refine ⟨φ, ψ, ρ, m, w1, m1, R, E, e1, fun φ1 ψ1 H1 v P1 R1 V1 => ⟨φ1, ψ, ρ, m1, w2, m2, V1.rel R1, E.mono (V1.post P1) R, e2, fun φ2 ψ2 H2 x P2 R2 V2 => ⟨φ2, ψ, ρ, m2, ws, m3, V2.rel R2, E.mono ((V1.post P1).trans (V2.post P2)) R, e3, fun φ3 H3 vs P3 R3 V3 => ?_⟩⟩⟩
  split at e
  · rename_i n hq
    split at e
    · rename_i kvs hm
      split at e
      · rename_i hl
        cases e
        have rs := vls_c V3 es'
        have kk := allK_rep rs ek
        have S2 := (V2.s R2).mono P3 (V2.rel R2)
        have hq' : w2 = .r n := hq
        subst hq'
        obtain ⟨b, hb, rfl⟩ := S2
        obtain ⟨us, hus, u1, u2⟩ := R3.obj n _ b hm hb
        refine ⟨small (by rw [← rs.length]; exact hl.2), fun p hp => ⟨b, _, rfl, .inr ⟨us, ky, p, ?_, rfl, ?_, ?_, rfl⟩, ?_⟩⟩
        · rw [upd_ne (ne_of_none hus hp)]; exact hus
        · rw [upd_same, kk]
        · exact smallT (by rw [← (show PR X.K φ3 ψ H3 kvs us from ⟨u1, u2⟩).len]; exact hl.1)
        · have Pl : Post φ3 ψ H3 φ3 ψ _ := Post.lay (o := .tup vs) hp
          have Rl := R3.lay (o := .tup vs) hp
          have mem := List.mem_of_getElem? hb
          have Pw' : Post φ3 ψ _ φ3 ψ _ := Post.wr (o := .dT (putK us ky v)) mem (Rl.trk mem)
          have V1' := (vl_rep (V1.s R1) ev).mono (((V2.post P2).trans P3).trans (Pl.trans Pw')) (V1.rel R1)
          have P := ((V1.post P1).trans ((V2.post P2).trans P3)).trans (Pl.trans Pw')
          have pr : PR X.K φ3 ψ (upd (upd H3 p (.tup vs)) b (.dT (putK us ky v))) kvs us := ⟨u1, u2.mono (Pl.trans Pw') R3⟩
          have pp := pr.put (k := ky) V1'
          exact k φ3 ψ _ P (Rl.wr hb ⟨putK us ky v, upd_same, pp.1, pp.2⟩) rfl σ (E.mono P R)
      · cases e
    · cases e
  · cases e
def sortDD : List D → Option W
  | [.dt kvs] => if kvs.length ≤ 1000000 ∧ oneSh (kvs.map (·.1)) = true then some (.f (.lst ((sortM kLt (kvs.map (·.1))).map tD))) else none
  | _ => none
theorem sortD_s : CallS X.K tb rSortDT sortDD := fun φ ψ H m vs ds w Q R r e k => by
  unfold sortDD at e
  split at e
  · rename_i kvs
    split at e
    · rename_i hl
      cases e
      cases r with
      | cons h r =>
        cases r
        obtain ⟨a, us, rfl, hq, u1, u2⟩ := h.dt
        have shp : ∃ sh : List Bool, sh ≠ [] ∧ ∀ p ∈ us, p.1.map Sum.isRight = sh := by
          obtain ⟨sh, h1, h2⟩ := shape (es := us.map fun p => ((0 : Addr), p.1)) (L := us.map fun p => ((0 : Addr), p.1)) (by rw [List.map_map]; rw [u1] at hl; exact hl.2) (fun e he => he)
          exact ⟨sh, h1, fun p hp => h2 ((0 : Addr), p.1) (List.mem_map.mpr ⟨p, hp, rfl⟩)⟩
        obtain ⟨sh, h1, h2⟩ := shp
        refine ⟨a, us, sh, rfl, .inl hq, h1, h2, fun L' p p1 pw hL hp => ?_⟩
        rw [← u1] at p1
        have en : L'.map (·.2) = sortM kLt (kvs.map (·.1)) := sortedM_uniq lin_k (List.pairwise_map.mpr pw) (sortM_sorted lin_k _) (p1.trans (sortM_perm _).symm)
        have ed : (sortM kLt (kvs.map (·.1))).map tD = L'.map fun e => tD e.2 := by rw [← en, List.map_map]; rfl
        rw [ed] at k
        exact Go.lst k R (reps_ents L' fun e he => SqN.of (hL e he)) hp
    · cases e
  · cases e
end
theorem lt1 {n : Nat} (h : n + 100 < cLine) : n + 1 < cLine := by omega
end Pw
end
section
set_option Elab.async false
set_option linter.all false
set_option maxRecDepth 100000
set_option maxHeartbeats 2000000
namespace Pw
open PySem PySem.Spec PyProof.Rows L2 Pv
section
variable {X : Cx} {K : FRG} {tb : List Addr} {pos : Pos}
theorem Reps.dropLast {φ ψ : List Addr} {H : Hp} {ds : List D} {vs : List V} (r : Reps K φ ψ H ds vs) : Reps K φ ψ H ds.dropLast vs.dropLast := by
  rw [List.dropLast_eq_take, List.dropLast_eq_take, ← r.length]
  exact r.take _
end
end Pw
end
section
set_option Elab.async false
set_option linter.all false
set_option maxRecDepth 100000
set_option maxHeartbeats 2000000
namespace Pw
open PySem PySem.Spec PyProof.Rows L2 Pv
end Pw
end
section
set_option Elab.async false
set_option linter.all false
set_option maxRecDepth 100000
set_option maxHeartbeats 2000000
namespace Pw
open PySem PySem.Spec PyProof.Rows L2 Pv
def keyOf : D → Option Key
  | .int i => some (.inl i)
  | .str x => some (.inr x)
  | _ => none
section
variable {X : Cx} {K : FRG} {tb : List Addr} {pos : Pos}
end
end Pw
end
section
set_option Elab.async false
set_option linter.all false
set_option maxRecDepth 100000
set_option maxHeartbeats 2000000
namespace Pw
open PySem PySem.Spec PyProof.Rows L2 Pv
end Pw
end
section
set_option Elab.async false
set_option linter.all false
set_option maxRecDepth 100000
set_option maxHeartbeats 2000000
namespace Pw
open PySem PySem.Spec PyProof.Rows L2 Pv
theorem RepCs.len {K : FRG} {φ ψ : List Addr} {H : Hp} : ∀ {ds : List D} {vs : List V}, RepCs K φ ψ H ds vs → ds.length = vs.length
  | _, _, .nil => rfl
  | _, _, .cons _ r => by simp [RepCs.len r]
end Pw
end
section
set_option Elab.async false
set_option linter.all false
set_option maxRecDepth 100000
set_option maxHeartbeats 1000000
namespace Gn
open PySem PySem.Spec PyProof.Rows L2
structure Ar (X : Cx) (A1 : Around) : Prop where
  hd : A1.handled = X.A.handled
  fr : A1.frames = X.A.frames
  gd : A1.guards = X.A.guards
  dp : A1.depth = X.A.depth
  un : A1.units ≤ X.A.units + 4
theorem Ar.guards {X : Cx} {A1 : Around} {G1 : Expr} {cl : List Comprehension} {sc : Scope} {gpos : Pos} {it : Value} {cenv : PySem.Env} (h : Ar X A1) (r : X.A.guards = some []) : (A1.over (.compLoop (.GeneratorExp G1 cl sc gpos) 0 it .none cenv) []).guards = some [] := by
  have e : (A1.over (.compLoop (.GeneratorExp G1 cl sc gpos) 0 it .none cenv) []).guards = A1.guards := rfl
  rw [e, h.gd, r]
end Gn
end
section
set_option Elab.async false
set_option linter.all false
set_option maxRecDepth 100000
set_option maxHeartbeats 2000000
namespace Pw
open PySem PySem.Spec PyProof.Rows L2
end Pw
end
section
set_option Elab.async false
set_option linter.all false
set_option maxRecDepth 100000
set_option maxHeartbeats 2000000
namespace Pw
open PySem PySem.Spec PyProof.Rows L2 Pv
end Pw
end
section
set_option Elab.async false
set_option linter.all false
set_option maxRecDepth 100000
set_option maxHeartbeats 2000000
namespace Pv
open PySem PySem.Spec PyProof.Rows L2
end Pv
end
section
set_option Elab.async false
set_option linter.all false
set_option maxRecDepth 100000
set_option maxHeartbeats 2000000
namespace Pw
open PySem PySem.Spec PyProof.Rows L2 Pv
end Pw
end
section
set_option Elab.async false
set_option linter.all false
set_option maxRecDepth 100000
set_option maxHeartbeats 2000000
namespace Pw
open PySem PySem.Spec PyProof.Rows L2 Pv
def tyS : D → Option String
  | .non => some "NoneType"
  | .bl _ => some "bool"
  | .int _ => some "int"
  | .str _ => some "str"
  | .tup _ => some "tuple"
  | .tx _ => some "tuple"
  | .fl _ => some "list"
  | .lst _ => some "list"
  | .dk _ => some "dict"
  | .dt _ => some "dict"
  | .rl _ _ => some "list"
inductive Ty where
  | int | bool | str | tuple | list | dict
def Ty.name : Ty → String
  | .int => "int"
  | .bool => "bool"
  | .str => "str"
  | .tuple => "tuple"
  | .list => "list"
  | .dict => "dict"
def isD : Ty → D → Bool
  | .int, .bl _ => true
  | .int, .int _ => true
  | .bool, .bl _ => true
  | .str, .str _ => true
  | .tuple, .tup _ => true
  | .tuple, .tx _ => true
  | .list, .fl _ => true
  | .list, .lst _ => true
  | .list, .rl _ _ => true
  | .dict, .dk _ => true
  | .dict, .dt _ => true
  | _, _ => false
theorem kit_is (t : Ty) (d : D) {a : String} (h : tyS d = some a) : kitB a t.name = some (isD t d) := by
  cases t <;> cases d <;> (cases h; first | (refine (?_ : kitB _ _ = some true); decide +kernel) | (refine (?_ : kitB _ _ = some false); decide +kernel))
section
variable {X : Cx} {tb : List Addr}
theorem tyx_tup {K : FRG} {H : Hp} {a : Addr} {vs : List V} (h : SqT K H a vs) : TyX K H (.ref a) (.type "tuple") := by
  rcases h with (h | ⟨o, h⟩) | ⟨o, its, n, h1, h2, _⟩
  · exact .base (.tup h)
  · exact .fTuple h
  · exact .kTuple h1 h2
theorem tyx_fz {K : FRG} {H : Hp} {a : Addr} {vs : List V} (h : Fz K H a vs) : TyX K H (.ref a) (.type "list") := by
  rcases h with ⟨o, h⟩ | ⟨o, its, n, h1, h2, _⟩
  · exact .base (.frz h)
  · exact .kList h1 h2
theorem tyx_rep {K : FRG} {φ ψ : List Addr} {H : Hp} {d : D} {v : V} (h : Rep K φ ψ H d v) : ∃ a, tyS d = some a ∧ TyX K H v (.type a) := by
  cases h with
  | non => exact ⟨_, rfl, .base .non⟩
  | bl b => exact ⟨_, rfl, .base (.bl b)⟩
  | int i => exact ⟨_, rfl, .base (.int i)⟩
  | str x => exact ⟨_, rfl, .base (.str x)⟩
  | tup h _ => exact ⟨_, rfl, tyx_tup h.1⟩
  | tx h _ => exact ⟨_, rfl, tyx_tup h.sq⟩
  | fl h _ => exact ⟨_, rfl, tyx_fz h⟩
  | lst _ _ h _ => exact ⟨_, rfl, .base (.lst h)⟩
  | dk _ _ h _ _ => exact ⟨_, rfl, by rcases h with h | ⟨o, h⟩ <;> first | exact .base (.dK h) | exact .fDict h⟩
  | dt _ _ h _ _ => exact ⟨_, rfl, .base (.dT h)⟩
theorem tyx_c {K : FRG} {φ ψ : List Addr} {H : Hp} {d : D} {v : V} (h : RepC K φ ψ H d v) : ∃ a, tyS d = some a ∧ TyX K H v (.type a) := by
  rcases h with h | ⟨a, mo, rfl, rfl, q⟩
  · exact tyx_rep h
  · cases mo with
    | lst ds => obtain ⟨vs, q1, _⟩ := q; exact ⟨_, rfl, .base (.lst q1)⟩
    | dk kvs => obtain ⟨vs, q1, _⟩ := q; exact ⟨_, rfl, .base (.dK q1)⟩
    | dt kvs => obtain ⟨vs, q1, _⟩ := q; exact ⟨_, rfl, .base (.dT q1)⟩
    | rl b k => exact ⟨_, rfl, .base (.lst q.1)⟩
def eIs (t : Ty) (a : Ex) : Ex := fun ρ m => (a ρ m).bind fun p => (gt p.1 p.2).bind fun d => some (.v (.bl (isD t d)), p.2)
theorem ex_isi (t : Ty) {e : Expr} {fa : Ex} {x : Str} {p q pos : Pos} (hg : Gl X "isinstance") (hm : X.mg "isinstance" = none) (hgT : Gl X x) (hmT : X.mg x = none) (hvT : bootBuiltins x = some (.type t.name)) (ha : PE X e (T X.K tb fa)) (hn : x ≠ "__name__" := by decide) (hd : (x == ("__debug__" : Str)) = false := by decide)
    (h1 : starEach [e, .Name x q] X.env = (false, eval e X.env) :: starEach [.Name x q] X.env := by rfl) (h2 : starEach [.Name x q] X.env = (false, eval (.Name x q) X.env) :: starEach [] X.env := by rfl) (hpl : (backTo pos (starEach [.Name x q] X.env)).any (·.1) = false := by rfl) :
    PE X (.Call (.Name "isinstance" p) [e, .Name x q] [] pos) (T X.K tb (eIs t fa)) := by
  refine pe_mono (pe_callB call_isi hg hm PyProof.Rows.boot_isinstance (pa_cons ha (pa_cons (pe_bltn (v := .ty t.name) hgT hmT hvT rfl hn hd) pa_nil h2) h1) (by decide) (by decide) h1 hpl) fun σ H Q ⟨φ, ψ, ρ, m, w, m', R, E, e, k⟩ => ?_
  obtain ⟨⟨w1, m1⟩, e1, e⟩ := bnd e
  obtain ⟨d, eg, e⟩ := bnd e
  cases e
  refine ⟨φ, ψ, ρ, m, w1, _, R, E, e1, fun φ1 ψ1 H1 v P1 R1 V1 => ?_⟩
  have R1' := V1.rel R1
  obtain ⟨a, ea, ty⟩ := tyx_c (gt_c R1' (V1.s R1) eg)
  exact ⟨v, .ty t.name, .type a, .type t.name, _, rfl, .ty _, ty, kit_ty (kit_is t d ea), k φ1 ψ H1 _ (V1.post P1) R1' ⟨rfl, .bl _⟩⟩
end
end Pw
end
section
set_option Elab.async false
set_option linter.all false
set_option maxRecDepth 100000
set_option maxHeartbeats 2000000
namespace Pw
open PySem PySem.Spec PyProof.Rows L2 Pv
end Pw
end
section
set_option Elab.async false
set_option linter.all false
set_option maxRecDepth 100000
set_option maxHeartbeats 2000000
namespace Pw
open PySem PySem.Spec PyProof.Rows L2 Pv
end Pw
end
section
set_option Elab.async false
set_option linter.all false
set_option maxRecDepth 100000
set_option maxHeartbeats 2000000
namespace Pw
open PySem PySem.Spec PyProof.Rows L2 Pv
end Pw
end
section
set_option Elab.async false
set_option linter.all false
set_option maxRecDepth 100000
set_option maxHeartbeats 2000000
namespace Pw
open PySem PySem.Spec PyProof.Rows L2 Pv
section
variable {X : Cx} {K : FRG} {tb : List Addr} {pos : Pos}
theorem Reps.erase {φ ψ : List Addr} {H : Hp} : ∀ {ds : List D} {vs : List V} (k : Nat), Reps K φ ψ H ds vs → Reps K φ ψ H (ds.eraseIdx k) (vs.eraseIdx k)
  | _, _, _, .nil => .nil
  | _, _, 0, .cons _ r => r
  | _, _, k + 1, .cons h r => .cons h (Reps.erase k r)
end
end Pw
end
section
set_option Elab.async false
set_option linter.all false
set_option maxRecDepth 100000
set_option maxHeartbeats 2000000
namespace Pv
open PySem PySem.Spec PyProof.Rows L2
end Pv
end
section
set_option Elab.async false
set_option linter.all false
set_option maxRecDepth 100000
set_option maxHeartbeats 2000000
namespace Pw
open PySem PySem.Spec PyProof.Rows L2 Pv
end Pw
end
section
set_option Elab.async false
set_option linter.all false
set_option maxRecDepth 100000
set_option maxHeartbeats 2000000
namespace Pw
open PySem PySem.Spec PyProof.Rows L2 Pv
end Pw
end
section
set_option Elab.async false
set_option linter.all false
set_option maxRecDepth 100000
set_option maxHeartbeats 2000000
namespace Pw
open PySem PySem.Spec PyProof.Rows L2 Pv
end Pw
end
section
set_option Elab.async false
set_option linter.all false
set_option maxRecDepth 100000
set_option maxHeartbeats 2000000
namespace Pv
open PySem PySem.Spec PyProof.Rows L2
def iLex : List Int → List Int → Bool
  | [], [] => false
  | [], _ :: _ => true
  | _ :: _, [] => false
  | x :: xs, y :: ys => if x = y then iLex xs ys else decide (x < y)
end Pv
end
section
set_option Elab.async false
set_option linter.all false
set_option maxRecDepth 100000
set_option maxHeartbeats 400000
namespace Pv
open PySem PySem.Spec PyProof.Rows L2
abbrev PK := List Int × Int
theorem iLex_irr : ∀ xs : List Int, iLex xs xs = false
  | [] => rfl
  | x :: xs => by simp [iLex, iLex_irr xs]
theorem iLex_tot : ∀ xs ys : List Int, iLex xs ys = false → iLex ys xs = false → xs = ys
  | [], [], _, _ => rfl
  | [], y :: ys, h, _ => by simp [iLex] at h
  | x :: xs, [], _, h => by simp [iLex] at h
  | x :: xs, y :: ys, h1, h2 => by
    unfold iLex at h1 h2
    by_cases e : x = y
    · subst e
      rw [if_pos rfl] at h1 h2
      rw [iLex_tot xs ys h1 h2]
    · rw [if_neg e] at h1
      rw [if_neg (Ne.symm e)] at h2
      have := of_decide_eq_false h1
      have := of_decide_eq_false h2
      omega
theorem iLex_tr : ∀ xs ys zs : List Int, iLex xs ys = true → iLex ys zs = true → iLex xs zs = true
  | [], ys, [], _, h => by cases ys <;> simp [iLex] at h
  | [], ys, z :: zs, _, _ => rfl
  | x :: xs, [], zs, h, _ => by simp [iLex] at h
  | x :: xs, y :: ys, [], _, h => by simp [iLex] at h
  | x :: xs, y :: ys, z :: zs, h1, h2 => by
    unfold iLex at h1 h2 ⊢
    by_cases e1 : x = y
    · subst e1
      rw [if_pos rfl] at h1
      by_cases e2 : x = z
      · subst e2
        rw [if_pos rfl] at h2 ⊢
        exact iLex_tr xs ys zs h1 h2
      · rw [if_neg e2] at h2 ⊢
        exact h2
    · rw [if_neg e1] at h1
      have a := of_decide_eq_true h1
      by_cases e2 : y = z
      · subst e2
        rw [if_neg e1]
        exact h1
      · rw [if_neg e2] at h2
        have b := of_decide_eq_true h2
        rw [if_neg (by omega)]
        exact decide_eq_true (by omega)
theorem iLex_asym {a b : List Int} (h : iLex a b = true) : iLex b a = false := by
  cases z : iLex b a with
  | false => rfl
  | true => have := iLex_tr _ _ _ h z; rw [iLex_irr] at this; cases this
def PrAt (P : Program) (w : World) (h : Heap) (v : Value) (k : PK) : Prop := ∃ p c t its, v = .ref p ∧ IsTup h p #[.ref c, .int k.2 t] ∧ IsTup h c (List.toArray its) ∧ IntsAre its k.1 ∧ IsM P w h (k.1.map Sum.inl) c
section
variable {P : Program} {w : World}
theorem isM_at {h h' : Heap} {k : KT'} {b : Addr} (x : IsM P w h k b) (hk : ∀ o, h.get? b = some o → h'.get? b = some o) : IsM P w h' k b := by
  obtain ⟨o, its, n, e, r⟩ := x
  exact ⟨o, its, n, hk o e, r⟩
theorem PrAt.keep {h h' : Heap} {v : Value} {k : PK} (x : PrAt P w h v k) {a : Addr} {o : Obj} (ho : h.get? a = some o) (hc : o.cls = .type "list") (hk : ∀ b u, b ≠ a → h.get? b = some u → h'.get? b = some u) : PrAt P w h' v k := by
  obtain ⟨p, c, t, its, rfl, a1, a2, a3, a4⟩ := x
  have ne : ∀ {q : Addr} {y : Array Value}, IsTup h q y → q ≠ a := fun {q y} hq z => by
    obtain ⟨o', e, c', _⟩ := hq
    rw [z, ho] at e
    cases e
    rw [hc] at c'
    exact absurd c' (by decide)
  have kt : ∀ {q : Addr} {y : Array Value}, IsTup h q y → IsTup h' q y := fun {q y} hq => by
    have n := ne hq
    obtain ⟨o', e, r⟩ := hq
    exact ⟨o', hk q o' n e, r⟩
  refine ⟨p, c, t, its, rfl, kt a1, kt a2, a3, ?_⟩
  have n := ne a2
  exact isM_at a4 fun o' e => hk c o' n e
end
end Pv
end
section
set_option Elab.async false
set_option linter.all false
set_option maxRecDepth 100000
set_option maxHeartbeats 2000000
namespace Pw
open PySem PySem.Spec PyProof.Rows L2 Pv
section
variable {X : Cx} {tb : List Addr} {pos : Pos}
def noStr (ds : List D) : Bool := ds.all fun d => match d with | .str _ => false | _ => true
@[simp] theorem noStr_nat {l : List Nat} : noStr (l.map fun i : Nat => D.int i) = true := by simp [noStr]
@[simp] theorem noStr_comp {α : Type} {g : α → Nat} {l : List α} : noStr (l.map ((fun i : Nat => D.int i) ∘ g)) = true := by simp [noStr]
@[simp] theorem noStr_int {l : List Int} : noStr (l.map D.int) = true := by simp [noStr]
@[simp] theorem noStr_compI {α : Type} {g : α → Int} {l : List α} : noStr (l.map (D.int ∘ g)) = true := by simp [noStr]
end
end Pw
end
section
set_option Elab.async false
set_option linter.all false
set_option maxRecDepth 100000
set_option maxHeartbeats 2000000
namespace Pv
open PySem PySem.Spec PyProof.Rows L2
end Pv
end
section
set_option Elab.async false
set_option linter.all false
set_option maxRecDepth 100000
set_option maxHeartbeats 2000000
namespace Pw
open PySem PySem.Spec PyProof.Rows L2 Pv
end Pw
namespace Pw
end Pw
end
section
set_option Elab.async false
set_option linter.all false
set_option maxRecDepth 100000
set_option maxHeartbeats 2000000
namespace Pw
open PySem PySem.Spec PyProof.Rows L2 Pv
end Pw
end
section
set_option Elab.async false
set_option linter.all false
set_option maxRecDepth 100000
set_option maxHeartbeats 2000000
namespace Pw
open PySem PySem.Spec PyProof.Rows L2 Pv
end Pw
end
section
set_option Elab.async false
set_option linter.all false
set_option maxRecDepth 100000
set_option maxHeartbeats 2000000
namespace Pw
open PySem PySem.Spec PyProof.Rows L2 Pv
end Pw
end
section
set_option Elab.async false
set_option linter.all false
set_option maxRecDepth 100000
set_option maxHeartbeats 2000000
namespace Pv
open PySem PySem.Spec PyProof.Rows L2
end Pv
end
section
set_option Elab.async false
set_option linter.all false
set_option maxRecDepth 100000
set_option maxHeartbeats 2000000
namespace Pw
open PySem PySem.Spec PyProof.Rows L2 Pv
section
variable {X : Cx} {K : FRG} {tb : List Addr}
theorem Go.tx {φ ψ : List Addr} {H : Hp} {m : Mem} {Q : VK} {ds : List D} {vs : List V} {p : Addr} {o : Obj} (k : Go K tb φ ψ H m (.v (.tx ds)) Q) (R : Rel K tb φ ψ H m) (h : Reps K φ ψ H ds vs) (hp : H p = none) (hd : o.dict = none) (hn : ∀ x, V.str x ∉ vs) : Q (.ref p) (upd H p (.frz o (.tup vs))) :=
  k φ ψ _ _ (Post.lay hp) (R.lay hp) ⟨rfl, .tx ⟨o, upd_same, hd, hn⟩ (h.mono (Post.lay hp) R)⟩
end
end Pw
end
section
set_option Elab.async false
set_option linter.all false
set_option maxRecDepth 100000
set_option maxHeartbeats 2000000
namespace Pw
open PySem PySem.Spec PyProof.Rows L2 Pv
end Pw
end
section
set_option Elab.async false
set_option linter.all false
set_option maxRecDepth 100000
set_option maxHeartbeats 2000000
namespace Pw
open PySem PySem.Spec PyProof.Rows L2 Pv
end Pw
end
section
set_option Elab.async false
set_option linter.all false
set_option maxRecDepth 100000
set_option maxHeartbeats 4000000
namespace Pw
open PySem PySem.Spec PyProof.Rows L2
def nearLt (ts : List Int) (x y : Int) : Bool :=
  let tx := ts.getD x.toNat 0
  let ty := ts.getD y.toNat 0
  if tx = -1 then (if ty = -1 then decide (x < y) else false) else if ty = -1 then true else decide (tx < ty ∨ (tx = ty ∧ x < y))
theorem lin_near (ts : List Int) : Pv.Lin (nearLt ts) where
  irr x := by unfold nearLt; simp
  tr x y z h1 h2 := by
    unfold nearLt at *
    dsimp only at *
    split at h1 <;> split at h1 <;> simp_all <;> omega
  tot x y h1 h2 := by
    unfold nearLt at *
    dsimp only at *
    split at h1 <;> split at h1 <;> simp_all <;> omega
end Pw
end
section
set_option Elab.async false
set_option linter.all false
set_option maxRecDepth 100000
set_option maxHeartbeats 4000000
namespace Pw
open PySem PySem.Spec PyProof.Rows L2
end Pw
end
section
set_option Elab.async false
set_option linter.all false
set_option maxRecDepth 100000
set_option maxHeartbeats 4000000
namespace Pw
open PySem PySem.Spec PyProof.Rows L2
end Pw
end
section
set_option Elab.async false
set_option linter.all false
set_option maxRecDepth 100000
set_option maxHeartbeats 4000000
namespace Pw
open PySem PySem.Spec PyProof.Rows L2
end Pw
end
section
set_option Elab.async false
set_option linter.all false
set_option maxRecDepth 100000
set_option maxHeartbeats 2000000
namespace Pw
open PySem PySem.Spec PyProof.Rows L2 Pv
section
variable {K : FRG} {tb : List Addr}
theorem RepC.tx {φ ψ : List Addr} {H : Hp} {ds : List D} {v : V} (h : RepC K φ ψ H (.tx ds) v) : ∃ a vs, v = .ref a ∧ Tz H a vs ∧ Reps K φ ψ H ds vs := by
  rcases h with h | ⟨a, mo, rfl, e, q⟩
  · cases h with
    | tx h r => exact ⟨_, _, rfl, h, r⟩
  · cases mo <;> cases e
end
end Pw
end
section
set_option Elab.async false
set_option linter.all false
set_option maxRecDepth 100000
set_option maxHeartbeats 4000000
namespace Pw
open PySem PySem.Spec PyProof.Rows L2
end Pw
end
section
set_option Elab.async false
set_option linter.all false
set_option maxRecDepth 100000
set_option maxHeartbeats 4000000
namespace Pw
open PySem PySem.Spec PyProof.Rows L2 Pv
theorem runF_none {np nn : Nat} {ws : List W} {m : Mem} {r : W × Mem} (h : runF np nn (fun _ _ => none) ws m = some r) : False := by
  unfold runF at h
  split at h
  · cases h
  · cases h
theorem fnG_none {P : Program} {w : World} {K : FRG} {mg : Str → Option Value} {base : Heap} {tb : List Addr} {k nn : Nat} {f : Addr} {fd : FuncData} {ps : List Str} : FnG P w K mg base k f fd ps (spF K tb ps.length (runF ps.length nn fun _ _ => none)) :=
  ⟨fun vs H Q E q => (by
    obtain ⟨φ, ψ, ws, m, d, m', R, r, hl, e, go⟩ := q
    exact (runF_none e).elim), fun A outer s H args us vs Q E _ _ _ _ _ q => (by
    obtain ⟨φ, ψ, ws, m, d, m', R, r, hl, e, go⟩ := q
    exact (runF_none e).elim)⟩
def allBl : List D → Option (List Bool)
  | [] => some []
  | .bl b :: ds => (allBl ds).bind fun bs => some (b :: bs)
  | _ :: _ => none
def allBD : List D → Option W
  | [x] => (itmL x).bind fun ds => (allBl ds).bind fun bs => some (.v (.bl (bs.all id)))
  | _ => none
theorem allBl_rep {K : FRG} {φ ψ : List Addr} {H : Hp} : ∀ {ds : List D} {vs : List V} {bs : List Bool}, Reps K φ ψ H ds vs → allBl ds = some bs → vs = bs.map V.bl
  | [], _, _, .nil, e => by cases e; rfl
  | d :: ds, _, bs, .cons h t, e => by
    unfold allBl at e
    split at e
    · rename_i z; cases z
    · rename_i b ds' z
      cases z
      obtain ⟨bs', e1, e⟩ := bnd e
      cases e
      cases h
      rw [allBl_rep t e1]; rfl
    · cases e
theorem allB_s {K : FRG} {tb : List Addr} : CallS K tb (rAll K) allBD := fun φ ψ H m vs ds w Q R r e k => by
  unfold allBD at e
  split at e
  rotate_left
  · cases e
  obtain ⟨xs, e1, e⟩ := bnd e
  obtain ⟨bs, e2, e⟩ := bnd e
  cases e
  cases r with
  | cons h r =>
    cases r
    obtain ⟨l, us, rfl, hq, q⟩ := itmL_sq h e1
    obtain rfl := allBl_rep q e2
    exact ⟨l, bs, rfl, hq, Go.val k R (.bl _)⟩
section
variable {X : Cx} {tb : List Addr}
def eIs2 (t u : Ty) (a : Ex) : Ex := fun ρ m => (a ρ m).bind fun p => (gt p.1 p.2).bind fun d => some (.v (.bl (isD t d || isD u d)), p.2)
theorem ex_isi2 (t u : Ty) {e : Expr} {fa : Ex} {x y : Str} {kk : Nat} {p q q2 tpos pos : Pos} (hg : Gl X "isinstance") (hm : X.mg "isinstance" = none) (hgT : Gl X x) (hmT : X.mg x = none) (hvT : bootBuiltins x = some (.type t.name)) (hgU : Gl X y) (hmU : X.mg y = none) (hvU : bootBuiltins y = some (.type u.name)) (ha : PE X e (T X.K tb fa)) (hn : x ≠ "__name__" := by decide) (hd : (x == ("__debug__" : Str)) = false := by decide) (hn2 : y ≠ "__name__" := by decide) (hd2 : (y == ("__debug__" : Str)) = false := by decide)
    (h1 : starEach [e, .Tuple [.Name x q, .Name y q2] kk tpos] X.env = (false, eval e X.env) :: starEach [.Tuple [.Name x q, .Name y q2] kk tpos] X.env := by rfl) (h2 : starEach [.Tuple [.Name x q, .Name y q2] kk tpos] X.env = (false, eval (.Tuple [.Name x q, .Name y q2] kk tpos) X.env) :: starEach [] X.env := by rfl) (hpl : (backTo pos (starEach [.Tuple [.Name x q, .Name y q2] kk tpos] X.env)).any (·.1) = false := by rfl)
    (h3 : starEach [.Name x q, .Name y q2] X.env = (false, eval (.Name x q) X.env) :: starEach [.Name y q2] X.env := by rfl) (h4 : starEach [.Name y q2] X.env = (false, eval (.Name y q2) X.env) :: starEach [] X.env := by rfl) :
    PE X (.Call (.Name "isinstance" p) [e, .Tuple [.Name x q, .Name y q2] kk tpos] [] pos) (T X.K tb (eIs2 t u fa)) := by
  have tp := pe_tup (pos := tpos) (x1 := kk) (pa_cons (pe_bltn (pos := q) (v := .ty t.name) hgT hmT hvT rfl hn hd) (pa_cons (pe_bltn (pos := q2) (v := .ty u.name) hgU hmU hvU rfl hn2 hd2) pa_nil h4) h3)
  refine pe_mono (pe_callB call_isiT hg hm PyProof.Rows.boot_isinstance (pa_cons ha (pa_cons tp pa_nil h2) h1) (by decide) (by decide) h1 hpl) fun σ H Q ⟨φ, ψ, ρ, m, w, m', R, E, e, k⟩ => ?_
  obtain ⟨⟨w1, m1⟩, e1, e⟩ := bnd e
  obtain ⟨d, eg, e⟩ := bnd e
  cases e
  refine ⟨φ, ψ, ρ, m, w1, _, R, E, e1, fun φ1 ψ1 H1 v P1 R1 V1 => ?_⟩
  have R1' := V1.rel R1
  refine ⟨by show 2 ≤ sizeLine; rw [sizeLine_eq]; omega, fun p hp => ?_⟩
  have Pl : Post φ1 ψ H1 φ1 ψ _ := Post.lay (o := .tup [.ty t.name, .ty u.name]) hp
  have Rl := R1'.lay (o := .tup [.ty t.name, .ty u.name]) hp
  obtain ⟨a, ea, ty⟩ := tyx_c (gt_c Rl ((V1.s R1).mono Pl R1') eg)
  refine ⟨v, p, [.ty t.name, .ty u.name], .type a, [.type t.name, .type u.name], _, rfl, upd_same, .cons (.ty _) (.cons (.ty _) .nil), ty, ?_, k φ1 ψ _ _ ((V1.post P1).trans Pl) Rl ⟨rfl, .bl _⟩⟩
  have k1 := kit_ty (K := X.K) (kit_is t d ea)
  have k2 := kit_ty (K := X.K) (kit_is u d ea)
  cases hb : isD t d with
  | true => rw [hb] at k1; exact kitAny_cons k1 (fun z => nomatch z) (fun _ => rfl)
  | false =>
    rw [hb] at k1
    refine kitAny_cons k1 (fun _ => ?_) (fun z => nomatch z)
    rw [Bool.false_or]
    cases hc : isD u d with
    | true => rw [hc] at k2; exact kitAny_cons k2 (fun z => nomatch z) (fun _ => rfl)
    | false => rw [hc] at k2; exact kitAny_cons k2 (fun _ => kitAny_nil) (fun z => nomatch z)
end
end Pw
end
section
set_option Elab.async false
set_option linter.all false
set_option maxRecDepth 100000
set_option maxHeartbeats 4000000
namespace Pw
open PySem PySem.Spec PyProof.Rows L2
end Pw
end
section
set_option Elab.async false
set_option linter.all false
set_option maxRecDepth 100000
set_option maxHeartbeats 2000000
namespace Pw
open PySem PySem.Spec PyProof.Rows L2
end Pw
end
section
set_option Elab.async false
set_option linter.all false
set_option maxRecDepth 100000
set_option maxHeartbeats 2000000
namespace Pw
open PySem PySem.Spec PyProof.Rows L2
end Pw
end
section
set_option Elab.async false
set_option linter.all false
set_option maxRecDepth 100000
set_option maxHeartbeats 1000000
namespace Pw
open PySem PySem.Spec PyProof.Rows L2
end Pw
end
section
set_option Elab.async false
set_option linter.all false
set_option maxRecDepth 100000
set_option maxHeartbeats 1000000
namespace Pw
open PySem PySem.Spec PyProof.Rows L2
end Pw
end
section
set_option Elab.async false
set_option linter.all false
set_option maxRecDepth 100000
set_option maxHeartbeats 2000000
namespace Pv
open PySem PySem.Spec PyProof.Rows L2
end Pv
end
section
set_option Elab.async false
set_option linter.all false
set_option maxRecDepth 100000
set_option maxHeartbeats 2000000
namespace Pw
open PySem PySem.Spec PyProof.Rows L2 Pv
end Pw
end
section
set_option Elab.async false
set_option linter.all false
set_option maxRecDepth 100000
set_option maxHeartbeats 1000000
namespace Pw
open PySem PySem.Spec PyProof.Rows L2 Pv
end Pw
end
section
set_option Elab.async false
set_option linter.all false
set_option maxRecDepth 100000
set_option maxHeartbeats 1000000
namespace Pw
open PySem PySem.Spec PyProof.Rows L2
end Pw
end
section
set_option Elab.async false
set_option linter.all false
set_option maxRecDepth 100000
set_option maxHeartbeats 2000000
namespace Pw
open PySem PySem.Spec PyProof.Rows L2 Pv
def kyD : List D → Bool
  | .str _ :: .int _ :: _ => true
  | _ => false
theorem kyD_rep {K : FRG} {φ ψ : List Addr} {H : Hp} {ds : List D} {vs : List V} (h : Reps K φ ψ H ds vs) (e : kyD ds = true) : kyV vs = true := by
  cases h with
  | nil => cases e
  | cons a r => cases r with
    | nil => cases a <;> cases e
    | cons b r => cases a <;> cases b <;> first | rfl | (cases e)
def ktD : D → Option KT'
  | .tup ds => if kyD ds = true then allK ds else none
  | _ => none
theorem ktD_rep {K : FRG} {φ ψ : List Addr} {H : Hp} {d : D} {v : V} {k : KT'} (h : RepC K φ ψ H d v) (e : ktD d = some k) : ∃ p, v = .ref p ∧ H p = some (.tup (k.map kV)) := by
  unfold ktD at e
  split at e
  · split at e
    · rename_i hk
      rcases h with h | ⟨a, mo, rfl, q, _⟩
      · cases h with
        | tup h r =>
          have := allK_rep r e
          subst this
          exact ⟨_, rfl, h.2 (kyD_rep r hk)⟩
      · cases mo <;> cases q
    · cases e
  · cases e
end Pw
end
section
set_option Elab.async false
set_option linter.all false
set_option maxRecDepth 100000
set_option maxHeartbeats 4000000
namespace Pw
open PySem PySem.Spec PyProof.Rows L2 Pv
def rNotInDT (K : FRG) : R2 := fun x y H Q => ∃ d ds, Dp K H x d ∧ Dp K H y (.tuple ds) ∧ SeqAt.shaped d = true ∧ SeqAt.shaped (.tuple ds) = true ∧ Q (.bl (!ds.any fun z => PyData.eqv z d)) H
theorem op_notInDT {X : Cx} (hu : X.A.units + 65 < cLine) : OpR X (compareOp .NotIn) (rNotInDT X.K) := by
  intro pins s σ H x y v u Q I rx ry h
  obtain ⟨d, ds, hd, he, sd, se, q⟩ := h
  obtain ⟨as, r1⟩ := Dp.reads I d x v hd rx
  obtain ⟨bs, r2⟩ := Dp.reads I (.tuple ds) y u he ry
  exact SeqAt.notIn_tuple_reads r2 r1 (SeqAt.canLay_of_shaped se) (SeqAt.canLay_of_shaped sd) (room_in_shaped sd hu) ⟨.bl _, H, I, rfl, q⟩
open Classical in
noncomputable def inPD (neg : Bool) : D → D → Option W := fun x y => match pyD x, pyD y with
  | some p, some (.tuple qs) => if SeqAt.shaped p = true ∧ SeqAt.shaped (.tuple qs) = true then some (.v (.bl ((qs.any fun z => PyData.eqv z p) != neg))) else none
  | _, _ => none
theorem notInP_s {K : FRG} {tb : List Addr} : OpS K tb (rNotInDT K) (inPD true) := fun φ ψ H m x y dx dy w Q R hx hy e k => by
  unfold inPD at e
  split at e
  · rename_i p qs h1 h2
    split at e
    · rename_i hs
      cases e
      rw [Bool.bne_true] at k
      exact ⟨p, qs, hx.dp h1, hy.dp h2, hs.1, hs.2, Go.val k R (.bl _)⟩
    · cases e
  · cases e
def ixVD : D → D → Option W := fun x y => match x with
  | .dt kvs => (ktD y).bind fun k => (valX kvs k).bind fun d => some (.v d)
  | _ => none
theorem ex_ixV {X : Cx} {tb : List Addr} {pos : Pos} {a b : Expr} {fa fb : Ex} (hu : X.A.units + 1 < cLine) (ha : PE X a (T X.K tb fa)) (hb : PE X b (T X.K tb fb)) (hs : NoSl b := by exact fun _ _ => rfl) : PE X (.Subscript a b pos) (T X.K tb (eOp ixVD fa fb)) := by
  refine pe_mono (pe_dget hu ha hb hs) fun σ H Q ⟨φ, ψ, ρ, m, w, m', R, E, e, k⟩ => ?_
  obtain ⟨⟨w1, m1⟩, e1, e⟩ := bnd e
  obtain ⟨⟨w2, m2⟩, e2, e⟩ := bnd e
  obtain ⟨x, ex, e⟩ := bnd e
  obtain ⟨y, ey, e⟩ := bnd e
  obtain ⟨w3, eg, e⟩ := bnd e
  cases e
  refine ⟨φ, ψ, ρ, m, w1, m1, R, E, e1, fun φ1 ψ1 H1 xv P1 R1 V1 => ⟨φ1, ψ, ρ, m1, w2, m2, V1.rel R1, E.mono (V1.post P1) R, e2, fun φ2 ψ2 H2 yv P2 R2 V2 => ?_⟩⟩
  have R2' := V2.rel R2
  have P2' := V2.post P2
  have C1 := gt_c R2' ((V1.s R1).mono P2' (V1.rel R1)) ex
  have C2 := gt_c R2' (V2.s R2) ey
  have eg' : ixVD x y = some w := eg
  cases x with
  | dt kvs =>
    have eg' : ((ktD y).bind fun k => (valX kvs k).bind fun d => some (W.v d)) = some w := eg'
    obtain ⟨ky, e3, eg'⟩ := bnd eg'
    obtain ⟨d, e4, eg'⟩ := bnd eg'
    cases eg'
    obtain ⟨a, vs, rfl, hq, q1, q2⟩ := C1.dt
    obtain ⟨p, rfl, hp⟩ := ktD_rep C2 e3
    obtain ⟨v, e5, hv⟩ := (PR.val (k := ky) (show PR X.K φ2 ψ H2 kvs vs from ⟨q1, q2⟩)).1 d e4
    refine ⟨a, v, rfl, by rw [← e5]; exact DGet.t hq hp, ?_⟩
    exact Go.val (fun φ3 ψ3 H3 v P3 R3 V3 => k φ3 ψ3 H3 v (((V1.post P1).trans P2').trans P3) R3 V3) R2' hv
  | _ => cases eg'
end Pw
end
section
set_option Elab.async false
set_option linter.all false
set_option maxRecDepth 100000
set_option maxHeartbeats 4000000
namespace K83
open PySem PySem.Spec PyProof.Rows L2 Pw
def topS (i : Nat) : Stmt := PySem.Challenge.pw_thronewalk_k83_books_of_scrolls.main.body.getD i (.Pass ⟨0, 0, 0, 0⟩)
abbrev s_l_book_of : Stmt := topS 9
abbrev N_l_book_of : List Str := ["_law_scroll_here", "_law_entry"]
abbrev P_l_book_of : List Str := ["_law_scroll_here"]
theorem sc_l_book_of : FnScope N_l_book_of P_l_book_of (defScope s_l_book_of) := ⟨rfl, rfl, rfl, by decide +kernel, rfl, by decide +kernel, by decide +kernel⟩
abbrev s_take : Stmt := topS 3
abbrev N_take : List Str := ["_law_state", "_law_below", "_law_cell", "_law_found"]
abbrev P_take : List Str := ["_law_state", "_law_below"]
theorem sc_take : FnScope N_take P_take (defScope s_take) := ⟨rfl, rfl, rfl, by decide +kernel, rfl, by decide +kernel, by decide +kernel⟩
abbrev s_doubled : Stmt := topS 10
abbrev N_doubled : List Str := ["_law_state", "_law_scroll_here", "_law_entries", "_law_found", "_law_entry"]
abbrev P_doubled : List Str := ["_law_state", "_law_scroll_here"]
theorem sc_doubled : FnScope N_doubled P_doubled (defScope s_doubled) := ⟨rfl, rfl, rfl, by decide +kernel, rfl, by decide +kernel, by decide +kernel⟩
abbrev s_parent : Stmt := topS 4
abbrev N_parent : List Str := ["_law_state", "_law_folk", "_law_day", "_law_man", "_law_some", "_law_k"]
abbrev P_parent : List Str := ["_law_state", "_law_folk", "_law_day", "_law_man"]
theorem sc_parent : FnScope N_parent P_parent (defScope s_parent) := ⟨rfl, rfl, rfl, by decide +kernel, rfl, by decide +kernel, by decide +kernel⟩
abbrev s_house : Stmt := topS 5
abbrev N_house : List Str := ["_law_state", "_law_most", "_law_many", "_law_day", "_law_folk", "_law_k", "_law_father", "_law_mother", "_law_man"]
abbrev P_house : List Str := ["_law_state", "_law_most"]
theorem sc_house : FnScope N_house P_house (defScope s_house) := ⟨rfl, rfl, rfl, by decide +kernel, rfl, by decide +kernel, by decide +kernel⟩
abbrev s_is_plain : Stmt := topS 7
abbrev N_is_plain : List Str := ["_law_thing", "_law_part"]
abbrev P_is_plain : List Str := ["_law_thing"]
theorem sc_is_plain : FnScope N_is_plain P_is_plain (defScope s_is_plain) := ⟨rfl, rfl, rfl, by decide +kernel, rfl, by decide +kernel, by decide +kernel⟩
abbrev s_news : Stmt := topS 6
abbrev N_news : List Str := ["_law_state", "_law_house_here", "_law_word", "_law_who", "_law_near", "_law_day", "_law_others", "_law_k"]
abbrev P_news : List Str := ["_law_state", "_law_house_here"]
theorem sc_news : FnScope N_news P_news (defScope s_news) := ⟨rfl, rfl, rfl, by decide +kernel, rfl, by decide +kernel, by decide +kernel⟩
abbrev s_scroll : Stmt := topS 8
abbrev N_scroll : List Str := ["_law_state", "_law_house_here", "_law_most", "_law_found", "_law_k", "_law_entries", "_law_writer", "_law_key"]
abbrev P_scroll : List Str := ["_law_state", "_law_house_here", "_law_most"]
theorem sc_scroll : FnScope N_scroll P_scroll (defScope s_scroll) := ⟨rfl, rfl, rfl, by decide +kernel, rfl, by decide +kernel, by decide +kernel⟩
abbrev s_book_of : Stmt := topS 1
abbrev N_book_of : List Str := ["scroll", "entries", "strikes", "entry"]
abbrev P_book_of : List Str := ["scroll"]
theorem sc_book_of : FnScope N_book_of P_book_of (defScope s_book_of) := ⟨rfl, rfl, rfl, by decide +kernel, rfl, by decide +kernel, by decide +kernel⟩
abbrev s_law : Stmt := topS 11
abbrev N_law : List Str := ["_law_script", "_law_state", "_law_before", "_law_turn", "_law_house_here", "_law_scroll_here", "_law_some", "_law_kept", "_law_found"]
abbrev P_law : List Str := ["_law_script"]
theorem sc_law : FnScope N_law P_law (defScope s_law) := ⟨rfl, rfl, rfl, by decide +kernel, rfl, by decide +kernel, by decide +kernel⟩
structure Ctx (K : FRG) (mg : Str → Option Value) (tb : List Addr) where
  f_l_book_of : Addr
  fd_l_book_of : FuncData
  cd_l_book_of : Value
  F_l_book_of : FunC K "_law_book_of" "_law_book_of" s_l_book_of f_l_book_of fd_l_book_of cd_l_book_of
  b_l_book_of : Binds K fd_l_book_of P_l_book_of []
  g_l_book_of : mg "_law_book_of" = some (.ref f_l_book_of)
  f_take : Addr
  fd_take : FuncData
  cd_take : Value
  F_take : FunC K "_law_take" "_law_take" s_take f_take fd_take cd_take
  b_take : Binds K fd_take P_take []
  g_take : mg "_law_take" = some (.ref f_take)
  f_doubled : Addr
  fd_doubled : FuncData
  cd_doubled : Value
  F_doubled : FunC K "_law_doubled" "_law_doubled" s_doubled f_doubled fd_doubled cd_doubled
  b_doubled : Binds K fd_doubled P_doubled []
  g_doubled : mg "_law_doubled" = some (.ref f_doubled)
  f_parent : Addr
  fd_parent : FuncData
  cd_parent : Value
  F_parent : FunC K "_law_parent" "_law_parent" s_parent f_parent fd_parent cd_parent
  b_parent : Binds K fd_parent P_parent []
  g_parent : mg "_law_parent" = some (.ref f_parent)
  f_house : Addr
  fd_house : FuncData
  cd_house : Value
  F_house : FunC K "_law_house" "_law_house" s_house f_house fd_house cd_house
  b_house : Binds K fd_house P_house []
  g_house : mg "_law_house" = some (.ref f_house)
  f_is_plain : Addr
  fd_is_plain : FuncData
  cd_is_plain : Value
  F_is_plain : FunC K "_law_is_plain" "_law_is_plain" s_is_plain f_is_plain fd_is_plain cd_is_plain
  b_is_plain : Binds K fd_is_plain P_is_plain []
  g_is_plain : mg "_law_is_plain" = some (.ref f_is_plain)
  f_news : Addr
  fd_news : FuncData
  cd_news : Value
  F_news : FunC K "_law_news" "_law_news" s_news f_news fd_news cd_news
  b_news : Binds K fd_news P_news []
  g_news : mg "_law_news" = some (.ref f_news)
  f_scroll : Addr
  fd_scroll : FuncData
  cd_scroll : Value
  F_scroll : FunC K "_law_scroll" "_law_scroll" s_scroll f_scroll fd_scroll cd_scroll
  b_scroll : Binds K fd_scroll P_scroll []
  g_scroll : mg "_law_scroll" = some (.ref f_scroll)
  f_book_of : Addr
  fd_book_of : FuncData
  cd_book_of : Value
  F_book_of : FunC K "book_of" "book_of" s_book_of f_book_of fd_book_of cd_book_of
  b_book_of : Binds K fd_book_of P_book_of []
  g_book_of : mg "book_of" = some (.ref f_book_of)
  f_law : Addr
  fd_law : FuncData
  cd_law : Value
  F_law : FunC K "law" "law" s_law f_law fd_law cd_law
  b_law : Binds K fd_law P_law []
  g_law : mg "law" = some (.ref f_law)
  z_all : mg "all" = none
  z_bool : mg "bool" = none
  z_int : mg "int" = none
  z_isinstance : mg "isinstance" = none
  z_len : mg "len" = none
  z_max : mg "max" = none
  z_min : mg "min" = none
  z_range : mg "range" = none
  z_repr : mg "repr" = none
  z_set : mg "set" = none
  z_sorted : mg "sorted" = none
  z_str : mg "str" = none
  z_tuple : mg "tuple" = none
noncomputable def E_l_book_of_1 : Ex := eLc (iSeq (eOp ixD (eVar 0) (eC (.int 0)))) (gN 1) (tVal (eOp (inPD true) (eSlc (eVar 1) oNone (oSome (eC (.int 2)))) (eOp ixD (eVar 0) (eC (.int 1))))) (eOp ixD (eVar 1) (eC (.int 2))) [1]
noncomputable def B_l_book_of : Sx := (sRet (eCB tupleD (aCons (eCB sortSetD (aCons E_l_book_of_1 aNil)) aNil)))
noncomputable abbrev F_l_book_of : Fx := runF P_l_book_of.length N_l_book_of.length B_l_book_of
noncomputable def B_take : Sx := (sSeq (sFog [3] (sIf (tVal (eOp (cmpD gtI) (eOp ixD (eVar 0) (eC (.int 2))) (eC (.int 0)))) (sSeq (sSet 3 (eOp modD (eOp ixD (eVar 0) (eC (.int 2))) (eVar 1))) (sSeq (sPut (eVar 0) (eC (.int 2)) (eOp divD (eOp ixD (eVar 0) (eC (.int 2))) (eVar 1))) (sRet (eVar 3)))) sNil)) (sSeq (sSet 2 (eC (.int 0))) (sSeq (sIf (tVal (eOp (cmpD ltI) (eOp ixD (eVar 0) (eC (.int 1))) (eCB lenD (aCons (eOp ixD (eVar 0) (eC (.int 0))) aNil)))) (sSet 2 (eOp ixD (eOp ixD (eVar 0) (eC (.int 0))) (eOp ixD (eVar 0) (eC (.int 1))))) sNil) (sSeq (sPut (eVar 0) (eC (.int 1)) (eOp addD (eOp ixD (eVar 0) (eC (.int 1))) (eC (.int 1)))) (sSeq (sIf (tVal (eOp (cmpD geI) (eVar 2) (eOp powD (eC (.int 10)) (eC (.int 18))))) (sSeq (sPut (eVar 0) (eC (.int 2)) (eOp divD (eVar 2) (eVar 1))) (sRet (eOp modD (eVar 2) (eVar 1)))) sNil) (sSeq (sPut (eVar 0) (eC (.int 3)) (eOp modD (eOp addD (eOp addD (eOp mulD (eOp ixD (eVar 0) (eC (.int 3))) (eC (.int 48271))) (eOp modD (eVar 2) (eC (.int 2147483629)))) (eOp mulD (eC (.int 7)) (eOp ixD (eVar 0) (eC (.int 1))))) (eC (.int 2147483647)))) (sRet (eOp modD (eOp divD (eOp modD (eOp powD (eOp ixD (eVar 0) (eC (.int 3))) (eC (.int 3))) (eC (.int 2147483629))) (eC (.int 64))) (eVar 1)))))))))
noncomputable abbrev F_take : Fx := runF P_take.length N_take.length B_take
noncomputable def L_doubled_1 : Sx := (sSeq (sIf (tVal (eOp (eqD false) (eCall F_take (aCons (eVar 0) (aCons (eC (.int 3)) aNil))) (eC (.int 0)))) (sSet 4 (eOp addD (eSlc (eVar 4) oNone (oSome (eC (.int 2)))) (eTup (aCons (eOp ixD (eOp ixD (eVar 2) (eCall F_take (aCons (eVar 0) (aCons (eCB lenD (aCons (eVar 2) aNil)) aNil)))) (eC (.int 2))) aNil)))) sNil) (sDrop (eMt isLst appD (eVar 3) (aCons (eVar 4) aNil))))
noncomputable def B_doubled : Sx := (sSeq (sSet 2 (eOp ixD (eVar 1) (eC (.int 0)))) (sSeq (sSet 3 (eOwn (eLst aNil))) (sSeq (sFor (iSeq (eVar 2)) (gN 4) L_doubled_1 [4]) (sRet (eTup (aCons (eCB tupleD (aCons (eVar 3) aNil)) (aCons (eOp ixD (eVar 1) (eC (.int 1))) aNil)))))))
noncomputable abbrev F_doubled : Fx := runF P_doubled.length N_doubled.length B_doubled
noncomputable def E_parent_1 : Ex := eLc (iRngA (aCons (eCB lenD (aCons (eVar 1) aNil)) aNil)) (gN 5) (tAnd' (tVal (eOp (eqD false) (eOp ixD (eOp ixD (eVar 1) (eVar 5)) (eC (.int 3))) (eVar 3))) (tVal (eOp (cmpD ltI) (eOp ixD (eOp ixD (eVar 1) (eVar 5)) (eC (.int 0))) (eVar 2)))) (eVar 5) [5]
noncomputable def B_parent : Sx := (sSeq (sSet 4 E_parent_1) (sSeq (sIf (tOr' (tVal (eOp (eqD false) (eVar 4) (eLst aNil))) (tVal (eOp (eqD false) (eCall F_take (aCons (eVar 0) (aCons (eC (.int 5)) aNil))) (eC (.int 0))))) (sRet (eUn negD (eC (.int 1)))) sNil) (sSeq (sIf (tVal (eOp (eqD false) (eCall F_take (aCons (eVar 0) (aCons (eC (.int 2)) aNil))) (eC (.int 0)))) (sSet 4 (eSlc (eVar 4) (oSome (eUn negD (eC (.int 3)))) oNone)) sNil) (sRet (eOp ixD (eVar 4) (eCall F_take (aCons (eVar 0) (aCons (eCB lenD (aCons (eVar 4) aNil)) aNil))))))))
noncomputable abbrev F_parent : Fx := runF P_parent.length N_parent.length B_parent
noncomputable def L_house_1 : Sx := (sSeq (sSet 3 (eCB (two minI) (aCons (eC (.int 99990)) (aCons (eOp addD (eVar 3) (eOp ixD (eLst (aCons (eC (.int 1)) (aCons (eC (.int 0)) (aCons (eC (.int 1)) (aCons (eC (.int 30)) (aCons (eC (.int 299)) (aCons (eC (.int 300)) (aCons (eC (.int 301)) (aCons (eC (.int 6570)) (aCons (eC (.int 2)) (aCons (eC (.int 1)) aNil))))))))))) (eCall F_take (aCons (eVar 0) (aCons (eC (.int 10)) aNil))))) aNil)))) (sSeq (sSet 6 (eCall F_parent (aCons (eVar 0) (aCons (eVar 4) (aCons (eVar 3) (aCons (eC (.int 1)) aNil)))))) (sSeq (sSet 7 (eCall F_parent (aCons (eVar 0) (aCons (eVar 4) (aCons (eVar 3) (aCons (eC (.int 0)) aNil)))))) (sSeq (sSet 8 (eCall F_take (aCons (eVar 0) (aCons (eC (.int 2)) aNil)))) (sDrop (eMt isLst appD (eVar 4) (aCons (eTup (aCons (eVar 3) (aCons (eVar 6) (aCons (eVar 7) (aCons (eVar 8) (aCons (eCB intD (aCons (eOp (cmpD gtI) (eCall F_take (aCons (eVar 0) (aCons (eC (.int 5)) aNil))) (eC (.int 0))) aNil)) aNil)))))) aNil)))))))
noncomputable def B_house : Sx := (sSeq (sSet 2 (eOp addD (eC (.int 1)) (eCall F_take (aCons (eVar 0) (aCons (eVar 1) aNil))))) (sSeq (sSet 3 (eOp ixD (eLst (aCons (eC (.int 0)) (aCons (eC (.int 7)) (aCons (eC (.int 30000)) aNil)))) (eCall F_take (aCons (eVar 0) (aCons (eC (.int 3)) aNil))))) (sSeq (sSet 4 (eOwn (eLst aNil))) (sSeq (sFor (iRngA (aCons (eVar 2) aNil)) (gN 5) L_house_1 [5, 6, 7, 8]) (sRet (eCB tupleD (aCons (eVar 4) aNil)))))))
noncomputable abbrev F_house : Fx := runF P_house.length N_house.length B_house
noncomputable abbrev F_is_plain_r0 : Fx := runF P_is_plain.length N_is_plain.length fun _ _ => none
noncomputable def E_is_plain_1_r1 : Ex := eLc (iSeq (eVar 0)) (gN 1) tYes' (eCall F_is_plain_r0 (aCons (eVar 1) aNil)) [1]
noncomputable def B_is_plain_r1 : Sx := (sSeq (sIf (tTru (eIs .tuple (eVar 0))) (sRet (eCB allBD (aCons E_is_plain_1_r1 aNil))) sNil) (sRet (eAnd (eIs2 .int .str (eVar 0)) (eNot (eIs .bool (eVar 0))))))
noncomputable abbrev F_is_plain_r1 : Fx := runF P_is_plain.length N_is_plain.length B_is_plain_r1
noncomputable def E_is_plain_1_r2 : Ex := eLc (iSeq (eVar 0)) (gN 1) tYes' (eCall F_is_plain_r1 (aCons (eVar 1) aNil)) [1]
noncomputable def B_is_plain_r2 : Sx := (sSeq (sIf (tTru (eIs .tuple (eVar 0))) (sRet (eCB allBD (aCons E_is_plain_1_r2 aNil))) sNil) (sRet (eAnd (eIs2 .int .str (eVar 0)) (eNot (eIs .bool (eVar 0))))))
noncomputable abbrev F_is_plain_r2 : Fx := runF P_is_plain.length N_is_plain.length B_is_plain_r2
noncomputable def E_is_plain_1_r3 : Ex := eLc (iSeq (eVar 0)) (gN 1) tYes' (eCall F_is_plain_r2 (aCons (eVar 1) aNil)) [1]
noncomputable def B_is_plain_r3 : Sx := (sSeq (sIf (tTru (eIs .tuple (eVar 0))) (sRet (eCB allBD (aCons E_is_plain_1_r3 aNil))) sNil) (sRet (eAnd (eIs2 .int .str (eVar 0)) (eNot (eIs .bool (eVar 0))))))
noncomputable abbrev F_is_plain_r3 : Fx := runF P_is_plain.length N_is_plain.length B_is_plain_r3
noncomputable def E_is_plain_1_r4 : Ex := eLc (iSeq (eVar 0)) (gN 1) tYes' (eCall F_is_plain_r3 (aCons (eVar 1) aNil)) [1]
noncomputable def B_is_plain_r4 : Sx := (sSeq (sIf (tTru (eIs .tuple (eVar 0))) (sRet (eCB allBD (aCons E_is_plain_1_r4 aNil))) sNil) (sRet (eAnd (eIs2 .int .str (eVar 0)) (eNot (eIs .bool (eVar 0))))))
noncomputable abbrev F_is_plain_r4 : Fx := runF P_is_plain.length N_is_plain.length B_is_plain_r4
noncomputable abbrev F_is_plain : Fx := F_is_plain_r4
noncomputable def E_news_1 : Ex := eLc (iRngA (aCons (eCB lenD (aCons (eVar 1) aNil)) aNil)) (gN 7) (tAnd' (tVal (eOp (eqD false) (eOp ixD (eOp ixD (eVar 1) (eVar 7)) (eC (.int 3))) (eC (.int 1)))) (tVal (eOp (cmpD ltI) (eOp ixD (eOp ixD (eVar 1) (eVar 7)) (eC (.int 0))) (eVar 5)))) (eVar 7) [7]
noncomputable def B_news : Sx := (sSeq (sSet 2 (eOp ixD (eLst (aCons (eC (.str "dies")) (aCons (eC (.str "leaves")) (aCons (eC (.str "cuts")) (aCons (eC (.str "returns")) (aCons (eC (.str "awaits")) (aCons (eC (.str "cuts")) aNil))))))) (eCall F_take (aCons (eVar 0) (aCons (eC (.int 6)) aNil))))) (sSeq (sSet 3 (eCall F_take (aCons (eVar 0) (aCons (eCB lenD (aCons (eVar 1) aNil)) aNil)))) (sSeq (sSet 4 (eOp subD (eOp addD (eOp ixD (eOp ixD (eVar 1) (eCall F_take (aCons (eVar 0) (aCons (eCB lenD (aCons (eVar 1) aNil)) aNil)))) (eC (.int 0))) (eCall F_take (aCons (eVar 0) (aCons (eC (.int 3)) aNil)))) (eC (.int 1)))) (sSeq (sSet 5 (eCB (two maxI) (aCons (eOp ixD (eOp ixD (eVar 1) (eVar 3)) (eC (.int 0))) (aCons (eVar 4) aNil)))) (sSeq (sFog [6] (sIf (tAnd' (tVal (eOp (eqD false) (eVar 2) (eC (.str "awaits")))) (tVal (eOp (eqD false) (eOp ixD (eOp ixD (eVar 1) (eVar 3)) (eC (.int 3))) (eC (.int 0))))) (sSeq (sSet 5 (eCB (two maxI) (aCons (eOp addD (eOp ixD (eOp ixD (eVar 1) (eVar 3)) (eC (.int 0))) (eC (.int 1))) (aCons (eVar 4) aNil)))) (sSeq (sSet 6 (eOp addD (eLst (aCons (eUn negD (eC (.int 1))) aNil)) E_news_1)) (sRet (eTup (aCons (eVar 2) (aCons (eVar 5) (aCons (eVar 3) (aCons (eOp ixD (eVar 6) (eCall F_take (aCons (eVar 0) (aCons (eCB lenD (aCons (eVar 6) aNil)) aNil)))) aNil)))))))) sNil)) (sRet (eTup (aCons (eOp ixD (eLst (aCons (eVar 2) (aCons (eC (.str "leaves")) aNil))) (eCB intD (aCons (eOp (eqD false) (eVar 2) (eC (.str "awaits"))) aNil))) (aCons (eVar 5) (aCons (eVar 3) (aCons (eUn negD (eC (.int 1))) aNil)))))))))))
noncomputable abbrev F_news : Fx := runF P_news.length N_news.length B_news
noncomputable def E_scroll_1 : Ex := eLc (iSeq (eCB sortDD (aCons (eVar 3) aNil))) (gN 7) (tVal (eOp (eqD false) (eCall F_take (aCons (eVar 0) (aCons (eC (.int 4)) aNil))) (eC (.int 0)))) (eVar 7) [7]
noncomputable def E_scroll_2 : Ex := eLc (iSeq (eCB sortDD (aCons (eVar 3) aNil))) (gN 7) tYes' (eOp addD (eVar 7) (eTup (aCons (eOp ixVD (eVar 3) (eVar 7)) aNil))) [7]
noncomputable def L_scroll_1 : Sx := (sSeq (sSet 6 (eOp ixD (eLst (aCons (eC (.str "a")) (aCons (eC (.str "b")) (aCons (eC (.str "ab")) (aCons (eC (.str "zzzzzzzz")) (aCons (eC (.str "m")) aNil)))))) (eCall F_take (aCons (eVar 0) (aCons (eC (.int 5)) aNil))))) (sPutT (eVar 3) (aCons (eVar 6) (aCons (eOp ixD (eLst (aCons (eCall F_take (aCons (eVar 0) (aCons (eC (.int 4)) aNil))) (aCons (eCall F_take (aCons (eVar 0) (aCons (eC (.int 100)) aNil))) (aCons (eC (.int 99)) aNil)))) (eCall F_take (aCons (eVar 0) (aCons (eC (.int 3)) aNil)))) aNil)) (eCall F_news (aCons (eVar 0) (aCons (eVar 1) aNil)))))
noncomputable def B_scroll : Sx := (sSeq (sSet 3 (eOwn eNewT)) (sSeq (sFor (iRngA (aCons (eCall F_take (aCons (eVar 0) (aCons (eOp addD (eVar 2) (eC (.int 1))) aNil))) aNil)) (gN 4) L_scroll_1 [4, 6]) (sSeq (sSet 5 (eCB tupleD (aCons E_scroll_2 aNil))) (sRet (eTup (aCons (eVar 5) (aCons (eCB tupleD (aCons E_scroll_1 aNil)) aNil)))))))
noncomputable abbrev F_scroll : Fx := runF P_scroll.length N_scroll.length B_scroll
noncomputable def E_book_of_1 : Ex := eLc (iSeq (eVar 1)) (gN 3) (tVal (eOp (inPD true) (eSlc (eVar 3) oNone (oSome (eC (.int 2)))) (eVar 2))) (eOp ixD (eVar 3) (eC (.int 2))) [3]
noncomputable def B_book_of : Sx := (sSeq (sAsg (gT [gN 1, gN 2]) (eVar 0)) (sRet (eCB tupleD (aCons (eCB sortSetD (aCons E_book_of_1 aNil)) aNil))))
noncomputable abbrev F_book_of : Fx := runF P_book_of.length N_book_of.length B_book_of
noncomputable def L_law_1 : Sx := (sSeq (sSet 7 (eCB reprD (aCons (eVar 6) aNil))) (sSeq (sSet 8 (eCall F_book_of (aCons (eVar 6) aNil))) (sIf (tOr' (tVal (eOp (eqD true) (eVar 8) (eCall F_l_book_of (aCons (eVar 6) aNil)))) (tOr' (tNot' (tTru (eCall F_is_plain (aCons (eVar 8) aNil)))) (tVal (eOp (eqD true) (eCB reprD (aCons (eVar 6) aNil)) (eVar 7))))) (sRet (eC (.bl false))) sNil)))
noncomputable def L_law_2 : Sx := (sSeq (sSet 4 (eCall F_house (aCons (eVar 1) (aCons (eC (.int 8)) aNil)))) (sSeq (sSet 5 (eCall F_doubled (aCons (eVar 1) (aCons (eCall F_scroll (aCons (eVar 1) (aCons (eVar 4) (aCons (eC (.int 30)) aNil)))) aNil)))) (sSeq (sFor (iSeq (eTup (aCons (eVar 5) (aCons (eVar 2) (aCons (eVar 5) aNil))))) (gN 6) L_law_1 [6, 7, 8]) (sSet 2 (eVar 5)))))
noncomputable def B_law : Sx := (sSeq (sSet 1 (eOwn (eLst (aCons (eVar 0) (aCons (eC (.int 0)) (aCons (eC (.int 0)) (aCons (eC (.int 83)) aNil))))))) (sSeq (sSet 2 (eTup (aCons (eTup aNil) (aCons (eTup aNil) aNil)))) (sSeq (sFor (iRngA (aCons (eC (.int 6)) aNil)) (gN 3) L_law_2 [3, 4, 5, 6, 7, 8]) (sRet (eOp (eqD false) (eCall F_book_of (aCons (eTup (aCons (eTup aNil) (aCons (eTup aNil) aNil))) aNil)) (eTup aNil))))))
noncomputable abbrev F_law : Fx := runF P_law.length N_law.length B_law
section
variable {P : Program} {w : World} {K : FRG} {mg : Str → Option Value} {base : Heap} {tb : List Addr}
theorem ok_l_book_of (C : Ctx K mg tb) : FnG P w K mg base 1 C.f_l_book_of C.fd_l_book_of P_l_book_of (spF K tb P_l_book_of.length F_l_book_of) := by
  refine okG (k := 0) C.F_l_book_of sc_l_book_of fun A outer s H E hgd hr => ?_
  exact (bs_one (bs_ret (ex_callTy tuple_s call_tuple_of (by rfl) C.z_tuple (by decide +kernel) (ax_cons (ex_sortSet rfl hr.units (by rfl) C.z_sorted (by rfl) C.z_set (ex_lc (own := [("_law_entry", 1)]) rfl sc_l_book_of.nd (tg_name 1) (tw_name 1 (by decide)) (ix_seq' (ex_ix (ex_var 0) ex_int)) (blkOk_by (own := [("_law_entry", 1)]) (N := N_l_book_of) (sc := defScope s_l_book_of) (by decide +kernel)) (fun _ _ _ _ _ => (pg_name (i := 1) sc_l_book_of.nd rfl (by first | exact Or.inl rfl | exact Or.inr rfl))) (fun _ _ _ _ _ => (ts_one (tx_cmp (op_notInDT (Pv.lt65 (Pv.roomU hr))) notInP_s (ex_sl (ex_var 1) ox_none (ox_some ex_int)) (ex_ix (ex_var 0) ex_int) (by rfl)))) (fun _ _ _ _ _ => (ex_ix (ex_var 1) ex_int)))) ax_nil))))
theorem ok_take (C : Ctx K mg tb) : FnG P w K mg base 1 C.f_take C.fd_take P_take (spF K tb P_take.length F_take) := by
  refine okG (k := 0) C.F_take sc_take fun A outer s H E hgd hr => ?_
  exact (bs_cons (bs_fog [3] (bs_if (tx_cmp op_gt gt_s (ex_ix (ex_var 0) ex_int) ex_int (nomark _)) (bs_cons (bs_set 3 sc_take.nd (ex_op op_mod mod_s (ex_ix (ex_var 0) ex_int) (ex_var 1)))
      (bs_cons (bs_put (ex_var 0) ex_int (ex_op op_fdiv div_s (ex_ix (ex_var 0) ex_int) (ex_var 1)))
      (bs_one (bs_ret (ex_var 3))))) bs_nil))
      (bs_cons (bs_set 2 sc_take.nd ex_int)
      (bs_cons (bs_if (tx_cmp op_lt lt_s (ex_ix (ex_var 0) ex_int) (ex_callB len_s cr_lenA (by rfl) C.z_len PySem.boot_len (ax_cons (ex_ix (ex_var 0) ex_int) ax_nil)) (nomark _)) (bs_one (bs_set 2 sc_take.nd (ex_ix (ex_ix (ex_var 0) ex_int) (ex_ix (ex_var 0) ex_int)))) bs_nil)
      (bs_cons (bs_put (ex_var 0) ex_int (ex_op op_addA add_s (ex_ix (ex_var 0) ex_int) ex_int))
      (bs_cons (bs_if (tx_cmp op_ge ge_s (ex_var 2) (ex_op op_pow pow_s ex_int ex_int) (nomark _)) (bs_cons (bs_put (ex_var 0) ex_int (ex_op op_fdiv div_s (ex_var 2) (ex_var 1)))
      (bs_one (bs_ret (ex_op op_mod mod_s (ex_var 2) (ex_var 1))))) bs_nil)
      (bs_cons (bs_put (ex_var 0) ex_int (ex_op op_mod mod_s (ex_op op_addA add_s (ex_op op_addA add_s (ex_op op_mulA mul_s (ex_ix (ex_var 0) ex_int) ex_int) (ex_op op_mod mod_s (ex_var 2) ex_int)) (ex_op op_mulA mul_s ex_int (ex_ix (ex_var 0) ex_int))) ex_int))
      (bs_one (bs_ret (ex_op op_mod mod_s (ex_op op_fdiv div_s (ex_op op_mod mod_s (ex_op op_pow pow_s (ex_ix (ex_var 0) ex_int) ex_int) ex_int) ex_int) (ex_var 1))))))))))
theorem ok_doubled (C : Ctx K mg tb) : FnG P w K mg base 2 C.f_doubled C.fd_doubled P_doubled (spF K tb P_doubled.length F_doubled) := by
  have G_take : FnG P w K mg base 1 C.f_take C.fd_take P_take (spF K tb P_take.length F_take) := ok_take C
  refine okG (k := 1) C.F_doubled sc_doubled fun A outer s H E hgd hr => ?_
  exact (bs_cons (bs_set 2 sc_doubled.nd (ex_ix (ex_var 1) ex_int))
      (bs_cons (bs_set 3 sc_doubled.nd (ex_own (ex_lst ax_nil)))
      (bs_cons (bs_for (dd := [4]) rfl (tg_name 4) PassesOwn.never (ix_seq' (ex_var 2)) (pg_name (i := 4) sc_doubled.nd rfl (by first | exact Or.inl rfl | exact Or.inr rfl)) (bs_cons (bs_if (tx_cmp (op_eqA hr.units) eq_s (ex_callG (fun _ _ _ h => runF_len h) G_take hgd (hr.mono (by decide)) (by rfl) C.g_take C.F_take.kp C.b_take (ax_cons (ex_var 0) (ax_cons ex_int ax_nil))) ex_int (nomark _)) (bs_one (bs_set 4 sc_doubled.nd (ex_op op_addA add_s (ex_sl (ex_var 4) ox_none (ox_some ex_int)) (ex_tup (ax_cons (ex_ix (ex_ix (ex_var 2) (ex_callG (fun _ _ _ h => runF_len h) G_take hgd (hr.mono (by decide)) (by rfl) C.g_take C.F_take.kp C.b_take (ax_cons (ex_var 0) (ax_cons (ex_callB len_s cr_lenA (by rfl) C.z_len PySem.boot_len (ax_cons (ex_var 2) ax_nil)) ax_nil)))) ex_int) ax_nil))))) bs_nil)
      (bs_one (bs_drop (ex_append (ex_var 3) (ax_cons (ex_var 4) ax_nil))))))
      (bs_one (bs_ret (ex_tup (ax_cons (ex_callTy tuple_s call_tuple_of (by rfl) C.z_tuple (by decide +kernel) (ax_cons (ex_var 3) ax_nil)) (ax_cons (ex_ix (ex_var 1) ex_int) ax_nil))))))))
theorem ok_parent (C : Ctx K mg tb) : FnG P w K mg base 2 C.f_parent C.fd_parent P_parent (spF K tb P_parent.length F_parent) := by
  have G_take : FnG P w K mg base 1 C.f_take C.fd_take P_take (spF K tb P_take.length F_take) := ok_take C
  refine okG (k := 1) C.F_parent sc_parent fun A outer s H E hgd hr => ?_
  exact (bs_cons (bs_setLc 4 (own := [("_law_k", 5)]) rfl sc_parent.nd (tg_name 5) (tw_name 5 (by decide)) (ix_rng1 (by rfl) C.z_range (ax_cons (ex_callB len_s cr_lenA (by rfl) C.z_len PySem.boot_len (ax_cons (ex_var 1) ax_nil)) ax_nil)) (blkOk_by (own := [("_law_k", 5)]) (N := N_parent) (sc := defScope s_parent) (by decide +kernel)) (fun _ _ _ _ _ => (pg_name (i := 5) sc_parent.nd rfl (by first | exact Or.inl rfl | exact Or.inr rfl))) (fun _ _ _ _ _ => (ts_one (pwt (tw_and (tx_cmp (op_eqA hr.units) eq_s (ex_ix (ex_ix (ex_var 1) (ex_var 5)) ex_int) (ex_var 3) (nomark _)) (tw_and1 (tx_cmp op_lt lt_s (ex_ix (ex_ix (ex_var 1) (ex_var 5)) ex_int) (ex_var 2) (nomark _))))))) (fun _ _ _ _ _ => (ex_var 5)) (sw_true rfl rfl rfl (by decide +kernel)))
      (bs_cons (bs_if (pwt (tw_or (tx_cmp (op_eqA hr.units) eq_s (ex_var 4) (ex_lst ax_nil) (nomark _)) (tw_or1 (tx_cmp (op_eqA hr.units) eq_s (ex_callG (fun _ _ _ h => runF_len h) G_take hgd (hr.mono (by decide)) (by rfl) C.g_take C.F_take.kp C.b_take (ax_cons (ex_var 0) (ax_cons ex_int ax_nil))) ex_int (nomark _))))) (bs_one (bs_ret (ex_un un_neg neg_s ex_int))) bs_nil)
      (bs_cons (bs_if (tx_cmp (op_eqA hr.units) eq_s (ex_callG (fun _ _ _ h => runF_len h) G_take hgd (hr.mono (by decide)) (by rfl) C.g_take C.F_take.kp C.b_take (ax_cons (ex_var 0) (ax_cons ex_int ax_nil))) ex_int (nomark _)) (bs_one (bs_set 4 sc_parent.nd (ex_sl (ex_var 4) (ox_some (ex_un un_neg neg_s ex_int)) ox_none))) bs_nil)
      (bs_one (bs_ret (ex_ix (ex_var 4) (ex_callG (fun _ _ _ h => runF_len h) G_take hgd (hr.mono (by decide)) (by rfl) C.g_take C.F_take.kp C.b_take (ax_cons (ex_var 0) (ax_cons (ex_callB len_s cr_lenA (by rfl) C.z_len PySem.boot_len (ax_cons (ex_var 4) ax_nil)) ax_nil)))))))))
theorem ok_house (C : Ctx K mg tb) : FnG P w K mg base 3 C.f_house C.fd_house P_house (spF K tb P_house.length F_house) := by
  have G_parent : FnG P w K mg base 2 C.f_parent C.fd_parent P_parent (spF K tb P_parent.length F_parent) := ok_parent C
  have G_take : FnG P w K mg base 1 C.f_take C.fd_take P_take (spF K tb P_take.length F_take) := ok_take C
  refine okG (k := 2) C.F_house sc_house fun A outer s H E hgd hr => ?_
  exact (bs_cons (bs_set 2 sc_house.nd (ex_op op_addA add_s ex_int (ex_callG (fun _ _ _ h => runF_len h) G_take hgd (hr.mono (by decide)) (by rfl) C.g_take C.F_take.kp C.b_take (ax_cons (ex_var 0) (ax_cons (ex_var 1) ax_nil)))))
      (bs_cons (bs_set 3 sc_house.nd (ex_ix (ex_lst (ax_cons ex_int (ax_cons ex_int (ax_cons ex_int ax_nil)))) (ex_callG (fun _ _ _ h => runF_len h) G_take hgd (hr.mono (by decide)) (by rfl) C.g_take C.F_take.kp C.b_take (ax_cons (ex_var 0) (ax_cons ex_int ax_nil)))))
      (bs_cons (bs_set 4 sc_house.nd (ex_own (ex_lst ax_nil)))
      (bs_cons (bs_for (dd := [5, 6, 7, 8]) rfl (tg_name 5) PassesOwn.never (ix_rng1 (by rfl) C.z_range (ax_cons (ex_var 2) ax_nil)) (pg_name (i := 5) sc_house.nd rfl (by first | exact Or.inl rfl | exact Or.inr rfl)) (bs_cons (bs_set 3 sc_house.nd (ex_callB two_s (cr_min rfl) (by rfl) C.z_min (by decide +kernel) (ax_cons ex_int (ax_cons (ex_op op_addA add_s (ex_var 3) (ex_ix (ex_lst (ax_cons ex_int (ax_cons ex_int (ax_cons ex_int (ax_cons ex_int (ax_cons ex_int (ax_cons ex_int (ax_cons ex_int (ax_cons ex_int (ax_cons ex_int (ax_cons ex_int ax_nil))))))))))) (ex_callG (fun _ _ _ h => runF_len h) G_take hgd (hr.mono (by decide)) (by rfl) C.g_take C.F_take.kp C.b_take (ax_cons (ex_var 0) (ax_cons ex_int ax_nil))))) ax_nil))))
      (bs_cons (bs_set 6 sc_house.nd (ex_callG (fun _ _ _ h => runF_len h) G_parent hgd (hr.mono (by decide)) (by rfl) C.g_parent C.F_parent.kp C.b_parent (ax_cons (ex_var 0) (ax_cons (ex_var 4) (ax_cons (ex_var 3) (ax_cons ex_int ax_nil))))))
      (bs_cons (bs_set 7 sc_house.nd (ex_callG (fun _ _ _ h => runF_len h) G_parent hgd (hr.mono (by decide)) (by rfl) C.g_parent C.F_parent.kp C.b_parent (ax_cons (ex_var 0) (ax_cons (ex_var 4) (ax_cons (ex_var 3) (ax_cons ex_int ax_nil))))))
      (bs_cons (bs_set 8 sc_house.nd (ex_callG (fun _ _ _ h => runF_len h) G_take hgd (hr.mono (by decide)) (by rfl) C.g_take C.F_take.kp C.b_take (ax_cons (ex_var 0) (ax_cons ex_int ax_nil))))
      (bs_one (bs_drop (ex_append (ex_var 4) (ax_cons (ex_tup (ax_cons (ex_var 3) (ax_cons (ex_var 6) (ax_cons (ex_var 7) (ax_cons (ex_var 8) (ax_cons (ex_callTy int_s call_int1 (by rfl) C.z_int (by decide +kernel) (ax_cons (ex_cmp op_gt gt_s (ex_callG (fun _ _ _ h => runF_len h) G_take hgd (hr.mono (by decide)) (by rfl) C.g_take C.F_take.kp C.b_take (ax_cons (ex_var 0) (ax_cons ex_int ax_nil))) ex_int (nomark _)) ax_nil)) ax_nil)))))) ax_nil)))))))))
      (bs_one (bs_ret (ex_callTy tuple_s call_tuple_of (by rfl) C.z_tuple (by decide +kernel) (ax_cons (ex_var 4) ax_nil))))))))
theorem ok_is_plain_r0 (C : Ctx K mg tb) : FnG P w K mg base 0 C.f_is_plain C.fd_is_plain P_is_plain (spF K tb P_is_plain.length F_is_plain_r0) := fnG_none
theorem ok_is_plain_r1 (C : Ctx K mg tb) : FnG P w K mg base 1 C.f_is_plain C.fd_is_plain P_is_plain (spF K tb P_is_plain.length F_is_plain_r1) := by
  have G_is_plain : FnG P w K mg base 0 C.f_is_plain C.fd_is_plain P_is_plain (spF K tb P_is_plain.length F_is_plain_r0) := ok_is_plain_r0 C
  refine okG (k := 0) C.F_is_plain sc_is_plain fun A outer s H E hgd hr => ?_
  exact (bs_cons (bs_if (tx_tru (ex_isi .tuple (by rfl) C.z_isinstance (by rfl) C.z_tuple (by decide +kernel) (ex_var 0))) (bs_one (bs_ret (ex_callB allB_s (cr_all rfl) (by rfl) C.z_all (by decide +kernel) (ax_cons (ex_lc (own := [("_law_part", 1)]) rfl sc_is_plain.nd (tg_name 1) (tw_name 1 (by decide)) (ix_seq' (ex_var 0)) (blkOk_by (own := [("_law_part", 1)]) (N := N_is_plain) (sc := defScope s_is_plain) (by decide +kernel)) (fun _ _ _ _ _ => (pg_name (i := 1) sc_is_plain.nd rfl (by first | exact Or.inl rfl | exact Or.inr rfl))) (fun _ _ _ _ _ => ts_nil) (fun _ _ _ _ _ => (ex_callG (fun _ _ _ h => runF_len h) G_is_plain hgd (hr.mono (by decide)) (by rfl) C.g_is_plain C.F_is_plain.kp C.b_is_plain (ax_cons (ex_var 1) ax_nil)))) ax_nil)))) bs_nil)
      (bs_one (bs_ret (ex_and (ex_isi2 .int .str (by rfl) C.z_isinstance (by rfl) C.z_int (by decide +kernel) (by rfl) C.z_str (by decide +kernel) (ex_var 0)) (ex_one (ex_not (ex_isi .bool (by rfl) C.z_isinstance (by rfl) C.z_bool (by decide +kernel) (ex_var 0))))))))
theorem ok_is_plain_r2 (C : Ctx K mg tb) : FnG P w K mg base 2 C.f_is_plain C.fd_is_plain P_is_plain (spF K tb P_is_plain.length F_is_plain_r2) := by
  have G_is_plain : FnG P w K mg base 1 C.f_is_plain C.fd_is_plain P_is_plain (spF K tb P_is_plain.length F_is_plain_r1) := ok_is_plain_r1 C
  refine okG (k := 1) C.F_is_plain sc_is_plain fun A outer s H E hgd hr => ?_
  exact (bs_cons (bs_if (tx_tru (ex_isi .tuple (by rfl) C.z_isinstance (by rfl) C.z_tuple (by decide +kernel) (ex_var 0))) (bs_one (bs_ret (ex_callB allB_s (cr_all rfl) (by rfl) C.z_all (by decide +kernel) (ax_cons (ex_lc (own := [("_law_part", 1)]) rfl sc_is_plain.nd (tg_name 1) (tw_name 1 (by decide)) (ix_seq' (ex_var 0)) (blkOk_by (own := [("_law_part", 1)]) (N := N_is_plain) (sc := defScope s_is_plain) (by decide +kernel)) (fun _ _ _ _ _ => (pg_name (i := 1) sc_is_plain.nd rfl (by first | exact Or.inl rfl | exact Or.inr rfl))) (fun _ _ _ _ _ => ts_nil) (fun _ _ _ _ _ => (ex_callG (fun _ _ _ h => runF_len h) G_is_plain hgd (hr.mono (by decide)) (by rfl) C.g_is_plain C.F_is_plain.kp C.b_is_plain (ax_cons (ex_var 1) ax_nil)))) ax_nil)))) bs_nil)
      (bs_one (bs_ret (ex_and (ex_isi2 .int .str (by rfl) C.z_isinstance (by rfl) C.z_int (by decide +kernel) (by rfl) C.z_str (by decide +kernel) (ex_var 0)) (ex_one (ex_not (ex_isi .bool (by rfl) C.z_isinstance (by rfl) C.z_bool (by decide +kernel) (ex_var 0))))))))
theorem ok_is_plain_r3 (C : Ctx K mg tb) : FnG P w K mg base 3 C.f_is_plain C.fd_is_plain P_is_plain (spF K tb P_is_plain.length F_is_plain_r3) := by
  have G_is_plain : FnG P w K mg base 2 C.f_is_plain C.fd_is_plain P_is_plain (spF K tb P_is_plain.length F_is_plain_r2) := ok_is_plain_r2 C
  refine okG (k := 2) C.F_is_plain sc_is_plain fun A outer s H E hgd hr => ?_
  exact (bs_cons (bs_if (tx_tru (ex_isi .tuple (by rfl) C.z_isinstance (by rfl) C.z_tuple (by decide +kernel) (ex_var 0))) (bs_one (bs_ret (ex_callB allB_s (cr_all rfl) (by rfl) C.z_all (by decide +kernel) (ax_cons (ex_lc (own := [("_law_part", 1)]) rfl sc_is_plain.nd (tg_name 1) (tw_name 1 (by decide)) (ix_seq' (ex_var 0)) (blkOk_by (own := [("_law_part", 1)]) (N := N_is_plain) (sc := defScope s_is_plain) (by decide +kernel)) (fun _ _ _ _ _ => (pg_name (i := 1) sc_is_plain.nd rfl (by first | exact Or.inl rfl | exact Or.inr rfl))) (fun _ _ _ _ _ => ts_nil) (fun _ _ _ _ _ => (ex_callG (fun _ _ _ h => runF_len h) G_is_plain hgd (hr.mono (by decide)) (by rfl) C.g_is_plain C.F_is_plain.kp C.b_is_plain (ax_cons (ex_var 1) ax_nil)))) ax_nil)))) bs_nil)
      (bs_one (bs_ret (ex_and (ex_isi2 .int .str (by rfl) C.z_isinstance (by rfl) C.z_int (by decide +kernel) (by rfl) C.z_str (by decide +kernel) (ex_var 0)) (ex_one (ex_not (ex_isi .bool (by rfl) C.z_isinstance (by rfl) C.z_bool (by decide +kernel) (ex_var 0))))))))
theorem ok_is_plain_r4 (C : Ctx K mg tb) : FnG P w K mg base 4 C.f_is_plain C.fd_is_plain P_is_plain (spF K tb P_is_plain.length F_is_plain_r4) := by
  have G_is_plain : FnG P w K mg base 3 C.f_is_plain C.fd_is_plain P_is_plain (spF K tb P_is_plain.length F_is_plain_r3) := ok_is_plain_r3 C
  refine okG (k := 3) C.F_is_plain sc_is_plain fun A outer s H E hgd hr => ?_
  exact (bs_cons (bs_if (tx_tru (ex_isi .tuple (by rfl) C.z_isinstance (by rfl) C.z_tuple (by decide +kernel) (ex_var 0))) (bs_one (bs_ret (ex_callB allB_s (cr_all rfl) (by rfl) C.z_all (by decide +kernel) (ax_cons (ex_lc (own := [("_law_part", 1)]) rfl sc_is_plain.nd (tg_name 1) (tw_name 1 (by decide)) (ix_seq' (ex_var 0)) (blkOk_by (own := [("_law_part", 1)]) (N := N_is_plain) (sc := defScope s_is_plain) (by decide +kernel)) (fun _ _ _ _ _ => (pg_name (i := 1) sc_is_plain.nd rfl (by first | exact Or.inl rfl | exact Or.inr rfl))) (fun _ _ _ _ _ => ts_nil) (fun _ _ _ _ _ => (ex_callG (fun _ _ _ h => runF_len h) G_is_plain hgd (hr.mono (by decide)) (by rfl) C.g_is_plain C.F_is_plain.kp C.b_is_plain (ax_cons (ex_var 1) ax_nil)))) ax_nil)))) bs_nil)
      (bs_one (bs_ret (ex_and (ex_isi2 .int .str (by rfl) C.z_isinstance (by rfl) C.z_int (by decide +kernel) (by rfl) C.z_str (by decide +kernel) (ex_var 0)) (ex_one (ex_not (ex_isi .bool (by rfl) C.z_isinstance (by rfl) C.z_bool (by decide +kernel) (ex_var 0))))))))
theorem ok_is_plain (C : Ctx K mg tb) : FnG P w K mg base 4 C.f_is_plain C.fd_is_plain P_is_plain (spF K tb P_is_plain.length F_is_plain) := ok_is_plain_r4 C
theorem ok_news (C : Ctx K mg tb) : FnG P w K mg base 2 C.f_news C.fd_news P_news (spF K tb P_news.length F_news) := by
  have G_take : FnG P w K mg base 1 C.f_take C.fd_take P_take (spF K tb P_take.length F_take) := ok_take C
  refine okG (k := 1) C.F_news sc_news fun A outer s H E hgd hr => ?_
  exact (bs_cons (bs_set 2 sc_news.nd (ex_ix (ex_lst (ax_cons ex_str (ax_cons ex_str (ax_cons ex_str (ax_cons ex_str (ax_cons ex_str (ax_cons ex_str ax_nil))))))) (ex_callG (fun _ _ _ h => runF_len h) G_take hgd (hr.mono (by decide)) (by rfl) C.g_take C.F_take.kp C.b_take (ax_cons (ex_var 0) (ax_cons ex_int ax_nil)))))
      (bs_cons (bs_set 3 sc_news.nd (ex_callG (fun _ _ _ h => runF_len h) G_take hgd (hr.mono (by decide)) (by rfl) C.g_take C.F_take.kp C.b_take (ax_cons (ex_var 0) (ax_cons (ex_callB len_s cr_lenA (by rfl) C.z_len PySem.boot_len (ax_cons (ex_var 1) ax_nil)) ax_nil))))
      (bs_cons (bs_set 4 sc_news.nd (ex_op op_sub sub_s (ex_op op_addA add_s (ex_ix (ex_ix (ex_var 1) (ex_callG (fun _ _ _ h => runF_len h) G_take hgd (hr.mono (by decide)) (by rfl) C.g_take C.F_take.kp C.b_take (ax_cons (ex_var 0) (ax_cons (ex_callB len_s cr_lenA (by rfl) C.z_len PySem.boot_len (ax_cons (ex_var 1) ax_nil)) ax_nil)))) ex_int) (ex_callG (fun _ _ _ h => runF_len h) G_take hgd (hr.mono (by decide)) (by rfl) C.g_take C.F_take.kp C.b_take (ax_cons (ex_var 0) (ax_cons ex_int ax_nil)))) ex_int))
      (bs_cons (bs_set 5 sc_news.nd (ex_callB two_s (cr_max rfl) (by rfl) C.z_max (by decide +kernel) (ax_cons (ex_ix (ex_ix (ex_var 1) (ex_var 3)) ex_int) (ax_cons (ex_var 4) ax_nil))))
      (bs_cons (bs_fog [6] (bs_if (pwt (tw_and (tx_cmp (op_eqA hr.units) eq_s (ex_var 2) ex_str (nomark _)) (tw_and1 (tx_cmp (op_eqA hr.units) eq_s (ex_ix (ex_ix (ex_var 1) (ex_var 3)) ex_int) ex_int (nomark _))))) (bs_cons (bs_set 5 sc_news.nd (ex_callB two_s (cr_max rfl) (by rfl) C.z_max (by decide +kernel) (ax_cons (ex_op op_addA add_s (ex_ix (ex_ix (ex_var 1) (ex_var 3)) ex_int) ex_int) (ax_cons (ex_var 4) ax_nil))))
      (bs_cons (bs_set 6 sc_news.nd (ex_op op_addA add_s (ex_lst (ax_cons (ex_un un_neg neg_s ex_int) ax_nil)) (ex_lc (own := [("_law_k", 7)]) rfl sc_news.nd (tg_name 7) (tw_name 7 (by decide)) (ix_rng1 (by rfl) C.z_range (ax_cons (ex_callB len_s cr_lenA (by rfl) C.z_len PySem.boot_len (ax_cons (ex_var 1) ax_nil)) ax_nil)) (blkOk_by (own := [("_law_k", 7)]) (N := N_news) (sc := defScope s_news) (by decide +kernel)) (fun _ _ _ _ _ => (pg_name (i := 7) sc_news.nd rfl (by first | exact Or.inl rfl | exact Or.inr rfl))) (fun _ _ _ _ _ => (ts_one (pwt (tw_and (tx_cmp (op_eqA hr.units) eq_s (ex_ix (ex_ix (ex_var 1) (ex_var 7)) ex_int) ex_int (nomark _)) (tw_and1 (tx_cmp op_lt lt_s (ex_ix (ex_ix (ex_var 1) (ex_var 7)) ex_int) (ex_var 5) (nomark _))))))) (fun _ _ _ _ _ => (ex_var 7)))))
      (bs_one (bs_ret (ex_tup (ax_cons (ex_var 2) (ax_cons (ex_var 5) (ax_cons (ex_var 3) (ax_cons (ex_ix (ex_var 6) (ex_callG (fun _ _ _ h => runF_len h) G_take hgd (hr.mono (by decide)) (by rfl) C.g_take C.F_take.kp C.b_take (ax_cons (ex_var 0) (ax_cons (ex_callB len_s cr_lenA (by rfl) C.z_len PySem.boot_len (ax_cons (ex_var 6) ax_nil)) ax_nil)))) ax_nil))))))))) bs_nil))
      (bs_one (bs_ret (ex_tup (ax_cons (ex_ix (ex_lst (ax_cons (ex_var 2) (ax_cons ex_str ax_nil))) (ex_callTy int_s call_int1 (by rfl) C.z_int (by decide +kernel) (ax_cons (ex_cmp (op_eqA hr.units) eq_s (ex_var 2) ex_str (nomark _)) ax_nil))) (ax_cons (ex_var 5) (ax_cons (ex_var 3) (ax_cons (ex_un un_neg neg_s ex_int) ax_nil))))))))))))
theorem ok_scroll (C : Ctx K mg tb) : FnG P w K mg base 3 C.f_scroll C.fd_scroll P_scroll (spF K tb P_scroll.length F_scroll) := by
  have G_news : FnG P w K mg base 2 C.f_news C.fd_news P_news (spF K tb P_news.length F_news) := ok_news C
  have G_take : FnG P w K mg base 1 C.f_take C.fd_take P_take (spF K tb P_take.length F_take) := ok_take C
  refine okG (k := 2) C.F_scroll sc_scroll fun A outer s H E hgd hr => ?_
  exact (bs_cons (bs_set 3 sc_scroll.nd (ex_own ex_newT))
      (bs_cons (bs_for (dd := [4, 6]) rfl (tg_name 4) PassesOwn.never (ix_rng1 (by rfl) C.z_range (ax_cons (ex_callG (fun _ _ _ h => runF_len h) G_take hgd (hr.mono (by decide)) (by rfl) C.g_take C.F_take.kp C.b_take (ax_cons (ex_var 0) (ax_cons (ex_op op_addA add_s (ex_var 2) ex_int) ax_nil))) ax_nil)) (pg_name (i := 4) sc_scroll.nd rfl (by first | exact Or.inl rfl | exact Or.inr rfl)) (bs_cons (bs_set 6 sc_scroll.nd (ex_ix (ex_lst (ax_cons ex_str (ax_cons ex_str (ax_cons ex_str (ax_cons ex_str (ax_cons ex_str ax_nil)))))) (ex_callG (fun _ _ _ h => runF_len h) G_take hgd (hr.mono (by decide)) (by rfl) C.g_take C.F_take.kp C.b_take (ax_cons (ex_var 0) (ax_cons ex_int ax_nil)))))
      (bs_one (bs_putT (lt1 (Pv.roomU hr)) (ex_var 3) (ax_cons (ex_var 6) (ax_cons (ex_ix (ex_lst (ax_cons (ex_callG (fun _ _ _ h => runF_len h) G_take hgd (hr.mono (by decide)) (by rfl) C.g_take C.F_take.kp C.b_take (ax_cons (ex_var 0) (ax_cons ex_int ax_nil))) (ax_cons (ex_callG (fun _ _ _ h => runF_len h) G_take hgd (hr.mono (by decide)) (by rfl) C.g_take C.F_take.kp C.b_take (ax_cons (ex_var 0) (ax_cons ex_int ax_nil))) (ax_cons ex_int ax_nil)))) (ex_callG (fun _ _ _ h => runF_len h) G_take hgd (hr.mono (by decide)) (by rfl) C.g_take C.F_take.kp C.b_take (ax_cons (ex_var 0) (ax_cons ex_int ax_nil)))) ax_nil)) (ex_callG (fun _ _ _ h => runF_len h) G_news hgd (hr.mono (by decide)) (by rfl) C.g_news C.F_news.kp C.b_news (ax_cons (ex_var 0) (ax_cons (ex_var 1) ax_nil)))))))
      (bs_cons (bs_set 5 sc_scroll.nd (ex_callTy tuple_s call_tuple_of (by rfl) C.z_tuple (by decide +kernel) (ax_cons (ex_lc (own := [("_law_key", 7)]) rfl sc_scroll.nd (tg_name 7) (tw_name 7 (by decide)) (ix_seq' (ex_callB sortD_s (Pv.cr_sortDT rfl) (by rfl) C.z_sorted (by decide +kernel) (ax_cons (ex_var 3) ax_nil))) (blkOk_by (own := [("_law_key", 7)]) (N := N_scroll) (sc := defScope s_scroll) (by decide +kernel)) (fun _ _ _ _ _ => (pg_name (i := 7) sc_scroll.nd rfl (by first | exact Or.inl rfl | exact Or.inr rfl))) (fun _ _ _ _ _ => ts_nil) (fun _ _ _ _ _ => (ex_op op_addA add_s (ex_var 7) (ex_tup (ax_cons (ex_ixV (lt1 (Pv.roomU hr)) (ex_var 3) (ex_var 7)) ax_nil))))) ax_nil)))
      (bs_one (bs_ret (ex_tup (ax_cons (ex_var 5) (ax_cons (ex_callTy tuple_s call_tuple_of (by rfl) C.z_tuple (by decide +kernel) (ax_cons (ex_lc (own := [("_law_key", 7)]) rfl sc_scroll.nd (tg_name 7) (tw_name 7 (by decide)) (ix_seq' (ex_callB sortD_s (Pv.cr_sortDT rfl) (by rfl) C.z_sorted (by decide +kernel) (ax_cons (ex_var 3) ax_nil))) (blkOk_by (own := [("_law_key", 7)]) (N := N_scroll) (sc := defScope s_scroll) (by decide +kernel)) (fun _ _ _ _ _ => (pg_name (i := 7) sc_scroll.nd rfl (by first | exact Or.inl rfl | exact Or.inr rfl))) (fun _ _ _ _ _ => (ts_one (tx_cmp (op_eqA hr.units) eq_s (ex_callG (fun _ _ _ h => runF_len h) G_take hgd (hr.mono (by decide)) (by rfl) C.g_take C.F_take.kp C.b_take (ax_cons (ex_var 0) (ax_cons ex_int ax_nil))) ex_int (nomark _)))) (fun _ _ _ _ _ => (ex_var 7))) ax_nil)) ax_nil))))))))
theorem ok_book_of (C : Ctx K mg tb) : FnG P w K mg base 1 C.f_book_of C.fd_book_of P_book_of (spF K tb P_book_of.length F_book_of) := by
  refine okG (k := 0) C.F_book_of sc_book_of fun A outer s H E hgd hr => ?_
  exact (bs_cons (bs_asg (tg_tup rfl (tgs_cons (tg_name 1) (tgs_cons (tg_name 2) tgs_nil))) (ex_var 0) (pg_tup rfl (pgs_cons (pg_name (i := 1) sc_book_of.nd rfl (by first | exact Or.inl rfl | exact Or.inr rfl)) (pgs_cons (pg_name (i := 2) sc_book_of.nd rfl (by first | exact Or.inl rfl | exact Or.inr rfl)) pgs_nil))))
      (bs_one (bs_ret (ex_callTy tuple_s call_tuple_of (by rfl) C.z_tuple (by decide +kernel) (ax_cons (ex_sortSet rfl hr.units (by rfl) C.z_sorted (by rfl) C.z_set (ex_lc (own := [("entry", 3)]) rfl sc_book_of.nd (tg_name 3) (tw_name 3 (by decide)) (ix_seq' (ex_var 1)) (blkOk_by (own := [("entry", 3)]) (N := N_book_of) (sc := defScope s_book_of) (by decide +kernel)) (fun _ _ _ _ _ => (pg_name (i := 3) sc_book_of.nd rfl (by first | exact Or.inl rfl | exact Or.inr rfl))) (fun _ _ _ _ _ => (ts_one (tx_cmp (op_notInDT (Pv.lt65 (Pv.roomU hr))) notInP_s (ex_sl (ex_var 3) ox_none (ox_some ex_int)) (ex_var 2) (by rfl)))) (fun _ _ _ _ _ => (ex_ix (ex_var 3) ex_int)))) ax_nil)))))
theorem ok_law (C : Ctx K mg tb) : FnG P w K mg base 5 C.f_law C.fd_law P_law (spF K tb P_law.length F_law) := by
  have G_l_book_of : FnG P w K mg base 1 C.f_l_book_of C.fd_l_book_of P_l_book_of (spF K tb P_l_book_of.length F_l_book_of) := ok_l_book_of C
  have G_doubled : FnG P w K mg base 2 C.f_doubled C.fd_doubled P_doubled (spF K tb P_doubled.length F_doubled) := ok_doubled C
  have G_house : FnG P w K mg base 3 C.f_house C.fd_house P_house (spF K tb P_house.length F_house) := ok_house C
  have G_is_plain : FnG P w K mg base 4 C.f_is_plain C.fd_is_plain P_is_plain (spF K tb P_is_plain.length F_is_plain) := ok_is_plain C
  have G_scroll : FnG P w K mg base 3 C.f_scroll C.fd_scroll P_scroll (spF K tb P_scroll.length F_scroll) := ok_scroll C
  have G_book_of : FnG P w K mg base 1 C.f_book_of C.fd_book_of P_book_of (spF K tb P_book_of.length F_book_of) := ok_book_of C
  refine okG (k := 4) C.F_law sc_law fun A outer s H E hgd hr => ?_
  exact (bs_cons (bs_set 1 sc_law.nd (ex_own (ex_lst (ax_cons (ex_var 0) (ax_cons ex_int (ax_cons ex_int (ax_cons ex_int ax_nil)))))))
      (bs_cons (bs_set 2 sc_law.nd (ex_tup (ax_cons (ex_tup ax_nil) (ax_cons (ex_tup ax_nil) ax_nil))))
      (bs_cons (bs_for (dd := [3, 4, 5, 6, 7, 8]) rfl (tg_name 3) PassesOwn.never (ix_rng1 (by rfl) C.z_range (ax_cons ex_int ax_nil)) (pg_name (i := 3) sc_law.nd rfl (by first | exact Or.inl rfl | exact Or.inr rfl)) (bs_cons (bs_set 4 sc_law.nd (ex_callG (fun _ _ _ h => runF_len h) G_house hgd (hr.mono (by decide)) (by rfl) C.g_house C.F_house.kp C.b_house (ax_cons (ex_var 1) (ax_cons ex_int ax_nil))))
      (bs_cons (bs_set 5 sc_law.nd (ex_callG (fun _ _ _ h => runF_len h) G_doubled hgd (hr.mono (by decide)) (by rfl) C.g_doubled C.F_doubled.kp C.b_doubled (ax_cons (ex_var 1) (ax_cons (ex_callG (fun _ _ _ h => runF_len h) G_scroll hgd (hr.mono (by decide)) (by rfl) C.g_scroll C.F_scroll.kp C.b_scroll (ax_cons (ex_var 1) (ax_cons (ex_var 4) (ax_cons ex_int ax_nil)))) ax_nil))))
      (bs_cons (bs_for (dd := [6, 7, 8]) rfl (tg_name 6) PassesOwn.never (ix_seq' (ex_tup (ax_cons (ex_var 5) (ax_cons (ex_var 2) (ax_cons (ex_var 5) ax_nil))))) (pg_name (i := 6) sc_law.nd rfl (by first | exact Or.inl rfl | exact Or.inr rfl)) (bs_cons (bs_set 7 sc_law.nd (ex_callB repr_s (Pv.cr_repr hgd (Pv.roomU hr)) (by rfl) C.z_repr (by decide +kernel) (ax_cons (ex_var 6) ax_nil)))
      (bs_cons (bs_set 8 sc_law.nd (ex_callG (fun _ _ _ h => runF_len h) G_book_of hgd (hr.mono (by decide)) (by rfl) C.g_book_of C.F_book_of.kp C.b_book_of (ax_cons (ex_var 6) ax_nil)))
      (bs_one (bs_if (pwt (tw_or (tx_cmp (op_neA hr.units) ne_s (ex_var 8) (ex_callG (fun _ _ _ h => runF_len h) G_l_book_of hgd (hr.mono (by decide)) (by rfl) C.g_l_book_of C.F_l_book_of.kp C.b_l_book_of (ax_cons (ex_var 6) ax_nil)) (nomark _)) (tw_or (tx_not (tx_tru (ex_callG (fun _ _ _ h => runF_len h) G_is_plain hgd (hr.mono (by decide)) (by rfl) C.g_is_plain C.F_is_plain.kp C.b_is_plain (ax_cons (ex_var 8) ax_nil)))) (tw_or1 (tx_cmp (op_neA hr.units) ne_s (ex_callB repr_s (Pv.cr_repr hgd (Pv.roomU hr)) (by rfl) C.z_repr (by decide +kernel) (ax_cons (ex_var 6) ax_nil)) (ex_var 7) (nomark _)))))) (bs_one (bs_ret ex_bl)) bs_nil)))))
      (bs_one (bs_set 2 sc_law.nd (ex_var 5)))))))
      (bs_one (bs_ret (ex_cmp (op_eqA hr.units) eq_s (ex_callG (fun _ _ _ h => runF_len h) G_book_of hgd (hr.mono (by decide)) (by rfl) C.g_book_of C.F_book_of.kp C.b_book_of (ax_cons (ex_tup (ax_cons (ex_tup ax_nil) (ax_cons (ex_tup ax_nil) ax_nil))) ax_nil)) (ex_tup ax_nil) (nomark _)))))))
end
end K83
end
section
set_option Elab.async false
set_option linter.all false
set_option maxRecDepth 100000
set_option maxHeartbeats 4000000
namespace Lx
open PySem L2 Pw
theorem at_nat {α : Type} {xs : List α} {i : Nat} {x : α} (h : xs[i]? = some x) : atI xs (i : Int) = some x := by
  have hl : i < xs.length := (List.getElem?_eq_some_iff.mp h).1
  unfold atI ixN
  rw [if_pos (by omega), if_pos (by omega)]
  simpa using h
theorem at_int {α : Type} {xs : List α} {v : Int} {x : α} (h0 : 0 ≤ v) (h : xs[v.toNat]? = some x) : atI xs v = some x := by
  have := at_nat h
  rwa [Int.toNat_of_nonneg h0] at this
theorem at_some {α : Type} {xs : List α} {v : Int} (h0 : 0 ≤ v) (h1 : v < xs.length) : ∃ x, x ∈ xs ∧ xs[v.toNat]? = some x ∧ atI xs v = some x := by
  have hv : v.toNat < xs.length := by omega
  have e : xs[v.toNat]? = some xs[v.toNat] := List.getElem?_eq_getElem hv
  exact ⟨_, List.getElem_mem hv, e, at_int h0 e⟩
@[simp] theorem at0 {α : Type} {a : α} {xs : List α} : atI (a :: xs) 0 = some a := @at_nat _ (a :: xs) 0 a rfl
@[simp] theorem at1 {α : Type} {a b : α} {xs : List α} : atI (a :: b :: xs) 1 = some b := @at_nat _ (a :: b :: xs) 1 b rfl
@[simp] theorem at2 {α : Type} {a b c : α} {xs : List α} : atI (a :: b :: c :: xs) 2 = some c := @at_nat _ (a :: b :: c :: xs) 2 c rfl
@[simp] theorem at3 {α : Type} {a b c d : α} {xs : List α} : atI (a :: b :: c :: d :: xs) 3 = some d := @at_nat _ (a :: b :: c :: d :: xs) 3 d rfl
@[simp] theorem at4 {α : Type} {a b c d e : α} {xs : List α} : atI (a :: b :: c :: d :: e :: xs) 4 = some e := @at_nat _ (a :: b :: c :: d :: e :: xs) 4 e rfl
@[simp] theorem ix4_1 : ixN 4 1 = some 1 := rfl
@[simp] theorem ix4_2 : ixN 4 2 = some 2 := rfl
@[simp] theorem ix4_3 : ixN 4 3 = some 3 := rfl
@[simp] theorem stl_v {d : D} : stl (.v d) = .v d := rfl
@[simp] theorem stl_f {d : D} : stl (.f d) = .v d := rfl
@[simp] theorem stl_r {n : Nat} : stl (.r n) = .r n := rfl
@[simp] theorem gt_v {d : D} {m : Mem} : gt (.v d) m = some d := rfl
@[simp] theorem gt_f {d : D} {m : Mem} : gt (.f d) m = some d := rfl
@[simp] theorem gt_r {n : Nat} {m : Mem} : gt (.r n) m = (m[n]?).map moD := rfl
@[simp] theorem moD_l {ds : List D} : moD (.lst ds) = .lst ds := rfl
@[simp] theorem moD_k {kvs : List (Key × D)} : moD (.dk kvs) = .dk kvs := rfl
@[simp] theorem vl_v {d : D} : vl (.v d) = some d := rfl
@[simp] theorem vl_f {d : D} : vl (.f d) = some d := rfl
@[simp] theorem gts_nil {m : Mem} : gts [] m = some [] := rfl
@[simp] theorem gts_cons {w : W} {ws : List W} {m : Mem} : gts (w :: ws) m = (gt w m).bind fun d => (gts ws m).bind fun ds => some (d :: ds) := rfl
@[simp] theorem vls_nil : vls [] = some [] := rfl
@[simp] theorem vls_v {d : D} {ws : List W} : vls (.v d :: ws) = (vls ws).bind fun ds => some (d :: ds) := rfl
@[simp] theorem vls_f {d : D} {ws : List W} : vls (.f d :: ws) = (vls ws).bind fun ds => some (d :: ds) := rfl
@[simp] theorem blD_b {b : Bool} : blD (.bl b) = some b := rfl
@[simp] theorem inD_i {i : Int} : inD' (.int i) = some i := rfl
@[simp] theorem wipe_nil {ρ : Pw.Env} : wipeD ρ [] = ρ := rfl
@[simp] theorem wipe_cons {ρ : Pw.Env} {v : Nat} {vs : List Nat} : wipeD ρ (v :: vs) = (wipeD ρ vs).set v none := rfl
@[simp] theorem itm_t {ds : List D} : itmD (.tup ds) = some ds := rfl
@[simp] theorem itm_l {ds : List D} : itmD (.lst ds) = some ds := rfl
@[simp] theorem itmL_l {ds : List D} : itmL (.lst ds) = some ds := rfl
@[simp] theorem src_t {ds : List D} {m : Mem} : srcW (.v (.tup ds)) m = some (.seq ds) := rfl
@[simp] theorem src_l {ds : List D} {m : Mem} : srcW (.v (.lst ds)) m = some (.seq ds) := rfl
@[simp] theorem src_tf {ds : List D} {m : Mem} : srcW (.f (.tup ds)) m = some (.seq ds) := rfl
@[simp] theorem src_lf {ds : List D} {m : Mem} : srcW (.f (.lst ds)) m = some (.seq ds) := rfl
@[simp] theorem items_seq {ds : List D} {m : Mem} : itemsAt (.seq ds) m = some ds := rfl
@[simp] theorem own_f {ds : List D} {m : Mem} : ownW (.f (.lst ds)) m = some (.r m.length, m ++ [.lst ds]) := rfl
@[simp] theorem own_r {n : Nat} {m : Mem} : ownW (.r n) m = some (.r n, m) := rfl
@[simp] theorem out_v {k : Nat} {d : D} {m : Mem} : outW k (.v d) m = some (.v d, m.take k) := rfl
@[simp] theorem out_f {k : Nat} {d : D} {m : Mem} : outW k (.f d) m = some (.f d, m.take k) := rfl
@[simp] theorem sub_i {a b : Int} : subD (.int a) (.int b) = some (.v (.int (a - b))) := rfl
@[simp] theorem add_i {a b : Int} : addD (.int a) (.int b) = some (.v (.int (a + b))) := rfl
@[simp] theorem neg_i {a : Int} : negD (.int a) = some (.v (.int (-a))) := rfl
@[simp] theorem lt_i {a b : Int} : cmpD ltI (.int a) (.int b) = some (.v (.bl (decide (a < b)))) := rfl
@[simp] theorem le_i {a b : Int} : cmpD leI (.int a) (.int b) = some (.v (.bl (decide (a ≤ b)))) := rfl
@[simp] theorem gt_i {a b : Int} : cmpD gtI (.int a) (.int b) = some (.v (.bl (decide (b < a)))) := rfl
@[simp] theorem ge_i {a b : Int} : cmpD geI (.int a) (.int b) = some (.v (.bl (decide (b ≤ a)))) := rfl
@[simp] theorem max_i {a b : Int} : two maxI [.int a, .int b] = some (.v (.int (max a b))) := by
  simp only [two, maxI, Option.some.injEq, W.v.injEq, D.int.injEq]; split <;> omega
@[simp] theorem min_i {a b : Int} : two minI [.int a, .int b] = some (.v (.int (min a b))) := by
  simp only [two, minI, Option.some.injEq, W.v.injEq, D.int.injEq]; split <;> omega
@[simp] theorem int_b {b : Bool} : intD [.bl b] = some (.v (.int (if b then 1 else 0))) := rfl
@[simp] theorem int_i {b : Int} : intD [.int b] = some (.v (.int b)) := rfl
@[simp] theorem len_t {ds : List D} : lenD [.tup ds] = some (.v (.int ds.length)) := rfl
@[simp] theorem len_l {ds : List D} : lenD [.lst ds] = some (.v (.int ds.length)) := rfl
@[simp] theorem len_fl {ds : List D} : lenD [.fl ds] = some (.v (.int ds.length)) := rfl
@[simp] theorem tuple_l {ds : List D} : tupleD [.lst ds] = some (.v (.tup ds)) := rfl
@[simp] theorem tuple_t {ds : List D} : tupleD [.tup ds] = some (.v (.tup ds)) := rfl
@[simp] theorem list_t {ds : List D} : listD [.tup ds] = some (.f (.lst ds)) := rfl
@[simp] theorem list_l {ds : List D} : listD [.lst ds] = some (.f (.lst ds)) := rfl
@[simp] theorem ix_t {ds : List D} {i : Int} : ixD (.tup ds) (.int i) = (atI ds i).bind fun d => some (.v d) := rfl
@[simp] theorem ix_l {ds : List D} {i : Int} : ixD (.lst ds) (.int i) = (atI ds i).bind fun d => some (.v d) := rfl
@[simp] theorem ix_fl {ds : List D} {i : Int} : ixD (.fl ds) (.int i) = (atI ds i).bind fun d => some (.v d) := rfl
@[simp] theorem eq_i {neg : Bool} {x y : Int} : eqD neg (.int x) (.int y) = some (.v (.bl (decide (x = y) != neg))) := by
  unfold eqD eqB
  simp [sc, scal]
@[simp] theorem eq_s {neg : Bool} {x y : Str} : eqD neg (.str x) (.str y) = some (.v (.bl (decide (x = y) != neg))) := by
  unfold eqD eqB
  simp [sc, scal]
theorem mul_i {a b : Int} (c : CMul a b) : mulD (.int a) (.int b) = some (.v (.int (a * b))) := by simp [mulD, c]
theorem div_i {a b : Int} (h : 0 < b) (h2 : b < 2 ^ 30) : divD (.int a) (.int b) = some (.v (.int (a / b))) := by
  have c : CDiv a b := ⟨h, h2⟩
  simp [divD, intC, c]
theorem mod_i {a b : Int} (h : 0 < b) : modD (.int a) (.int b) = some (.v (.int (a % b))) := by simp [modD, intC, h]
theorem pow_i {a b : Int} (c : CPow a b) : powD (.int a) (.int b) = some (.v (.int (a ^ b.toNat))) := by simp [powD, intC, c]
@[simp] theorem add_l {a b : List D} : addD (.lst a) (.lst b) = if a.length + b.length ≤ 1000000 then some (.f (.lst (a ++ b))) else none := rfl
@[simp] theorem add_t {a b : List D} : addD (.tup a) (.tup b) = if a.length + b.length ≤ 1000000 then some (.v (.tup (a ++ b))) else none := rfl
@[simp] theorem app_r {n : Nat} {w : W} {m : Mem} : appD (.r n) [w] m = match m[n]? with
    | some (.lst ds) => (vl w).bind fun d => if ds.length < 1000000 then some (.v .non, m.set n (.lst (ds ++ [d]))) else none
    | _ => none := rfl
@[simp] theorem isl_r {n : Nat} {m : Mem} : isLst (.r n) m = match m[n]? with
    | some (.lst _) => true
    | _ => false := rfl
@[simp] theorem rngA_i {n : Nat} : rngA [.int (n : Int)] = if (n : Int) ≤ 1000000000 then some (rngD 0 n) else none := by
  unfold rngA
  simp only [Int.toNat_natCast]
  by_cases h : (n : Int) ≤ 1000000000
  · rw [if_pos ⟨by omega, h⟩, if_pos h]
  · rw [if_neg (fun z => h z.2), if_neg h]
@[simp] theorem put_r {n : Nat} {i : Int} {d : D} {m : Mem} : putD (.r n) (.int i) d m = match m[n]? with
    | some (.lst ds) => (ixN ds.length i).map fun j => m.set n (.lst (ds.set j d))
    | _ => none := rfl
structure St where
  p : Int
  c : Int
  sd : Int
  hp : 0 ≤ p
  hc : 0 ≤ c
  hs : 0 ≤ sd
  hs2 : sd < 2147483647
def stD (ns : List Int) (s : St) : MO := .lst [.fl (ns.map .int), .int s.p, .int s.c, .int s.sd]
noncomputable def B_take : Sx := (sSeq (sFog [3] (sIf (tVal (eOp (cmpD gtI) (eOp ixD (eVar 0) (eC (.int 2))) (eC (.int 0)))) (sSeq (sSet 3 (eOp modD (eOp ixD (eVar 0) (eC (.int 2))) (eVar 1))) (sSeq (sPut (eVar 0) (eC (.int 2)) (eOp divD (eOp ixD (eVar 0) (eC (.int 2))) (eVar 1))) (sRet (eVar 3)))) sNil)) (sSeq (sSet 2 (eC (.int 0))) (sSeq (sIf (tVal (eOp (cmpD ltI) (eOp ixD (eVar 0) (eC (.int 1))) (eCB lenD (aCons (eOp ixD (eVar 0) (eC (.int 0))) aNil)))) (sSet 2 (eOp ixD (eOp ixD (eVar 0) (eC (.int 0))) (eOp ixD (eVar 0) (eC (.int 1))))) sNil) (sSeq (sPut (eVar 0) (eC (.int 1)) (eOp addD (eOp ixD (eVar 0) (eC (.int 1))) (eC (.int 1)))) (sSeq (sIf (tVal (eOp (cmpD geI) (eVar 2) (eOp powD (eC (.int 10)) (eC (.int 18))))) (sSeq (sPut (eVar 0) (eC (.int 2)) (eOp divD (eVar 2) (eVar 1))) (sRet (eOp modD (eVar 2) (eVar 1)))) sNil) (sSeq (sPut (eVar 0) (eC (.int 3)) (eOp modD (eOp addD (eOp addD (eOp mulD (eOp ixD (eVar 0) (eC (.int 3))) (eC (.int 48271))) (eOp modD (eVar 2) (eC (.int 2147483629)))) (eOp mulD (eC (.int 7)) (eOp ixD (eVar 0) (eC (.int 1))))) (eC (.int 2147483647)))) (sRet (eOp modD (eOp divD (eOp modD (eOp powD (eOp ixD (eVar 0) (eC (.int 3))) (eC (.int 3))) (eC (.int 2147483629))) (eC (.int 64))) (eVar 1)))))))))
noncomputable def F_take : Fx := runF 2 4 B_take
theorem take_ex (ns : List Int) (s : St) (b : Int) (hb : 0 < b) (hb2 : b < 1073741824) :
    ∃ (v : Int) (s' : St), 0 ≤ v ∧ v < b ∧ ∀ m : Mem, F_take [.r 0, .v (.int b)] (stD ns s :: m) = some (.v (.int v), stD ns s' :: m) := by
  obtain ⟨p, c, sd, hp, hc, hs, hs2⟩ := s
  by_cases h0 : 0 < c
  · refine ⟨c % b, ⟨p, c / b, sd, hp, Int.ediv_nonneg hc (by omega), hs, hs2⟩, Int.emod_nonneg _ (by omega), Int.emod_lt_of_pos _ hb, fun m => ?_⟩
    simp [F_take, runF, B_take, startD, sFog, sSeq, sIf, sSet, sRet, sPut, eVar, eC, eOp, tVal, stD, h0, mod_i hb, div_i hb hb2]
  · have key : ∀ cell : Int, (if p < (ns.length : Int) then atI (ns.map D.int) p else some (D.int 0)) = some (.int cell) → ∃ (v : Int) (s' : St), 0 ≤ v ∧ v < b ∧ ∀ m : Mem, F_take [.r 0, .v (.int b)] (stD ns ⟨p, c, sd, hp, hc, hs, hs2⟩ :: m) = some (.v (.int v), stD ns s' :: m) := by
      intro cell hcell
      have cp10 : CPow 10 18 := ⟨by omega, by omega, by decide⟩
      by_cases hbig : (1000000000000000000 : Int) ≤ cell
      · refine ⟨cell % b, ⟨p + 1, cell / b, sd, by omega, Int.ediv_nonneg (by omega) (by omega), hs, hs2⟩, Int.emod_nonneg _ (by omega), Int.emod_lt_of_pos _ hb, fun m => ?_⟩
        by_cases h1 : p < (ns.length : Int)
        · rw [if_pos h1] at hcell
          simp [F_take, runF, B_take, startD, sFog, sSeq, sIf, sSet, sRet, sPut, sNil, eVar, eC, eOp, eCB, aCons, aNil, tVal, stD, h0, h1, hcell, mod_i hb, div_i hb hb2, pow_i cp10, hbig]
        · rw [if_neg h1] at hcell
          have : (0 : Int) = cell := by injection hcell with z; injection z
          omega
      · have n2 : 0 ≤ (sd * 48271 + cell % 2147483629 + 7 * (p + 1)) % 2147483647 := Int.emod_nonneg _ (by omega)
        have n3 : (sd * 48271 + cell % 2147483629 + 7 * (p + 1)) % 2147483647 < 2147483647 := Int.emod_lt_of_pos _ (by omega)
        generalize hq : (sd * 48271 + cell % 2147483629 + 7 * (p + 1)) % 2147483647 = q at n2 n3
        have cp : CPow q 3 := ⟨by omega, by omega, by omega⟩
        refine ⟨q ^ 3 % 2147483629 / 64 % b, ⟨p + 1, c, q, by omega, hc, n2, n3⟩, Int.emod_nonneg _ (by omega), Int.emod_lt_of_pos _ hb, fun m => ?_⟩
        have m1 : mulD (.int sd) (.int 48271) = some (.v (.int (sd * 48271))) := mul_i (.inr ⟨by omega, by omega⟩)
        have m2 : mulD (.int 7) (.int (p + 1)) = some (.v (.int (7 * (p + 1)))) := mul_i (.inl ⟨by omega, by omega⟩)
        have d1 : ∀ a : Int, modD (.int a) (.int 2147483629) = some (.v (.int (a % 2147483629))) := fun a => mod_i (by omega)
        have d2 : ∀ a : Int, modD (.int a) (.int 2147483647) = some (.v (.int (a % 2147483647))) := fun a => mod_i (by omega)
        have d3 : ∀ a : Int, divD (.int a) (.int 64) = some (.v (.int (a / 64))) := fun a => div_i (by omega) (by omega)
        by_cases h1 : p < (ns.length : Int)
        · rw [if_pos h1] at hcell
          simp [F_take, runF, B_take, startD, sFog, sSeq, sIf, sSet, sRet, sPut, sNil, eVar, eC, eOp, eCB, aCons, aNil, tVal, stD, h0, h1, hcell, mod_i hb, d1, d2, d3, m1, m2, pow_i cp10, pow_i cp, hbig, hq]
        · rw [if_neg h1] at hcell
          have : (0 : Int) = cell := by injection hcell with z; injection z
          subst this
          have d1' : modD (.int 0) (.int 2147483629) = some (.v (.int 0)) := d1 0
          simp at hq
          simp [F_take, runF, B_take, startD, sFog, sSeq, sIf, sSet, sRet, sPut, sNil, eVar, eC, eOp, eCB, aCons, aNil, tVal, stD, h0, h1, mod_i hb, d1', d1, d2, d3, m1, m2, pow_i cp10, pow_i cp, hq]
    by_cases h1 : p < (ns.length : Int)
    · have hl : p.toNat < ns.length := by omega
      exact key ns[p.toNat] (by rw [if_pos h1]; exact at_int hp (by simp [hl]))
    · exact key 0 (by rw [if_neg h1])
open Classical in
noncomputable def tk (ns : List Int) (s : St) (b : Int) : Int × St := if h : 0 < b ∧ b < 1073741824 then ⟨Classical.choose (take_ex ns s b h.1 h.2), Classical.choose (Classical.choose_spec (take_ex ns s b h.1 h.2))⟩ else ⟨0, s⟩
theorem tk_lo {ns : List Int} {s : St} {b : Int} : 0 ≤ (tk ns s b).1 := by
  unfold tk
  split
  · rename_i h; exact (Classical.choose_spec (Classical.choose_spec (take_ex ns s b h.1 h.2))).1
  · exact Int.le_refl _
theorem tk_hi {ns : List Int} {s : St} {b : Int} (h : 0 < b) (h2 : b < 1073741824) : (tk ns s b).1 < b := by
  unfold tk
  rw [dif_pos ⟨h, h2⟩]
  exact (Classical.choose_spec (Classical.choose_spec (take_ex ns s b h h2))).2.1
theorem take_eq {ns : List Int} {s : St} {b : Int} {m : Mem} (h : 0 < b) (h2 : b < 1073741824) : F_take [.r 0, .v (.int b)] (stD ns s :: m) = some (.v (.int (tk ns s b).1), stD ns (tk ns s b).2 :: m) := by
  unfold tk
  rw [dif_pos ⟨h, h2⟩]
  exact (Classical.choose_spec (Classical.choose_spec (take_ex ns s b h h2))).2.2 m
end Lx
end
section
set_option Elab.async false
set_option linter.all false
set_option maxRecDepth 100000
set_option maxHeartbeats 4000000
namespace Lx
open PySem L2 Pw
theorem rng0 (n : Nat) : rngD 0 n = (List.range n).map fun i : Nat => D.int (i : Int) := by
  unfold rngD
  refine List.map_congr_left fun i _ => ?_
  simp
section
variable {α : Type} {src : Ix} {t : Gx} {c : Tx} {f : Ex} {b : Sx} {vs dd : List Nat} {ρ : Pw.Env} {m m1 : Mem}
theorem lcL_map {xs : List D} (g : α → D) (sel : α → Bool) (val : α → D) {ρ : Pw.Env} {m : Mem} : ∀ (L : List α) (acc : List D), (∀ a ∈ L, ∃ ρ1, t (g a) ρ = some ρ1 ∧ c ρ1 m = some (sel a, m) ∧ (sel a = true → ∃ w, f ρ1 m = some (w, m) ∧ vl w = some (val a))) → acc.length + L.length ≤ 1000000 →
    lcL (.seq xs) xs t c f ρ (L.map g) acc m = some (acc ++ (L.filter sel).map val, m)
  | [], acc, _, _ => by simp [lcL]
  | a :: L, acc, h, hl => by
    obtain ⟨ρ1, h1, h2, h3⟩ := h a List.mem_cons_self
    have hl' : acc.length + L.length + 1 ≤ 1000000 := by simpa [Nat.add_assoc] using hl
    rw [List.map_cons]
    unfold lcL
    rw [if_pos (by simp), h1]
    simp only [Option.bind_some, h2]
    cases hs : sel a with
    | true =>
      obtain ⟨w, e1, e2⟩ := h3 hs
      simp only [if_true, e1, Option.bind_some, e2]
      rw [if_pos (by omega), lcL_map g sel val L (acc ++ [val a]) (fun a ha => h a (List.mem_cons_of_mem _ ha)) (by simp; omega)]
      simp [List.filter_cons, hs]
    | false =>
      simp only [Bool.false_eq_true, if_false]
      rw [lcL_map g sel val L acc (fun a ha => h a (List.mem_cons_of_mem _ ha)) (by omega)]
      simp [List.filter_cons, hs]
theorem lc_map (L : List α) (g : α → D) (sel : α → Bool) (val : α → D) (hs : src ρ m = some (.seq (L.map g), m1)) (h : ∀ a ∈ L, ∃ ρ1, t (g a) (wipeD ρ vs) = some ρ1 ∧ c ρ1 m1 = some (sel a, m1) ∧ (sel a = true → ∃ w, f ρ1 m1 = some (w, m1) ∧ vl w = some (val a))) (hl : L.length ≤ 1000000) :
    eLc src t c f vs ρ m = some (.f (.lst ((L.filter sel).map val)), m1) := by
  unfold eLc
  rw [hs]
  simp only [Option.bind_some, items_seq]
  rw [lcL_map g sel val L [] h (by simpa using hl)]
  simp
theorem forL_inv {xs : List D} (Inv : Nat → Pw.Env → Mem → Prop) (g : α → D) : ∀ (L : List α) (i : Nat), (∀ k a, L[k]? = some a → ∀ ρ m, Inv (i + k) ρ m → ∃ ρ1 ρ2 m2, t (g a) ρ = some ρ1 ∧ b ρ1 m = some (.nx, ρ2, m2) ∧ Inv (i + k + 1) (wipeD ρ2 dd) m2) → ∀ (ρ : Pw.Env) (m : Mem), Inv i ρ m →
    ∃ ρ' m', forL (.seq xs) xs t b dd (L.map g) ρ m = some (.nx, ρ', m') ∧ Inv (i + L.length) ρ' m'
  | [], i, step, ρ, m, inv => ⟨ρ, m, by simp [forL], by simpa using inv⟩
  | a :: L, i, step, ρ, m, inv => by
    obtain ⟨ρ1, ρ2, m2, q1, q2, q3⟩ := step 0 a rfl ρ m (by simpa using inv)
    obtain ⟨ρ', m', r1, r2⟩ := forL_inv Inv g L (i + 1) (fun k a ha ρ m hi => by
      have := step (k + 1) a (by simpa using ha) ρ m (by rw [show i + (k + 1) = i + 1 + k by omega]; exact hi)
      rw [show i + (k + 1) + 1 = i + 1 + k + 1 by omega] at this
      exact this) (wipeD ρ2 dd) m2 (by simpa using q3)
    refine ⟨ρ', m', ?_, by rw [List.length_cons, show i + (L.length + 1) = i + 1 + L.length by omega]; exact r2⟩
    rw [List.map_cons]
    unfold forL
    rw [if_pos (by simp)]
    simp only [q1, q2, Option.bind_some]
    exact r1
theorem for_inv (L : List α) (g : α → D) (Inv : Nat → Pw.Env → Mem → Prop) (hs : src ρ m = some (.seq (L.map g), m1)) (h0 : Inv 0 ρ m1)
    (step : ∀ k a, L[k]? = some a → ∀ ρ m, Inv k ρ m → ∃ ρ1 ρ2 m2, t (g a) ρ = some ρ1 ∧ b ρ1 m = some (.nx, ρ2, m2) ∧ Inv (k + 1) (wipeD ρ2 dd) m2) :
    ∃ ρ' m', sFor src t b dd ρ m = some (.nx, ρ', m') ∧ Inv L.length ρ' m' := by
  obtain ⟨ρ', m', e, inv⟩ := forL_inv (xs := L.map g) Inv g L 0 (fun k a ha ρ m hi => by
    have := step k a ha ρ m (by simpa using hi)
    simpa using this) ρ m1 h0
  refine ⟨ρ', m', ?_, by simpa using inv⟩
  unfold sFor
  rw [hs]
  simp only [Option.bind_some, items_seq]
  exact e
end
structure Fo where
  day : Int
  fa : Int
  mo : Int
  man : Int
  wed : Int
deriving DecidableEq
def Fo.d (f : Fo) : D := .tup [.int f.day, .int f.fa, .int f.mo, .int f.man, .int f.wed]
abbrev hD (F : List Fo) : D := .tup (F.map Fo.d)
def ParOk (F : List Fo) (day v man : Int) : Prop := v = -1 ∨ ∃ (j : Nat) (g : Fo), v = (j : Int) ∧ F[j]? = some g ∧ g.man = man ∧ g.day < day
structure FoOkL (lim : Int) (f : Fo) : Prop where
  d0 : 0 ≤ f.day
  d1 : f.day ≤ lim
  m : f.man = 0 ∨ f.man = 1
  w : f.wed = 0 ∨ f.wed = 1
structure GoodHL (lim : Int) (F : List Fo) : Prop where
  ne : 1 ≤ F.length
  le : F.length ≤ 60
  ok : ∀ f ∈ F, FoOkL lim f
  fa : ∀ (i : Nat) f, F[i]? = some f → ParOk (F.take i) f.day f.fa 1
  mo : ∀ (i : Nat) f, F[i]? = some f → ParOk (F.take i) f.day f.mo 0
  up : F.Pairwise fun f g => f.day ≤ g.day
  lm : lim ≤ 99999
abbrev GoodH (F : List Fo) : Prop := GoodHL 99990 F
@[simp] theorem fo0 {f : Fo} : ixD f.d (.int 0) = some (.v (.int f.day)) := by simp [Fo.d]
@[simp] theorem fo1 {f : Fo} : ixD f.d (.int 1) = some (.v (.int f.fa)) := by simp [Fo.d]
@[simp] theorem fo2 {f : Fo} : ixD f.d (.int 2) = some (.v (.int f.mo)) := by simp [Fo.d]
@[simp] theorem fo3 {f : Fo} : ixD f.d (.int 3) = some (.v (.int f.man)) := by simp [Fo.d]
@[simp] theorem fo4 {f : Fo} : ixD f.d (.int 4) = some (.v (.int f.wed)) := by simp [Fo.d]
theorem fo_at {F : List Fo} {k : Nat} {f : Fo} (h : F[k]? = some f) : atI (F.map Fo.d) (k : Int) = some f.d := at_nat (by rw [List.getElem?_map, h]; rfl)
theorem fo_int {F : List Fo} {v : Int} {f : Fo} (h0 : 0 ≤ v) (h : F[v.toNat]? = some f) : atI (F.map Fo.d) v = some f.d := at_int h0 (by rw [List.getElem?_map, h]; rfl)
theorem fo_some {F : List Fo} {v : Int} (h0 : 0 ≤ v) (h1 : v < F.length) : ∃ f, f ∈ F ∧ F[v.toNat]? = some f ∧ atI (F.map Fo.d) v = some f.d := by
  have hv : v.toNat < F.length := by omega
  have e : F[v.toNat]? = some F[v.toNat] := List.getElem?_eq_getElem hv
  exact ⟨_, List.getElem_mem hv, e, fo_int h0 e⟩
def parSel (F : List Fo) (day man : Int) (i : Nat) : Bool := match F[i]? with
  | some f => decide (f.man = man) && decide (f.day < day)
  | none => false
def parIs (F : List Fo) (day man : Int) : List Nat := (List.range F.length).filter (parSel F day man)
abbrev nD (i : Nat) : D := .int (i : Int)
theorem parIs_mem {F : List Fo} {day man : Int} {i : Nat} (h : i ∈ parIs F day man) : i < F.length ∧ ParOk F day i man := by
  obtain ⟨h1, h2⟩ := List.mem_filter.mp h
  have hl := List.mem_range.mp h1
  unfold parSel at h2
  rw [List.getElem?_eq_getElem hl] at h2
  simp only [Bool.and_eq_true, decide_eq_true_eq] at h2
  exact ⟨hl, .inr ⟨i, F[i], rfl, List.getElem?_eq_getElem hl, h2.1, h2.2⟩⟩
theorem parIs_len {F : List Fo} {day man : Int} : (parIs F day man).length ≤ F.length := Nat.le_trans (List.length_filter_le _ _) (by simp)
theorem cut3 (ds : List D) : ∃ k, cutD ds (some (-3)) none = ds.drop k ∧ (ds ≠ [] → k < ds.length) := by
  refine ⟨ds.length - 3, ?_, fun h => ?_⟩
  · unfold cutD
    have e : HT.sIx ds.length 0 (some (-3)) = ds.length - 3 := by
      show (if (-3 : Int) < 0 then ((-3 : Int) + (ds.length : Int)).toNat else min (-3 : Int).toNat ds.length) = _
      rw [if_pos (by omega)]
      omega
    rw [e, HT.sIx_none]
    rw [List.take_of_length_le]
    simp
  · have : 0 < ds.length := List.length_pos_iff.mpr h
    omega
theorem pyDs_n (is : List Nat) : pyDs (is.map nD) = some (is.map fun i : Nat => PyData.int i) := by
  induction is with
  | nil => rw [List.map_nil, pyDs]; rfl
  | cons i is ih => rw [List.map_cons, pyDs, pyD]; simp only [Option.bind_some]; rw [ih]; rfl
theorem lay_ints : ∀ is : List Nat, PyData.canLayAll0 (is.map fun i : Nat => PyData.int i) = true ∧ PyData.depthAll (is.map fun i : Nat => PyData.int i) ≤ 0
  | [] => ⟨rfl, by simp [PyData.depthAll]⟩
  | i :: is => by
    obtain ⟨h1, h2⟩ := lay_ints is
    refine ⟨by rw [List.map_cons, PyData.canLayAll0, h1]; rfl, ?_⟩
    rw [List.map_cons, PyData.depthAll, PyData.depth]
    omega
theorem eq_nil (is : List Nat) : eqD false (.lst (is.map nD)) (.lst []) = some (.v (.bl is.isEmpty)) := by
  have h1 : pyD (.lst (is.map nD)) = some (.list (is.map fun i : Nat => PyData.int i)) := by rw [pyD, pyDs_n]; rfl
  have h2 : pyD (.lst []) = some (.list []) := by rw [pyD, pyDs]; rfl
  have s1 : SeqAt.shaped (.list (is.map fun i : Nat => PyData.int i)) = true := by
    obtain ⟨a, b⟩ := lay_ints is
    unfold SeqAt.shaped
    rw [PyData.canLay0, a, PyData.depth, Bool.true_and, decide_eq_true_eq]
    omega
  unfold eqD eqB
  simp only [sc, h1, h2]
  rw [if_pos ⟨s1, rfl⟩]
  cases is <;> rfl
noncomputable def E_parent_1 : Ex := eLc (iRngA (aCons (eCB lenD (aCons (eVar 1) aNil)) aNil)) (gN 5) (tAnd' (tVal (eOp (eqD false) (eOp ixD (eOp ixD (eVar 1) (eVar 5)) (eC (.int 3))) (eVar 3))) (tVal (eOp (cmpD ltI) (eOp ixD (eOp ixD (eVar 1) (eVar 5)) (eC (.int 0))) (eVar 2)))) (eVar 5) [5]
noncomputable def B_parent : Sx := (sSeq (sSet 4 E_parent_1) (sSeq (sIf (tOr' (tVal (eOp (eqD false) (eVar 4) (eLst aNil))) (tVal (eOp (eqD false) (eCall F_take (aCons (eVar 0) (aCons (eC (.int 5)) aNil))) (eC (.int 0))))) (sRet (eUn negD (eC (.int 1)))) sNil) (sSeq (sIf (tVal (eOp (eqD false) (eCall F_take (aCons (eVar 0) (aCons (eC (.int 2)) aNil))) (eC (.int 0)))) (sSet 4 (eSlc (eVar 4) (oSome (eUn negD (eC (.int 3)))) oNone)) sNil) (sRet (eOp ixD (eVar 4) (eCall F_take (aCons (eVar 0) (aCons (eCB lenD (aCons (eVar 4) aNil)) aNil))))))))
noncomputable def F_parent : Fx := runF 4 6 B_parent
noncomputable def L_house_1 : Sx := (sSeq (sSet 3 (eCB (two minI) (aCons (eC (.int 99990)) (aCons (eOp addD (eVar 3) (eOp ixD (eLst (aCons (eC (.int 1)) (aCons (eC (.int 0)) (aCons (eC (.int 1)) (aCons (eC (.int 30)) (aCons (eC (.int 299)) (aCons (eC (.int 300)) (aCons (eC (.int 301)) (aCons (eC (.int 6570)) (aCons (eC (.int 2)) (aCons (eC (.int 1)) aNil))))))))))) (eCall F_take (aCons (eVar 0) (aCons (eC (.int 10)) aNil))))) aNil)))) (sSeq (sSet 6 (eCall F_parent (aCons (eVar 0) (aCons (eVar 4) (aCons (eVar 3) (aCons (eC (.int 1)) aNil)))))) (sSeq (sSet 7 (eCall F_parent (aCons (eVar 0) (aCons (eVar 4) (aCons (eVar 3) (aCons (eC (.int 0)) aNil)))))) (sSeq (sSet 8 (eCall F_take (aCons (eVar 0) (aCons (eC (.int 2)) aNil)))) (sDrop (eMt isLst appD (eVar 4) (aCons (eTup (aCons (eVar 3) (aCons (eVar 6) (aCons (eVar 7) (aCons (eVar 8) (aCons (eCB intD (aCons (eOp (cmpD gtI) (eCall F_take (aCons (eVar 0) (aCons (eC (.int 5)) aNil))) (eC (.int 0))) aNil)) aNil)))))) aNil)))))))
noncomputable def B_house : Sx := (sSeq (sSet 2 (eOp addD (eC (.int 1)) (eCall F_take (aCons (eVar 0) (aCons (eVar 1) aNil))))) (sSeq (sSet 3 (eOp ixD (eLst (aCons (eC (.int 0)) (aCons (eC (.int 7)) (aCons (eC (.int 30000)) aNil)))) (eCall F_take (aCons (eVar 0) (aCons (eC (.int 3)) aNil))))) (sSeq (sSet 4 (eOwn (eLst aNil))) (sSeq (sFor (iRngA (aCons (eVar 2) aNil)) (gN 5) L_house_1 [5, 6, 7, 8]) (sRet (eCB tupleD (aCons (eVar 4) aNil)))))))
noncomputable def F_house : Fx := runF 2 9 B_house
theorem par_lc {ns : List Int} {s : St} {m : Mem} {r : Nat} {F : List Fo} (hfo : (stD ns s :: m)[r]? = some (.lst (F.map Fo.d))) (hl : F.length ≤ 60) (day man : Int) :
    E_parent_1
      [some (.r 0), some (.r r), some (.v (.int day)), some (.v (.int man)), none, none] (stD ns s :: m) = some (.f (.lst ((parIs F day man).map nD)), stD ns s :: m) := by
  unfold E_parent_1
  refine lc_map (List.range F.length) nD (parSel F day man) nD ?_ (fun i hi => ⟨_, rfl, ?_, fun _ => ⟨_, rfl, rfl⟩⟩) (by simp; omega)
  · have : ((F.length : Int)) ≤ 1000000000 := by omega
    simp [iRngA, aCons, aNil, eCB, eVar, hfo, this, rng0]
  · have hk := List.mem_range.mp hi
    have ek : F[i]? = some F[i] := List.getElem?_eq_getElem hk
    have sel' : parSel F day man i = (decide (F[i].man = man) && decide (F[i].day < day)) := by unfold parSel; rw [ek]
    rw [sel']
    generalize F[i] = f at ek
    by_cases h1 : f.man = man <;> simp [tAnd', tVal, eOp, eVar, eC, hfo, fo_at ek, h1]
theorem parent_spec {ns : List Int} {s : St} {m : Mem} {r : Nat} {F : List Fo} (hfo : ∀ s', (stD ns s' :: m)[r]? = some (.lst (F.map Fo.d))) (hl : F.length ≤ 60) (day man : Int) :
    ∃ v s', F_parent [.r 0, .r r, .v (.int day), .v (.int man)] (stD ns s :: m) = some (.v (.int v), stD ns s' :: m) ∧ ParOk F day v man := by
  have lc := par_lc (ns := ns) (s := s) (hfo s) hl day man
  have hmem : ∀ i ∈ parIs F day man, ParOk F day i man := fun i hi => (parIs_mem hi).2
  have hL : (parIs F day man).length ≤ 60 := Nat.le_trans parIs_len hl
  generalize parIs F day man = L at lc hmem hL
  -- the end: an item of a list of such numbers
  have fin : ∀ (s3 : St) (K : List Nat), K ≠ [] → (∀ i ∈ K, ParOk F day i man) → K.length ≤ 60 → ∃ v s', (sRet (eOp ixD (eVar 4) (eCall F_take (aCons (eVar 0) (aCons (eCB lenD (aCons (eVar 4) aNil)) aNil))))) [some (.r 0), some (.r r), some (.v (.int day)), some (.v (.int man)), some (.v (.lst (K.map nD))), none] (stD ns s3 :: m) =
        some (.ret (.v (.int v)), [some (.r 0), some (.r r), some (.v (.int day)), some (.v (.int man)), some (.v (.lst (K.map nD))), none], stD ns s' :: m) ∧ ParOk F day v man := by
    intro s3 K hne hb hk
    have kp : 0 < K.length := List.length_pos_iff.mpr hne
    have te : ∀ m', F_take [.r 0, .v (.int (K.length : Int))] (stD ns s3 :: m') = _ := fun m' => take_eq (by omega) (by omega)
    have lo := tk_lo (ns := ns) (s := s3) (b := K.length)
    have hi := tk_hi (ns := ns) (s := s3) (b := K.length) (by omega) (by omega)
    obtain ⟨i, i1, i2, i3⟩ := at_some (xs := K) lo hi
    have e : atI (K.map nD) (tk ns s3 K.length).1 = some (nD i) := at_int lo (by rw [List.getElem?_map, i2]; rfl)
    exact ⟨i, (tk ns s3 K.length).2, by simp [sRet, eOp, eVar, eCall, eCB, aCons, aNil, te, e], hb i i1⟩
  have t5 : ∀ m', F_take [.r 0, .v (.int 5)] (stD ns s :: m') = _ := fun m' => take_eq (by omega) (by omega)
  by_cases hE : L = []
  · subst hE
    have en : eqD false (.lst []) (.lst []) = some (.v (.bl true)) := eq_nil []
    rw [List.map_nil] at lc
    exact ⟨-1, s, by simp only [F_parent, runF, B_parent, startD]; simp [sSeq, sSet, lc, sIf, tOr', tVal, eOp, eVar, eLst, aNil, en, sRet, eUn, eC], .inl rfl⟩
  · have en := eq_nil L
    rw [show L.isEmpty = false by cases L with | nil => exact absurd rfl hE | cons => rfl] at en
    by_cases h5 : (tk ns s 5).1 = 0
    · exact ⟨-1, (tk ns s 5).2, by simp only [F_parent, runF, B_parent, startD]; simp [sSeq, sSet, lc, sIf, tOr', tVal, eOp, eVar, eLst, aNil, aCons, eCall, en, t5, h5, sRet, eUn, eC], .inl rfl⟩
    · have t2 : ∀ m', F_take [.r 0, .v (.int 2)] (stD ns (tk ns s 5).2 :: m') = _ := fun m' => take_eq (by omega) (by omega)
      by_cases h2 : (tk ns (tk ns s 5).2 2).1 = 0
      · obtain ⟨k, ck, kl⟩ := cut3 (L.map nD)
        have kl' := kl (by simpa using hE)
        rw [← List.map_drop] at ck
        obtain ⟨v, s', e, ok⟩ := fin (tk ns (tk ns s 5).2 2).2 (L.drop k) (fun z => by have := congrArg List.length z; simp at this kl'; omega) (fun i hi => hmem i (List.mem_of_mem_drop hi)) (by rw [List.length_drop]; omega)
        refine ⟨v, s', ?_, ok⟩
        have cs : slcD (.lst (L.map nD)) (some (-3)) none = some (.f (.lst ((L.drop k).map nD))) := by simp only [slcD, ck]
        simp only [F_parent, runF, B_parent, startD]
        simp [sSeq, sSet, lc, sIf, tOr', tVal, eOp, eVar, eLst, aNil, aCons, eCall, en, t5, h5, sNil, t2, h2, eSlc, oSome, oNone, eUn, eC, cs, -List.map_drop]
        simp only [sRet, eOp, eVar, eCall, eCB, aCons, aNil] at e ⊢
        simp [-List.map_drop] at e ⊢
        rw [e]; simp
      · obtain ⟨v, s', e, ok⟩ := fin (tk ns (tk ns s 5).2 2).2 L hE hmem hL
        refine ⟨v, s', ?_, ok⟩
        simp only [F_parent, runF, B_parent, startD]
        simp [sSeq, sSet, lc, sIf, tOr', tVal, eOp, eVar, eLst, aNil, aCons, eCall, en, t5, h5, sNil, t2, h2, eC]
        simp only [sRet, eOp, eVar, eCall, eCB, aCons, aNil] at e ⊢
        simp at e ⊢
        rw [e]; simp
end Lx
end
section
set_option Elab.async false
set_option linter.all false
set_option maxRecDepth 100000
set_option maxHeartbeats 4000000
namespace Lx
open PySem L2 Pw
theorem snoc_at {α : Type} {F : List α} {f g : α} {i : Nat} (h : (F ++ [f])[i]? = some g) : (i < F.length ∧ F[i]? = some g) ∨ (i = F.length ∧ g = f) := by
  rcases Nat.lt_trichotomy i F.length with z | z | z
  · rw [List.getElem?_append_left z] at h; exact .inl ⟨z, h⟩
  · subst z
    simp at h
    exact .inr ⟨rfl, h.symm⟩
  · rw [List.getElem?_eq_none (by simp; omega)] at h; cases h
structure HalfHL (lim : Int) (F : List Fo) (day : Int) : Prop where
  d0 : 0 ≤ day
  d1 : day ≤ lim
  top : ∀ f ∈ F, f.day ≤ day
  ok : ∀ f ∈ F, FoOkL lim f
  fa : ∀ (i : Nat) f, F[i]? = some f → ParOk (F.take i) f.day f.fa 1
  mo : ∀ (i : Nat) f, F[i]? = some f → ParOk (F.take i) f.day f.mo 0
  up : F.Pairwise fun f g => f.day ≤ g.day
abbrev HalfH (F : List Fo) (day : Int) : Prop := HalfHL 99990 F day
theorem HalfHL.snoc {lim : Int} {F : List Fo} {day : Int} {f : Fo} (h : HalfHL lim F day) (hd : day ≤ f.day) (ok : FoOkL lim f) (fa : ParOk F f.day f.fa 1) (mo : ParOk F f.day f.mo 0) : HalfHL lim (F ++ [f]) f.day := by
  refine ⟨ok.d0, ok.d1, fun g hg => ?_, fun g hg => ?_, fun i g hg => ?_, fun i g hg => ?_, ?_⟩
  · rcases List.mem_append.mp hg with z | z
    · have := h.top g z; omega
    · rw [List.mem_singleton.mp z]; exact Int.le_refl _
  · rcases List.mem_append.mp hg with z | z
    · exact h.ok g z
    · rw [List.mem_singleton.mp z]; exact ok
  · rcases snoc_at hg with ⟨z1, z2⟩ | ⟨rfl, rfl⟩
    · rw [List.take_append_of_le_length (Nat.le_of_lt z1)]; exact h.fa i g z2
    · rw [List.take_left]; exact fa
  · rcases snoc_at hg with ⟨z1, z2⟩ | ⟨rfl, rfl⟩
    · rw [List.take_append_of_le_length (Nat.le_of_lt z1)]; exact h.mo i g z2
    · rw [List.take_left]; exact mo
  · refine List.pairwise_append.mpr ⟨h.up, by simp, fun a ha b hb => ?_⟩
    rw [List.mem_singleton.mp hb]
    have := h.top a ha; omega
theorem pick_ex (ns : List Int) (s : St) (b : Int) (K : List D) (hb : b = K.length) (h : 0 < K.length) (h2 : K.length < 1000) : ∃ x, x ∈ K ∧ atI K (tk ns s b).1 = some x := by
  subst hb
  obtain ⟨x, h1, _, h3⟩ := at_some (xs := K) (tk_lo (ns := ns) (s := s) (b := K.length)) (tk_hi (by omega) (by omega))
  exact ⟨x, h1, h3⟩
theorem house_specL {ns : List Int} {s : St} {most : Int} (h1 : 1 ≤ most) (h2 : most ≤ 60) (m : Mem) :
    ∃ F s', F_house [.r 0, .v (.int most)] (stD ns s :: m) = some (.v (hD F), stD ns s' :: m) ∧ GoodH F ∧ (F.length : Int) ≤ most := by
  have te : ∀ (s : St) (b : Int) (m : Mem), 0 < b → b < 1073741824 → F_take [.r 0, .v (.int b)] (stD ns s :: m) = _ := fun s b m h h2 => take_eq h h2
  obtain ⟨n, hn⟩ : ∃ n : Nat, 1 + (tk ns s most).1 = (n : Int) := ⟨(1 + (tk ns s most).1).toNat, by have := tk_lo (ns := ns) (s := s) (b := most); omega⟩
  have hnn : 1 ≤ n ∧ (n : Int) ≤ most := by have := tk_lo (ns := ns) (s := s) (b := most); have := tk_hi (ns := ns) (s := s) (b := most) (by omega) (by omega); omega
  obtain ⟨x0, hx0, ex⟩ := pick_ex ns (tk ns s most).2 3 [.int 0, .int 7, .int 30000] rfl (by decide) (by decide)
  obtain ⟨x, rfl, hx⟩ : ∃ z : Int, x0 = .int z ∧ 0 ≤ z ∧ z ≤ 30000 := by
    simp only [List.mem_cons, List.not_mem_nil, or_false] at hx0
    rcases hx0 with h | h | h <;> exact ⟨_, h, by decide⟩
  obtain ⟨ρ', m', e, s', day, F, rfl, rfl, hl, hh⟩ := for_inv (src := iRngA (aCons (eVar 2) aNil)) (t := gN 5) (b := L_house_1) (dd := [5, 6, 7, 8]) (m1 := stD ns (tk ns (tk ns s most).2 3).2 :: (m ++ [.lst []])) (ρ := [some (.r 0), some (.v (.int most)), some (.v (.int (n : Int))), some (.v (.int x)), some (.r (m.length + 1)), none, none, none, none]) (m := stD ns (tk ns (tk ns s most).2 3).2 :: (m ++ [.lst []]))
    (List.range n) nD (fun i ρ mm => ∃ s day F, ρ = [some (.r 0), some (.v (.int most)), some (.v (.int (n : Int))), some (.v (.int day)), some (.r (m.length + 1)), none, none, none, none] ∧ mm = stD ns s :: (m ++ [.lst (F.map Fo.d)]) ∧ F.length = i ∧ HalfH F day)
    (by have : (n : Int) ≤ 1000000000 := by omega
        simp [iRngA, aCons, aNil, eVar, this, rng0]) ⟨_, x, [], rfl, rfl, rfl, hx.1, by omega, (fun f hf => nomatch hf), (fun f hf => nomatch hf), (fun i f hf => by simp at hf), (fun i f hf => by simp at hf), .nil⟩
    (fun k a ha ρ mm inv => by
      obtain ⟨s, day, F, rfl, rfl, hl, hh⟩ := inv
      have hk : k < n := by have := (List.getElem?_eq_some_iff.mp ha).1; simpa using this
      obtain ⟨z0, hz0, ez⟩ := pick_ex ns s 10 [.int 1, .int 0, .int 1, .int 30, .int 299, .int 300, .int 301, .int 6570, .int 2, .int 1] rfl (by decide) (by decide)
      obtain ⟨z, rfl, hz⟩ : ∃ y : Int, z0 = .int y ∧ 0 ≤ y := by
        simp only [List.mem_cons, List.not_mem_nil, or_false] at hz0
        rcases hz0 with h | h | h | h | h | h | h | h | h | h <;> exact ⟨_, h, by decide⟩
      have hfo : ∀ s' : St, (stD ns s' :: (m ++ [MO.lst (F.map Fo.d)]))[m.length + 1]? = some (.lst (F.map Fo.d)) := fun s' => by simp
      obtain ⟨va, sa, ea, ha⟩ := parent_spec (ns := ns) (s := (tk ns s 10).2) hfo (by omega) (min 99990 (day + z)) 1
      obtain ⟨vb, sb, eb, hb⟩ := parent_spec (ns := ns) (s := sa) hfo (by omega) (min 99990 (day + z)) 0
      have l1 := tk_lo (ns := ns) (s := sb) (b := 2)
      have l2 := tk_hi (ns := ns) (s := sb) (b := 2) (by omega) (by omega)
      have hlen : F.length < 1000000 := by omega
      have d0 := hh.d0
      have d1 := hh.d1
      generalize hf : (⟨min 99990 (day + z), va, vb, (tk ns sb 2).1, if 0 < (tk ns (tk ns sb 2).2 5).1 then 1 else 0⟩ : Fo) = f
      have fd : f.day = min 99990 (day + z) := by rw [← hf]
      have fm : f.man = (tk ns sb 2).1 := by rw [← hf]
      have fw : f.wed = if 0 < (tk ns (tk ns sb 2).2 5).1 then 1 else 0 := by rw [← hf]
      have ffa : f.fa = va := by rw [← hf]
      have fmo : f.mo = vb := by rw [← hf]
      refine ⟨_, [some (.r 0), some (.v (.int most)), some (.v (.int (n : Int))), some (.v (.int f.day)), some (.r (m.length + 1)), some (.v (nD a)), some (.v (.int va)), some (.v (.int vb)), some (.v (.int (tk ns sb 2).1))], stD ns (tk ns (tk ns sb 2).2 5).2 :: (m ++ [.lst ((F ++ [f]).map Fo.d)]), rfl, ?_, (tk ns (tk ns sb 2).2 5).2, f.day, F ++ [f], rfl, rfl, by simp [hl], ?_⟩
      rotate_left
      · exact hh.snoc (by rw [fd]; omega) ⟨by rw [fd]; omega, by rw [fd]; omega, by rw [fm]; omega, by rw [fw]; split <;> simp⟩ (by rw [fd, ffa]; exact ha) (by rw [fd, fmo]; exact hb)
      · rw [← hf]
        simp [L_house_1, sSeq, sSet, sDrop, eCB, aCons, aNil, eC, eOp, eVar, eLst, eCall, te, ez, ea, eb, eMt, eTup, hlen, Fo.d])
  refine ⟨F, s', ?_, ⟨by simp at hl; omega, by simp at hl; omega, hh.ok, hh.fa, hh.mo, hh.up, by decide⟩, by simp at hl; omega⟩
  have tm := te s most m (by omega) (by omega)
  simp only [F_house, runF, B_house, startD]
  simp [sSeq, sSet, aCons, aNil, eC, eOp, eVar, eLst, eCall, tm, te, hn, ex, eOwn, e, sRet, eCB]
end Lx
end
section
set_option Elab.async false
set_option linter.all false
set_option maxRecDepth 100000
set_option maxHeartbeats 4000000
namespace Lx
open PySem L2 Pw Pv
structure Nw where
  word : Str
  day : Int
  who : Int
  other : Int
deriving DecidableEq
def Nw.d (n : Nw) : D := .tup [.str n.word, .int n.day, .int n.who, .int n.other]
abbrev bD (B : List Nw) : D := .tup (B.map Nw.d)
def Nw.k (n : Nw) : KT' := [.inr n.word, .inl n.day, .inl n.who, .inl n.other]
structure NwOk (F : List Fo) (n : Nw) : Prop where
  word : n.word ∈ (["dies", "leaves", "cuts", "returns", "awaits"] : List Str)
  w0 : 0 ≤ n.who
  w1 : n.who < F.length
  d0 : 0 ≤ n.day
  d1 : n.day ≤ 99999
  dw : ∀ f, F[n.who.toNat]? = some f → f.day ≤ n.day
  o : n.word ≠ "awaits" → n.other = -1
  o0 : -1 ≤ n.other
  o1 : n.other < F.length
  aw : n.word = "awaits" → (∀ f, F[n.who.toNat]? = some f → f.man = 0 ∧ f.day < n.day) ∧ ParOk F n.day n.other 1
@[simp] theorem nw0 {n : Nw} : ixD n.d (.int 0) = some (.v (.str n.word)) := by simp [Nw.d]
@[simp] theorem nw1 {n : Nw} : ixD n.d (.int 1) = some (.v (.int n.day)) := by simp [Nw.d]
@[simp] theorem nw2 {n : Nw} : ixD n.d (.int 2) = some (.v (.int n.who)) := by simp [Nw.d]
@[simp] theorem nw3 {n : Nw} : ixD n.d (.int 3) = some (.v (.int n.other)) := by simp [Nw.d]
noncomputable def E_news_1 : Ex := eLc (iRngA (aCons (eCB lenD (aCons (eVar 1) aNil)) aNil)) (gN 7) (tAnd' (tVal (eOp (eqD false) (eOp ixD (eOp ixD (eVar 1) (eVar 7)) (eC (.int 3))) (eC (.int 1)))) (tVal (eOp (cmpD ltI) (eOp ixD (eOp ixD (eVar 1) (eVar 7)) (eC (.int 0))) (eVar 5)))) (eVar 7) [7]
noncomputable def B_news : Sx := (sSeq (sSet 2 (eOp ixD (eLst (aCons (eC (.str "dies")) (aCons (eC (.str "leaves")) (aCons (eC (.str "cuts")) (aCons (eC (.str "returns")) (aCons (eC (.str "awaits")) (aCons (eC (.str "cuts")) aNil))))))) (eCall F_take (aCons (eVar 0) (aCons (eC (.int 6)) aNil))))) (sSeq (sSet 3 (eCall F_take (aCons (eVar 0) (aCons (eCB lenD (aCons (eVar 1) aNil)) aNil)))) (sSeq (sSet 4 (eOp subD (eOp addD (eOp ixD (eOp ixD (eVar 1) (eCall F_take (aCons (eVar 0) (aCons (eCB lenD (aCons (eVar 1) aNil)) aNil)))) (eC (.int 0))) (eCall F_take (aCons (eVar 0) (aCons (eC (.int 3)) aNil)))) (eC (.int 1)))) (sSeq (sSet 5 (eCB (two maxI) (aCons (eOp ixD (eOp ixD (eVar 1) (eVar 3)) (eC (.int 0))) (aCons (eVar 4) aNil)))) (sSeq (sFog [6] (sIf (tAnd' (tVal (eOp (eqD false) (eVar 2) (eC (.str "awaits")))) (tVal (eOp (eqD false) (eOp ixD (eOp ixD (eVar 1) (eVar 3)) (eC (.int 3))) (eC (.int 0))))) (sSeq (sSet 5 (eCB (two maxI) (aCons (eOp addD (eOp ixD (eOp ixD (eVar 1) (eVar 3)) (eC (.int 0))) (eC (.int 1))) (aCons (eVar 4) aNil)))) (sSeq (sSet 6 (eOp addD (eLst (aCons (eUn negD (eC (.int 1))) aNil)) E_news_1)) (sRet (eTup (aCons (eVar 2) (aCons (eVar 5) (aCons (eVar 3) (aCons (eOp ixD (eVar 6) (eCall F_take (aCons (eVar 0) (aCons (eCB lenD (aCons (eVar 6) aNil)) aNil)))) aNil)))))))) sNil)) (sRet (eTup (aCons (eOp ixD (eLst (aCons (eVar 2) (aCons (eC (.str "leaves")) aNil))) (eCB intD (aCons (eOp (eqD false) (eVar 2) (eC (.str "awaits"))) aNil))) (aCons (eVar 5) (aCons (eVar 3) (aCons (eUn negD (eC (.int 1))) aNil)))))))))))
noncomputable def F_news : Fx := runF 2 8 B_news
theorem others_lc {F : List Fo} {m : Mem} {x2 x3 x4 x6 : Option W} {day : Int} (hl : F.length ≤ 60) :
    E_news_1 [some (.r 0), some (.v (hD F)), x2, x3, x4, some (.v (.int day)), x6, none] m = some (.f (.lst ((parIs F day 1).map nD)), m) := by
  unfold E_news_1
  refine lc_map (List.range F.length) nD (parSel F day 1) nD ?_ (fun i hi => ⟨_, rfl, ?_, fun _ => ⟨_, rfl, rfl⟩⟩) (by simp; omega)
  · have : ((F.length : Int)) ≤ 1000000000 := by omega
    simp [iRngA, aCons, aNil, eCB, eVar, this, rng0]
  · have hk := List.mem_range.mp hi
    have ek : F[i]? = some F[i] := List.getElem?_eq_getElem hk
    have sel' : parSel F day 1 i = (decide (F[i].man = 1) && decide (F[i].day < day)) := by unfold parSel; rw [ek]
    rw [sel']
    generalize F[i] = f at ek
    by_cases h1 : f.man = 1 <;> simp [tAnd', tVal, eOp, eVar, eC, fo_at ek, h1]
theorem news_spec {ns : List Int} {s : St} {m : Mem} {F : List Fo} {lim : Int} (hF : GoodHL lim F) (hlim : lim ≤ 99995 := by decide) :
    ∃ n s', F_news [.r 0, .v (hD F)] (stD ns s :: m) = some (.v (Nw.d n), stD ns s' :: m) ∧ NwOk F n := by
  have l0 := hF.ne
  have l1 := hF.le
  have te : ∀ (s : St) (b : Int) (m : Mem), 0 < b → b < 1073741824 → F_take [.r 0, .v (.int b)] (stD ns s :: m) = _ := fun s b m h h2 => take_eq h h2
  have tl : ∀ (s : St) (m : Mem), F_take [.r 0, .v (.int (F.length : Int))] (stD ns s :: m) = _ := fun s m => take_eq (by omega) (by omega)
  obtain ⟨x, hx, ex⟩ := pick_ex ns s 6 [.str "dies", .str "leaves", .str "cuts", .str "returns", .str "awaits", .str "cuts"] rfl (by decide) (by decide)
  obtain ⟨word, rfl, hw⟩ : ∃ w : Str, x = .str w ∧ w ∈ (["dies", "leaves", "cuts", "returns", "awaits"] : List Str) := by
    simp only [List.mem_cons, List.not_mem_nil, or_false] at hx
    rcases hx with h | h | h | h | h | h <;> exact ⟨_, h, by simp⟩
  generalize hs1 : (tk ns s 6).2 = s1
  have who0 := tk_lo (ns := ns) (s := s1) (b := F.length)
  have who1 := tk_hi (ns := ns) (s := s1) (b := F.length) (by omega) (by omega)
  generalize hs2 : (tk ns s1 F.length).2 = s2
  generalize hwho : (tk ns s1 F.length).1 = who at who0 who1
  have v0 := tk_lo (ns := ns) (s := s2) (b := F.length)
  have v1 := tk_hi (ns := ns) (s := s2) (b := F.length) (by omega) (by omega)
  generalize hs3 : (tk ns s2 F.length).2 = s3
  generalize hv : (tk ns s2 F.length).1 = v at v0 v1
  have t0 := tk_lo (ns := ns) (s := s3) (b := 3)
  have t1 := tk_hi (ns := ns) (s := s3) (b := 3) (by omega) (by omega)
  generalize hs4 : (tk ns s3 3).2 = s4
  generalize ht : (tk ns s3 3).1 = t at t0 t1
  obtain ⟨fv, vm, _, ev⟩ := fo_some (F := F) v0 v1
  obtain ⟨f, fm, fe, ef⟩ := fo_some (F := F) who0 who1
  have okv := hF.ok fv vm
  have okf := hF.ok f fm
  have a1 := okf.d0; have a2 := okf.d1; have a3 := okv.d0; have a4 := okv.d1
  by_cases hA : word = "awaits" ∧ f.man = 0
  · have lc : ∀ (x6 : Option W) (m : Mem), E_news_1 [some (.r 0), some (.v (hD F)), some (.v (.str word)), some (.v (.int who)), some (.v (.int (fv.day + t - 1))), some (.v (.int (max (f.day + 1) (fv.day + t - 1)))), x6, none] m = _ := fun x6 m => others_lc l1
    have pl : (parIs F (max (f.day + 1) (fv.day + t - 1)) 1).length ≤ 60 := Nat.le_trans parIs_len l1
    obtain ⟨y, hy, ey⟩ := pick_ex ns s4 (((parIs F (max (f.day + 1) (fv.day + t - 1)) 1).length + 1 : Nat) : Int) (.int (-1) :: (parIs F (max (f.day + 1) (fv.day + t - 1)) 1).map nD) (by simp) (by simp) (by simp; omega)
    have tp : ∀ m : Mem, F_take [.r 0, .v (.int (((parIs F (max (f.day + 1) (fv.day + t - 1)) 1).length : Int) + 1))] (stD ns s4 :: m) = _ := fun m => take_eq (by omega) (by omega)
    obtain ⟨o, rfl, ho, ho0, ho1⟩ : ∃ o : Int, y = .int o ∧ ParOk F (max (f.day + 1) (fv.day + t - 1)) o 1 ∧ -1 ≤ o ∧ o < F.length := by
      rcases List.mem_cons.mp hy with h | h
      · exact ⟨-1, h, .inl rfl, by omega, by omega⟩
      · obtain ⟨i, hi, rfl⟩ := List.mem_map.mp h
        obtain ⟨q1, q2⟩ := parIs_mem hi
        exact ⟨i, rfl, q2, by omega, by omega⟩
    have al : 1 + (parIs F (max (f.day + 1) (fv.day + t - 1)) 1).length ≤ 1000000 := by omega
    refine ⟨⟨word, max (f.day + 1) (fv.day + t - 1), who, o⟩, (tk ns s4 (((parIs F (max (f.day + 1) (fv.day + t - 1)) 1).length : Int) + 1)).2, ?_, ⟨hw, who0, who1, by show 0 ≤ max (f.day + 1) (fv.day + t - 1); omega, by show max (f.day + 1) (fv.day + t - 1) ≤ 99999; omega, fun g hg => ?_, fun h => absurd hA.1 h, ho0, ho1, fun _ => ⟨fun g hg => ?_, ho⟩⟩⟩
    · have e1 : decide (word = "awaits") = true := decide_eq_true hA.1
      simp only [Int.natCast_add, Int.natCast_one] at ey
      simp only [F_news, runF, B_news, startD]
      simp [sFog, sSeq, sSet, aCons, aNil, eC, eOp, eVar, eLst, eCall, te, tl, ex, hs1, hs2, hwho, hs3, hv, hs4, ht, ev, ef, eCB, sIf, tAnd', tVal, e1, hA.2, eUn, lc, al, tp, ey, sRet, eTup, Nw.d]
    · show g.day ≤ max (f.day + 1) (fv.day + t - 1)
      have : f = g := Option.some.inj (fe.symm.trans hg)
      subst this; omega
    · have : f = g := Option.some.inj (fe.symm.trans hg)
      subst this
      exact ⟨hA.2, by show f.day < max (f.day + 1) (fv.day + t - 1); omega⟩
  · obtain ⟨w2, e2, hw2, hna⟩ : ∃ w2 : Str, atI [D.str word, D.str "leaves"] (if decide (word = "awaits") = true then 1 else 0) = some (.str w2) ∧ w2 ∈ (["dies", "leaves", "cuts", "returns", "awaits"] : List Str) ∧ w2 ≠ "awaits" := by
      by_cases h : word = "awaits"
      · exact ⟨"leaves", by simp [h], by simp, by decide⟩
      · exact ⟨word, by simp [h], hw, h⟩
    refine ⟨⟨w2, max f.day (fv.day + t - 1), who, -1⟩, s4, ?_, ⟨hw2, who0, who1, by show 0 ≤ max f.day (fv.day + t - 1); omega, by show max f.day (fv.day + t - 1) ≤ 99999; omega, fun g hg => ?_, fun _ => rfl, Int.le_refl _, by show (-1 : Int) < F.length; omega, fun h => absurd h hna⟩⟩
    · simp only [F_news, runF, B_news, startD]
      by_cases h : word = "awaits"
      · have h2 : ¬ f.man = 0 := fun z => hA ⟨h, z⟩
        have e2' : w2 = "leaves" := by simpa [h] using e2.symm
        subst e2'
        subst h
        simp [sFog, sSeq, sSet, aCons, aNil, eC, eOp, eVar, eLst, eCall, te, tl, ex, hs1, hs2, hwho, hs3, hv, hs4, ht, ev, ef, eCB, sIf, tAnd', tVal, h2, sNil, eUn, sRet, eTup, Nw.d]
      · have e2' : word = w2 := by simpa [h] using e2
        subst e2'
        simp [sFog, sSeq, sSet, aCons, aNil, eC, eOp, eVar, eLst, eCall, te, tl, ex, hs1, hs2, hwho, hs3, hv, hs4, ht, ev, ef, eCB, sIf, tAnd', tVal, h, sNil, eUn, sRet, eTup, Nw.d]
    · show g.day ≤ max f.day (fv.day + t - 1)
      have : f = g := Option.some.inj (fe.symm.trans hg)
      subst this; omega
end Lx
end
section
set_option Elab.async false
set_option linter.all false
set_option maxRecDepth 100000
set_option maxHeartbeats 4000000
namespace Lx
open PySem L2 Pw Pv
def nLt (a b : Nw) : Bool := kLt a.k b.k
theorem nk_inj {a b : Nw} (h : a.k = b.k) : a = b := by
  cases a; cases b
  simp only [Nw.k, List.cons.injEq, Sum.inr.injEq, Sum.inl.injEq, and_true] at h
  obtain ⟨h1, h2, h3, h4⟩ := h
  subst h1; subst h2; subst h3; subst h4; rfl
theorem lin_n : Lin nLt := ⟨fun _ => lin_k.irr _, fun _ _ _ => lin_k.tr _ _ _, fun _ _ h1 h2 => nk_inj (lin_k.tot _ _ h1 h2)⟩
theorem insU_map {x : Nw} : ∀ {l : List Nw}, (insU nLt x l).map Nw.k = insU kLt x.k (l.map Nw.k)
  | [] => rfl
  | y :: l => by
    unfold insU
    rw [List.map_cons]
    simp only []
    by_cases h : x = y
    · subst h; rw [if_pos rfl, if_pos rfl, List.map_cons]
    · rw [if_neg h, if_neg (fun z => h (nk_inj z))]
      by_cases h2 : kLt x.k y.k = true
      · rw [if_pos h2, if_pos (show nLt x y = true from h2)]; rfl
      · rw [if_neg h2, if_neg (show ¬ nLt x y = true from h2), List.map_cons, insU_map]
theorem sortU_map : ∀ Ns : List Nw, (sortU nLt Ns).map Nw.k = sortU kLt (Ns.map Nw.k)
  | [] => rfl
  | n :: Ns => by
    show (insU nLt n (sortU nLt Ns)).map Nw.k = insU kLt n.k (sortU kLt (Ns.map Nw.k))
    rw [insU_map, sortU_map]
theorem allT_n : ∀ Ns : List Nw, allT (Ns.map Nw.d) = some (Ns.map Nw.k)
  | [] => rfl
  | n :: Ns => by
    rw [List.map_cons, Nw.d, allT, allT_n Ns]
    simp [allK, Nw.k]
theorem sortSet_n {x : D} {Ns : List Nw} (hx : itmD x = some (Ns.map Nw.d)) (hl : Ns.length < 64) : sortSetD [x] = some (.f (.lst ((sortU nLt Ns).map Nw.d))) := by
  simp only [sortSetD, hx, Option.bind_some]
  cases Ns with
  | nil => rfl
  | cons n Ns =>
    have h1 : allI ((n :: Ns).map Nw.d) = none := by simp [Nw.d, allI]
    rw [h1, allT_n]
    simp only [Option.bind_some]
    rw [if_pos]
    · have e : ((sortU nLt (n :: Ns)).map Nw.d) = (sortU kLt ((n :: Ns).map Nw.k)).map tD := by rw [← sortU_map, List.map_map]; rfl
      rw [e]
    · refine ⟨by simpa using hl, ?_⟩
      unfold oneSh
      refine List.all_eq_true.mpr fun k hk => ?_
      obtain ⟨z, _, rfl⟩ := List.mem_map.mp hk
      rfl
structure GoodB (F : List Fo) (B : List Nw) : Prop where
  ok : ∀ n ∈ B, NwOk F n
  le : B.length < 64
  up : B.Pairwise fun a b => nLt a b = true
structure Rw where
  founder : Int
  men : Str
  wed : Int
  way : Str
deriving DecidableEq
def Rw.d (r : Rw) : D := .tup [.int r.founder, .str r.men, .int r.wed, .str r.way]
@[simp] theorem rw0 {r : Rw} : ixD r.d (.int 0) = some (.v (.int r.founder)) := by simp [Rw.d]
@[simp] theorem rw1 {r : Rw} : ixD r.d (.int 1) = some (.v (.str r.men)) := by simp [Rw.d]
@[simp] theorem rw2 {r : Rw} : ixD r.d (.int 2) = some (.v (.int r.wed)) := by simp [Rw.d]
@[simp] theorem rw3 {r : Rw} : ixD r.d (.int 3) = some (.v (.str r.way)) := by simp [Rw.d]
end Lx
end
section
set_option Elab.async false
set_option linter.all false
set_option maxRecDepth 100000
set_option maxHeartbeats 1000000
namespace Lk
open PySem L2 Pw Pv Lx
section
variable {α : Type} {src : Ix} {t : Gx} {c : Tx} {f : Ex} {vs : List Nat} {ρ : Pw.Env} {m m1 : Mem}
theorem lcL_sel {xs : List D} {ρ : Pw.Env} (Inv : Nat → List D → Mem → Prop) (g : α → D) : ∀ (L : List α) (i : Nat), (∀ k a, L[k]? = some a → ∀ acc m, Inv (i + k) acc m → ∃ ρ1 b m1, t (g a) ρ = some ρ1 ∧ c ρ1 m = some (b, m1) ∧ (b = true → ∃ w v, f ρ1 m1 = some (w, m1) ∧ vl w = some v ∧ Inv (i + k + 1) (acc ++ [v]) m1) ∧ (b = false → Inv (i + k + 1) acc m1)) →
    ∀ (acc : List D) (m : Mem), Inv i acc m → acc.length + L.length ≤ 1000000 → ∃ acc' m', lcL (.seq xs) xs t c f ρ (L.map g) acc m = some (acc', m') ∧ Inv (i + L.length) acc' m'
  | [], i, step, acc, m, inv, _ => ⟨acc, m, by simp [lcL, itemsAt], by simpa using inv⟩
  | a :: L, i, step, acc, m, inv, hl => by
    rw [List.length_cons] at hl
    obtain ⟨ρ1, b, m1, q1, q2, q3, q4⟩ := step 0 a rfl acc m inv
    have next : ∀ acc2 m2, Inv (i + 1) acc2 m2 → acc2.length + L.length ≤ 1000000 → ∃ acc' m', lcL (.seq xs) xs t c f ρ (L.map g) acc2 m2 = some (acc', m') ∧ Inv (i + 1 + L.length) acc' m' := fun acc2 m2 hi h2 =>
      lcL_sel Inv g L (i + 1) (fun k a ha acc m hi => by
        have := step (k + 1) a (by simpa using ha) acc m (by rw [show i + (k + 1) = i + 1 + k by omega]; exact hi)
        rw [show i + (k + 1) + 1 = i + 1 + k + 1 by omega] at this
        exact this) acc2 m2 hi h2
    rw [List.map_cons, List.length_cons, show i + (L.length + 1) = i + 1 + L.length by omega]
    unfold lcL
    rw [if_pos (show itemsAt (.seq xs) m = some xs from rfl)]
    simp only [q1, q2, Option.bind_some]
    cases b with
    | true =>
      obtain ⟨w, v, f1, f2, hi⟩ := q3 rfl
      obtain ⟨acc', m', e, hi'⟩ := next (acc ++ [v]) m1 hi (by simp; omega)
      refine ⟨acc', m', ?_, hi'⟩
      simp only [if_true, f1, f2, Option.bind_some]
      rw [if_pos (by omega)]
      exact e
    | false =>
      obtain ⟨acc', m', e, hi'⟩ := next acc m1 (q4 rfl) (by omega)
      refine ⟨acc', m', ?_, hi'⟩
      simpa using e
theorem lc_sel (L : List α) (g : α → D) (Inv : Nat → List D → Mem → Prop) (hs : src ρ m = some (.seq (L.map g), m1)) (h0 : Inv 0 [] m1)
    (step : ∀ k a, L[k]? = some a → ∀ acc m, Inv k acc m → ∃ ρ1 b m1, t (g a) (wipeD ρ vs) = some ρ1 ∧ c ρ1 m = some (b, m1) ∧ (b = true → ∃ w v, f ρ1 m1 = some (w, m1) ∧ vl w = some v ∧ Inv (k + 1) (acc ++ [v]) m1) ∧ (b = false → Inv (k + 1) acc m1)) (hl : L.length ≤ 1000000) :
    ∃ acc m', eLc src t c f vs ρ m = some (.f (.lst acc), m') ∧ Inv L.length acc m' := by
  obtain ⟨acc, m', e, inv⟩ := lcL_sel (xs := L.map g) Inv g L 0 (fun k a ha acc m hi => by
    have := step k a ha acc m (by simpa using hi)
    simpa using this) [] m1 h0 (by simpa using hl)
  refine ⟨acc, m', ?_, by simpa using inv⟩
  unfold eLc
  rw [hs]
  simp only [Option.bind_some, items_seq]
  rw [e]; rfl
end
end Lk
end
section
set_option Elab.async false
set_option linter.all false
set_option maxRecDepth 100000
set_option maxHeartbeats 4000000
namespace Lx
open PySem L2 Pw Pv
@[simp] theorem s1 : (("only" : Str) = "first") = False := by decide
@[simp] theorem s2 : (("first" : Str) = "only") = False := by decide
def dayP (day who : Int) (word : Str) (n : Nw) : Bool := decide (n.word = word) && (decide (n.day ≤ day) && decide (n.who = who))
def daysOf (B : List Nw) (day who : Int) (word : Str) : List Int := (B.filter (dayP day who word)).map Nw.day
def backOf (B : List Nw) (day who : Int) : Int := ((daysOf B day who "returns").foldl bst_max none).getD (-1)
def behind (B : List Nw) (day who : Int) (word : Str) : List Int := (daysOf B day who word).filter fun d => decide (backOf B day who < d)
def cutFrom (B : List Nw) (day who : Int) : Int := ((behind B day who "cuts").foldl bst_min none).getD (-1)
def manP (F : List Fo) (i : Nat) : Bool := match F[i]? with
  | some f => decide (f.man = 1)
  | none => false
def kidP (F : List Fo) (who : Int) (i : Nat) : Bool := match F[i]? with
  | some f => (f.fa == who || f.mo == who)
  | none => false
def ccP (F : List Fo) (r : Rw) (day cut : Int) (i : Nat) : Bool := match F[i]? with
  | some f => !(decide (day < f.day) || (decide (r.wed = 1) && !decide (f.wed = 1))) && (decide (cut = -1) || decide (f.day < cut))
  | none => false
def kids (F : List Fo) (who : Int) : List Nat := (List.range F.length).filter (kidP F who)
def foundOf (F : List Fo) (B : List Nw) (r : Rw) (day who : Int) : List Nat := (kids F who).filter (ccP F r day (cutFrom B day who))
def stepsOf (F : List Fo) (B : List Nw) (r : Rw) (day : Int) (w : Nat) : List Nat :=
  if r.men = "only" ∧ manP F w = false then [] else if r.men = "first" then (foundOf F B r day w).filter (manP F) ++ (foundOf F B r day w).filter (fun i => !manP F i) else foundOf F B r day w
noncomputable def E_days_of_1 : Ex := eLc (iSeq (eVar 0)) (gN 4) (tAnd' (tVal (eOp (eqD false) (eOp ixD (eVar 4) (eC (.int 0))) (eVar 3))) (tAnd' (tVal (eOp (cmpD leI) (eOp ixD (eVar 4) (eC (.int 1))) (eVar 1))) (tVal (eOp (eqD false) (eOp ixD (eVar 4) (eC (.int 2))) (eVar 2))))) (eOp ixD (eVar 4) (eC (.int 1))) [4]
noncomputable def B_days_of : Sx := (sRet E_days_of_1)
noncomputable def F_days_of : Fx := runF 4 5 B_days_of
noncomputable def E_days_behind_back_1 : Ex := eLc (iSeq (eCall F_days_of (aCons (eVar 0) (aCons (eVar 1) (aCons (eVar 2) (aCons (eVar 3) aNil)))))) (gN 5) (tVal (eOp (cmpD gtI) (eVar 5) (eVar 4))) (eVar 5) [5]
noncomputable def B_days_behind_back : Sx := (sSeq (sSet 4 (eBest Pv.bst_max (eCall F_days_of (aCons (eVar 0) (aCons (eVar 1) (aCons (eVar 2) (aCons (eC (.str "returns")) aNil))))) (eUn negD (eC (.int 1))))) (sRet E_days_behind_back_1))
noncomputable def F_days_behind_back : Fx := runF 4 6 B_days_behind_back
noncomputable def B_cut_from : Sx := (sRet (eBest Pv.bst_min (eCall F_days_behind_back (aCons (eVar 0) (aCons (eVar 1) (aCons (eVar 2) (aCons (eC (.str "cuts")) aNil))))) (eUn negD (eC (.int 1)))))
noncomputable def F_cut_from : Fx := runF 3 3 B_cut_from
@[simp] theorem days_of_spec {B : List Nw} {day who : Int} {word : Str} {m : Mem} (hl : B.length ≤ 1000) : F_days_of [.v (bD B), .v (.int day), .v (.int who), .v (.str word)] m = some (.f (.lst ((daysOf B day who word).map .int)), m) := by
  have lc : E_days_of_1 [some (.v (bD B)), some (.v (.int day)), some (.v (.int who)), some (.v (.str word)), none] m = some (.f (.lst ((B.filter (dayP day who word)).map fun n => .int n.day)), m) := by
    refine lc_map B Nw.d (dayP day who word) (fun n => .int n.day) (by simp [iSeq, eVar]) (fun n hn => ⟨_, rfl, ?_, fun _ => ⟨.v (.int n.day), by simp [eOp, eVar, eC], rfl⟩⟩) (by omega)
    unfold dayP
    by_cases h1 : n.word = word <;> by_cases h2 : n.day ≤ day <;> simp [tAnd', tVal, eOp, eVar, eC, h1, h2]
  simp only [F_days_of, runF, B_days_of, startD]
  simp [sRet, lc, daysOf, Function.comp_def]
theorem daysOf_len (B : List Nw) (day who : Int) (word : Str) : (daysOf B day who word).length ≤ B.length := by
  unfold daysOf; rw [List.length_map]; exact List.length_filter_le _ _
@[simp] theorem allI_ints : ∀ is : List Int, allI (is.map D.int) = some is
  | [] => rfl
  | i :: is => by rw [List.map_cons, allI, allI_ints is]; rfl
@[simp] theorem best_l {f : Option Int → Int → Option Int} {is : List Int} {d : Int} : bestD f (.lst (is.map .int)) (.int d) = some (.v (.int ((is.foldl f none).getD d))) := by
  unfold bestD
  simp only [itmL, Option.bind_some, allI_ints]
  cases is.foldl f none <;> rfl
@[simp] theorem behind_spec {B : List Nw} {day who : Int} {word : Str} {m : Mem} (hl : B.length ≤ 1000) : F_days_behind_back [.v (bD B), .v (.int day), .v (.int who), .v (.str word)] m = some (.f (.lst ((behind B day who word).map .int)), m) := by
  have lc : E_days_behind_back_1 [some (.v (bD B)), some (.v (.int day)), some (.v (.int who)), some (.v (.str word)), some (.v (.int (backOf B day who))), none] m = some (.f (.lst ((behind B day who word).map .int)), m) := by
    refine lc_map (daysOf B day who word) D.int (fun d => decide (backOf B day who < d)) D.int (by simp [iSeq, eCall, aCons, aNil, eVar, hl]) (fun n hn => ⟨_, rfl, ?_, fun _ => ⟨.v (.int n), by simp [eVar], rfl⟩⟩) (by have := daysOf_len B day who word; omega)
    simp [tVal, eOp, eVar]
  simp only [F_days_behind_back, runF, B_days_behind_back, startD]
  simp [sSeq, sSet, eBest, eCall, aCons, aNil, eVar, eC, eUn, hl, sRet]
  rw [show (List.foldl bst_max none (daysOf B day who "returns")).getD (-1) = backOf B day who from rfl, lc]
  simp
@[simp] theorem cut_from_spec {B : List Nw} {day who : Int} {m : Mem} (hl : B.length ≤ 1000) : F_cut_from [.v (bD B), .v (.int day), .v (.int who)] m = some (.v (.int (cutFrom B day who)), m) := by
  simp only [F_cut_from, runF, B_cut_from, startD]
  simp [eBest, eCall, aCons, aNil, eVar, eC, eUn, hl, sRet, cutFrom]
end Lx
end
section
set_option Elab.async false
set_option linter.all false
set_option maxRecDepth 100000
set_option maxHeartbeats 4000000
namespace Lx
open PySem L2 Pw Pv
theorem max_some : ∀ (l : List Int) (b : Int), ∃ y, l.foldl bst_max (some b) = some y ∧ (y = b ∨ y ∈ l) ∧ b ≤ y ∧ ∀ z ∈ l, z ≤ y
  | [], b => ⟨b, rfl, .inl rfl, Int.le_refl _, fun z hz => absurd hz List.not_mem_nil⟩
  | x :: l, b => by
    by_cases h : x > b
    · obtain ⟨y, e, h1, h2, h3⟩ := max_some l x
      refine ⟨y, by simp only [List.foldl_cons, bst_max, if_pos h]; exact e, .inr ?_, by omega, fun z hz => ?_⟩
      · rcases h1 with rfl | h1
        · exact List.mem_cons_self
        · exact List.mem_cons_of_mem _ h1
      · rcases List.mem_cons.mp hz with rfl | hz
        · exact h2
        · exact h3 z hz
    · obtain ⟨y, e, h1, h2, h3⟩ := max_some l b
      refine ⟨y, by simp only [List.foldl_cons, bst_max, if_neg h]; exact e, ?_, h2, fun z hz => ?_⟩
      · rcases h1 with rfl | h1
        · exact .inl rfl
        · exact .inr (List.mem_cons_of_mem _ h1)
      · rcases List.mem_cons.mp hz with rfl | hz
        · omega
        · exact h3 z hz
theorem min_some : ∀ (l : List Int) (b : Int), ∃ y, l.foldl bst_min (some b) = some y ∧ (y = b ∨ y ∈ l) ∧ y ≤ b ∧ ∀ z ∈ l, y ≤ z
  | [], b => ⟨b, rfl, .inl rfl, Int.le_refl _, fun z hz => absurd hz List.not_mem_nil⟩
  | x :: l, b => by
    by_cases h : x < b
    · obtain ⟨y, e, h1, h2, h3⟩ := min_some l x
      refine ⟨y, by simp only [List.foldl_cons, bst_min, if_pos h]; exact e, .inr ?_, by omega, fun z hz => ?_⟩
      · rcases h1 with rfl | h1
        · exact List.mem_cons_self
        · exact List.mem_cons_of_mem _ h1
      · rcases List.mem_cons.mp hz with rfl | hz
        · exact h2
        · exact h3 z hz
    · obtain ⟨y, e, h1, h2, h3⟩ := min_some l b
      refine ⟨y, by simp only [List.foldl_cons, bst_min, if_neg h]; exact e, ?_, h2, fun z hz => ?_⟩
      · rcases h1 with rfl | h1
        · exact .inl rfl
        · exact .inr (List.mem_cons_of_mem _ h1)
      · rcases List.mem_cons.mp hz with rfl | hz
        · omega
        · exact h3 z hz
theorem max_def (l : List Int) (d : Int) : (l = [] ∧ (l.foldl bst_max none).getD d = d) ∨ ((l.foldl bst_max none).getD d ∈ l ∧ ∀ z ∈ l, z ≤ (l.foldl bst_max none).getD d) := by
  cases l with
  | nil => exact .inl ⟨rfl, rfl⟩
  | cons x l =>
    right
    obtain ⟨y, e, h1, h2, h3⟩ := max_some l x
    have : (x :: l).foldl bst_max none = some y := e
    rw [this]
    refine ⟨?_, fun z hz => ?_⟩
    · rcases h1 with rfl | h1
      · exact List.mem_cons_self
      · exact List.mem_cons_of_mem _ h1
    · rcases List.mem_cons.mp hz with rfl | hz
      · exact h2
      · exact h3 z hz
theorem min_def (l : List Int) (d : Int) : (l = [] ∧ (l.foldl bst_min none).getD d = d) ∨ ((l.foldl bst_min none).getD d ∈ l ∧ ∀ z ∈ l, (l.foldl bst_min none).getD d ≤ z) := by
  cases l with
  | nil => exact .inl ⟨rfl, rfl⟩
  | cons x l =>
    right
    obtain ⟨y, e, h1, h2, h3⟩ := min_some l x
    have : (x :: l).foldl bst_min none = some y := e
    rw [this]
    refine ⟨?_, fun z hz => ?_⟩
    · rcases h1 with rfl | h1
      · exact List.mem_cons_self
      · exact List.mem_cons_of_mem _ h1
    · rcases List.mem_cons.mp hz with rfl | hz
      · exact h2
      · exact h3 z hz
end Lx
end
section
set_option Elab.async false
set_option linter.all false
set_option maxRecDepth 100000
set_option maxHeartbeats 4000000
namespace Lx
open PySem L2 Pw Pv
@[simp] theorem set_last {m : Mem} {a b : MO} : (m ++ [a]).set m.length b = m ++ [b] := by simp
end Lx
end
section
set_option Elab.async false
set_option linter.all false
set_option maxRecDepth 100000
set_option maxHeartbeats 4000000
namespace Lx
open PySem L2 Pw Pv
end Lx
end
section
set_option Elab.async false
set_option linter.all false
set_option maxRecDepth 100000
set_option maxHeartbeats 4000000
namespace Lx
open PySem PySem.Spec PyProof.Rows L2 Pw Pv
mutual
def okE : Nat → D → Bool
  | _, .non => true
  | _, .bl _ => true
  | _, .int i => decide (i.natAbs < 10 ^ 30)
  | _, .str x => decide ((reprText x).length ≤ 2000)
  | 0, .tup _ => false
  | n + 1, .tup ds => okEs n ds
  | 0, .fl _ => false
  | n + 1, .fl ds => okEs n ds
  | 0, .lst _ => false
  | n + 1, .lst ds => okEs n ds
  | _, .tx _ => false
  | _, .dk _ => false
  | _, .dt _ => false
  | _, .rl _ _ => false
def okEs : Nat → List D → Bool
  | _, [] => true
  | n, d :: ds => okE n d && okEs n ds
end
mutual
def szE : D → Nat
  | .tup ds => 3 + szEs ds
  | .fl ds => 3 + szEs ds
  | .lst ds => 3 + szEs ds
  | _ => 2000
def szEs : List D → Nat
  | [] => 0
  | d :: ds => szE d + 2 + szEs ds
end
theorem tt_le (ts : List Str) : (tupleText ts).length ≤ 3 + piled ts := by
  have e : (tupleText ts).length = 1 + (Str.join ", " ts).length + (if ts.length == 1 then 2 else 1) := by
    unfold tupleText
    rw [Str.length_append, Str.length_append]
    split <;> rfl
  rw [e]
  cases ts with
  | nil => decide
  | cons t ts =>
    have := join_length_add (t :: ts) (by simp)
    split <;> omega
theorem from_le : ∀ (ts : List Str) (k : Nat) (acc : Str), (textFrom k acc ts).length ≤ acc.length + piled ts
  | [], k, acc => Nat.le_add_right _ _
  | t :: r, k, acc => by
    have ih := from_le r (k + 1) (acc ++ (if k > 0 then ", " else "" : String) ++ t)
    have e : (textFrom k acc (t :: r)) = textFrom (k + 1) (acc ++ (if k > 0 then ", " else "" : String) ++ t) r := rfl
    rw [e, piled_cons]
    refine Nat.le_trans ih ?_
    rw [Str.length_append, Str.length_append]
    have : ((if k > 0 then ", " else "" : String) : Str).length ≤ 2 := by split <;> decide
    omega
theorem lt_le (ts : List Str) : (listText ts).length ≤ 3 + piled ts := by
  unfold listText
  rw [Str.length_append]
  have h1 := from_le ts 0 "["
  have h2 : (("[" : Str)).length = 1 := rfl
  have h3 : (("]" : Str)).length = 1 := rfl
  omega
theorem int_shown {i : Int} (h : i.natAbs < 10 ^ 30) : (PyData.int i).showable = true ∧ (PyData.int i).shown.length ≤ 2000 := by
  have h2 : i.natAbs < 2 ^ 200 := Nat.lt_of_lt_of_le h (by decide)
  have h3 : i.natAbs.log2 < 200 := by
    by_cases hz : i.natAbs = 0
    · rw [hz]; decide
    · exact (Nat.log2_lt hz).mpr h2
  refine ⟨?_, ?_⟩
  · rw [PyData.showable, decide_eq_true_eq]
    exact Nat.lt_of_lt_of_le h3 (by decide)
  · rw [PyData.shown]
    exact Nat.le_trans (PyProof.Rows.int_text_len_1921 (Nat.lt_of_lt_of_le h3 (by decide))) (by decide)
mutual
theorem okE_shown : ∀ (n : Nat) (d : D), okE n d = true → ∃ p, pyD d = some p ∧ p.showable = true ∧ p.hasDict = false ∧ p.depth ≤ n ∧ p.shown.length ≤ szE d
  | n, .non, h => by rw [pyD]; exact ⟨_, rfl, rfl, rfl, Nat.zero_le _, by decide⟩
  | n, .bl b, h => by rw [pyD]; exact ⟨_, rfl, rfl, rfl, Nat.zero_le _, by cases b <;> decide⟩
  | n, .int i, h => by
    rw [okE, decide_eq_true_eq] at h
    rw [pyD]
    exact ⟨_, rfl, (int_shown h).1, rfl, Nat.zero_le _, (int_shown h).2⟩
  | n, .str x, h => by
    rw [okE, decide_eq_true_eq] at h
    rw [pyD]
    exact ⟨_, rfl, rfl, rfl, Nat.zero_le _, h⟩
  | 0, .tup ds, h => by simp [okE] at h
  | n + 1, .tup ds, h => by
    rw [okE] at h
    obtain ⟨ps, e0, a, b, c, e⟩ := okEs_shown n ds h
    refine ⟨.tuple ps, by rw [pyD, e0]; rfl, by rw [PyData.showable]; exact a, by rw [PyData.hasDict]; exact b, by rw [PyData.depth]; omega, ?_⟩
    rw [PyData.shown, szE]
    exact Nat.le_trans (tt_le _) (by omega)
  | n, .tx ds, h => by simp [okE] at h
  | 0, .fl ds, h => by simp [okE] at h
  | n + 1, .fl ds, h => by
    rw [okE] at h
    obtain ⟨ps, e0, a, b, c, e⟩ := okEs_shown n ds h
    refine ⟨.list ps, by rw [pyD, e0]; rfl, by rw [PyData.showable]; exact a, by rw [PyData.hasDict]; exact b, by rw [PyData.depth]; omega, ?_⟩
    rw [PyData.shown, szE]
    exact Nat.le_trans (lt_le _) (by omega)
  | 0, .lst ds, h => by simp [okE] at h
  | n + 1, .lst ds, h => by
    rw [okE] at h
    obtain ⟨ps, e0, a, b, c, e⟩ := okEs_shown n ds h
    refine ⟨.list ps, by rw [pyD, e0]; rfl, by rw [PyData.showable]; exact a, by rw [PyData.hasDict]; exact b, by rw [PyData.depth]; omega, ?_⟩
    rw [PyData.shown, szE]
    exact Nat.le_trans (lt_le _) (by omega)
  | n, .dk _, h => by simp [okE] at h
  | n, .dt _, h => by simp [okE] at h
  | n, .rl _ _, h => by simp [okE] at h
theorem okEs_shown : ∀ (n : Nat) (ds : List D), okEs n ds = true → ∃ ps, pyDs ds = some ps ∧ PyData.showableAll ps = true ∧ PyData.hasDictAll ps = false ∧ PyData.depthAll ps ≤ n ∧ piled (PyData.shownAll ps) ≤ szEs ds
  | n, [], h => by rw [pyDs]; exact ⟨_, rfl, rfl, rfl, Nat.zero_le _, Nat.le_refl _⟩
  | n, d :: ds, h => by
    rw [okEs, Bool.and_eq_true] at h
    obtain ⟨p, e1, a1, b1, c1, f1⟩ := okE_shown n d h.1
    obtain ⟨ps, e2, a2, b2, c2, f2⟩ := okEs_shown n ds h.2
    rw [pyDs, e1]
    simp only [Option.bind_some]
    rw [e2]
    refine ⟨_, rfl, by rw [PyData.showableAll, a1, a2]; rfl, by rw [PyData.hasDictAll, b1, b2]; rfl, by rw [PyData.depthAll]; omega, ?_⟩
    rw [PyData.shownAll, piled_cons, szEs]
    omega
end
theorem repr_ex {d : D} {n : Nat} (h : okE n d = true) (hn : n ≤ 60) (hz : szE d ≤ 16000000) : ∃ t, reprD [d] = some (.v (.str t)) := by
  obtain ⟨p, e0, a, b, c, e⟩ := okE_shown n d h
  refine ⟨p.shown, ?_⟩
  show (pyD d).bind (fun p => if shownOk p = true then some (W.v (D.str p.shown)) else none) = _
  rw [e0]
  simp only [Option.bind_some]
  rw [if_pos]
  unfold shownOk
  rw [a, b, decide_eq_true (show p.depth ≤ 60 by omega), decide_eq_true (show p.shown.length ≤ 16000000 by omega)]
  rfl
theorem okEs_map {α : Type} {n : Nat} {g : α → D} : ∀ {L : List α}, (∀ a ∈ L, okE n (g a) = true) → okEs n (L.map g) = true
  | [], _ => by rw [List.map_nil, okEs]
  | a :: L, h => by rw [List.map_cons, okEs, h a List.mem_cons_self, okEs_map fun b hb => h b (List.mem_cons_of_mem _ hb)]; rfl
theorem szEs_map {α : Type} {c : Nat} {g : α → D} : ∀ {L : List α}, (∀ a ∈ L, szE (g a) ≤ c) → szEs (L.map g) ≤ L.length * (c + 2)
  | [], _ => by rw [List.map_nil, szEs]; exact Nat.zero_le _
  | a :: L, h => by
    rw [List.map_cons, szEs, List.length_cons, Nat.succ_mul]
    have h1 := h a List.mem_cons_self
    have h2 := szEs_map (L := L) fun b hb => h b (List.mem_cons_of_mem _ hb)
    omega
theorem ok_int {i : Int} {n : Nat} (h : -1000000 ≤ i) (h2 : i ≤ 1000000) : okE n (.int i) = true := by
  rw [okE, decide_eq_true_eq]
  exact Nat.lt_of_le_of_lt (show i.natAbs ≤ 1000000 by omega) (by decide)
theorem sz_int {i : Int} : szE (.int i) = 2000 := by rw [szE]; all_goals (intro _ h; cases h)
theorem sz_str {i : Str} : szE (.str i) = 2000 := by rw [szE]; all_goals (intro _ h; cases h)
end Lx
end
section
set_option Elab.async false
set_option linter.all false
set_option maxRecDepth 100000
set_option maxHeartbeats 4000000
namespace Lx
open PySem L2 Pw Pv
end Lx
end
section
set_option Elab.async false
set_option linter.all false
set_option maxRecDepth 100000
set_option maxHeartbeats 4000000
namespace Ls
open PySem L2 Pw Pv Lx
section
variable {κ : Type} [DecidableEq κ]
end
def dI (L : List (Int × Int)) : List (Key × D) := L.map fun p => (Sum.inl p.1, D.int p.2)
def getI (L : List (Int × Int)) (w : Int) : Option Int := (L.find? fun p => decide (p.1 = w)).map (·.2)
def putI (L : List (Int × Int)) (w x : Int) : List (Int × Int) := if (L.any fun p => decide (p.1 = w)) = true then L.map (fun p => if p.1 = w then (p.1, x) else p) else L ++ [(w, x)]
@[simp] theorem val_dI {w : Int} : ∀ {L : List (Int × Int)}, valX (dI L) (Sum.inl w) = (getI L w).map D.int
  | [] => rfl
  | p :: L => by
    have ih := val_dI (w := w) (L := L)
    unfold dI valX getI at ih ⊢
    rw [List.map_cons, List.find?_cons, List.find?_cons]
    by_cases h : p.1 = w
    · simp [h]
    · have : ¬ (Sum.inl p.1 : Key) = Sum.inl w := fun z => h (Sum.inl.inj z)
      simp only [decide_eq_false h, decide_eq_false this]
      exact ih
@[simp] theorem put_dI {L : List (Int × Int)} {w x : Int} : putX (dI L) (Sum.inl w) (D.int x) = dI (putI L w x) := by
  unfold putX putI dI
  have : (L.map fun p => ((Sum.inl p.1 : Key), D.int p.2)).any (fun kv => decide (kv.1 = Sum.inl w)) = L.any fun p => decide (p.1 = w) := by
    rw [List.any_map]
    congr 1
    funext p
    simp
  rw [this]
  split
  · rw [List.map_map, List.map_map]
    refine List.map_congr_left fun p _ => ?_
    by_cases h : p.1 = w
    · simp [h]
    · have : ¬ (Sum.inl p.1 : Key) = Sum.inl w := fun z => h (Sum.inl.inj z)
      simp [h]
  · simp
@[simp] theorem dI_len {L : List (Int × Int)} : (dI L).length = L.length := by simp [dI]
@[simp] theorem key_i {i : Int} : keyOf (.int i) = some (.inl i) := rfl
@[simp] theorem out_newK {m : Mem} {kvs : List (Key × D)} : outW m.length (.r m.length) (m ++ [.dk kvs]) = some (.f (.dk kvs), m) := by simp [outW, moD]
@[simp] theorem own_k {kvs : List (Key × D)} {m : Mem} : ownW (.f (.dk kvs)) m = some (.r m.length, m ++ [.dk kvs]) := rfl
@[simp] theorem tgt4 {n : Nw} {i j k l : Nat} {ρ : Pw.Env} : gT [gN i, gN j, gN k, gN l] n.d ρ = some ((((ρ.set i (some (.v (.str n.word)))).set j (some (.v (.int n.day)))).set k (some (.v (.int n.who)))).set l (some (.v (.int n.other)))) := rfl
end Ls
end
section
set_option Elab.async false
set_option linter.all false
set_option maxRecDepth 100000
set_option maxHeartbeats 4000000
namespace Ls
open PySem L2 Pw Pv Lx
def nbP (B : List Nw) (day : Int) (ws : List Str) (n : Nw) : Bool := decide (n.word ∈ ws) && (decide (backOf B day n.who < n.day) && decide (n.day ≤ day))
end Ls
end
section
set_option Elab.async false
set_option linter.all false
set_option maxRecDepth 100000
set_option maxHeartbeats 4000000
namespace Ls
open PySem L2 Pw Pv Lx
end Ls
end
section
set_option Elab.async false
set_option linter.all false
set_option maxRecDepth 100000
set_option maxHeartbeats 4000000
namespace Ls
open PySem L2 Pw Pv Lx
structure ParH (F : List Fo) : Prop where
  fa : ∀ (i : Nat) f, F[i]? = some f → f.fa = -1 ∨ (0 ≤ f.fa ∧ f.fa < F.length)
  mo : ∀ (i : Nat) f, F[i]? = some f → f.mo = -1 ∨ (0 ≤ f.mo ∧ f.mo < F.length)
  ne : ∀ (i : Nat) f, F[i]? = some f → f.fa = f.mo → f.fa = -1
section
variable (F : List Fo) (B : List Nw) (r : Rw) (day : Int)
end
variable {F : List Fo} {B : List Nw} {r : Rw} {day : Int}
end Ls
end
section
set_option Elab.async false
set_option linter.all false
set_option maxRecDepth 100000
set_option maxHeartbeats 4000000
namespace Ls
open PySem L2 Pw Pv Lx
variable {F : List Fo} {B : List Nw} {r : Rw} {day : Int}
theorem GoodHL.par (h : GoodHL lim F) : ParH F := by
  refine ⟨fun i f e => ?_, fun i f e => ?_, fun i f e q => ?_⟩
  · rcases h.fa i f e with z | ⟨j, g, z1, z2, _⟩
    · exact .inl z
    · have := (List.getElem?_eq_some_iff.mp z2).1
      rw [List.length_take] at this
      exact .inr ⟨by omega, by omega⟩
  · rcases h.mo i f e with z | ⟨j, g, z1, z2, _⟩
    · exact .inl z
    · have := (List.getElem?_eq_some_iff.mp z2).1
      rw [List.length_take] at this
      exact .inr ⟨by omega, by omega⟩
  · rcases h.fa i f e with z | ⟨j, g, z1, z2, z3, _⟩
    · exact z
    · rcases h.mo i f e with y | ⟨k, g', y1, y2, y3, _⟩
      · omega
      · have : k = j := by omega
        subst this
        rw [z2] at y2
        cases y2
        omega
end Ls
end
section
set_option Elab.async false
set_option linter.all false
set_option maxRecDepth 100000
set_option maxHeartbeats 4000000
namespace Ls
open PySem L2 Pw Pv Lx
end Ls
end
section
set_option Elab.async false
set_option linter.all false
set_option maxRecDepth 100000
set_option maxHeartbeats 4000000
namespace Ls
open PySem L2 Pw Pv Lx
variable {B : List Nw} {day : Int} {m : Mem}
def deadL (B : List Nw) (day : Int) : List Int := (B.filter fun n : Nw => decide (n.word = ("dies" : Str)) && decide (n.day ≤ day)).map Nw.who
def outL (B : List Nw) (day : Int) : List Int := (B.filter (nbP B day ["leaves", "cuts"])).map Nw.who
end Ls
end
section
set_option Elab.async false
set_option linter.all false
set_option maxRecDepth 100000
set_option maxHeartbeats 4000000
namespace Ls
open PySem L2 Pw Pv Lx
section
variable {α : Type} {src : Ix} {t : Gx} {c : Tx} {f : Ex} {b : Sx} {vs dd : List Nat} {ρ : Pw.Env} {m m1 : Mem}
end
variable {F : List Fo} {B : List Nw} {day : Int} {m : Mem}
def bornL (F : List Fo) (day : Int) : List Fo := F.filter fun f => decide (f.day ≤ day)
end Ls
end
section
set_option Elab.async false
set_option linter.all false
set_option maxRecDepth 100000
set_option maxHeartbeats 4000000
namespace Ls
open PySem L2 Pw Pv Lx
theorem seq_at {a b : Sx} {ρ ρ1 : Pw.Env} {m m1 : Mem} {r : Option (Out × Pw.Env × Mem)} (h : a ρ m = some (.nx, ρ1, m1)) (h2 : b ρ1 m1 = r) : sSeq a b ρ m = r := by
  unfold sSeq
  rw [h]
  simp only [Option.bind_some]
  exact h2
theorem call_at {G : Fx} {f : Ax} {ρ : Pw.Env} {m m1 : Mem} {ws : List W} {r : Option (W × Mem)} (h : f ρ m = some (ws, m1)) (h2 : G ws m1 = r) : eCall G f ρ m = r := by
  unfold eCall
  rw [h]
  exact h2
theorem GoodHL.snoc {lim : Int} {F : List Fo} {f g : Fo} {F0 : List Fo} (h : GoodHL lim F) (hF : F = F0 ++ [g]) (hl : F.length < 60) (hd : g.day ≤ f.day) (ok : FoOkL lim f) (fa : ParOk F f.day f.fa 1) (mo : ParOk F f.day f.mo 0) : GoodHL lim (F ++ [f]) := by
  have gm : g ∈ F := by rw [hF]; simp
  have hh : HalfHL lim F g.day := by
    refine ⟨(h.ok g gm).d0, (h.ok g gm).d1, fun x hx => ?_, h.ok, h.fa, h.mo, h.up⟩
    have up := h.up
    rw [hF] at hx up
    rcases List.mem_append.mp hx with z | z
    · exact (List.pairwise_append.mp up).2.2 x z g (by simp)
    · rw [List.mem_singleton.mp z]; exact Int.le_refl _
  have n := hh.snoc hd ok fa mo
  exact ⟨by simp, by simp; omega, n.ok, n.fa, n.mo, n.up, h.lm⟩
end Ls
end
section
set_option Elab.async false
set_option linter.all false
set_option maxRecDepth 100000
set_option maxHeartbeats 4000000
namespace Ls
open PySem L2 Pw Pv Lx
section
variable {F : List Fo} {B : List Nw} {r : Rw} {day : Int} {m : Mem}
structure LineOk (F : List Fo) (B : List Nw) (r : Rw) (day : Int) (L : List Nat) : Prop where
  head : ∃ rest, L = r.founder.toNat :: rest
  lt : ∀ i ∈ L, i < F.length
  step : ∀ (i a b : Nat), L[i]? = some a → L[i + 1]? = some b → b ∈ stepsOf F B r day a
end
end Ls
end
section
set_option Elab.async false
set_option linter.all false
set_option maxRecDepth 100000
set_option maxHeartbeats 4000000
namespace Ls
open PySem L2 Pw Pv Lx
end Ls
end
section
set_option Elab.async false
set_option linter.all false
set_option maxRecDepth 100000
set_option maxHeartbeats 4000000
namespace Ls
open PySem L2 Pw Pv Lx
section
variable {F : List Fo} {B : List Nw} {r : Rw} {d1 d2 : Int} {m : Mem}
theorem days_up {who : Int} {word : Str} (h : d1 ≤ d2) {d : Int} (hd : d ∈ daysOf B d1 who word) : d ∈ daysOf B d2 who word := by
  unfold daysOf dayP at *
  obtain ⟨n, hn, rfl⟩ := List.mem_map.mp hd
  obtain ⟨h1, h2⟩ := List.mem_filter.mp hn
  simp at h2
  exact List.mem_map.mpr ⟨n, List.mem_filter.mpr ⟨h1, by simp [h2.1, h2.2.2]; omega⟩, rfl⟩
theorem days_down {who : Int} {word : Str} {d : Int} (hd : d ∈ daysOf B d2 who word) (h : d ≤ d1) : d ∈ daysOf B d1 who word := by
  unfold daysOf dayP at *
  obtain ⟨n, hn, rfl⟩ := List.mem_map.mp hd
  obtain ⟨h1, h2⟩ := List.mem_filter.mp hn
  simp at h2
  exact List.mem_map.mpr ⟨n, List.mem_filter.mpr ⟨h1, by simp [h2.1, h2.2.2, h]⟩, rfl⟩
theorem back_up (hB : ∀ n ∈ B, 0 ≤ n.day) {who : Int} (h : d1 ≤ d2) : backOf B d1 who ≤ backOf B d2 who := by
  unfold backOf
  rcases max_def (daysOf B d1 who "returns") (-1) with ⟨e1, e2⟩ | ⟨e1, e2⟩
  · rw [e2]
    rcases max_def (daysOf B d2 who "returns") (-1) with ⟨f1, f2⟩ | ⟨f1, f2⟩
    · rw [f2]; exact Int.le_refl _
    · unfold daysOf at f1
      obtain ⟨n, hn, e⟩ := List.mem_map.mp f1
      have := hB n (List.mem_filter.mp hn).1
      unfold daysOf
      omega
  · rcases max_def (daysOf B d2 who "returns") (-1) with ⟨f1, f2⟩ | ⟨f1, f2⟩
    · have := days_up (d2 := d2) h e1
      rw [f1] at this; cases this
    · exact f2 _ (days_up h e1)
theorem cut_up (hB : ∀ n ∈ B, 0 ≤ n.day) {who day : Int} (h : d1 ≤ d2) (hd : day ≤ d1) (h1 : cutFrom B d1 who = -1 ∨ day < cutFrom B d1 who) : cutFrom B d2 who = -1 ∨ day < cutFrom B d2 who := by
  unfold cutFrom at *
  rcases min_def (behind B d2 who "cuts") (-1) with ⟨e1, e2⟩ | ⟨e1, e2⟩
  · exact .inl e2
  · right
    generalize ((behind B d2 who "cuts").foldl bst_min none).getD (-1) = x at e1 e2
    unfold behind at e1
    obtain ⟨f1, f2⟩ := List.mem_filter.mp e1
    simp at f2
    by_cases hx : x ≤ d1
    · have b1 := back_up (who := who) hB h
      have mem : x ∈ behind B d1 who "cuts" := List.mem_filter.mpr ⟨days_down f1 hx, by simp; omega⟩
      rcases min_def (behind B d1 who "cuts") (-1) with ⟨g1, g2⟩ | ⟨g1, g2⟩
      · rw [g1] at mem; cases mem
      · have := g2 x mem
        have g0 : 0 ≤ ((behind B d1 who "cuts").foldl bst_min none).getD (-1) := by
          unfold behind at g1
          have g3 := (List.mem_filter.mp g1).1
          unfold daysOf at g3
          obtain ⟨n, hn, e⟩ := List.mem_map.mp g3
          have := hB n (List.mem_filter.mp hn).1
          unfold behind daysOf
          rw [← e]; exact this
        omega
    · omega
theorem found_up (hB : ∀ n ∈ B, 0 ≤ n.day) {who : Int} (h : d1 ≤ d2) {i : Nat} (hi : i ∈ foundOf F B r d1 who) : i ∈ foundOf F B r d2 who := by
  unfold foundOf at *
  obtain ⟨h1, h2⟩ := List.mem_filter.mp hi
  refine List.mem_filter.mpr ⟨h1, ?_⟩
  unfold ccP at *
  cases e : F[i]? with
  | none => rw [e] at h2; cases h2
  | some f =>
    rw [e] at h2
    simp only [Bool.and_eq_true, Bool.not_eq_true', Bool.or_eq_false_iff, Bool.or_eq_true, decide_eq_true_eq, decide_eq_false_iff_not] at h2 ⊢
    obtain ⟨⟨a1, a2⟩, a3⟩ := h2
    exact ⟨⟨by omega, a2⟩, cut_up hB h (by omega) a3⟩
theorem steps_up (hB : ∀ n ∈ B, 0 ≤ n.day) (h : d1 ≤ d2) {w i : Nat} (hi : i ∈ stepsOf F B r d1 w) : i ∈ stepsOf F B r d2 w := by
  unfold stepsOf at *
  split at hi
  · cases hi
  · rename_i hn
    rw [if_neg hn]
    split at hi
    · rename_i hf
      rw [if_pos hf]
      rcases List.mem_append.mp hi with z | z
      · obtain ⟨z1, z2⟩ := List.mem_filter.mp z
        exact List.mem_append.mpr (.inl (List.mem_filter.mpr ⟨found_up hB h z1, z2⟩))
      · obtain ⟨z1, z2⟩ := List.mem_filter.mp z
        exact List.mem_append.mpr (.inr (List.mem_filter.mpr ⟨found_up hB h z1, z2⟩))
    · rename_i hf
      rw [if_neg hf]
      exact found_up hB h hi
theorem LineOk.up (hB : ∀ n ∈ B, 0 ≤ n.day) (h : d1 ≤ d2) {L : List Nat} (hL : LineOk F B r d1 L) : LineOk F B r d2 L :=
  ⟨hL.head, hL.lt, fun i a b h1 h2 => steps_up hB h (hL.step i a b h1 h2)⟩
end
end Ls
end
section
set_option Elab.async false
set_option linter.all false
set_option maxRecDepth 100000
set_option maxHeartbeats 4000000
namespace Lm
open PySem L2 Pw Pv Lx
variable {F : List Fo} {B : List Nw} {r : Rw} {day : Int}
end Lm
end
section
set_option Elab.async false
set_option linter.all false
set_option maxRecDepth 100000
set_option maxHeartbeats 4000000
namespace Lm
open PySem L2 Pw Pv Lx
variable {F : List Fo} {B : List Nw} {r : Rw} {day : Int}
end Lm
end
section
set_option Elab.async false
set_option linter.all false
set_option maxRecDepth 100000
set_option maxHeartbeats 4000000
namespace Lm
open PySem L2 Pw Pv Lx
variable {F : List Fo} {B : List Nw} {r : Rw} {day : Int}
end Lm
end
section
set_option Elab.async false
set_option linter.all false
set_option maxRecDepth 100000
set_option maxHeartbeats 4000000
namespace Lm
open PySem L2 Pw Pv Lx
theorem seq_at {a b : Sx} {ρ ρ1 : Pw.Env} {m m1 : Mem} {r : Option (Out × Pw.Env × Mem)} (h : a ρ m = some (.nx, ρ1, m1)) (h2 : b ρ1 m1 = r) : sSeq a b ρ m = r := by
  unfold sSeq
  rw [h]
  simp only [Option.bind_some]
  exact h2
variable {F : List Fo} {B : List Nw} {r : Rw} {day : Int}
end Lm
end
section
set_option Elab.async false
set_option linter.all false
set_option maxRecDepth 100000
set_option maxHeartbeats 2000000
namespace Lq
open PySem L2 Pw Pv Lx Ls
mutual
def gd : Nat → D → Bool
  | _, .int _ => true
  | _, .str x => PyData.strOk x
  | n, .tup ds => decide (0 < n) && gds (n - 1) ds
  | n, .lst ds => decide (0 < n) && gds (n - 1) ds
  | _, .non => false
  | _, .bl _ => false
  | _, .fl _ => false
  | _, .tx _ => false
  | _, .dk _ => false
  | _, .dt _ => false
  | _, .rl _ _ => false
def gds : Nat → List D → Bool
  | _, [] => true
  | n, d :: ds => gd n d && gds n ds
end
mutual
theorem gd_py : ∀ (n : Nat) (d : D), gd n d = true → ∃ p, pyD d = some p ∧ PyData.canLay0 p = true ∧ PyData.depth p ≤ n
  | n, .int i, _ => ⟨.int i, by rw [pyD], rfl, Nat.zero_le _⟩
  | n, .str x, h => ⟨.str x, by rw [pyD], by rw [gd] at h; exact h, Nat.zero_le _⟩
  | n, .tup ds, h => by
    rw [gd, Bool.and_eq_true] at h
    obtain ⟨ps, e, c, dp⟩ := gds_py (n - 1) ds h.2
    have := of_decide_eq_true h.1
    exact ⟨.tuple ps, by rw [pyD, e]; rfl, c, by rw [PyData.depth]; omega⟩
  | n, .lst ds, h => by
    rw [gd, Bool.and_eq_true] at h
    obtain ⟨ps, e, c, dp⟩ := gds_py (n - 1) ds h.2
    have := of_decide_eq_true h.1
    exact ⟨.list ps, by rw [pyD, e]; rfl, c, by rw [PyData.depth]; omega⟩
  | n, .non, h => by rw [gd] at h; cases h
  | n, .bl _, h => by rw [gd] at h; cases h
  | n, .fl _, h => by rw [gd] at h; cases h
  | n, .tx _, h => by rw [gd] at h; cases h
  | n, .dk _, h => by rw [gd] at h; cases h
  | n, .dt _, h => by rw [gd] at h; cases h
  | n, .rl _ _, h => by rw [gd] at h; cases h
theorem gds_py : ∀ (n : Nat) (ds : List D), gds n ds = true → ∃ ps, pyDs ds = some ps ∧ PyData.canLayAll0 ps = true ∧ PyData.depthAll ps ≤ n
  | n, [], _ => ⟨[], by rw [pyDs], rfl, Nat.zero_le _⟩
  | n, d :: ds, h => by
    rw [gds, Bool.and_eq_true] at h
    obtain ⟨p, e, c, dp⟩ := gd_py n d h.1
    obtain ⟨ps, e', c', dp'⟩ := gds_py n ds h.2
    exact ⟨p :: ps, by rw [pyDs, e, e']; rfl, by rw [PyData.canLayAll0, c, c']; rfl, by rw [PyData.depthAll]; omega⟩
end
mutual
theorem gd_same : ∀ (d : D) (n : Nat) (p : PyData), gd n d = true → pyD d = some p → PyData.eqv p p = true
  | .int i, n, p, _, e => by rw [pyD] at e; cases e; rw [PyData.eqv]; exact beq_self_eq_true i
  | .str x, n, p, _, e => by rw [pyD] at e; cases e; rw [PyData.eqv]; exact beq_self_eq_true x
  | .tup ds, n, p, h, e => by
    rw [gd, Bool.and_eq_true] at h
    rw [pyD] at e
    obtain ⟨ps, e1, e⟩ := bnd e
    cases e
    rw [PyData.eqv]
    exact gds_same ds _ ps h.2 e1
  | .lst ds, n, p, h, e => by
    rw [gd, Bool.and_eq_true] at h
    rw [pyD] at e
    obtain ⟨ps, e1, e⟩ := bnd e
    cases e
    rw [PyData.eqv]
    exact gds_same ds _ ps h.2 e1
  | .non, n, p, h, e => by rw [gd] at h; cases h
  | .bl _, n, p, h, e => by rw [gd] at h; cases h
  | .fl _, n, p, h, e => by rw [gd] at h; cases h
  | .tx _, n, p, h, e => by rw [gd] at h; cases h
  | .dk _, n, p, h, e => by rw [gd] at h; cases h
  | .dt _, n, p, h, e => by rw [gd] at h; cases h
  | .rl _ _, n, p, h, e => by rw [gd] at h; cases h
theorem gds_same : ∀ (ds : List D) (n : Nat) (ps : List PyData), gds n ds = true → pyDs ds = some ps → PyData.eqvAll ps ps = true
  | [], n, ps, _, e => by rw [pyDs] at e; cases e; rfl
  | d :: ds, n, ps, h, e => by
    rw [gds, Bool.and_eq_true] at h
    rw [pyDs] at e
    obtain ⟨p, e1, e⟩ := bnd e
    obtain ⟨qs, e2, e⟩ := bnd e
    cases e
    rw [PyData.eqvAll, gd_same d n p h.1 e1, gds_same ds n qs h.2 e2]; rfl
end
theorem eq_same {neg : Bool} {n : Nat} {d : D} (g : gd n d = true) (hn : n ≤ 64) (hs : sc d = none) : eqD neg d d = some (.v (.bl (!neg))) := by
  obtain ⟨p, e, c, dp⟩ := gd_py n d g
  have sh : SeqAt.shaped p = true := by
    unfold SeqAt.shaped
    rw [c, Bool.true_and]
    exact decide_eq_true (by omega)
  have q := gd_same d n p g e
  unfold eqD eqB
  rw [hs]
  simp [e, sh, q]
theorem gds_all {n : Nat} : ∀ {ds : List D}, (∀ d ∈ ds, gd n d = true) → gds n ds = true
  | [], _ => by rw [gds]
  | d :: ds, h => by
    rw [gds, h d List.mem_cons_self, gds_all fun e he => h e (List.mem_cons_of_mem _ he)]; rfl
theorem gds_map {α : Type} {n : Nat} {f : α → D} {L : List α} (h : ∀ a ∈ L, gd n (f a) = true) : gds n (L.map f) = true := gds_all fun d hd => by
  obtain ⟨a, ha, rfl⟩ := List.mem_map.mp hd
  exact h a ha
theorem gd_i {n : Nat} {i : Int} : gd n (.int i) = true := by rw [gd]
theorem gd_t {n : Nat} {ds : List D} (h : gds n ds = true) : gd (n + 1) (.tup ds) = true := by rw [gd]; simpa using h
theorem gd_nil {n : Nat} : gds n [] = true := by rw [gds]
theorem gd_cons {n : Nat} {d : D} {ds : List D} (h : gd n d = true) (hs : gds n ds = true) : gds n (d :: ds) = true := by rw [gds, h, hs]; rfl
end Lq
end
section
set_option Elab.async false
set_option linter.all false
set_option maxRecDepth 100000
set_option maxHeartbeats 2000000
namespace Lq
open PySem L2 Pw Pv Lx Ls
end Lq
end
section
set_option Elab.async false
set_option linter.all false
set_option maxRecDepth 100000
set_option maxHeartbeats 2000000
namespace Lq
open PySem L2 Pw Pv Lx Ls
section
variable {ns : List Int} {s : Lx.St} {m : Mem}
structure Ord (P A : List Int) : Prop where
  nd : A.Nodup
  sub : ∀ x ∈ A, x ∈ P
  len : A.length ≤ 200
theorem Ord.take {P A : List Int} (h : Ord P A) (k : Nat) : Ord P (A.take k) :=
  ⟨h.nd.sublist (List.take_sublist k A), fun x hx => h.sub x (List.mem_of_mem_take hx), by rw [List.length_take]; have := h.len; omega⟩
end
end Lq
end
section
set_option Elab.async false
set_option linter.all false
set_option maxRecDepth 100000
set_option maxHeartbeats 2000000
namespace Wk
open Pv
def lexN : List Nat → List Nat → Bool
  | [], [] => false
  | [], _ :: _ => true
  | _ :: _, [] => false
  | x :: xs, y :: ys => if x = y then lexN xs ys else decide (x < y)
abbrev zp (p : List Nat) : List Int := p.map fun n : Nat => (n : Int)
theorem lex_zp : ∀ p q : List Nat, iLex (zp p) (zp q) = lexN p q
  | [], [] => rfl
  | [], _ :: _ => rfl
  | _ :: _, [] => rfl
  | x :: xs, y :: ys => by
    show (if (x : Int) = (y : Int) then iLex (zp xs) (zp ys) else decide ((x : Int) < (y : Int))) = if x = y then lexN xs ys else decide (x < y)
    rw [lex_zp xs ys]
    by_cases h : x = y
    · subst h; simp
    · rw [if_neg (by omega), if_neg h]
      by_cases h2 : x < y <;> simp [h2] <;> omega
theorem zp_inj {p q : List Nat} (h : zp p = zp q) : p = q := by
  induction p generalizing q with
  | nil => cases q with
    | nil => rfl
    | cons y q => cases h
  | cons x p ih => cases q with
    | nil => cases h
    | cons y q =>
      simp only [zp, List.map_cons] at h
      injection h with h1 h2
      rw [ih h2]
      congr 1
      omega
theorem lexN_irr (p : List Nat) : lexN p p = false := by rw [← lex_zp]; exact iLex_irr _
theorem lexN_tr {p q r : List Nat} (h1 : lexN p q = true) (h2 : lexN q r = true) : lexN p r = true := by rw [← lex_zp] at *; exact iLex_tr _ _ _ h1 h2
theorem lexN_tot {p q : List Nat} (h1 : lexN p q = false) (h2 : lexN q p = false) : p = q := by rw [← lex_zp] at *; exact zp_inj (iLex_tot _ _ h1 h2)
theorem lexN_as {p q : List Nat} (h : lexN p q = true) : lexN q p = false := by rw [← lex_zp] at *; exact iLex_asym h
def le (p q : List Nat) : Prop := lexN q p = false
theorem le_refl (p : List Nat) : le p p := lexN_irr p
theorem le_of {p q : List Nat} (h : lexN p q = true) : le p q := lexN_as h
theorem le_cases {p q : List Nat} (h : le p q) : p = q ∨ lexN p q = true := by
  cases e : lexN p q with
  | true => exact .inr rfl
  | false => exact .inl (lexN_tot e h)
theorem le_tr {p q r : List Nat} (h1 : le p q) (h2 : le q r) : le p r := by
  rcases le_cases h1 with rfl | h1
  · exact h2
  · rcases le_cases h2 with rfl | h2
    · exact le_of h1
    · exact le_of (lexN_tr h1 h2)
theorem le_app (p r : List Nat) : le p (p ++ r) := by
  induction p with
  | nil => cases r <;> rfl
  | cons x p ih =>
    have ih' : lexN (p ++ r) p = false := ih
    show lexN (x :: (p ++ r)) (x :: p) = false
    simpa [lexN] using ih'
def nL : List Nat → List Nat → Bool
  | x :: xs, y :: ys => if x = y then nL xs ys else decide (x < y)
  | _, _ => false
theorem nL_lex : ∀ {p q : List Nat} (a b : List Nat), nL p q = true → lexN (p ++ a) (q ++ b) = true
  | x :: xs, y :: ys, a, b, h => by
    unfold nL at h
    show (if x = y then lexN (xs ++ a) (ys ++ b) else decide (x < y)) = true
    split at h
    · rename_i e; rw [if_pos e]; exact nL_lex a b h
    · rename_i e; rw [if_neg e]; exact h
  | [], _, _, _, h => by simp [nL] at h
  | _ :: _, [], _, _, h => by simp [nL] at h
theorem nL_of {p q : List Nat} : lexN p q = true → (∀ r, q ≠ p ++ r) → nL p q = true := by
  induction p generalizing q with
  | nil => intro _ h; exact absurd rfl (h q)
  | cons x p ih =>
    intro h hp
    cases q with
    | nil => simp [lexN] at h
    | cons y q =>
      unfold lexN at h
      unfold nL
      split at h
      · rename_i e
        rw [if_pos e]
        exact ih h fun r z => hp r (by rw [z, e]; rfl)
      · rename_i e; rw [if_neg e]; exact h
section
variable (S : Nat → List Nat)
def go : Nat → List Nat → Option Nat
  | w, [] => some w
  | w, k :: ks => ((S w)[k]?).bind fun c => go c ks
theorem go_app (w : Nat) (p q : List Nat) : go S w (p ++ q) = (go S w p).bind fun v => go S v q := by
  induction p generalizing w with
  | nil => rfl
  | cons k p ih =>
    show ((S w)[k]?).bind (fun c => go S c (p ++ q)) = _
    simp only [go]
    cases (S w)[k]? with
    | none => rfl
    | some c => exact ih c
theorem go_snoc (w : Nat) (p : List Nat) (k : Nat) : go S w (p ++ [k]) = (go S w p).bind fun v => (S v)[k]? := by
  rw [go_app]
  congr 1
  funext v
  simp only [go]
  cases (S v)[k]? <;> rfl
variable {S}
theorem snoc_of {w c : Nat} {q : List Nat} {k : Nat} (h : go S w (q ++ [k]) = some c) : ∃ v, go S w q = some v ∧ (S v)[k]? = some c := by
  rw [go_snoc] at h
  cases e : go S w q with
  | none => rw [e] at h; cases h
  | some v => rw [e] at h; exact ⟨v, rfl, h⟩
variable (up : ∀ v c, c ∈ S v → v < c)
include up
theorem go_up {w v : Nat} : ∀ {p : List Nat}, go S w p = some v → w ≤ v ∧ (p ≠ [] → w < v) := by
  intro p
  induction p generalizing w with
  | nil => intro h; cases h; exact ⟨Nat.le_refl _, fun z => absurd rfl z⟩
  | cons k p ih =>
    intro h
    simp only [go] at h
    cases e : (S w)[k]? with
    | none => rw [e] at h; cases h
    | some c =>
      rw [e] at h
      have a := up w c (List.mem_of_getElem? e)
      have b := (ih h).1
      exact ⟨by omega, fun _ => by omega⟩
theorem not_pre {w v : Nat} {p q : List Nat} (h1 : go S w p = some v) (h2 : go S w q = some v) (ne : p ≠ q) : ∀ r, q ≠ p ++ r := fun r z => by
  subst z
  rw [go_app, h1] at h2
  have := (go_up up (show go S v r = some v from h2)).2
  by_cases hr : r = []
  · subst hr; exact ne (by simp)
  · exact absurd (this hr) (Nat.lt_irrefl _)
theorem ext_le {w v : Nat} {p q : List Nat} (h1 : go S w p = some v) (h2 : go S w q = some v) (h : le p q) (k : Nat) : le (p ++ [k]) (q ++ [k]) := by
  rcases le_cases h with rfl | h
  · exact le_refl _
  · have ne : p ≠ q := fun z => by rw [z, lexN_irr] at h; cases h
    exact le_of (nL_lex [k] [k] (nL_of h (not_pre up h1 h2 ne)))
end
section
variable (S : Nat → List Nat) (f : Nat)
structure Dfs (V T : List (List Nat)) : Prop where
  vV : ∀ p ∈ V, ∃ v, go S f p = some v
  tV : ∀ p ∈ T, ∃ v, go S f p = some v
  tN : T.Pairwise fun p q => nL p q = true
  vS : V.Pairwise fun p q => lexN p q = true
  vt : ∀ p ∈ V, ∀ t ∈ T, lexN p t = true
  lst : ∀ p ∈ V, ∀ q v, go S f p = some v → go S f q = some v → le p q
  st : [] ∈ T ∨ ∃ p ∈ V, go S f p = some f ∧ le p []
  cov : ∀ p ∈ V, ∀ v k c, go S f p = some v → (S v)[k]? = some c → p ++ [k] ∈ T ∨ ∃ p' ∈ V, go S f p' = some c ∧ le p' (p ++ [k])
variable {S f}
theorem Dfs.start : Dfs S f [] [[]] := ⟨(fun _ h => by cases h), (fun p h => by rw [List.mem_singleton.mp h]; exact ⟨f, rfl⟩), by simp, List.Pairwise.nil, (fun _ h => by cases h), (fun _ h => by cases h), .inl (by simp), (fun _ h => by cases h)⟩
variable (up : ∀ v c, c ∈ S v → v < c)
include up
theorem Dfs.key {V T : List (List Nat)} (D : Dfs S f V T) : ∀ (n : Nat) (q : List Nat) (v : Nat), q.length = n → go S f q = some v → (∃ p ∈ V, go S f p = some v ∧ le p q) ∨ ∃ t ∈ T, le t q := by
  intro n
  induction n with
  | zero =>
    intro q v hl h
    have : q = [] := List.eq_nil_of_length_eq_zero hl
    subst this
    cases h
    rcases D.st with z | z
    · exact .inr ⟨[], z, le_refl _⟩
    · exact .inl z
  | succ n ih =>
    intro q v hl h
    obtain ⟨q0, k, rfl⟩ : ∃ q0 k, q = q0 ++ [k] := by
      have hne : q ≠ [] := fun z => by rw [z] at hl; cases hl
      exact ⟨q.dropLast, q.getLast hne, (List.dropLast_concat_getLast hne).symm⟩
    obtain ⟨u, hu, hk⟩ := snoc_of h
    rcases ih q0 u (by simpa using hl) hu with ⟨p, hp, hpu, hle⟩ | ⟨t, ht, hle⟩
    · have e := ext_le up hpu hu hle k
      rcases D.cov p hp u k v hpu hk with z | ⟨p', h1, h2, h3⟩
      · exact .inr ⟨_, z, e⟩
      · exact .inl ⟨p', h1, h2, le_tr h3 e⟩
    · exact .inr ⟨t, ht, le_tr hle (le_app _ _)⟩
theorem Dfs.all {V : List (List Nat)} (D : Dfs S f V []) {q : List Nat} {v : Nat} (h : go S f q = some v) : ∃ p ∈ V, go S f p = some v ∧ le p q := by
  rcases D.key up q.length q v rfl h with z | ⟨t, ht, _⟩
  · exact z
  · cases ht
end
end Wk
end
section
set_option Elab.async false
set_option linter.all false
set_option maxRecDepth 100000
set_option maxHeartbeats 2000000
namespace Wk
open Pv
section
variable (S : Nat → List Nat) (f : Nat)
def Pq (u j : Nat) (q : List Nat) : Prop := q = [] ∨ ∃ q0 k v, q = q0 ++ [k] ∧ go S f q0 = some v ∧ (v < u ∨ (v = u ∧ k < j))
structure Ki (u j : Nat) (g : Nat → Option (List Nat)) : Prop where
  k1 : ∀ w p, g w = some p → go S f p = some w ∧ Pq S f u j p
  k2 : ∀ w q, go S f q = some w → Pq S f u j q → ∃ p, g w = some p ∧ le p q
variable {S f}
theorem Ki.start : Ki S f 0 0 fun w => if w = f then some [] else none := by
  refine ⟨fun w p h => ?_, fun w q h hq => ?_⟩
  · split at h
    · rename_i e; cases h; subst e; exact ⟨rfl, .inl rfl⟩
    · cases h
  · rcases hq with rfl | ⟨q0, k, v, rfl, _, z | z⟩
    · cases h; exact ⟨[], by simp, le_refl _⟩
    · omega
    · omega
variable (up : ∀ v c, c ∈ S v → v < c)
include up
theorem Pq.own {u j : Nat} {q : List Nat} (h : go S f q = some u) : Pq S f u j q := by
  by_cases hq : q = []
  · exact .inl hq
  · have e := (List.dropLast_concat_getLast hq).symm
    rw [e] at h
    obtain ⟨v, h1, h2⟩ := snoc_of h
    exact .inr ⟨_, _, v, e, h1, .inl (up v u (List.mem_of_getElem? h2))⟩
theorem Ki.all {n : Nat} {g : Nat → Option (List Nat)} (K : Ki S f n 0 g) (lt : ∀ v c, c ∈ S v → c < n) : ∀ w q, go S f q = some w → ∃ p, g w = some p ∧ le p q := fun w q h => by
  refine K.k2 w q h ?_
  by_cases hq : q = []
  · exact .inl hq
  · have e := (List.dropLast_concat_getLast hq).symm
    have h' := h
    rw [e] at h'
    obtain ⟨v, h1, h2⟩ := snoc_of h'
    have m := List.mem_of_getElem? h2
    have := up v w m
    have := lt v w m
    exact .inr ⟨_, _, v, e, h1, .inl (by omega)⟩
end
def endOf (S : Nat → List Nat) (f : Nat) (p : List Nat) : Nat := (go S f p).getD 0
theorem nd_len : ∀ (n : Nat) (l : List Nat), l.Nodup → (∀ x ∈ l, x < n) → l.length ≤ n
  | 0, [], _, _ => Nat.le_refl _
  | 0, x :: _, _, h => absurd (h x List.mem_cons_self) (Nat.not_lt_zero _)
  | n + 1, l, nd, h => by
    by_cases hn : n ∈ l
    · have := nd_len n (l.erase n) (nd.erase n) fun x hx => by
        obtain ⟨a, b⟩ := (nd.mem_erase_iff).mp hx
        have := h x b
        omega
      rw [List.length_erase_of_mem hn] at this
      omega
    · have := nd_len n l nd fun x hx => by
        have a := h x hx
        have : x ≠ n := fun z => hn (z ▸ hx)
        omega
      omega
end Wk
end
section
set_option Elab.async false
set_option linter.all false
set_option maxRecDepth 100000
set_option maxHeartbeats 4000000
namespace Lv
open PySem L2 Pw Pv Lx Ls Lq Wk
section
variable {S : Nat → List Nat} {f n : Nat}
abbrev PS2 := List (List Nat) × List (List Nat)
structure Ok (S : Nat → List Nat) (f n : Nat) (s : PS2) : Prop where
  d : Dfs S f s.1 s.2
  l : s.2.length ≤ 1 + s.1.length * 120
  nd : (s.1.map (endOf S f)).Nodup
theorem end_eq {p : List Nat} {v : Nat} (h : go S f p = some v) : endOf S f p = v := by unfold endOf; rw [h]; rfl
variable (up : ∀ v c, c ∈ S v → v < c) (lt : ∀ v c, c ∈ S v → c < n) (hf : f < n) (hn : n ≤ 60) (hs : ∀ v, (S v).length ≤ 120)
theorem end_lt (lt : ∀ v c, c ∈ S v → c < n) (hf : f < n) {p : List Nat} {v : Nat} (h : go S f p = some v) : v < n := by
  by_cases hp : p = []
  · subst hp; cases h; exact hf
  · rw [(List.dropLast_concat_getLast hp).symm] at h
    obtain ⟨u, _, h2⟩ := snoc_of h
    exact lt u v (List.mem_of_getElem? h2)
theorem Ok.len {s : PS2} (o : Ok S f n s) (lt : ∀ v c, c ∈ S v → c < n) (hf : f < n) : s.1.length ≤ n := by
  have := nd_len n (s.1.map (endOf S f)) o.nd fun x hx => by
    obtain ⟨p, hp, rfl⟩ := List.mem_map.mp hx
    obtain ⟨v, hv⟩ := o.d.vV p hp
    rw [end_eq hv]
    exact end_lt lt hf hv
  simpa using this
include up lt hf hn hs
end
end Lv
end
section
set_option Elab.async false
set_option linter.all false
set_option maxRecDepth 100000
set_option maxHeartbeats 4000000
namespace Lv
open PySem L2 Pw Pv Lx Ls Lq Wk
end Lv
end
section
set_option Elab.async false
set_option linter.all false
set_option maxRecDepth 100000
set_option maxHeartbeats 4000000
namespace Lv
open PySem L2 Pw Pv Lx Ls Lq Wk
section
variable {F : List Fo} {B : List Nw} {r : Rw} {day : Int}
abbrev f0 (r : Rw) : Nat := r.founder.toNat
def fborn (F : List Fo) (r : Rw) (day : Int) : Bool := match F[f0 r]? with
  | some f => decide (f.day ≤ day)
  | none => false
def IsWalk (F : List Fo) (B : List Nw) (r : Rw) (day : Int) (V : List (List Nat)) : Prop :=
  if fborn F r day = true then Dfs (stepsOf F B r day) (f0 r) V [] else V = []
theorem run_eq {np n : Nat} {b : Sx} {ws : List W} {m : Mem} {w : W} {ρ : Pw.Env} {m' : Mem} {x : W × Mem} (hl : ws.length = np) (h : b (startD n ws) m = some (.ret w, ρ, m')) (h2 : outW m.length w m' = some x) : runF np n b ws m = some x := by
  unfold runF
  rw [if_pos hl, h]
  exact h2
abbrev walkN (F : List Fo) (B : List Nw) (r : Rw) (day : Int) (V : List (List Nat)) : List Nat := V.map (endOf (stepsOf F B r day) (f0 r))
end
end Lv
end
section
set_option Elab.async false
set_option linter.all false
set_option maxRecDepth 100000
set_option maxHeartbeats 4000000
namespace Lz
open PySem L2 Pw Pv Lx Ls Lq Wk Lv
end Lz
end
section
set_option Elab.async false
set_option linter.all false
set_option maxRecDepth 100000
set_option maxHeartbeats 4000000
namespace Lz
open PySem L2 Pw Pv Lx Ls Lq Wk Lv
end Lz
end
section
set_option Elab.async false
set_option linter.all false
set_option maxRecDepth 100000
set_option maxHeartbeats 4000000
namespace Lz
open PySem L2 Pw Pv Lx Ls Lq Wk Lv
section
variable {L : List (Nat × List Nat)} {c w : Nat} {p : List Nat}
end
section
variable {F : List Fo} {B : List Nw} {r : Rw} {day : Int} {m : Mem} {web : D}
end
end Lz
end
section
set_option Elab.async false
set_option linter.all false
set_option maxRecDepth 100000
set_option maxHeartbeats 4000000
namespace Lz
open PySem L2 Pw Pv Lx Ls Lq Wk Lv
section
variable {F : List Fo} {B : List Nw} {r : Rw} {day : Int} {m : Mem} {web : D}
end
end Lz
end
section
set_option Elab.async false
set_option linter.all false
set_option maxRecDepth 100000
set_option maxHeartbeats 4000000
namespace Lz
open PySem L2 Pw Pv Lx Ls Lq Wk Lv
section
variable {ns : List Int} {s : Lx.St} {F : List Fo} {B : List Nw} {r : Rw} {day : Int} {m : Mem} {web : D}
end
end Lz
end
section
set_option Elab.async false
set_option linter.all false
set_option maxRecDepth 100000
set_option maxHeartbeats 4000000
namespace Lz
open PySem L2 Pw Pv Lx Ls Lq Wk Lv
section
variable {F : List Fo} {B : List Nw} {r : Rw} {day : Int} {m : Mem} {web : D}
end
end Lz
end
section
set_option Elab.async false
set_option linter.all false
set_option maxRecDepth 100000
set_option maxHeartbeats 4000000
namespace Lz
open PySem L2 Pw Pv Lx Ls Lq Wk Lv
end Lz
end
section
set_option Elab.async false
set_option linter.all false
set_option maxRecDepth 100000
set_option maxHeartbeats 4000000
namespace Lz
open PySem L2 Pw Pv Lx Ls Lq Wk Lv
end Lz
end
section
set_option Elab.async false
set_option linter.all false
set_option maxRecDepth 100000
set_option maxHeartbeats 2000000
namespace Dg
open Wk
def Way (S : Nat → List Nat) (x y k : Nat) : Prop := ∃ q, q.length = k ∧ go S x q = some y
section
variable {S : Nat → List Nat} {x y v c k : Nat}
theorem Way.nil : Way S x x 0 := ⟨[], rfl, rfl⟩
theorem Way.zero (h : Way S x y 0) : x = y := by
  obtain ⟨q, hq, h⟩ := h
  have : q = [] := by simpa using hq
  subst this
  cases h; rfl
theorem Way.snoc (h : Way S x v k) (hc : c ∈ S v) : Way S x c (k + 1) := by
  obtain ⟨q, hq, h⟩ := h
  obtain ⟨j, hj⟩ := List.getElem?_of_mem hc
  exact ⟨q ++ [j], by simp [hq], by rw [go_snoc, h]; exact hj⟩
theorem Way.snoc_inv (h : Way S x y (k + 1)) : ∃ v, Way S x v k ∧ y ∈ S v := by
  obtain ⟨q, hq, h⟩ := h
  have ne : q ≠ [] := fun z => by rw [z] at hq; cases hq
  have e := (List.dropLast_concat_getLast ne).symm
  rw [e] at h
  obtain ⟨v, h1, h2⟩ := snoc_of h
  exact ⟨v, ⟨_, by rw [List.length_dropLast]; omega, h1⟩, List.mem_of_getElem? h2⟩
theorem Way.cons (hc : c ∈ S x) (h : Way S c y k) : Way S x y (k + 1) := by
  obtain ⟨q, hq, h⟩ := h
  obtain ⟨j, hj⟩ := List.getElem?_of_mem hc
  refine ⟨j :: q, by simp [hq], ?_⟩
  simp only [go]
  rw [hj]; exact h
theorem Way.cons_inv (h : Way S x y (k + 1)) : ∃ c, c ∈ S x ∧ Way S c y k := by
  obtain ⟨q, hq, h⟩ := h
  cases q with
  | nil => cases hq
  | cons j q =>
    simp only [go] at h
    cases e : (S x)[j]? with
    | none => rw [e] at h; cases h
    | some d =>
      rw [e] at h
      exact ⟨d, List.mem_of_getElem? e, q, by simpa using hq, h⟩
theorem Way.up (up : ∀ v c, c ∈ S v → v < c) : ∀ {k x y : Nat}, Way S x y k → x + k ≤ y
  | 0, x, y, h => by rw [h.zero]; exact Nat.le_refl _
  | k + 1, x, y, h => by
    obtain ⟨c, hc, h⟩ := h.cons_inv
    have a := up x c hc
    have b := Way.up up h
    omega
theorem Way.app {j : Nat} (h : Way S x v k) (h2 : Way S v y j) : Way S x y (k + j) := by
  obtain ⟨q, hq, h⟩ := h
  obtain ⟨q2, hq2, h2⟩ := h2
  exact ⟨q ++ q2, by simp [hq, hq2], by rw [go_app, h]; exact h2⟩
end
structure Least (P : Nat → Nat → Prop) (g : Nat → Option Nat) : Prop where
  l1 : ∀ y k, g y = some k → P y k
  l2 : ∀ y k, P y k → ∃ k', g y = some k' ∧ k' ≤ k
section
variable (S : Nat → List Nat) (R : Nat → Prop) (who : Nat)
def Far (y k : Nat) : Prop := ∃ x a b, R x ∧ Way S x who a ∧ Way S x y b ∧ a + b = k
def UpP (x k : Nat) : Prop := R x ∧ Way S x who k
def Pu (c x k : Nat) : Prop := R x ∧ ((x = who ∧ k = 0) ∨ ∃ d j, d ∈ S x ∧ c ≤ d ∧ Way S d who j ∧ k = j + 1)
structure UpI (c : Nat) (g : Nat → Option Nat) : Prop where
  u1 : ∀ x k, g x = some k → UpP S R who x k
  u2 : ∀ x k, Pu S R who c x k → ∃ k', g x = some k' ∧ k' ≤ k
variable {S R who} (up : ∀ v c, c ∈ S v → v < c) (cl : ∀ v c, R v → c ∈ S v → R c)
include up cl
theorem UpI.start (hw : R who) : UpI S R who (who + 1) fun y => if y = who then some 0 else none := by
  refine ⟨fun x k h => ?_, fun x k h => ?_⟩
  · split at h
    · rename_i e
      cases h
      subst e
      exact ⟨hw, Way.nil⟩
    · cases h
  · obtain ⟨_, ⟨rfl, rfl⟩ | ⟨d, j, _, h1, h2, _⟩⟩ := h
    · exact ⟨0, by simp, Nat.le_refl _⟩
    · have := Way.up up h2
      omega
theorem UpI.own {c k : Nat} {g : Nat → Option Nat} (I : UpI S R who (c + 1) g) (hc : R c) (h : Way S c who k) : ∃ k', g c = some k' ∧ k' ≤ k := by
  refine I.u2 c k ⟨hc, ?_⟩
  cases k with
  | zero => exact .inl ⟨h.zero, rfl⟩
  | succ k =>
    obtain ⟨d, hd, h⟩ := h.cons_inv
    exact .inr ⟨d, k, hd, up c d hd, h, rfl⟩
theorem UpI.all {g : Nat → Option Nat} (I : UpI S R who 0 g) : Least (UpP S R who) g := by
  refine ⟨I.u1, fun x k h => I.u2 x k ⟨h.1, ?_⟩⟩
  cases k with
  | zero => exact .inl ⟨h.2.zero, rfl⟩
  | succ k =>
    obtain ⟨d, hd, hw⟩ := h.2.cons_inv
    exact .inr ⟨d, k, hd, Nat.zero_le _, hw, rfl⟩
omit cl up in
theorem Far.down {v c k : Nat} (h : Far S R who v k) (hc : c ∈ S v) : Far S R who c (k + 1) := by
  obtain ⟨x, a, b, hx, h1, h2, h3⟩ := h
  exact ⟨x, a, b + 1, hx, h1, h2.snoc hc, by omega⟩
end
section
variable (S : Nat → List Nat) (R : Nat → Prop) (who : Nat)
def Pd (p y k : Nat) : Prop := UpP S R who y k ∨ ∃ v j, v < p ∧ y ∈ S v ∧ Far S R who v j ∧ k = j + 1
structure DnI (p : Nat) (g : Nat → Option Nat) : Prop where
  d1 : ∀ y k, g y = some k → Far S R who y k
  d2 : ∀ y k, Pd S R who p y k → ∃ k', g y = some k' ∧ k' ≤ k
variable {S R who}
theorem DnI.start {g : Nat → Option Nat} (h : Least (UpP S R who) g) : DnI S R who 0 g := by
  refine ⟨fun y k e => ?_, fun y k hp => ?_⟩
  · obtain ⟨a, b⟩ := h.l1 y k e
    exact ⟨y, k, 0, a, b, Way.nil, rfl⟩
  · rcases hp with hp | ⟨v, j, hv, _⟩
    · exact h.l2 y k hp
    · omega
theorem far_pd {y k : Nat} {p : Nat} (h : Far S R who y k) (hp : ∀ v, y ∈ S v → v < p) : Pd S R who p y k := by
  obtain ⟨x, a, b, hx, h1, h2, h3⟩ := h
  cases b with
  | zero =>
    have := h2.zero
    subst this
    left
    have : a = k := by omega
    subst this
    exact ⟨hx, h1⟩
  | succ b =>
    obtain ⟨v, hv, hy⟩ := h2.snoc_inv
    exact .inr ⟨v, a + b, hp v hy, hy, ⟨x, a, b, hx, h1, hv, rfl⟩, by omega⟩
variable (up : ∀ v c, c ∈ S v → v < c)
include up
theorem DnI.own {p k : Nat} {g : Nat → Option Nat} (I : DnI S R who p g) (h : Far S R who p k) : ∃ k', g p = some k' ∧ k' ≤ k :=
  I.d2 p k (far_pd h fun v hv => up v p hv)
theorem DnI.all {n : Nat} {g : Nat → Option Nat} (lt : ∀ v c, c ∈ S v → c < n) (I : DnI S R who n g) : Least (Far S R who) g :=
  ⟨I.d1, fun y k h => I.d2 y k (far_pd h fun v hv => by have := up v y hv; have := lt v y hv; omega)⟩
end
end Dg
end
section
set_option Elab.async false
set_option linter.all false
set_option maxRecDepth 100000
set_option maxHeartbeats 2000000
namespace Dg
open Wk
open Classical
section
variable (S : Nat → List Nat) (R : Nat → Prop) (who : Nat)
structure RgI (i : Nat) (g : Nat → Option Nat) : Prop where
  a : ∀ x k, g x = some k → UpP S R who x k ∧ k ≤ i
  b : ∀ x k, UpP S R who x k → k ≤ i → ∃ k', g x = some k' ∧ k' ≤ k
variable {S R who} (cl : ∀ v c, R v → c ∈ S v → R c)
theorem RgI.start (hw : R who) : RgI S R who 0 fun y => if y = who then some 0 else none := by
  refine ⟨fun x k h => ?_, fun x k h hk => ?_⟩
  · split at h
    · rename_i e
      cases h
      subst e
      exact ⟨⟨hw, Way.nil⟩, Nat.le_refl _⟩
    · cases h
  · have : k = 0 := by omega
    subst this
    have := h.2.zero
    exact ⟨0, by simp [this], Nat.le_refl _⟩
include cl
theorem RgI.all {i : Nat} {g : Nat → Option Nat} (I : RgI S R who i g) (h : ∀ x, g x ≠ some i) : Least (UpP S R who) g := by
  refine ⟨fun x k e => (I.a x k e).1, fun x k => ?_⟩
  induction k generalizing x with
  | zero => exact fun hp => I.b x 0 hp (Nat.zero_le _)
  | succ k ih =>
    intro hp
    obtain ⟨hx, hw⟩ := hp
    obtain ⟨c, hc, hw⟩ := hw.cons_inv
    obtain ⟨k', e, l⟩ := ih c ⟨cl x c hx hc, hw⟩
    obtain ⟨u, v⟩ := I.a c k' e
    have ne : k' ≠ i := fun z => h c (z ▸ e)
    obtain ⟨j, e2, l2⟩ := I.b x (k' + 1) ⟨hx, Way.cons hc u.2⟩ (by omega)
    exact ⟨j, e2, by omega⟩
end
section
variable (S : Nat → List Nat) (R : Nat → Prop) (who : Nat)
structure RdI (t : Nat) (g : Nat → Option Nat) : Prop where
  r1 : ∀ y k, g y = some k → Far S R who y k
  r2 : ∀ y k, UpP S R who y k → ∃ k', g y = some k' ∧ k' ≤ k
  r3 : ∀ v k, g v = some k → k < t → ∀ y, y ∈ S v → ∃ k', g y = some k' ∧ k' ≤ k + 1
variable {S R who}
theorem RdI.start {g : Nat → Option Nat} (h : Least (UpP S R who) g) : RdI S R who 0 g :=
  ⟨fun y k e => ⟨y, k, 0, (h.l1 y k e).1, (h.l1 y k e).2, Way.nil, rfl⟩, h.l2, fun v k _ z => absurd z (Nat.not_lt_zero _)⟩
theorem least_of {P : Nat → Prop} : ∀ {k : Nat}, P k → ∃ j, P j ∧ j ≤ k ∧ ∀ i, P i → j ≤ i := by
  intro k
  induction k using Nat.strongRecOn with
  | _ k ih =>
    intro h
    by_cases z : ∃ i, P i ∧ i < k
    · obtain ⟨i, hi, l⟩ := z
      obtain ⟨j, h1, h2, h3⟩ := ih i l hi
      exact ⟨j, h1, by omega, h3⟩
    · exact ⟨k, h, Nat.le_refl _, fun i hi => Nat.le_of_not_lt fun l => z ⟨i, hi, l⟩⟩
theorem RdI.all {t : Nat} {g : Nat → Option Nat} (I : RdI S R who t g) (bound : ∀ y k, Far S R who y k → (∀ i, Far S R who y i → k ≤ i) → k < t + 1) : Least (Far S R who) g := by
  have key : ∀ k y, Far S R who y k → (∀ i, Far S R who y i → k ≤ i) → g y = some k := by
    intro k
    induction k with
    | zero =>
      intro y h hm
      obtain ⟨x, a, b, hx, h1, h2, h3⟩ := h
      have ea : a = 0 := by omega
      have eb : b = 0 := by omega
      subst ea; subst eb
      have e := h2.zero
      subst e
      obtain ⟨k', e, l⟩ := I.r2 x 0 ⟨hx, h1⟩
      rw [e]
      congr 1
      omega
    | succ k ih =>
      intro y h hm
      have hk := bound y (k + 1) h hm
      have fin : (∃ k', g y = some k' ∧ k' ≤ k + 1) → g y = some (k + 1) := fun ⟨k', e, l⟩ => by
        have := hm k' (I.r1 y k' e)
        rw [e]
        congr 1
        omega
      obtain ⟨x, a, b, hx, h1, h2, h3⟩ := h
      cases b with
      | zero =>
        have e := h2.zero
        subst e
        have : a = k + 1 := by omega
        subst this
        exact fin (I.r2 x (k + 1) ⟨hx, h1⟩)
      | succ b =>
        obtain ⟨v, hv, hy⟩ := h2.snoc_inv
        have fv : Far S R who v k := ⟨x, a, b, hx, h1, hv, by omega⟩
        have gv := ih v fv fun i hi => by
          have := hm (i + 1) (hi.down hy)
          omega
        exact fin (I.r3 v k gv (by omega) y hy)
  refine ⟨I.r1, fun y k h => ?_⟩
  obtain ⟨j, h1, h2, h3⟩ := least_of h
  exact ⟨j, key j y h1 h3, h2⟩
end
end Dg
end
section
set_option Elab.async false
set_option linter.all false
set_option maxRecDepth 100000
set_option maxHeartbeats 4000000
namespace Lg
open PySem L2 Pw Pv Lx Ls Lq Wk Lv Lz Dg
end Lg
end
section
set_option Elab.async false
set_option linter.all false
set_option maxRecDepth 100000
set_option maxHeartbeats 4000000
namespace Lg
open PySem L2 Pw Pv Lx Ls Lq Wk Lv Lz Dg
end Lg
end
section
set_option Elab.async false
set_option linter.all false
set_option maxRecDepth 100000
set_option maxHeartbeats 4000000
namespace Lg
open PySem L2 Pw Pv Lx Ls Lq Wk Lv Lz Dg
end Lg
end
section
set_option Elab.async false
set_option linter.all false
set_option maxRecDepth 100000
set_option maxHeartbeats 4000000
namespace Lg
open PySem L2 Pw Pv Lx Ls Lq Wk Lv Lz Dg
end Lg
end
section
set_option Elab.async false
set_option linter.all false
set_option maxRecDepth 100000
set_option maxHeartbeats 4000000
namespace Lg
open PySem L2 Pw Pv Lx Ls Lq Wk Lv Lz Dg
end Lg
end
section
set_option Elab.async false
set_option linter.all false
set_option maxRecDepth 100000
set_option maxHeartbeats 4000000
namespace Lg
open PySem L2 Pw Pv Lx Ls Lq Wk Lv Lz Dg
end Lg
end
section
set_option Elab.async false
set_option linter.all false
set_option maxRecDepth 100000
set_option maxHeartbeats 4000000
namespace Lg
open PySem L2 Pw Pv Lx Ls Lq Wk Lv Lz Dg
section
variable {S : Nat → List Nat} {f : Nat}
def Reach (S : Nat → List Nat) (f x : Nat) : Prop := ∃ q, go S f q = some x
def Pk (S : Nat → List Nat) (f k x : Nat) : Prop := x = f ∨ ∃ v, v < f + k ∧ Reach S f v ∧ x ∈ S v
theorem Pk.reach {k x : Nat} (h : Pk S f k x) : Reach S f x := by
  rcases h with rfl | ⟨v, _, ⟨q, hq⟩, hx⟩
  · exact ⟨[], rfl⟩
  · obtain ⟨j, hj⟩ := List.getElem?_of_mem hx
    exact ⟨q ++ [j], by rw [go_snoc, hq]; exact hj⟩
end
end Lg
end
section
set_option Elab.async false
set_option linter.all false
set_option maxRecDepth 100000
set_option maxHeartbeats 4000000
namespace Lg
open PySem L2 Pw Pv Lx Ls Lq Wk Lv Lz Dg
end Lg
end
section
set_option Elab.async false
set_option linter.all false
set_option maxRecDepth 100000
set_option maxHeartbeats 4000000
namespace Lg
open PySem L2 Pw Pv Lx Ls Lq Wk Lv Lz Dg
section
variable {F : List Fo} {B : List Nw} {r : Rw} {day : Int} {m : Mem}
noncomputable def reB (F : List Fo) (B : List Nw) (r : Rw) (day : Int) (x : Nat) : Bool := fborn F r day && @decide (Reach (stepsOf F B r day) (f0 r) x) (Classical.propDecidable _)
end
end Lg
end
section
set_option Elab.async false
set_option linter.all false
set_option maxRecDepth 100000
set_option maxHeartbeats 4000000
namespace Lg
open PySem L2 Pw Pv Lx Ls Lq Wk Lv Lz Dg
end Lg
end
section
set_option Elab.async false
set_option linter.all false
set_option maxRecDepth 100000
set_option maxHeartbeats 4000000
namespace Lg
open PySem L2 Pw Pv Lx Ls Lq Wk Lv Lz Dg
section
variable {m : Mem} {ST : List (Key × D)} {T T' : List (Nat × Nat)} {E : List MO} {x y : MO} {i : Nat}
def IsRing (m : Mem) (E : List MO) (rw : W) (ring : List Nat) : Prop := rw = .v (.lst (ring.map nD)) ∨ ∃ i, rw = .r (m.length + 2 + i) ∧ E[i]? = some (.lst (ring.map nD))
theorem IsRing.stl {rw : W} {ring : List Nat} (h : IsRing m E rw ring) : Pw.stl rw = rw := by
  rcases h with rfl | ⟨i, rfl, e⟩ <;> rfl
end
end Lg
end
section
set_option Elab.async false
set_option linter.all false
set_option maxRecDepth 100000
set_option maxHeartbeats 4000000
namespace Lg
open PySem L2 Pw Pv Lx Ls Lq Wk Lv Lz Dg
end Lg
end
section
set_option Elab.async false
set_option linter.all false
set_option maxRecDepth 100000
set_option maxHeartbeats 4000000
namespace Lg
open PySem L2 Pw Pv Lx Ls Lq Wk Lv Lz Dg
end Lg
end
section
set_option Elab.async false
set_option linter.all false
set_option maxRecDepth 100000
set_option maxHeartbeats 4000000
namespace Lg
open PySem L2 Pw Pv Lx Ls Lq Wk Lv Lz Dg
end Lg
end
section
set_option Elab.async false
set_option linter.all false
set_option maxRecDepth 100000
set_option maxHeartbeats 4000000
namespace Lg
open PySem L2 Pw Pv Lx Ls Lq Wk Lv Lz Dg
end Lg
end
section
set_option Elab.async false
set_option linter.all false
set_option maxRecDepth 100000
set_option maxHeartbeats 4000000
namespace Lg
open PySem L2 Pw Pv Lx Ls Lq Wk Lv Lz Dg
end Lg
end
section
set_option Elab.async false
set_option linter.all false
set_option maxRecDepth 100000
set_option maxHeartbeats 4000000
namespace Le
open PySem L2 Pw Pv Lx Ls Lq Wk Lv Lz
end Le
end
section
set_option Elab.async false
set_option linter.all false
set_option maxRecDepth 100000
set_option maxHeartbeats 4000000
namespace Le
open PySem L2 Pw Pv Lx Ls Lq Wk Lv Lz
end Le
end
section
set_option Elab.async false
set_option linter.all false
set_option maxRecDepth 100000
set_option maxHeartbeats 4000000
namespace Lh
open PySem L2 Pw Pv Lx Ls Lq Wk Lv Lz
section
variable {F : List Fo} {B : List Nw} {r : Rw} {day : Int} {m : Mem}
end
end Lh
end
section
set_option Elab.async false
set_option linter.all false
set_option maxRecDepth 100000
set_option maxHeartbeats 4000000
namespace Lh
open PySem L2 Pw Pv Lx Ls Lq Wk Lv
open Lz
end Lh
end
section
set_option Elab.async false
set_option linter.all false
set_option maxRecDepth 100000
set_option maxHeartbeats 4000000
namespace Lh
open PySem L2 Pw Pv Lx Ls Lq Wk Lv
open Lz
end Lh
end
section
set_option Elab.async false
set_option linter.all false
set_option maxRecDepth 100000
set_option maxHeartbeats 4000000
namespace Lh
open PySem L2 Pw Pv Lx Ls Lq Wk Lv
open Lz
end Lh
end
section
set_option Elab.async false
set_option linter.all false
set_option maxRecDepth 100000
set_option maxHeartbeats 4000000
namespace Lh
open PySem L2 Pw Pv Lx Ls Lq Wk Lv
section
variable {ns : List Int} {F : List Fo} {B : List Nw} {s : Lx.St} {m : Mem}
end
end Lh
end
section
set_option Elab.async false
set_option linter.all false
set_option maxRecDepth 100000
set_option maxHeartbeats 400000
namespace Lh
open PySem L2 Pw Pv Lx Ls Lq Wk Lv
end Lh
end
section
set_option Elab.async false
set_option linter.all false
set_option maxRecDepth 100000
set_option maxHeartbeats 400000
namespace Lh
open PySem L2 Pw Pv Lx Ls Lq Wk Lv Lg
end Lh
end
section
set_option Elab.async false
set_option linter.all false
set_option maxRecDepth 100000
set_option maxHeartbeats 400000
namespace Lh
open PySem L2 Pw Pv Lx Ls Lq Wk Lv Lg
end Lh
end
section
set_option Elab.async false
set_option linter.all false
set_option maxRecDepth 100000
set_option maxHeartbeats 4000000
namespace Lo
open PySem L2 Pw Pv Lx Ls Lq Wk Lv Lz Dg Lg
section
variable {F : List Fo} {B : List Nw} {r : Rw} {day : Int} {m : Mem}
noncomputable def RR (F : List Fo) (B : List Nw) (r : Rw) (day : Int) : List Nat := (List.range F.length).filter (reB F B r day)
def stB (F : List Fo) (B : List Nw) (r : Rw) (day : Int) (w : Nat) : Bool := (!decide ((w : Int) ∈ deadL B day) && !decide ((w : Int) ∈ outL B day)) && (!decide (r.men = "only") || manP F w)
noncomputable def gF (F : List Fo) (B : List Nw) (r : Rw) (day : Int) (w : Nat) : Nat → Option Nat := @dite _ (∃ g, Least (Far (stepsOf F B r day) (fun x => reB F B r day x = true) w) g) (Classical.propDecidable _) (fun h => Classical.choose h) fun _ _ => none
def oI (o : Option Nat) : Int := match o with
  | some k => (k : Int)
  | none => -1
noncomputable def dgs (F : List Fo) (B : List Nw) (r : Rw) (day : Int) (w : Nat) : List Int := (List.range (bornL F day).length).map fun y => oI (gF F B r day w y)
def nearN (ts : List Int) (L : List Nat) : List Nat := (sortM (nearLt ts) (L.map fun i : Nat => (i : Int))).map Int.toNat
theorem near_cast (ts : List Int) (L : List Nat) : ∀ i ∈ sortM (nearLt ts) (L.map fun i : Nat => (i : Int)), ((i.toNat : Nat) : Int) = i := fun i h => by
  obtain ⟨x, _, rfl⟩ := List.mem_map.mp ((sortM_perm _).mem_iff.mp h)
  simp
theorem near_int (ts : List Int) (L : List Nat) : (nearN ts L).map (fun i : Nat => (i : Int)) = sortM (nearLt ts) (L.map fun i : Nat => (i : Int)) := by
  unfold nearN
  rw [List.map_map]
  conv => rhs; rw [← List.map_id (sortM (nearLt ts) (L.map fun i : Nat => (i : Int)))]
  exact List.map_congr_left fun i h => near_cast ts L i h
theorem near_perm (ts : List Int) (L : List Nat) : (nearN ts L).Perm L := by
  have p := (sortM_perm (lt := nearLt ts) (L.map fun i : Nat => (i : Int))).map Int.toNat
  rw [List.map_map] at p
  have : L.map (Int.toNat ∘ fun i : Nat => (i : Int)) = L := by
    conv => rhs; rw [← List.map_id L]
    exact List.map_congr_left fun i _ => by simp
  rw [this] at p
  exact p
noncomputable def ordR (F : List Fo) (B : List Nw) (r : Rw) (day : Int) (V : List (List Nat)) (last : Nat) : List Nat :=
  if r.way = "lines" then (walkN F B r day V).filter (stB F B r day) else if r.way = "near" then nearN (dgs F B r day last) ((RR F B r day).filter (stB F B r day)) else (RR F B r day).filter (stB F B r day)
end
end Lo
end
section
set_option Elab.async false
set_option linter.all false
set_option maxRecDepth 100000
set_option maxHeartbeats 4000000
namespace Lo
open PySem L2 Pw Pv Lx Ls Lq Wk Lv Lz Dg Lg
end Lo
end
section
set_option Elab.async false
set_option linter.all false
set_option maxRecDepth 100000
set_option maxHeartbeats 4000000
namespace Lo
open PySem L2 Pw Pv Lx Ls Lq Wk Lv Lz Dg Lg
section
variable {F : List Fo} {B : List Nw} {r : Rw} {day : Int} {m : Mem}
noncomputable def vF (F : List Fo) (B : List Nw) (r : Rw) (day : Int) : List (List Nat) := @dite _ (∃ V, IsWalk F B r day V) (Classical.propDecidable _) (fun h => Classical.choose h) fun _ => []
noncomputable def ordN (F : List Fo) (B : List Nw) (day : Int) (last : Nat) (r : Rw) : List Nat := ordR F B r day (vF F B r day) last
noncomputable def firstN (F : List Fo) (B : List Nw) (day : Int) (last : Nat) (Rs : List Rw) : Option Nat := Rs.findSome? fun r => (ordN F B day last r).head?
end
end Lo
end
section
set_option Elab.async false
set_option linter.all false
set_option maxRecDepth 100000
set_option maxHeartbeats 4000000
namespace Lo
open PySem L2 Pw Pv Lx Ls Lq Wk Lv Lz Dg Lg
end Lo
end
section
set_option Elab.async false
set_option linter.all false
set_option maxRecDepth 100000
set_option maxHeartbeats 4000000
namespace Lo
open PySem L2 Pw Pv Lx Ls Lq Wk Lv Lz Dg Lg
section
variable {F : List Fo} {B : List Nw} {r : Rw} {day : Int} {m : Mem} {web : D}
theorem near_uniq {ts : List Int} {A L : List Nat} (hp : A.Perm L) (hs : A.Pairwise fun x y : Nat => nearLt ts (y : Int) (x : Int) = false) : nearN ts L = A := by
  have e : sortM (nearLt ts) (L.map fun i : Nat => (i : Int)) = A.map fun i : Nat => (i : Int) :=
    sortedM_uniq (lin_near ts) (sortM_sorted (lin_near ts) _) (List.pairwise_map.mpr hs) ((sortM_perm _).trans (hp.symm.map _))
  unfold nearN
  rw [e, List.map_map]
  conv => rhs; rw [← List.map_id A]
  exact List.map_congr_left fun i _ => by simp
theorem near_sorted (ts : List Int) (L : List Nat) : (nearN ts L).Pairwise fun x y : Nat => nearLt ts (y : Int) (x : Int) = false := by
  have := sortM_sorted (lin_near ts) (L.map fun i : Nat => (i : Int))
  rw [← near_int, List.pairwise_map] at this
  exact this
end
end Lo
end
section
set_option Elab.async false
set_option linter.all false
set_option maxRecDepth 100000
set_option maxHeartbeats 400000
namespace Lh
open PySem L2 Pw Pv Lx Ls Lq Wk Lv Lg
section
variable {F : List Fo} {B : List Nw} {r : Rw} {day : Int} {m : Mem}
end
end Lh
end
section
set_option Elab.async false
set_option linter.all false
set_option maxRecDepth 100000
set_option maxHeartbeats 400000
namespace Lh
open PySem L2 Pw Pv Lx Ls Lq Wk Lv Lg
end Lh
end
section
set_option Elab.async false
set_option linter.all false
set_option maxRecDepth 100000
set_option maxHeartbeats 400000
namespace Lh
open PySem L2 Pw Pv Lx Ls Lq Wk Lv
end Lh
end
section
set_option Elab.async false
set_option linter.all false
set_option maxRecDepth 100000
set_option maxHeartbeats 400000
namespace Lh
open PySem L2 Pw Pv Lx Ls Lq Wk Lv
end Lh
end
section
set_option Elab.async false
set_option linter.all false
set_option maxRecDepth 100000
set_option maxHeartbeats 4000000
namespace Lo
open PySem L2 Pw Pv Lx Ls Lq Wk Lv Lz Dg Lg
end Lo
end
section
set_option Elab.async false
set_option linter.all false
set_option maxRecDepth 100000
set_option maxHeartbeats 2000000
namespace Wk
open Lv
end Wk
end
section
set_option Elab.async false
set_option linter.all false
set_option maxRecDepth 100000
set_option maxHeartbeats 4000000
namespace Le
open PySem L2 Pw Pv Lx Ls Lq Wk Lv Lz
end Le
end
section
set_option Elab.async false
set_option linter.all false
set_option maxRecDepth 100000
set_option maxHeartbeats 4000000
namespace Lo
open PySem L2 Pw Pv Lx Ls Lq Wk Lv Lz Dg Lg
end Lo
end
section
set_option Elab.async false
set_option linter.all false
set_option maxRecDepth 100000
set_option maxHeartbeats 4000000
namespace Lo
open PySem L2 Pw Pv Lx Ls Lq Wk Lv Lz Dg Lg
section
variable {F : List Fo} {B B' : List Nw} {r : Rw} {day : Int} {m : Mem}
structure SameS (F : List Fo) (B B' : List Nw) (r : Rw) (day : Int) : Prop where
  st : stepsOf F B' r day = stepsOf F B r day
theorem SameS.walk (h : SameS F B B' r day) (V : List (List Nat)) : walkN F B' r day V = walkN F B r day V := by
  unfold walkN
  rw [h.st]
theorem SameS.is (h : SameS F B B' r day) : IsWalk F B' r day = IsWalk F B r day := funext fun V => by
  unfold IsWalk
  rw [h.st]
theorem SameS.v (h : SameS F B B' r day) : vF F B' r day = vF F B r day := by
  have g : ∀ P Q : List (List Nat) → Prop, P = Q → @dite _ (∃ V, P V) (Classical.propDecidable _) (fun h => Classical.choose h) (fun _ => []) = @dite _ (∃ V, Q V) (Classical.propDecidable _) (fun h => Classical.choose h) (fun _ => []) := fun P Q e => by subst e; rfl
  exact g _ _ h.is
theorem SameS.re (h : SameS F B B' r day) : reB F B' r day = reB F B r day := funext fun x => by
  unfold reB
  rw [h.st]
theorem SameS.rr (h : SameS F B B' r day) : RR F B' r day = RR F B r day := by
  unfold RR
  rw [h.re]
theorem SameS.dg (h : SameS F B B' r day) (w : Nat) : dgs F B' r day w = dgs F B r day w := by
  unfold dgs gF
  rw [h.st, h.re]
theorem near_filter (ts : List Int) (p : Nat → Bool) (L : List Nat) : nearN ts (L.filter p) = (nearN ts L).filter p :=
  near_uniq ((near_perm ts L).filter p) ((near_sorted ts L).filter p)
theorem SameS.ord (h : SameS F B B' r day) {p : Nat → Bool} (hs : ∀ x, stB F B' r day x = (stB F B r day x && p x)) (last : Nat) : ordN F B' day last r = (ordN F B day last r).filter p := by
  have fl : ∀ L : List Nat, L.filter (stB F B' r day) = (L.filter (stB F B r day)).filter p := fun L => by
    rw [List.filter_filter]
    exact List.filter_congr fun x _ => by rw [hs, Bool.and_comm]
  unfold ordN ordR
  rw [h.v, h.walk, h.rr, h.dg, fl, fl]
  split
  · rfl
  · split
    · exact near_filter _ _ _
    · rfl
end
end Lo
end
section
set_option Elab.async false
set_option linter.all false
set_option maxRecDepth 100000
set_option maxHeartbeats 4000000
namespace Lo
open PySem L2 Pw Pv Lx Ls Lq Wk Lv Lz Dg Lg
section
variable {ns : List Int} {s : Lx.St} {F : List Fo} {B : List Nw} {r : Rw} {day : Int} {m : Mem}
theorem take_nat {n : Nat} (h : 1 ≤ n) (h2 : n ≤ 1000000) (m : Mem) : ∃ (w : Nat) (s' : Lx.St), F_take [.r 0, .v (.int (n : Int))] (stD ns s :: m) = some (.v (nD w), stD ns s' :: m) ∧ w < n := by
  have te : F_take [.r 0, .v (.int (n : Int))] (stD ns s :: m) = _ := take_eq (ns := ns) (s := s) (m := m) (b := (n : Int)) (by omega) (by omega)
  have c1 := tk_lo (ns := ns) (s := s) (b := (n : Int))
  have c2 := tk_hi (ns := ns) (s := s) (b := (n : Int)) (by omega) (by omega)
  generalize (tk ns s (n : Int)).1 = c at c1 c2 te
  obtain ⟨w, rfl⟩ : ∃ w : Nat, c = (w : Int) := ⟨c.toNat, by omega⟩
  exact ⟨w, _, te, by omega⟩
theorem take_int {b : Int} (h : 0 < b) (h2 : b ≤ 1000000) (m : Mem) : ∃ (c : Int) (s' : Lx.St), F_take [.r 0, .v (.int b)] (stD ns s :: m) = some (.v (.int c), stD ns s' :: m) ∧ 0 ≤ c ∧ c < b := by
  have te : F_take [.r 0, .v (.int b)] (stD ns s :: m) = _ := take_eq (ns := ns) (s := s) (m := m) (b := b) (by omega) (by omega)
  exact ⟨_, _, te, tk_lo, tk_hi (by omega) (by omega)⟩
end
end Lo
end
section
set_option Elab.async false
set_option linter.all false
set_option maxRecDepth 100000
set_option maxHeartbeats 4000000
namespace Lo
open PySem L2 Pw Pv Lx Ls
end Lo
end
section
set_option Elab.async false
set_option linter.all false
set_option maxRecDepth 100000
set_option maxHeartbeats 4000000
namespace Lo
open PySem L2 Pw Pv Lx Ls Lq Wk Lv Lz Dg Lg
section
variable {ns : List Int} {s : Lx.St} {F : List Fo} {B B' : List Nw} {r : Rw} {day d : Int} {m : Mem} {ds : List Int}
end
end Lo
end
section
set_option Elab.async false
set_option linter.all false
set_option maxRecDepth 100000
set_option maxHeartbeats 1000000
namespace Wk
open Pv
section
variable {S S' : Nat → List Nat} {n f : Nat}
variable (hS : ∀ v, S v = (S' v).filter fun c => decide (c ≠ n)) (hn : S' n = [])
include hS hn
end
end Wk
end
section
set_option Elab.async false
set_option linter.all false
set_option maxRecDepth 100000
set_option maxHeartbeats 1000000
namespace Lo
open PySem L2 Pw Pv Lx Ls Lq Wk Lv Lz Dg Lg
end Lo
end
section
set_option Elab.async false
set_option linter.all false
set_option maxRecDepth 100000
set_option maxHeartbeats 1000000
namespace Lo
open PySem L2 Pw Pv Lx Ls Lq Wk Lv Lz Dg Lg
end Lo
end
section
set_option Elab.async false
set_option linter.all false
set_option maxRecDepth 100000
set_option maxHeartbeats 1000000
namespace Lo
open PySem L2 Pw Pv Lx Ls Lq Wk Lv Lz Dg Lg
end Lo
end
section
set_option Elab.async false
set_option linter.all false
set_option maxRecDepth 100000
set_option maxHeartbeats 4000000
namespace Rg
open PySem L2 Pw Pv Lx Ls Lq Wk Lv Lz Dg Lg Lo
section
variable {F : List Fo} {B : List Nw} {Rs : List Rw} {day : Int} {m : Mem}
def upB (B : List Nw) (day : Int) : List Nw := B.filter fun n => decide (n.day ≤ day)
end
end Rg
end
section
set_option Elab.async false
set_option linter.all false
set_option maxRecDepth 100000
set_option maxHeartbeats 4000000
namespace Rg
open PySem L2 Pw Pv Lx Ls Lq Wk Lv Lz Dg Lg Lo
end Rg
end
section
set_option Elab.async false
set_option linter.all false
set_option maxRecDepth 100000
set_option maxHeartbeats 800000
namespace Rg
open PySem L2 Pw Pv Lx Ls Lq Wk Lv Lz Dg Lg Lo
end Rg
end
section
set_option Elab.async false
set_option linter.all false
set_option maxRecDepth 100000
set_option maxHeartbeats 1000000
namespace Lp
open PySem L2 Pw Pv Lx Ls Lq Wk Lv Lz Dg Lg Lo
end Lp
end
section
set_option Elab.async false
set_option linter.all false
set_option maxRecDepth 100000
set_option maxHeartbeats 4000000
namespace Le
open PySem L2 Pw Pv Lx Ls Lq Wk Lv Lz
end Le
end
section
set_option Elab.async false
set_option linter.all false
set_option maxRecDepth 100000
set_option maxHeartbeats 1000000
namespace Lp
open PySem L2 Pw Pv Lx Ls Lq Wk Lv Lz Dg Lg Lo
end Lp
end
section
set_option Elab.async false
set_option linter.all false
set_option maxRecDepth 100000
set_option maxHeartbeats 1000000
namespace Lp
open PySem L2 Pw Pv Lx Ls Lq Wk Lv Lz Dg Lg Lo
end Lp
end
section
set_option Elab.async false
set_option linter.all false
set_option maxRecDepth 100000
set_option maxHeartbeats 1000000
namespace Lp
open PySem L2 Pw Pv Lx Ls Lq Wk Lv Lz Dg Lg Lo
section
variable {ns : List Int} {s : Lx.St} {F : List Fo} {B : List Nw} {r : Rw} {day lim : Int} {m : Mem}
end
end Lp
end
section
set_option Elab.async false
set_option linter.all false
set_option maxRecDepth 100000
set_option maxHeartbeats 1000000
namespace Lp
open PySem L2 Pw Pv Lx Ls Lq Wk Lv Lz Dg Lg Lo
end Lp
end
section
set_option Elab.async false
set_option linter.all false
set_option maxRecDepth 100000
set_option maxHeartbeats 1000000
namespace Lp
open PySem L2 Pw Pv Lx Ls Lq Wk Lv Lz Dg Lg Lo
end Lp
end
section
set_option Elab.async false
set_option linter.all false
set_option maxRecDepth 100000
set_option maxHeartbeats 1000000
namespace Lp
open PySem L2 Pw Pv Lx Ls Lq Wk Lv Lz Dg Lg Lo
end Lp
end
section
set_option Elab.async false
set_option linter.all false
set_option maxRecDepth 100000
set_option maxHeartbeats 1000000
namespace Lp
open PySem L2 Pw Pv Lx Ls Lq Wk Lv Lz Dg Lg Lo
end Lp
end
section
set_option Elab.async false
set_option linter.all false
set_option maxRecDepth 100000
set_option maxHeartbeats 1000000
namespace Lp
open PySem L2 Pw Pv Lx Ls Lq Wk Lv Lz Dg Lg Lo
end Lp
end
section
set_option Elab.async false
set_option linter.all false
set_option maxRecDepth 100000
set_option maxHeartbeats 1000000
namespace Lp
open PySem L2 Pw Pv Lx Ls Lq Wk Lv Lz Dg Lg Lo
noncomputable def BP (G : Fx) : Sx := (sSeq (sIf (tTru (eIs .tuple (eVar 0))) (sRet (eCB allBD (aCons (eLc (iSeq (eVar 0)) (gN 1) tYes' (eCall G (aCons (eVar 1) aNil)) [1]) aNil))) sNil) (sRet (eAnd (eIs2 .int .str (eVar 0)) (eNot (eIs .bool (eVar 0))))))
noncomputable def FP (G : Fx) : Fx := runF 1 2 (BP G)
theorem all_true {α : Type} (L : List α) : allBD [.lst (L.map fun _ => D.bl true)] = some (.v (.bl true)) := by
  have h : ∀ L : List α, allBl (L.map fun _ => D.bl true) = some (L.map fun _ => true) := fun L => by
    induction L with
    | nil => rfl
    | cons a L ih =>
      rw [List.map_cons, List.map_cons]
      unfold allBl
      rw [ih]; rfl
  show (some (L.map fun _ => D.bl true)).bind (fun ds => (allBl ds).bind fun bs => some (Pw.W.v (.bl (bs.all id)))) = _
  simp only [Option.bind_some, h]
  congr 3
  rw [List.all_eq_true]
  intro b hb
  obtain ⟨_, _, rfl⟩ := List.mem_map.mp hb
  rfl
theorem plainI (G : Fx) (i : Int) (m : Mem) : FP G [.v (.int i)] m = some (.v (.bl true), m) := by
  simp only [FP, runF, BP, startD]
  simp [sSeq, sIf, tTru, eIs, eVar, isD, truD, sNil, sRet, eAnd, eIs2, eNot, tVal, blD, outW]
theorem plainS (G : Fx) (i : Str) (m : Mem) : FP G [.v (.str i)] m = some (.v (.bl true), m) := by
  simp only [FP, runF, BP, startD]
  simp [sSeq, sIf, tTru, eIs, eVar, isD, truD, sNil, sRet, eAnd, eIs2, eNot, tVal, blD, outW]
theorem plainT {G : Fx} {ds : List D} (hl : ds.length ≤ 1000000) (m : Mem) (h : ∀ d ∈ ds, G [.v d] m = some (.v (.bl true), m)) : FP G [.v (.tup ds)] m = some (.v (.bl true), m) := by
  have e : eLc (iSeq (eVar 0)) (gN 1) tYes' (eCall G (aCons (eVar 1) aNil)) [1] [some (.v (.tup ds)), none] m = some (.f (.lst (ds.map fun _ => D.bl true)), m) := by
    have q := lc_map (src := iSeq (eVar 0)) (t := gN 1) (c := tYes') (f := eCall G (aCons (eVar 1) aNil)) (vs := [1]) (ρ := [some (.v (.tup ds)), none]) (m := m) (m1 := m) ds id (fun _ => true) (fun _ => D.bl true) (by simp [iSeq, eVar]) (fun d hd => ⟨_, rfl, rfl, fun _ => ⟨Pw.W.v (.bl true), call_at (ws := [.v d]) (m1 := m) (by simp [aCons, aNil, eVar]) (h d hd), rfl⟩⟩) hl
    rw [q, List.filter_eq_self.mpr (fun _ _ => rfl)]
  have a := all_true ds
  have it : isD .tuple (.tup ds) = true := rfl
  generalize ds.map (fun _ => D.bl true) = Q at e a
  generalize D.tup ds = T at e it
  simp only [FP, runF, BP, startD]
  have e' : eLc (iSeq (eVar 0)) (gN 1) tYes' (eCall G (aCons (eVar 1) aNil)) [1] [some (.v T), none] m = some (.f (.lst Q), m) := e
  generalize eLc (iSeq (eVar 0)) (gN 1) tYes' (eCall G (aCons (eVar 1) aNil)) [1] = E at e'
  simp [sSeq, sIf, tTru, eIs, eVar, it, truD, sRet, eCB, aCons, aNil, e', a, outW]
end Lp
end
section
set_option Elab.async false
set_option linter.all false
set_option maxRecDepth 100000
set_option maxHeartbeats 1000000
namespace Lp
open PySem L2 Pw Pv Lx Ls Lq Wk Lv Lz Dg Lg Lo
section
variable {F : List Fo} {B : List Nw} {r : Rw} {day lim aside : Int} {last : Nat} {m : Mem}
end
end Lp
end
section
set_option Elab.async false
set_option linter.all false
set_option maxRecDepth 100000
set_option maxHeartbeats 1000000
namespace Rd
open PySem L2 Pw Pv Lx Ls Lq Wk Lv Lz Dg Lg Lo Rg
section
variable {F F' : List Fo} {B B' : List Nw} {Rs : List Rw} {r : Rw} {d e : Int} {last : Nat}
theorem ord_congr (hS : stepsOf F B r d = stepsOf F' B' r e) (hf : fborn F r d = fborn F' r e) (hs : stB F B r d = stB F' B' r e) (hl : F.length = F'.length) (hb : (bornL F d).length = (bornL F' e).length) : ordN F B d last r = ordN F' B' e last r := by
  have rb : reB F B r d = reB F' B' r e := by
    funext x
    unfold reB
    rw [hS, hf]
  have rr : Lo.RR F B r d = Lo.RR F' B' r e := by
    unfold Lo.RR
    rw [rb, hl]
  have iw : IsWalk F B r d = IsWalk F' B' r e := by
    funext V
    unfold IsWalk
    rw [hS, hf]
  have vf : vF F B r d = vF F' B' r e := by
    unfold vF
    rw [iw]
  have gf : gF F B r d last = gF F' B' r e last := by
    unfold gF
    rw [hS, rb]
  have dg : dgs F B r d last = dgs F' B' r e last := by
    unfold dgs
    rw [gf, hb]
  unfold ordN ordR walkN
  rw [vf, dg, rr, hs, hS]
theorem first_congr (h : ∀ r ∈ Rs, ordN F B d last r = ordN F' B' e last r) : firstN F B d last Rs = firstN F' B' e last Rs := by
  unfold firstN
  induction Rs with
  | nil => rfl
  | cons r Rs ih =>
    rw [List.findSome?_cons, List.findSome?_cons, h r List.mem_cons_self, ih fun r hr => h r (List.mem_cons_of_mem _ hr)]
structure Still (F : List Fo) (B : List Nw) (d e : Int) : Prop where
  le : d ≤ e
  f : ∀ f ∈ F, f.day ≤ e → f.day ≤ d
  b : ∀ n ∈ B, n.day ≤ e → n.day ≤ d
variable (hq : Still F B d e)
theorem Still.dec (h : Still F B d e) {n : Nw} (hn : n ∈ B) : decide (n.day ≤ e) = decide (n.day ≤ d) := by
  rw [decide_eq_decide]
  exact ⟨h.b n hn, fun z => by have := h.le; omega⟩
theorem Still.decF (h : Still F B d e) {f : Fo} (hf : f ∈ F) : decide (f.day ≤ e) = decide (f.day ≤ d) := by
  rw [decide_eq_decide]
  exact ⟨h.f f hf, fun z => by have := h.le; omega⟩
theorem Still.born (h : Still F B d e) : bornL F e = bornL F d := List.filter_congr fun f hf => h.decF hf
theorem Still.up (h : Still F B d e) : upB B e = upB B d := List.filter_congr fun n hn => h.dec hn
theorem Still.days (h : Still F B d e) (who : Int) (word : Str) : daysOf B e who word = daysOf B d who word := by
  unfold daysOf
  congr 1
  refine List.filter_congr fun n hn => ?_
  unfold dayP
  rw [h.dec hn]
theorem Still.back (h : Still F B d e) (who : Int) : backOf B e who = backOf B d who := by
  unfold backOf
  rw [h.days]
theorem Still.cut (h : Still F B d e) (who : Int) : cutFrom B e who = cutFrom B d who := by
  unfold cutFrom behind
  rw [h.days, h.back]
theorem Still.dead (h : Still F B d e) : deadL B e = deadL B d := by
  unfold deadL
  congr 1
  refine List.filter_congr fun n hn => ?_
  rw [h.dec hn]
theorem Still.out (h : Still F B d e) : outL B e = outL B d := by
  unfold outL
  congr 1
  refine List.filter_congr fun n hn => ?_
  unfold nbP
  rw [h.dec hn, h.back]
theorem Still.st (h : Still F B d e) (G : List Fo) (r : Rw) : stB G B r e = stB G B r d := by
  funext x
  unfold stB
  rw [h.dead, h.out]
theorem Still.steps (h : Still F B d e) (r : Rw) : stepsOf F B r e = stepsOf F B r d := by
  have fo : ∀ w : Nat, foundOf F B r e w = foundOf F B r d w := fun w => by
    unfold foundOf
    rw [h.cut]
    refine List.filter_congr fun i _ => ?_
    unfold ccP
    cases hi : F[i]? with
    | none => rfl
    | some f =>
      have := h.decF (List.mem_of_getElem? hi)
      have e1 : decide (e < f.day) = decide (d < f.day) := by
        rw [decide_eq_decide] at this ⊢
        omega
      dsimp only
      rw [e1]
  funext w
  unfold stepsOf
  rw [fo]
theorem Still.fb (h : Still F B d e) (r : Rw) : fborn F r e = fborn F r d := by
  unfold fborn
  cases hi : F[f0 r]? with
  | none => rfl
  | some f => exact h.decF (List.mem_of_getElem? hi)
theorem Still.ord (h : Still F B d e) (r : Rw) : ordN F B e last r = ordN F B d last r := ord_congr (h.steps r) (h.fb r) (h.st F r) rfl (by rw [h.born])
theorem Still.first (h : Still F B d e) : firstN F B e last Rs = firstN F B d last Rs := first_congr fun r _ => h.ord r
end
end Rd
end
section
set_option Elab.async false
set_option linter.all false
set_option maxRecDepth 100000
set_option maxHeartbeats 1000000
namespace Rt
open PySem L2 Pw Pv Lx Ls Lq Wk Lv Lz Dg Lg Lo
end Rt
end
section
set_option Elab.async false
set_option linter.all false
set_option maxRecDepth 100000
set_option maxHeartbeats 1000000
namespace Rt
open PySem L2 Pw Pv Lx Ls Lq Wk Lv Lz Dg Lg Lo
end Rt
end
section
set_option Elab.async false
set_option linter.all false
set_option maxRecDepth 100000
set_option maxHeartbeats 1000000
namespace Rt
open Wk Dg
end Rt
end
section
set_option Elab.async false
set_option linter.all false
set_option maxRecDepth 100000
set_option maxHeartbeats 1000000
namespace Rt
open PySem L2 Pw Pv Lx Ls Lq Wk Lv Lz Dg Lg Lo
end Rt
end
section
set_option Elab.async false
set_option linter.all false
set_option maxRecDepth 100000
set_option maxHeartbeats 1000000
namespace Rt
open PySem L2 Pw Pv Lx Ls Lq Wk Lv Lz Dg Lg Lo
end Rt
end
section
set_option Elab.async false
set_option linter.all false
set_option maxRecDepth 100000
set_option maxHeartbeats 1000000
namespace Rt
open PySem L2 Pw Pv Lx Ls Lq Wk Lv Lz Dg Lg Lo
end Rt
end
section
set_option Elab.async false
set_option linter.all false
set_option maxRecDepth 100000
set_option maxHeartbeats 1000000
namespace Rt
open PySem L2 Pw Pv Lx Ls Lq Wk Lv Lz Dg Lg Lo
end Rt
end
section
set_option Elab.async false
set_option linter.all false
set_option maxRecDepth 100000
set_option maxHeartbeats 1000000
namespace Rt
open PySem L2 Pw Pv Lx Ls Lq Wk Lv Lz Dg Lg Lo
end Rt
end
section
set_option Elab.async false
set_option linter.all false
set_option maxRecDepth 100000
set_option maxHeartbeats 1000000
namespace Rt
open PySem L2 Pw Pv Lx Ls Lq Wk Lv Lz Dg Lg Lo
end Rt
end
section
set_option Elab.async false
set_option linter.all false
set_option maxRecDepth 100000
set_option maxHeartbeats 1000000
namespace Rt
open PySem L2 Pw Pv Lx Ls Lq Wk Lv Lz Dg Lg Lo
end Rt
end
section
set_option Elab.async false
set_option linter.all false
set_option maxRecDepth 100000
set_option maxHeartbeats 1000000
namespace Rt
open PySem L2 Pw Pv Lx Ls Lq Wk Lv Lz Dg Lg Lo
end Rt
end
section
set_option Elab.async false
set_option linter.all false
set_option maxRecDepth 100000
set_option maxHeartbeats 800000
namespace Rg
open PySem L2 Pw Pv Lx Ls Lq Wk Lv Lz Dg Lg Lo
section
variable {F : List Fo} {B : List Nw} {Rs : List Rw} {day lim : Int} {m : Mem}
end
end Rg
end
section
set_option Elab.async false
set_option linter.all false
set_option maxRecDepth 100000
set_option maxHeartbeats 800000
namespace Rg
open PySem L2 Pw Pv Lx Ls Lq Wk Lv Lz Dg Lg Lo
end Rg
end
section
set_option Elab.async false
set_option linter.all false
set_option maxRecDepth 100000
set_option maxHeartbeats 800000
namespace Rg
open PySem L2 Pw Pv Lx Ls Lq Wk Lv Lz Dg Lg Lo
end Rg
end
section
set_option Elab.async false
set_option linter.all false
set_option maxRecDepth 100000
set_option maxHeartbeats 1000000
namespace Rt
open PySem L2 Pw Pv Lx Ls Lq Wk Lv Lz Dg Lg Lo
end Rt
end
section
set_option Elab.async false
set_option linter.all false
set_option maxRecDepth 100000
set_option maxHeartbeats 1000000
namespace Rt
open PySem L2 Pw Pv Lx Ls Lq Wk Lv Lz Dg Lg Lo
open Rg (upB)
end Rt
end
section
set_option Elab.async false
set_option linter.all false
set_option maxRecDepth 100000
set_option maxHeartbeats 1000000
namespace Rt
open PySem L2 Pw Pv Lx Ls Lq Wk Lv Lz Dg Lg Lo
open Rg (upB)
end Rt
end
section
set_option Elab.async false
set_option linter.all false
set_option maxRecDepth 100000
set_option maxHeartbeats 1000000
namespace Rt
open PySem L2 Pw Pv Lx Ls Lq Wk Lv Lz Dg Lg Lo
open Rg (upB)
end Rt
end
section
set_option Elab.async false
set_option linter.all false
set_option maxRecDepth 100000
set_option maxHeartbeats 1000000
namespace Rt
open PySem L2 Pw Pv Lx Ls Lq Wk Lv Lz Dg Lg Lo
open Rg (upB)
end Rt
end
section
set_option Elab.async false
set_option linter.all false
set_option maxRecDepth 100000
set_option maxHeartbeats 1000000
namespace Rt
open PySem L2 Pw Pv Lx Ls Lq Wk Lv Lz Dg Lg Lo
open Rg (upB)
end Rt
end
section
set_option Elab.async false
set_option linter.all false
set_option maxRecDepth 100000
set_option maxHeartbeats 1000000
namespace Rt
open PySem L2 Pw Pv Lx Ls Lq Wk Lv Lz Dg Lg Lo
open Rg (upB)
end Rt
end
section
set_option Elab.async false
set_option linter.all false
set_option maxRecDepth 100000
set_option maxHeartbeats 1000000
namespace Rt
open PySem L2 Pw Pv Lx Ls Lq Wk Lv Lz Dg Lg Lo
open Rg (upB)
end Rt
end
section
set_option Elab.async false
set_option linter.all false
set_option maxRecDepth 100000
set_option maxHeartbeats 1000000
namespace Rt
open PySem L2 Pw Pv Lx Ls Lq Wk Lv Lz Dg Lg Lo
end Rt
end
section
set_option Elab.async false
set_option linter.all false
set_option maxRecDepth 100000
set_option maxHeartbeats 800000
namespace Rg
open PySem L2 Pw Pv Lx Ls Lq Wk Lv Lz Dg Lg Lo
end Rg
end
section
set_option Elab.async false
set_option linter.all false
set_option maxRecDepth 100000
set_option maxHeartbeats 1000000
namespace Rt
open PySem L2 Pw Pv Lx Ls Lq Wk Lv Lz Dg Lg Lo
end Rt
end
section
set_option Elab.async false
set_option linter.all false
set_option maxRecDepth 100000
set_option maxHeartbeats 1000000
namespace Rt
open PySem L2 Pw Pv Lx Ls Lq Wk Lv Lz Dg Lg Lo
end Rt
end
section
set_option Elab.async false
set_option linter.all false
set_option maxRecDepth 100000
set_option maxHeartbeats 1000000
namespace Rt
open PySem L2 Pw Pv Lx Ls Lq Wk Lv Lz Dg Lg Lo
open Rg (upB)
end Rt
end
section
set_option Elab.async false
set_option linter.all false
set_option maxRecDepth 100000
set_option maxHeartbeats 1000000
namespace Rt
open PySem L2 Pw Pv Lx Ls Lq Wk Lv Lz Dg Lg Lo
end Rt
end
section
set_option Elab.async false
set_option linter.all false
set_option maxRecDepth 100000
set_option maxHeartbeats 1000000
namespace Rt
open PySem L2 Pw Pv Lx Ls Lq Wk Lv Lz Dg Lg Lo
end Rt
end
section
set_option Elab.async false
set_option linter.all false
set_option maxRecDepth 100000
set_option maxHeartbeats 1000000
namespace Rt
open PySem L2 Pw Pv Lx Ls Lq Wk Lv Lz Dg Lg Lo
end Rt
end
section
set_option Elab.async false
set_option linter.all false
set_option maxRecDepth 100000
set_option maxHeartbeats 1000000
namespace Rt
open PySem L2 Pw Pv Lx Ls Lq Wk Lv Lz Dg Lg Lo
open Rg (upB)
section
variable {ns : List Int} {s : Lx.St} {F : List Fo} {B : List Nw} {Rs : List Rw} {day lim : Int} {m : Mem}
theorem mem_sortM {Ns : List Nw} {n : Nw} : n ∈ sortM nLt Ns ↔ n ∈ Ns := (sortM_perm Ns).mem_iff
theorem sortM_good (hok : ∀ n ∈ B, NwOk F n) (nd : B.Nodup) (hl : B.length < 64) : GoodB F (sortM nLt B) := by
  refine ⟨fun n hn => hok n (mem_sortM.mp hn), by rw [(sortM_perm B).length_eq]; exact hl, ?_⟩
  have h1 := sortM_sorted lin_n B
  have h2 : (sortM nLt B).Nodup := (sortM_perm B).nodup_iff.mpr nd
  refine (List.pairwise_and_iff.mpr ⟨h1, h2⟩).imp fun {a b} h => ?_
  cases z : nLt a b with
  | true => rfl
  | false => exact absurd (lin_n.tot a b z h.1) h.2
structure NewsOk (F : List Fo) (B0 N : List Nw) : Prop where
  ok : ∀ n ∈ B0 ++ N, NwOk F n
  nd : (B0 ++ N).Nodup
  le : (B0 ++ N).length < 64
theorem NewsOk.take {B0 N : List Nw} (h : NewsOk F B0 N) (k : Nat) : GoodB F (sortM nLt (B0 ++ N.take k)) := by
  have sb : (B0 ++ N.take k).Sublist (B0 ++ N) := List.Sublist.append (List.Sublist.refl _) (List.take_sublist _ _)
  exact sortM_good (fun n hn => h.ok n (sb.subset hn)) (h.nd.sublist sb) (Nat.lt_of_le_of_lt sb.length_le h.le)
end
end Rt
end
section
set_option Elab.async false
set_option linter.all false
set_option maxRecDepth 100000
set_option maxHeartbeats 1000000
namespace Rt
open PySem L2 Pw Pv Lx Ls Lq Wk Lv Lz Dg Lg Lo
open Rg (upB)
end Rt
end
section
set_option Elab.async false
set_option linter.all false
set_option maxRecDepth 100000
set_option maxHeartbeats 1000000
namespace Rt
open PySem L2 Pw Pv Lx Ls Lq Wk Lv Lz Dg Lg Lo
end Rt
end
section
set_option Elab.async false
set_option linter.all false
set_option maxRecDepth 100000
set_option maxHeartbeats 1000000
namespace Rt
open PySem L2 Pw Pv Lx Ls Lq Wk Lv Lz Dg Lg Lo
section
variable {ns : List Int} {s : Lx.St} {F : List Fo} {B : List Nw} {m : Mem} {day lim : Int}
theorem rngA_at {a : Ax} {ρ : Pw.Env} {m m1 : Mem} {ws : List W} {ds xs : List D} (h : a ρ m = some (ws, m1)) (hg : gts ws m1 = some ds) (hr : rngA ds = some xs) : iRngA a ρ m = some (.seq xs, m1) := by
  unfold iRngA
  rw [h, Option.bind_some, hg, Option.bind_some, hr]
  rfl
theorem rngA_nat {n : Nat} (h : n ≤ 1000000) : rngA [.int (n : Int)] = some ((List.range n).map nD) := by
  unfold rngA
  dsimp only
  rw [if_pos (by omega), Int.toNat_natCast]
  unfold rngD
  simp
end
end Rt
end
section
set_option Elab.async false
set_option linter.all false
set_option maxRecDepth 100000
set_option maxHeartbeats 1000000
namespace Rt
open PySem L2 Pw Pv Lx Ls Lq
end Rt
end
section
set_option Elab.async false
set_option linter.all false
set_option maxRecDepth 100000
set_option maxHeartbeats 1000000
namespace K83
open PySem L2 Pw Pv Lx Ls Lq Wk
abbrev wr : List Str := ["a", "b", "ab", "zzzzzzzz", "m"]
abbrev wds : List Str := ["dies", "leaves", "cuts", "returns", "awaits"]
structure NwB (n : Nw) : Prop where
  w : n.word ∈ wds
  d0 : 0 ≤ n.day
  d1 : n.day ≤ 99999
  w0 : 0 ≤ n.who
  w1 : n.who ≤ 60
  o0 : -1 ≤ n.other
  o1 : n.other ≤ 60
structure KyB (p : Str × Int) : Prop where
  w : p.1 ∈ wr
  n0 : 0 ≤ p.2
  n1 : p.2 ≤ 99
abbrev En := (Str × Int) × Nw
structure EnB (e : En) : Prop where
  k : KyB e.1
  x : NwB e.2
def kD2 (p : Str × Int) : D := .tup [.str p.1, .int p.2]
def enD (e : En) : D := .tup [.str e.1.1, .int e.1.2, e.2.d]
def kK (p : Str × Int) : KT' := [.inr p.1, .inl p.2]
def pK (e : En) : KT' × D := (kK e.1, e.2.d)
abbrev scD (ES : List En) (ST : List (Str × Int)) : D := .tup [.tup (ES.map enD), .tup (ST.map kD2)]
structure ScB (ES : List En) (ST : List (Str × Int)) : Prop where
  e : ∀ e ∈ ES, EnB e
  k : ∀ p ∈ ST, KyB p
  le : ES.length ≤ 30
  lk : ST.length ≤ 30
theorem nwB {F : List Fo} {lim : Int} (hF : GoodHL lim F) {n : Nw} (h : NwOk F n) : NwB n := by
  have le := hF.le
  exact ⟨h.word, h.d0, h.d1, h.w0, by have := h.w1; omega, h.o0, by have := h.o1; omega⟩
theorem wds_ok {w : Str} (h : w ∈ wds) : PyData.strOk w = true := by
  simp only [List.mem_cons, List.not_mem_nil, or_false] at h
  rcases h with h | h | h | h | h <;> (rw [h]; decide +kernel)
theorem wr_ok {w : Str} (h : w ∈ wr) : PyData.strOk w = true := by
  simp only [List.mem_cons, List.not_mem_nil, or_false] at h
  rcases h with h | h | h | h | h <;> (rw [h]; decide +kernel)
theorem gd_nw {n : Nw} (h : NwB n) (k : Nat) : gd (k + 1) n.d = true := gd_t (gd_cons (by rw [gd]; exact wds_ok h.w) (gd_cons gd_i (gd_cons gd_i (gd_cons gd_i gd_nil))))
theorem gd_ky {p : Str × Int} (h : KyB p) (k : Nat) : gd (k + 1) (kD2 p) = true := gd_t (gd_cons (by rw [gd]; exact wr_ok h.w) (gd_cons gd_i gd_nil))
theorem in_some {p : Str × Int} {ST : List (Str × Int)} (hp : KyB p) (hs : ∀ q ∈ ST, KyB q) : ∃ b, inPD true (kD2 p) (.tup (ST.map kD2)) = some (.v (.bl b)) := by
  obtain ⟨x, e1, c1, d1⟩ := gd_py 2 (kD2 p) (gd_ky hp 1)
  obtain ⟨y, e2, c2, d2⟩ := gd_py 3 (.tup (ST.map kD2)) (gd_t (gds_map fun q hq => gd_ky (hs q hq) 1))
  have sh : ∀ (z : PyData) (n : Nat), PyData.canLay0 z = true → PyData.depth z ≤ n → n ≤ 64 → SeqAt.shaped z = true := fun z n c d hn => by
    unfold SeqAt.shaped
    rw [c, Bool.true_and]
    exact decide_eq_true (by omega)
  have ty : ∃ ys, y = .tuple ys := by
    rw [pyD] at e2
    obtain ⟨ys, _, e⟩ := Option.bind_eq_some_iff.mp e2
    cases e
    exact ⟨ys, rfl⟩
  obtain ⟨ys, rfl⟩ := ty
  unfold inPD
  simp only [e1, e2]
  rw [if_pos ⟨sh _ 2 c1 d1 (by decide), sh _ 3 c2 d2 (by decide)⟩]
  exact ⟨_, rfl⟩
open Classical in
noncomputable def selB (ST : List (Str × Int)) (e : En) : Bool := if inPD true (kD2 e.1) (.tup (ST.map kD2)) = some (.v (.bl true)) then true else false
theorem sel_eq {e : En} {ST : List (Str × Int)} (hp : KyB e.1) (hs : ∀ q ∈ ST, KyB q) : inPD true (kD2 e.1) (.tup (ST.map kD2)) = some (.v (.bl (selB ST e))) := by
  obtain ⟨b, h⟩ := in_some hp hs
  unfold selB
  cases b with
  | true => rw [if_pos h]; exact h
  | false => rw [if_neg (by rw [h]; intro z; cases z)]; exact h
noncomputable def bookS (ES : List En) (ST : List (Str × Int)) : List Nw := sortU nLt ((ES.filter (selB ST)).map (·.2))
theorem cut_en (e : En) : slcD (enD e) none (some 2) = some (.v (kD2 e.1)) := rfl
theorem at_en (e : En) : ixD (enD e) (.int 2) = some (.v e.2.d) := rfl
theorem book_spec {ES : List En} {ST : List (Str × Int)} (h : ScB ES ST) (m : Mem) : F_book_of [.v (scD ES ST)] m = some (.v (bD (bookS ES ST)), m) := by
  have le := h.le
  have lf := List.length_filter_le (selB ST) ES
  have lc : E_book_of_1 [some (.v (scD ES ST)), some (.v (.tup (ES.map enD))), some (.v (.tup (ST.map kD2))), none] m = some (.f (.lst ((ES.filter (selB ST)).map fun e => e.2.d)), m) := by
    refine lc_map (src := iSeq (eVar 1)) (t := gN 3) (vs := [3]) ES enD (selB ST) (fun e => e.2.d) (by simp [iSeq, eVar]) (fun e he => ⟨_, rfl, ?_, fun _ => ⟨.v e.2.d, ?_, rfl⟩⟩) (by omega)
    · have c := cut_en e
      have q := sel_eq (h.e e he).k h.k
      generalize enD e = ed at *
      generalize kD2 e.1 = kd at *
      generalize D.tup (ST.map kD2) = SD at *
      simp [tVal, eOp, eSlc, oNone, oSome, eVar, eC, c, q]
    · have a := at_en e
      generalize enD e = ed at *
      generalize e.2.d = xd at *
      simp [eOp, eVar, eC, a]
  have em : ((ES.filter (selB ST)).map fun e => e.2.d) = ((ES.filter (selB ST)).map (·.2)).map Nw.d := by rw [List.map_map]; rfl
  rw [em] at lc
  have so := sortSet_n (x := .lst (((ES.filter (selB ST)).map (·.2)).map Nw.d)) (Ns := (ES.filter (selB ST)).map (·.2)) rfl (by rw [List.length_map]; omega)
  refine Lv.run_eq rfl (b := B_book_of) (w := .v (bD (bookS ES ST))) (ρ := [some (.v (scD ES ST)), some (.v (.tup (ES.map enD))), some (.v (.tup (ST.map kD2))), none]) (m' := m) ?_ (by simp [outW])
  show B_book_of [some (.v (scD ES ST)), none, none, none] m = _
  unfold B_book_of
  refine Lm.seq_at (ρ1 := [some (.v (scD ES ST)), some (.v (.tup (ES.map enD))), some (.v (.tup (ST.map kD2))), none]) (m1 := m) (by rfl) ?_
  have tp : D.tup ((bookS ES ST).map Nw.d) = bD (bookS ES ST) := rfl
  have so' : sortSetD [.lst (((ES.filter (selB ST)).map (·.2)).map Nw.d)] = some (.f (.lst ((bookS ES ST).map Nw.d))) := so
  generalize E_book_of_1 = ee at lc
  generalize bD (bookS ES ST) = BD at *
  generalize (bookS ES ST).map Nw.d = Q1 at *
  generalize ((ES.filter (selB ST)).map (·.2)).map Nw.d = Q2 at *
  simp [sRet, eCB, aCons, aNil, lc, so', tupleD, tp]
theorem l_book_spec {ES : List En} {ST : List (Str × Int)} (h : ScB ES ST) (m : Mem) : F_l_book_of [.v (scD ES ST)] m = some (.v (bD (bookS ES ST)), m) := by
  have le := h.le
  have lf := List.length_filter_le (selB ST) ES
  have i0 : ixD (scD ES ST) (.int 0) = some (.v (.tup (ES.map enD))) := by simp
  have i1 : ixD (scD ES ST) (.int 1) = some (.v (.tup (ST.map kD2))) := by simp
  have lc : E_l_book_of_1 [some (.v (scD ES ST)), none] m = some (.f (.lst ((ES.filter (selB ST)).map fun e => e.2.d)), m) := by
    refine lc_map (src := iSeq (eOp ixD (eVar 0) (eC (.int 0)))) (t := gN 1) (vs := [1]) ES enD (selB ST) (fun e => e.2.d) (by
      generalize scD ES ST = SS at *
      simp [iSeq, eOp, eVar, eC, i0]) (fun e he => ⟨_, rfl, ?_, fun _ => ⟨.v e.2.d, ?_, rfl⟩⟩) (by omega)
    · have c := cut_en e
      have q := sel_eq (h.e e he).k h.k
      generalize enD e = ed at *
      generalize kD2 e.1 = kd at *
      generalize scD ES ST = SS at *
      generalize D.tup (ST.map kD2) = SD at *
      simp [tVal, eOp, eSlc, oNone, oSome, eVar, eC, c, q, i1]
    · have a := at_en e
      generalize enD e = ed at *
      generalize e.2.d = xd at *
      simp [eOp, eVar, eC, a]
  have em : ((ES.filter (selB ST)).map fun e => e.2.d) = ((ES.filter (selB ST)).map (·.2)).map Nw.d := by rw [List.map_map]; rfl
  rw [em] at lc
  have so := sortSet_n (x := .lst (((ES.filter (selB ST)).map (·.2)).map Nw.d)) (Ns := (ES.filter (selB ST)).map (·.2)) rfl (by rw [List.length_map]; omega)
  refine Lv.run_eq rfl (b := B_l_book_of) (w := .v (bD (bookS ES ST))) (ρ := [some (.v (scD ES ST)), none]) (m' := m) ?_ (by simp [outW])
  show B_l_book_of [some (.v (scD ES ST)), none] m = _
  unfold B_l_book_of
  have tp : D.tup ((bookS ES ST).map Nw.d) = bD (bookS ES ST) := rfl
  have so' : sortSetD [.lst (((ES.filter (selB ST)).map (·.2)).map Nw.d)] = some (.f (.lst ((bookS ES ST).map Nw.d))) := so
  generalize E_l_book_of_1 = ee at lc
  generalize bD (bookS ES ST) = BD at *
  generalize (bookS ES ST).map Nw.d = Q1 at *
  generalize ((ES.filter (selB ST)).map (·.2)).map Nw.d = Q2 at *
  simp [sRet, eCB, aCons, aNil, lc, so', tupleD, tp]
theorem book_ok {ES : List En} {ST : List (Str × Int)} (h : ScB ES ST) : (∀ n ∈ bookS ES ST, NwB n) ∧ (bookS ES ST).length ≤ 30 := by
  refine ⟨fun n hn => ?_, ?_⟩
  · have := mem_sortU.mp hn
    obtain ⟨e, he, rfl⟩ := List.mem_map.mp this
    exact (h.e e (List.mem_filter.mp he).1).x
  · have := sortU_len (lt := nLt) ((ES.filter (selB ST)).map (·.2))
    have l2 := List.length_filter_le (selB ST) ES
    rw [List.length_map] at this
    have := h.le
    show (sortU nLt _).length ≤ 30
    omega
theorem book_ne {ES : List En} {ST : List (Str × Int)} (h : ScB ES ST) : eqD true (bD (bookS ES ST)) (bD (bookS ES ST)) = some (.v (.bl false)) :=
  eq_same (n := 3) (gd_t (gds_map fun n hn => gd_nw ((book_ok h).1 n hn) 1)) (by decide) rfl
theorem plain_eq : ∃ r0, K83.F_is_plain = Lp.FP (Lp.FP (Lp.FP (Lp.FP r0))) := ⟨_, rfl⟩
theorem plain_book {ES : List En} {ST : List (Str × Int)} (h : ScB ES ST) (m : Mem) : F_is_plain [.v (bD (bookS ES ST))] m = some (.v (.bl true), m) := by
  obtain ⟨r0, e⟩ := plain_eq
  rw [e]
  have bl := (book_ok h).2
  refine Lp.plainT (by rw [List.length_map]; omega) m fun d hd => ?_
  obtain ⟨n, _, rfl⟩ := List.mem_map.mp hd
  refine Lp.plainT (by simp) m fun d hd => ?_
  simp only [List.mem_cons, List.not_mem_nil, or_false] at hd
  rcases hd with z | z | z | z <;> rw [z]
  · exact Lp.plainS _ _ m
  · exact Lp.plainI _ _ m
  · exact Lp.plainI _ _ m
  · exact Lp.plainI _ _ m
theorem ok_str {x : Str} {n : Nat} (h : x ∈ wds ∨ x ∈ wr) : okE n (.str x) = true := by
  rcases h with h | h <;> simp only [List.mem_cons, List.not_mem_nil, or_false] at h <;> rcases h with h | h | h | h | h <;> (rw [h, okE]; decide +kernel)
theorem ok_nw {n : Nw} (x : NwB n) {k : Nat} : okE (k + 1) n.d = true := by
  have a3 := x.d0
  have a4 := x.d1
  have a5 := x.w0
  have a6 := x.w1
  have a7 := x.o0
  have a8 := x.o1
  rw [Nw.d, okE]
  simp only [okEs]
  rw [ok_str (.inl x.w), ok_int (by omega) (by omega), ok_int (by omega) (by omega), ok_int (by omega) (by omega)]; rfl
theorem repr_sc {ES : List En} {ST : List (Str × Int)} (h : ScB ES ST) : ∃ t, reprD [scD ES ST] = some (.v (.str t)) := by
  have le := h.le
  have lk := h.lk
  refine repr_ex (n := 6) ?_ (by decide) ?_
  · rw [okE]
    simp only [okEs]
    rw [okE, okE, okEs_map, okEs_map]
    · rfl
    · intro p hp
      have k := h.k p hp
      have a1 := k.n0
      have a2 := k.n1
      rw [kD2, okE]
      simp only [okEs]
      rw [ok_str (.inr k.w), ok_int (by omega) (by omega)]; rfl
    · intro e he
      have b := h.e e he
      have k := b.k
      have x := b.x
      have a1 := k.n0
      have a2 := k.n1
      rw [enD, okE]
      simp only [okEs]
      rw [ok_str (.inr k.w), ok_int (by omega) (by omega), ok_nw x]; rfl
  · have a1 := szEs_map (g := enD) (c := 20000) (L := ES) fun e he => by
      rw [enD, szE]
      simp only [szEs, sz_int, sz_str]
      rw [Nw.d, szE]
      simp only [szEs, sz_int, sz_str]
      omega
    have a2 := szEs_map (g := kD2) (c := 20000) (L := ST) fun e he => by
      rw [kD2, szE]
      simp only [szEs, sz_int, sz_str]
      omega
    rw [szE]
    simp only [szEs]
    rw [szE, szE]
    have m1 : ES.length * 20002 ≤ 30 * 20002 := Nat.mul_le_mul_right _ le
    have m2 : ST.length * 20002 ≤ 30 * 20002 := Nat.mul_le_mul_right _ lk
    omega
end K83
end
section
set_option Elab.async false
set_option linter.all false
set_option maxRecDepth 100000
set_option maxHeartbeats 1000000
namespace K83
open PySem L2 Pw Pv Lx Ls Lq Wk
open Rt (rngA_at rngA_nat)
def putP (P : List En) (k : Str × Int) (x : Nw) : List En := if (P.any fun e => decide (e.1 = k)) = true then P.map (fun e => if e.1 = k then (e.1, x) else e) else P ++ [(k, x)]
theorem kK_inj {p q : Str × Int} : kK p = kK q ↔ p = q := by
  constructor
  · intro h
    unfold kK at h
    simp only [List.cons.injEq, Sum.inr.injEq, Sum.inl.injEq, and_true] at h
    exact Prod.ext h.1 h.2
  · intro h; rw [h]
theorem put_map {P : List En} {k : Str × Int} {x : Nw} : putX (P.map pK) (kK k) x.d = (putP P k x).map pK := by
  have ea : ((P.map pK).any fun kv => decide (kv.1 = kK k)) = P.any fun e => decide (e.1 = k) := by
    rw [List.any_map]
    congr 1
    exact funext fun e => by
      show decide (kK e.1 = kK k) = decide (e.1 = k)
      rw [decide_eq_decide]
      exact kK_inj
  unfold putX putP
  rw [ea]
  split
  · rw [List.map_map, List.map_map]
    refine List.map_congr_left fun e _ => ?_
    show (if kK e.1 = kK k then (kK e.1, x.d) else pK e) = pK (if e.1 = k then (e.1, x) else e)
    by_cases h : e.1 = k
    · rw [if_pos (kK_inj.mpr h), if_pos h]; rfl
    · rw [if_neg fun z => h (kK_inj.mp z), if_neg h]
  · rw [List.map_append]; rfl
theorem put_ok {P : List En} {k : Str × Int} {x : Nw} (h : ∀ e ∈ P, EnB e) (hk : KyB k) (hx : NwB x) : (∀ e ∈ putP P k x, EnB e) ∧ (putP P k x).length ≤ P.length + 1 := by
  unfold putP
  split
  · refine ⟨fun e he => ?_, by rw [List.length_map]; omega⟩
    obtain ⟨f, hf, rfl⟩ := List.mem_map.mp he
    split
    · exact ⟨(h f hf).k, hx⟩
    · exact h f hf
  · refine ⟨fun e he => ?_, by rw [List.length_append]; exact Nat.le_refl _⟩
    rcases List.mem_append.mp he with z | z
    · exact h e z
    · rw [List.mem_singleton.mp z]; exact ⟨hk, hx⟩
theorem keys_list : ∀ {K : List KT'} {P : List En}, (∀ k ∈ K, k ∈ P.map fun e => kK e.1) → ∃ L : List (Str × Int), K = L.map kK ∧ ∀ p ∈ L, ∃ e ∈ P, e.1 = p
  | [], _, _ => ⟨[], rfl, fun p hp => nomatch hp⟩
  | k :: K, P, h => by
    obtain ⟨L, e, hL⟩ := keys_list (K := K) fun x hx => h x (List.mem_cons_of_mem _ hx)
    obtain ⟨f, hf, rfl⟩ := List.mem_map.mp (h k List.mem_cons_self)
    exact ⟨f.1 :: L, by rw [e]; rfl, fun p hp => (List.mem_cons.mp hp).elim (fun z => ⟨f, hf, z.symm⟩) (hL p)⟩
theorem sort_keys {P : List En} (hl : P.length ≤ 1000) : ∃ L : List (Str × Int), sortDD [.dt (P.map pK)] = some (.f (.lst (L.map kD2))) ∧ (∀ p ∈ L, ∃ e ∈ P, e.1 = p) ∧ L.length = P.length := by
  have ek : (P.map pK).map (·.1) = P.map fun e => kK e.1 := by rw [List.map_map]; rfl
  obtain ⟨L, e, hL⟩ := keys_list (K := sortM kLt (P.map fun e => kK e.1)) (P := P) fun k hk => (sortM_perm _).mem_iff.mp hk
  refine ⟨L, ?_, hL, ?_⟩
  · show (if (P.map pK).length ≤ 1000000 ∧ oneSh ((P.map pK).map (·.1)) = true then some (Pw.W.f (.lst ((sortM kLt ((P.map pK).map (·.1))).map tD))) else none) = _
    rw [ek, if_pos, e]
    · rw [List.map_map]; rfl
    · refine ⟨by rw [List.length_map]; omega, ?_⟩
      cases P with
      | nil => rfl
      | cons p P =>
        unfold oneSh
        refine List.all_eq_true.mpr fun k hk => ?_
        obtain ⟨z, _, rfl⟩ := List.mem_map.mp hk
        rfl
  · have h1 : (L.map kK).length = (P.map fun e => kK e.1).length := by rw [← e, (sortM_perm _).length_eq]
    simpa using h1
theorem val_at {P : List En} {p : Str × Int} (h : ∃ e ∈ P, e.1 = p) : ∃ e ∈ P, valX (P.map pK) (kK p) = some e.2.d := by
  unfold valX
  cases hf : (P.map pK).find? fun kv => decide (kv.1 = kK p) with
  | none =>
    obtain ⟨e, he, rfl⟩ := h
    have := List.find?_eq_none.mp hf (pK e) (List.mem_map.mpr ⟨e, he, rfl⟩)
    exact absurd (decide_eq_true (show (pK e).1 = kK e.1 from rfl)) this
  | some kv =>
    obtain ⟨e, he, rfl⟩ := List.mem_map.mp (List.mem_of_find?_eq_some hf)
    exact ⟨e, he, rfl⟩
theorem en_list {α : Type} {val : α → D} : ∀ {L : List α}, (∀ p ∈ L, ∃ e : En, val p = enD e ∧ EnB e) → ∃ ES : List En, L.map val = ES.map enD ∧ ES.length = L.length ∧ ∀ e ∈ ES, EnB e
  | [], _ => ⟨[], rfl, rfl, fun e he => nomatch he⟩
  | p :: L, h => by
    obtain ⟨ES, e1, e2, e3⟩ := en_list (L := L) fun x hx => h x (List.mem_cons_of_mem _ hx)
    obtain ⟨e, h1, h2⟩ := h p List.mem_cons_self
    exact ⟨e :: ES, by rw [List.map_cons, List.map_cons, h1, e1], by simp [e2], fun x hx => (List.mem_cons.mp hx).elim (fun z => z ▸ h2) (e3 x)⟩
section
variable {ns : List Int} {s : Lx.St} {F : List Fo} {m : Mem} {lim : Int}
abbrev envC (H : D) (x3 x4 x5 x6 x7 : Option W) : Pw.Env := [some (.r 0), some (.v H), some (.v (.int 30)), x3, x4, x5, x6, x7]
theorem scroll_turn {P : List En} {a : D} (hF : GoodHL lim F) (hlim : lim ≤ 99995) (hP : ∀ e ∈ P, EnB e) (hl : P.length ≤ 1000) :
    ∃ (P' : List En) (s' : Lx.St) (x6 : Option W), L_scroll_1 (envC (hD F) (some (.r (m.length + 1))) (some (.v a)) none none none) (stD ns s :: (m ++ [.dt (P.map pK)])) = some (.nx, envC (hD F) (some (.r (m.length + 1))) (some (.v a)) none x6 none, stD ns s' :: (m ++ [.dt (P'.map pK)])) ∧ (∀ e ∈ P', EnB e) ∧ P'.length ≤ P.length + 1 := by
  obtain ⟨c, s1, t1, c0, c1⟩ := Lo.take_int (ns := ns) (s := s) (b := 5) (by decide) (by decide) (m ++ [.dt (P.map pK)])
  obtain ⟨x, hx, _, ex⟩ := at_some (xs := [D.str "a", .str "b", .str "ab", .str "zzzzzzzz", .str "m"]) c0 (by simp; omega)
  obtain ⟨word, rfl, hw⟩ : ∃ w : Str, x = .str w ∧ w ∈ wr := by
    simp only [List.mem_cons, List.not_mem_nil, or_false] at hx
    rcases hx with h | h | h | h | h <;> exact ⟨_, h, by simp⟩
  obtain ⟨n, s2, t2, nok⟩ := Lx.news_spec (ns := ns) (s := s1) (m := m ++ [.dt (P.map pK)]) hF hlim
  obtain ⟨v1, s3, t3, v10, v11⟩ := Lo.take_int (ns := ns) (s := s2) (b := 4) (by decide) (by decide) (m ++ [.dt (P.map pK)])
  obtain ⟨v2, s4, t4, v20, v21⟩ := Lo.take_int (ns := ns) (s := s3) (b := 100) (by decide) (by decide) (m ++ [.dt (P.map pK)])
  obtain ⟨j, s5, t5, j0, j1⟩ := Lo.take_int (ns := ns) (s := s4) (b := 3) (by decide) (by decide) (m ++ [.dt (P.map pK)])
  obtain ⟨y0, hy, _, ey⟩ := at_some (xs := [D.int v1, .int v2, .int 99]) j0 (by simp; omega)
  obtain ⟨y, rfl, y0, y1⟩ : ∃ y : Int, y0 = .int y ∧ 0 ≤ y ∧ y ≤ 99 := by
    simp only [List.mem_cons, List.not_mem_nil, or_false] at hy
    rcases hy with h | h | h
    · exact ⟨v1, h, by omega, by omega⟩
    · exact ⟨v2, h, by omega, by omega⟩
    · exact ⟨99, h, by omega, by omega⟩
  have t1' : K83.F_take [.r 0, .v (.int 5)] (stD ns s :: (m ++ [.dt (P.map pK)])) = _ := t1
  have t2' : K83.F_news [.r 0, .v (hD F)] (stD ns s1 :: (m ++ [.dt (P.map pK)])) = _ := t2
  have t3' : K83.F_take [.r 0, .v (.int 4)] (stD ns s2 :: (m ++ [.dt (P.map pK)])) = _ := t3
  have t4' : K83.F_take [.r 0, .v (.int 100)] (stD ns s3 :: (m ++ [.dt (P.map pK)])) = _ := t4
  have t5' : K83.F_take [.r 0, .v (.int 3)] (stD ns s4 :: (m ++ [.dt (P.map pK)])) = _ := t5
  have ixw : ixD (.lst [D.str "a", .str "b", .str "ab", .str "zzzzzzzz", .str "m"]) (.int c) = some (.v (.str word)) := by rw [ix_l, ex]; rfl
  have ixy : ixD (.lst [D.int v1, .int v2, .int 99]) (.int j) = some (.v (.int y)) := by rw [ix_l, ey]; rfl
  obtain ⟨pok, pl⟩ := put_ok (k := (word, y)) hP ⟨hw, y0, y1⟩ (nwB hF nok)
  refine ⟨putP P (word, y) n, s5, some (.v (.str word)), ?_, pok, pl⟩
  have gM : ∀ x : MO, (x :: (m ++ [MO.dt (P.map pK)]))[m.length + 1]? = some (.dt (P.map pK)) := fun x => by simp
  have sM : ∀ x : MO, (x :: (m ++ [MO.dt (P.map pK)])).set (m.length + 1) (.dt (putX (P.map pK) (kK (word, y)) n.d)) = x :: (m ++ [.dt ((putP P (word, y) n).map pK)]) := fun x => by rw [put_map]; simp
  have kl : (P.map pK).length < 1000000 := by rw [List.length_map]; omega
  unfold L_scroll_1
  refine seq_at (ρ1 := envC (hD F) (some (.r (m.length + 1))) (some (.v a)) none (some (.v (.str word))) none) (m1 := stD ns s1 :: (m ++ [.dt (P.map pK)])) (by
    generalize m ++ [MO.dt (P.map pK)] = M at *
    generalize hD F = H at *
    simp [sSet, eOp, eLst, eCall, aCons, aNil, eVar, eC, t1', ixw, -ix_l]) ?_
  rw [← sM]
  have nk : kK (word, y) = [.inr word, .inl y] := rfl
  rw [nk]
  generalize m ++ [MO.dt (P.map pK)] = M at *
  generalize P.map pK = Q at *
  generalize hD F = H at *
  generalize n.d = nd at *
  simp [sPutT, eOp, eLst, eCall, aCons, aNil, eVar, eC, t2', t3', t4', t5', ixy, allK, gM, kl, vls, vl, -ix_l]
theorem scroll_spec (hF : GoodHL lim F) (hlim : lim ≤ 99995) (m : Mem) : ∃ (ES : List En) (ST : List (Str × Int)) (s' : Lx.St), F_scroll [.r 0, .v (hD F), .v (.int 30)] (stD ns s :: m) = some (.v (scD ES ST), stD ns s' :: m) ∧ ScB ES ST := by
  obtain ⟨c, s1, t1, c0, c1⟩ := Lo.take_int (ns := ns) (s := s) (b := 31) (by decide) (by decide) (m ++ [.dt (([] : List En).map pK)])
  obtain ⟨k, rfl⟩ : ∃ k : Nat, c = (k : Int) := ⟨c.toNat, by omega⟩
  obtain ⟨ρ', m', el, s2, P, rfl, rfl, lP, hP⟩ := for_inv (src := iRngA (aCons (eCall F_take (aCons (eVar 0) (aCons (eOp addD (eVar 2) (eC (.int 1))) aNil))) aNil)) (t := gN 4) (b := L_scroll_1) (dd := [4, 6]) (ρ := envC (hD F) (some (.r (m.length + 1))) none none none none) (m := stD ns s :: (m ++ [.dt (([] : List En).map pK)])) (m1 := stD ns s1 :: (m ++ [.dt (([] : List En).map pK)])) (List.range k) nD
    (fun i ρ mm => ∃ (s : Lx.St) (P : List En), ρ = envC (hD F) (some (.r (m.length + 1))) none none none none ∧ mm = stD ns s :: (m ++ [.dt (P.map pK)]) ∧ P.length ≤ i ∧ ∀ e ∈ P, EnB e)
    (by
      have t1' : F_take [.r 0, .v (.int 31)] (stD ns s :: (m ++ [.dt (([] : List En).map pK)])) = some (.v (.int (k : Int)), stD ns s1 :: (m ++ [.dt (([] : List En).map pK)])) := t1
      have a1 : addD (.int 30) (.int 1) = some (.v (.int 31)) := rfl
      have arg : aCons (eCall F_take (aCons (eVar 0) (aCons (eOp addD (eVar 2) (eC (.int 1))) aNil))) aNil (envC (hD F) (some (.r (m.length + 1))) none none none none) (stD ns s :: (m ++ [.dt (([] : List En).map pK)])) = some ([.v (.int (k : Int))], stD ns s1 :: (m ++ [.dt (([] : List En).map pK)])) := by
        generalize m ++ [MO.dt (([] : List En).map pK)] = M at *
        generalize hD F = H at *
        simp [aCons, aNil, eC, eCall, eVar, eOp, a1, t1']
      exact rngA_at arg rfl (rngA_nat (by omega)))
    ⟨s1, [], rfl, rfl, by simp, fun e he => nomatch he⟩
    (fun j a ha ρ mm inv => by
      obtain ⟨s, P, rfl, rfl, lP, hP⟩ := inv
      have hj : j < k := by have := (List.getElem?_eq_some_iff.mp ha).1; simpa using this
      obtain ⟨P', s', x6, q, h1, h2⟩ := scroll_turn (ns := ns) (s := s) (m := m) (P := P) (a := nD a) hF hlim hP (by omega)
      exact ⟨_, _, _, rfl, q, s', P', rfl, rfl, by omega, h1⟩)
  rw [List.length_range] at lP
  obtain ⟨L, so, hL, lL⟩ := sort_keys (P := P) (by omega)
  have g3 : ∀ x : MO, gt (.r (m.length + 1)) (x :: (m ++ [.dt (P.map pK)])) = some (.dt (P.map pK)) := fun x => by simp [gt, moD]
  -- the entries
  have lc2 : ∀ x4 x5 x6 (s : Lx.St), E_scroll_2 (envC (hD F) (some (.r (m.length + 1))) x4 x5 x6 none) (stD ns s :: (m ++ [.dt (P.map pK)])) = some (.f (.lst (L.map fun p => D.tup [.str p.1, .int p.2, (valX (P.map pK) (kK p)).getD .non])), stD ns s :: (m ++ [.dt (P.map pK)])) := fun x4 x5 x6 s => by
    have q := lc_map (src := iSeq (eCB sortDD (aCons (eVar 3) aNil))) (t := gN 7) (vs := [7]) (c := tYes') (f := eOp addD (eVar 7) (eTup (aCons (eOp ixVD (eVar 3) (eVar 7)) aNil))) (ρ := envC (hD F) (some (.r (m.length + 1))) x4 x5 x6 none) (m := stD ns s :: (m ++ [.dt (P.map pK)])) (m1 := stD ns s :: (m ++ [.dt (P.map pK)])) L kD2 (fun _ => true) (fun p => D.tup [.str p.1, .int p.2, (valX (P.map pK) (kK p)).getD .non]) (by
      generalize m ++ [MO.dt (P.map pK)] = M at *
      generalize L.map kD2 = LD at *
      generalize hD F = H at *
      generalize P.map pK = Q at *
      simp [iSeq, eCB, aCons, aNil, eVar, gts, g3, so, stl, -gt_r]) (fun p hp => ⟨_, rfl, rfl, fun _ => by
        obtain ⟨e, he, ev⟩ := val_at (hL p hp)
        refine ⟨.v (.tup [.str p.1, .int p.2, e.2.d]), ?_, by rw [ev]; rfl⟩
        have kt : ktD (kD2 p) = some (kK p) := rfl
        have iv : ixVD (.dt (P.map pK)) (kD2 p) = some (.v e.2.d) := by
          unfold ixVD
          simp only [kt, Option.bind_some, ev]
        have ad : addD (kD2 p) (.tup [e.2.d]) = some (.v (.tup [.str p.1, .int p.2, e.2.d])) := by unfold kD2 addD; simp
        generalize m ++ [MO.dt (P.map pK)] = M at *
        generalize e.2.d = ed at *
        generalize kD2 p = kd at *
        generalize hD F = H at *
        generalize P.map pK = Q at *
        simp [eOp, eTup, aCons, aNil, eVar, g3, iv, ad, stl, vls, -gt_r]⟩) (by omega)
    rw [List.filter_eq_self.mpr fun _ _ => rfl] at q
    exact q
  obtain ⟨ES, eE, lE, hE⟩ := en_list (L := L) (val := fun p => D.tup [.str p.1, .int p.2, (valX (P.map pK) (kK p)).getD .non]) fun p hp => by
    obtain ⟨e, he, ev⟩ := val_at (hL p hp)
    obtain ⟨e', he', rfl⟩ := hL p hp
    exact ⟨(e'.1, e.2), by rw [ev]; rfl, ⟨(hP e' he').k, (hP e he).x⟩⟩
  rw [eE] at lc2
  -- the strikes
  obtain ⟨acc, m2, e1, s3, ST, rfl, rfl, hS, lS⟩ := Lk.lc_sel (src := iSeq (eCB sortDD (aCons (eVar 3) aNil))) (t := gN 7) (vs := [7]) (c := (tVal (eOp (eqD false) (eCall F_take (aCons (eVar 0) (aCons (eC (.int 4)) aNil))) (eC (.int 0))))) (f := eVar 7) (ρ := envC (hD F) (some (.r (m.length + 1))) none (some (.v (.tup (ES.map enD)))) none none) (m := stD ns s2 :: (m ++ [.dt (P.map pK)])) (m1 := stD ns s2 :: (m ++ [.dt (P.map pK)])) L kD2
    (fun k acc mm => ∃ (s : Lx.St) (ST : List (Str × Int)), acc = ST.map kD2 ∧ mm = stD ns s :: (m ++ [.dt (P.map pK)]) ∧ (∀ p ∈ ST, KyB p) ∧ ST.length ≤ k) (by
      generalize m ++ [MO.dt (P.map pK)] = M at *
      generalize L.map kD2 = LD at *
      generalize D.tup (ES.map enD) = ED at *
      generalize hD F = H at *
      generalize P.map pK = Q at *
      simp [iSeq, eCB, aCons, aNil, eVar, gts, g3, so, stl, -gt_r]) ⟨s2, [], rfl, rfl, (fun p hp => nomatch hp), by simp⟩
    (fun k p hk acc mm inv => by
      obtain ⟨s, ST, rfl, rfl, hS, lS⟩ := inv
      obtain ⟨v, s', t, v0, v1⟩ := Lo.take_int (ns := ns) (s := s) (b := 4) (by decide) (by decide) (m ++ [.dt (P.map pK)])
      have t' : F_take [.r 0, .v (.int 4)] (stD ns s :: (m ++ [.dt (P.map pK)])) = _ := t
      obtain ⟨e', he', ep⟩ := hL p (List.mem_of_getElem? hk)
      refine ⟨_, decide (v = 0), stD ns s' :: (m ++ [.dt (P.map pK)]), rfl, ?_, fun _ => ⟨.v (kD2 p), kD2 p, rfl, rfl, s', ST ++ [p], by rw [List.map_append]; rfl, rfl, fun q hq => ?_, by rw [List.length_append]; simp; omega⟩, fun _ => ⟨s', ST, rfl, rfl, hS, by omega⟩⟩
      · generalize m ++ [MO.dt (P.map pK)] = M at *
        generalize D.tup (ES.map enD) = ED at *
        generalize hD F = H at *
        generalize kD2 p = kd at *
        simp [tVal, eOp, eCall, aCons, aNil, eVar, eC, t']
      · rcases List.mem_append.mp hq with z | z
        · exact hS q z
        · rw [List.mem_singleton.mp z, ← ep]; exact (hP e' he').k) (by omega)
  refine ⟨ES, ST, s3, ?_, ⟨hE, hS, by omega, by omega⟩⟩
  refine Lv.run_eq rfl (b := B_scroll) (w := .v (scD ES ST)) (ρ := envC (hD F) (some (.r (m.length + 1))) none (some (.v (.tup (ES.map enD)))) none none) (m' := stD ns s3 :: (m ++ [.dt (P.map pK)])) ?_ (by simp [outW])
  show B_scroll (envC (hD F) none none none none none) (stD ns s :: m) = _
  unfold B_scroll
  refine seq_at (ρ1 := envC (hD F) (some (.r (m.length + 1))) none none none none) (m1 := stD ns s :: (m ++ [.dt (([] : List En).map pK)])) (by simp [sSet, eOwn, eNewT, ownW, dMO, stl]) ?_
  refine seq_at el ?_
  refine seq_at (ρ1 := envC (hD F) (some (.r (m.length + 1))) none (some (.v (.tup (ES.map enD)))) none none) (m1 := stD ns s2 :: (m ++ [.dt (P.map pK)])) (by
    have l := lc2 none none none s2
    generalize E_scroll_2 = ee at l
    generalize m ++ [MO.dt (P.map pK)] = M at *
    generalize ES.map enD = ED at *
    generalize hD F = H at *
    simp [sSet, eCB, aCons, aNil, l, tupleD]) ?_
  have e1' : E_scroll_1 (envC (hD F) (some (.r (m.length + 1))) none (some (.v (.tup (ES.map enD)))) none none) (stD ns s2 :: (m ++ [.dt (P.map pK)])) = some (.f (.lst (ST.map kD2)), stD ns s3 :: (m ++ [.dt (P.map pK)])) := e1
  rw [show scD ES ST = D.tup [D.tup (ES.map enD), D.tup (ST.map kD2)] from rfl]
  generalize E_scroll_1 = ee at e1'
  generalize m ++ [MO.dt (P.map pK)] = M at *
  generalize D.tup (ES.map enD) = ED at *
  generalize ST.map kD2 = SD at *
  generalize hD F = H at *
  simp [sRet, eTup, eCB, aCons, aNil, eVar, e1', tupleD, vls]
end
end K83
end
section
set_option Elab.async false
set_option linter.all false
set_option maxRecDepth 100000
set_option maxHeartbeats 1000000
namespace K83
open PySem L2 Pw Pv Lx Ls Lq Wk
section
variable {ns : List Int} {s : Lx.St} {F : List Fo} {m : Mem} {lim : Int} {ES : List En} {ST : List (Str × Int)}
abbrev envB (SC : D) (x2 x3 x4 : Option W) : Pw.Env := [some (.r 0), some (.v SC), x2, x3, x4]
theorem doubled_turn {e : En} {Q : List En} (h : ScB ES ST) (he : e ∈ ES) (hl : Q.length ≤ 1000) : ∃ (e' : En) (s' : Lx.St) (x4 : Option W), L_doubled_1 (envB (scD ES ST) (some (.v (.tup (ES.map enD)))) (some (.r (m.length + 1))) (some (.v (enD e)))) (stD ns s :: (m ++ [.lst (Q.map enD)])) = some (.nx, envB (scD ES ST) (some (.v (.tup (ES.map enD)))) (some (.r (m.length + 1))) x4, stD ns s' :: (m ++ [.lst ((Q ++ [e']).map enD)])) ∧ EnB e' := by
  have le := h.le
  have lp : 1 ≤ ES.length := by cases ES with
    | nil => cases he
    | cons a b => simp
  obtain ⟨v, s1, t1, v0, v1⟩ := Lo.take_int (ns := ns) (s := s) (b := 3) (by decide) (by decide) (m ++ [.lst (Q.map enD)])
  have t1' : F_take [.r 0, .v (.int 3)] (stD ns s :: (m ++ [.lst (Q.map enD)])) = _ := t1
  have app : ∀ (e' : En) (s : Lx.St), sDrop (eMt isLst appD (eVar 3) (aCons (eVar 4) aNil)) (envB (scD ES ST) (some (.v (.tup (ES.map enD)))) (some (.r (m.length + 1))) (some (.v (enD e')))) (stD ns s :: (m ++ [.lst (Q.map enD)])) = some (.nx, envB (scD ES ST) (some (.v (.tup (ES.map enD)))) (some (.r (m.length + 1))) (some (.v (enD e'))), stD ns s :: (m ++ [.lst ((Q ++ [e']).map enD)])) := fun e' s => by
    have g : ∀ x : MO, (x :: (m ++ [MO.lst (Q.map enD)]))[m.length + 1]? = some (.lst (Q.map enD)) := fun x => by simp
    have st : (m ++ [MO.lst (Q.map enD)]).set m.length (.lst (Q.map enD ++ [enD e'])) = m ++ [.lst (Q.map enD ++ [enD e'])] := by simp
    have nl : (Q.map enD).length < 1000000 := by rw [List.length_map]; omega
    have em : (Q ++ [e']).map enD = Q.map enD ++ [enD e'] := by rw [List.map_append]; rfl
    rw [em]
    generalize Q.map enD = QD at *
    generalize enD e' = ed at *
    generalize scD ES ST = SC at *
    generalize D.tup (ES.map enD) = ED at *
    generalize m ++ [MO.lst QD] = M at *
    simp [sDrop, eMt, isLst, appD, aCons, aNil, eVar, g, nl, st]
  by_cases hv : v = 0
  · subst hv
    obtain ⟨j, s2, t2, hj⟩ := Lo.take_nat (ns := ns) (s := s1) (n := ES.length) lp (by omega) (m ++ [.lst (Q.map enD)])
    have t2' : F_take [.r 0, .v (nD ES.length)] (stD ns s1 :: (m ++ [.lst (Q.map enD)])) = _ := t2
    have ej : ES[j]? = some ES[j] := List.getElem?_eq_getElem hj
    have b1 : ixD (.tup (ES.map enD)) (nD j) = some (.v (enD ES[j])) := by rw [ix_t, at_nat (x := enD ES[j]) (by rw [List.getElem?_map, ej]; rfl)]; rfl
    have b2 := at_en ES[j]
    have lb : lenD [.tup (ES.map enD)] = some (.v (nD ES.length)) := by simp
    have c := cut_en e
    have ad : addD (kD2 e.1) (.tup [ES[j].2.d]) = some (.v (enD (e.1, ES[j].2))) := by unfold kD2 addD; simp [enD]
    refine ⟨(e.1, ES[j].2), s2, some (.v (enD (e.1, ES[j].2))), ?_, ⟨(h.e e he).k, (h.e _ (List.getElem_mem hj)).x⟩⟩
    unfold L_doubled_1
    refine seq_at (ρ1 := envB (scD ES ST) (some (.v (.tup (ES.map enD)))) (some (.r (m.length + 1))) (some (.v (enD (e.1, ES[j].2))))) (m1 := stD ns s2 :: (m ++ [.lst (Q.map enD)])) ?_ (app _ _)
    generalize enD (e.1, ES[j].2) = e3 at *
    generalize ES[j].2.d = e4 at *
    generalize enD ES[j] = e5 at *
    generalize kD2 e.1 = e6 at *
    generalize enD e = e7 at *
    generalize scD ES ST = SC at *
    generalize D.tup (ES.map enD) = ED at *
    generalize m ++ [MO.lst (Q.map enD)] = M at *
    simp [sIf, tVal, sSet, eOp, eSlc, oNone, oSome, eTup, eCall, eCB, aCons, aNil, eVar, eC, t1', t2', lb, b1, b2, c, ad, stl, vls, blD, -len_t, -ix_t]
  · refine ⟨e, s1, some (.v (enD e)), ?_, h.e e he⟩
    unfold L_doubled_1
    refine seq_at (ρ1 := envB (scD ES ST) (some (.v (.tup (ES.map enD)))) (some (.r (m.length + 1))) (some (.v (enD e)))) (m1 := stD ns s1 :: (m ++ [.lst (Q.map enD)])) ?_ (app _ _)
    generalize enD e = e7 at *
    generalize scD ES ST = SC at *
    generalize D.tup (ES.map enD) = ED at *
    generalize m ++ [MO.lst (Q.map enD)] = M at *
    simp [sIf, tVal, eOp, eCall, aCons, aNil, eVar, eC, t1', hv, blD, sNil]
theorem doubled_spec (h : ScB ES ST) (m : Mem) : ∃ (ES' : List En) (s' : Lx.St), F_doubled [.r 0, .v (scD ES ST)] (stD ns s :: m) = some (.v (scD ES' ST), stD ns s' :: m) ∧ ScB ES' ST := by
  have le := h.le
  have i0 : ixD (scD ES ST) (.int 0) = some (.v (.tup (ES.map enD))) := by simp
  have i1 : ixD (scD ES ST) (.int 1) = some (.v (.tup (ST.map kD2))) := by simp
  obtain ⟨ρ', m', el, s2, Q, rfl, rfl, lQ, hQ⟩ := for_inv (src := iSeq (eVar 2)) (t := gN 4) (b := L_doubled_1) (dd := [4]) (ρ := envB (scD ES ST) (some (.v (.tup (ES.map enD)))) (some (.r (m.length + 1))) none) (m := stD ns s :: (m ++ [.lst (([] : List En).map enD)])) (m1 := stD ns s :: (m ++ [.lst (([] : List En).map enD)])) ES enD
    (fun i ρ mm => ∃ (s : Lx.St) (Q : List En), ρ = envB (scD ES ST) (some (.v (.tup (ES.map enD)))) (some (.r (m.length + 1))) none ∧ mm = stD ns s :: (m ++ [.lst (Q.map enD)]) ∧ Q.length = i ∧ ∀ e ∈ Q, EnB e)
    (by simp [iSeq, eVar]) ⟨s, [], rfl, rfl, rfl, (fun e he => nomatch he)⟩
    (fun j e hj ρ mm inv => by
      obtain ⟨s, Q, rfl, rfl, lQ, hQ⟩ := inv
      have jl := (List.getElem?_eq_some_iff.mp hj).1
      obtain ⟨e', s', x4, q, h1⟩ := doubled_turn (ns := ns) (s := s) (m := m) (e := e) (Q := Q) h (List.mem_of_getElem? hj) (by omega)
      refine ⟨_, _, _, rfl, q, s', Q ++ [e'], rfl, rfl, by rw [List.length_append, lQ]; rfl, fun x hx => ?_⟩
      rcases List.mem_append.mp hx with z | z
      · exact hQ x z
      · rw [List.mem_singleton.mp z]; exact h1)
  refine ⟨Q, s2, ?_, ⟨hQ, h.k, by omega, h.lk⟩⟩
  refine Lv.run_eq rfl (b := B_doubled) (w := .v (scD Q ST)) (ρ := envB (scD ES ST) (some (.v (.tup (ES.map enD)))) (some (.r (m.length + 1))) none) (m' := stD ns s2 :: (m ++ [.lst (Q.map enD)])) ?_ (by simp [outW])
  show B_doubled (envB (scD ES ST) none none none) (stD ns s :: m) = _
  unfold B_doubled
  refine seq_at (ρ1 := envB (scD ES ST) (some (.v (.tup (ES.map enD)))) none none) (m1 := stD ns s :: m) (by
    generalize scD ES ST = SC at *
    generalize D.tup (ES.map enD) = ED at *
    simp [sSet, eOp, eVar, eC, i0]) ?_
  refine seq_at (ρ1 := envB (scD ES ST) (some (.v (.tup (ES.map enD)))) (some (.r (m.length + 1))) none) (m1 := stD ns s :: (m ++ [.lst (([] : List En).map enD)])) (by simp [sSet, eOwn, eLst, aNil, ownW, dMO, stl]) ?_
  refine seq_at el ?_
  have g3 : ∀ x : MO, gt (.r (m.length + 1)) (x :: (m ++ [.lst (Q.map enD)])) = some (.lst (Q.map enD)) := fun x => by simp [gt, moD]
  rw [show scD Q ST = D.tup [D.tup (Q.map enD), D.tup (ST.map kD2)] from rfl]
  generalize m ++ [MO.lst (Q.map enD)] = M at *
  generalize Q.map enD = QD at *
  generalize D.tup (ST.map kD2) = SD at *
  generalize scD ES ST = SC at *
  generalize D.tup (ES.map enD) = ED at *
  simp [sRet, eTup, eCB, aCons, aNil, eOp, eVar, eC, gts, g3, i1, tupleD, stl, vls, -gt_r]
abbrev eL (ns : List Int) (BF : D) (x3 x4 x5 x6 x7 x8 : Option W) : Pw.Env := [some (.v (.fl (ns.map .int))), some (.r 0), some (.v BF), x3, x4, x5, x6, x7, x8]
theorem law_in {BF : D} {x3 x4 x5 : Option W} (h : ScB ES ST) (m : Mem) : ∃ x7 x8, L_law_1 (eL ns BF x3 x4 x5 (some (.v (scD ES ST))) none none) m = some (.nx, eL ns BF x3 x4 x5 (some (.v (scD ES ST))) x7 x8, m) := by
  obtain ⟨t, ht⟩ := repr_sc h
  have b1 := book_spec h m
  have b2 := l_book_spec h m
  have ne := book_ne h
  have pl := plain_book h m
  refine ⟨some (.v (.str t)), some (.v (bD (bookS ES ST))), ?_⟩
  generalize bD (bookS ES ST) = BD at *
  generalize scD ES ST = SC at *
  unfold L_law_1
  refine seq_at (ρ1 := eL ns BF x3 x4 x5 (some (.v SC)) (some (.v (.str t))) none) (m1 := m) (by simp [sSet, eCB, aCons, aNil, eVar, ht]) ?_
  refine seq_at (ρ1 := eL ns BF x3 x4 x5 (some (.v SC)) (some (.v (.str t))) (some (.v BD))) (m1 := m) (by simp [sSet, eCall, aCons, aNil, eVar, b1]) ?_
  simp [sIf, tOr', tNot', tTru, tVal, eOp, eCall, eCB, aCons, aNil, eVar, b2, ne, pl, ht, truD, blD, sNil]
theorem law_turn {ES0 : List En} {ST0 : List (Str × Int)} {a : D} (h : ScB ES0 ST0) : ∃ (ES : List En) (ST : List (Str × Int)) (s' : Lx.St) (x4 x5 : Option W), L_law_2 (eL ns (scD ES0 ST0) (some (.v a)) none none none none none) [stD ns s] = some (.nx, eL ns (scD ES ST) (some (.v a)) x4 x5 none none none, [stD ns s']) ∧ ScB ES ST := by
  obtain ⟨F, s1, e1, hF, lF⟩ := house_specL (ns := ns) (s := s) (most := 8) (by decide) (by decide) []
  obtain ⟨ES1, ST1, s2, e2, h1⟩ := scroll_spec (ns := ns) (s := s1) hF (by decide) []
  obtain ⟨ES, s3, e3, h2⟩ := doubled_spec (ns := ns) (s := s2) h1 []
  have e1' : F_house [.r 0, .v (.int 8)] [stD ns s] = _ := e1
  obtain ⟨ρ', m', el, rfl, rfl⟩ := for_inv (src := iSeq (eTup (aCons (eVar 5) (aCons (eVar 2) (aCons (eVar 5) aNil))))) (t := gN 6) (b := L_law_1) (dd := [6, 7, 8]) (ρ := eL ns (scD ES0 ST0) (some (.v a)) (some (.v (hD F))) (some (.v (scD ES ST1))) none none none) (m := [stD ns s3]) (m1 := [stD ns s3]) [(ES, ST1), (ES0, ST0), (ES, ST1)] (fun p : List En × List (Str × Int) => scD p.1 p.2)
    (fun _ ρ mm => ρ = eL ns (scD ES0 ST0) (some (.v a)) (some (.v (hD F))) (some (.v (scD ES ST1))) none none none ∧ mm = [stD ns s3])
    (by
      show iSeq (eTup (aCons (eVar 5) (aCons (eVar 2) (aCons (eVar 5) aNil)))) _ _ = some (.seq [scD ES ST1, scD ES0 ST0, scD ES ST1], _)
      generalize scD ES ST1 = A at *
      generalize scD ES0 ST0 = B at *
      simp [iSeq, eTup, aCons, aNil, eVar, vls]) ⟨rfl, rfl⟩
    (fun k p hk ρ mm inv => by
      obtain ⟨rfl, rfl⟩ := inv
      have hp : ScB p.1 p.2 := by
        have := List.mem_of_getElem? hk
        simp only [List.mem_cons, List.not_mem_nil, or_false] at this
        rcases this with z | z | z <;> rw [z]
        · exact h2
        · exact h
        · exact h2
      obtain ⟨x7, x8, q⟩ := law_in (ns := ns) (BF := scD ES0 ST0) (x3 := some (.v a)) (x4 := some (.v (hD F))) (x5 := some (.v (scD ES ST1))) hp [stD ns s3]
      exact ⟨_, _, _, rfl, q, rfl, rfl⟩)
  refine ⟨ES, ST1, s3, some (.v (hD F)), some (.v (scD ES ST1)), ?_, h2⟩
  generalize scD ES ST1 = A at *
  generalize scD ES0 ST0 = B at *
  generalize scD ES1 ST1 = A1 at *
  generalize hD F = H at *
  unfold L_law_2
  refine seq_at (ρ1 := eL ns B (some (.v a)) (some (.v H)) none none none none) (m1 := [stD ns s1]) (by simp [sSet, eCall, aCons, aNil, eVar, eC, e1']) ?_
  refine seq_at (ρ1 := eL ns B (some (.v a)) (some (.v H)) (some (.v A)) none none none) (m1 := [stD ns s3]) (by simp [sSet, eCall, aCons, aNil, eVar, eC, e2, e3]) ?_
  refine seq_at el ?_
  simp [sSet, eVar, stl]
theorem nilB : ScB [] [] := ⟨(fun e he => nomatch he), (fun e he => nomatch he), by simp, by simp⟩
theorem holds (ns : List Int) (hn : ns.length ≤ 63) : ∃ m', F_law [.v (.fl (ns.map .int))] [] = some (.v (.bl true), m') := by
  generalize hs0 : (⟨0, 0, 83, by decide, by decide, by decide, by decide⟩ : Lx.St) = s0
  obtain ⟨ρ', m', el, s5, ES, ST, rfl, rfl, hE⟩ := for_inv (src := iRngA (aCons (eC (.int 6)) aNil)) (t := gN 3) (b := L_law_2) (dd := [3, 4, 5, 6, 7, 8]) (ρ := eL ns (scD [] []) none none none none none none) (m := [stD ns s0]) (m1 := [stD ns s0]) (List.range 6) nD
    (fun _ ρ mm => ∃ (s : Lx.St) (ES : List En) (ST : List (Str × Int)), ρ = eL ns (scD ES ST) none none none none none none ∧ mm = [stD ns s] ∧ ScB ES ST) (by simp [iRngA, aCons, aNil, eC]; rfl) ⟨s0, [], [], rfl, rfl, nilB⟩
    (fun j a ha ρ mm inv => by
      obtain ⟨s, ES, ST, rfl, rfl, h⟩ := inv
      obtain ⟨ES', ST', s', x4, x5, q, h'⟩ := law_turn (ns := ns) (s := s) (a := nD a) h
      exact ⟨_, _, _, rfl, q, s', ES', ST', rfl, rfl, h'⟩)
  refine ⟨[], ?_⟩
  have b0 := book_spec nilB [stD ns s5]
  have bn : bookS [] [] = [] := rfl
  rw [bn] at b0
  refine Lv.run_eq rfl (b := B_law) (w := .v (.bl true)) (ρ := eL ns (scD ES ST) none none none none none none) (m' := [stD ns s5]) ?_ (by simp [outW])
  show B_law [some (.v (.fl (ns.map .int))), none, none, none, none, none, none, none, none] [] = _
  unfold B_law
  refine seq_at (ρ1 := [some (.v (.fl (ns.map .int))), some (.r 0), none, none, none, none, none, none, none]) (m1 := [stD ns s0]) (by rw [← hs0]; simp [sSet, eOwn, eLst, aCons, aNil, eVar, eC, stD]) ?_
  refine seq_at (ρ1 := eL ns (scD [] []) none none none none none none) (m1 := [stD ns s0]) (by rfl) ?_
  refine seq_at el ?_
  have b0' : F_book_of [.v (.tup [.tup [], .tup []])] [stD ns s5] = some (.v (.tup []), [stD ns s5]) := b0
  have eq : eqD false (.tup []) (.tup []) = some (.v (.bl true)) := by rfl
  simp [sRet, eOp, eCall, eTup, aCons, aNil, vls, stl, b0', eq]
end
end K83
end
section
set_option Elab.async false
set_option linter.all false
set_option maxRecDepth 100000
set_option maxHeartbeats 4000000
namespace K83
open PySem PySem.Spec PyProof.Rows L2 Pw
theorem all_mk {l : PySem.W.OpenLaw} {w : World} {K : FRG} {h : Heap} {mg : Str → Option Value} {fa : Addr} (X : K.In h) (G : h.Ns mainGlobals mg) (hfa : mg "law" = some (.ref fa))
    {f0 : Addr} {od0 an0 : Option Addr} {sl0 : Array (Option Value)} {oc0 kV0 dc0 pm0 cd0 ct0 : Value}
    (a0 : PySem.W.nsIn K mainGlobals "_law_book_of" = some (some (.ref f0))) (l0 : K.lookup f0 = some ⟨oc0, od0, .func (PySem.W.fnOf "_law_book_of" "_law_book_of" (defArgs s_l_book_of) (defBody s_l_book_of) (defScope s_l_book_of) .none kV0 dc0 pm0 an0 cd0 ct0), sl0⟩) (c0 : PySem.W.codeIn K cd0 "_law_book_of" = true) (k0 : PySem.W.keepIn K (.ref f0) = true)
    {f1 : Addr} {od1 an1 : Option Addr} {sl1 : Array (Option Value)} {oc1 kV1 dc1 pm1 cd1 ct1 : Value}
    (a1 : PySem.W.nsIn K mainGlobals "_law_take" = some (some (.ref f1))) (l1 : K.lookup f1 = some ⟨oc1, od1, .func (PySem.W.fnOf "_law_take" "_law_take" (defArgs s_take) (defBody s_take) (defScope s_take) .none kV1 dc1 pm1 an1 cd1 ct1), sl1⟩) (c1 : PySem.W.codeIn K cd1 "_law_take" = true) (k1 : PySem.W.keepIn K (.ref f1) = true)
    {f2 : Addr} {od2 an2 : Option Addr} {sl2 : Array (Option Value)} {oc2 kV2 dc2 pm2 cd2 ct2 : Value}
    (a2 : PySem.W.nsIn K mainGlobals "_law_doubled" = some (some (.ref f2))) (l2 : K.lookup f2 = some ⟨oc2, od2, .func (PySem.W.fnOf "_law_doubled" "_law_doubled" (defArgs s_doubled) (defBody s_doubled) (defScope s_doubled) .none kV2 dc2 pm2 an2 cd2 ct2), sl2⟩) (c2 : PySem.W.codeIn K cd2 "_law_doubled" = true) (k2 : PySem.W.keepIn K (.ref f2) = true)
    {f3 : Addr} {od3 an3 : Option Addr} {sl3 : Array (Option Value)} {oc3 kV3 dc3 pm3 cd3 ct3 : Value}
    (a3 : PySem.W.nsIn K mainGlobals "_law_parent" = some (some (.ref f3))) (l3 : K.lookup f3 = some ⟨oc3, od3, .func (PySem.W.fnOf "_law_parent" "_law_parent" (defArgs s_parent) (defBody s_parent) (defScope s_parent) .none kV3 dc3 pm3 an3 cd3 ct3), sl3⟩) (c3 : PySem.W.codeIn K cd3 "_law_parent" = true) (k3 : PySem.W.keepIn K (.ref f3) = true)
    {f4 : Addr} {od4 an4 : Option Addr} {sl4 : Array (Option Value)} {oc4 kV4 dc4 pm4 cd4 ct4 : Value}
    (a4 : PySem.W.nsIn K mainGlobals "_law_house" = some (some (.ref f4))) (l4 : K.lookup f4 = some ⟨oc4, od4, .func (PySem.W.fnOf "_law_house" "_law_house" (defArgs s_house) (defBody s_house) (defScope s_house) .none kV4 dc4 pm4 an4 cd4 ct4), sl4⟩) (c4 : PySem.W.codeIn K cd4 "_law_house" = true) (k4 : PySem.W.keepIn K (.ref f4) = true)
    {f5 : Addr} {od5 an5 : Option Addr} {sl5 : Array (Option Value)} {oc5 kV5 dc5 pm5 cd5 ct5 : Value}
    (a5 : PySem.W.nsIn K mainGlobals "_law_is_plain" = some (some (.ref f5))) (l5 : K.lookup f5 = some ⟨oc5, od5, .func (PySem.W.fnOf "_law_is_plain" "_law_is_plain" (defArgs s_is_plain) (defBody s_is_plain) (defScope s_is_plain) .none kV5 dc5 pm5 an5 cd5 ct5), sl5⟩) (c5 : PySem.W.codeIn K cd5 "_law_is_plain" = true) (k5 : PySem.W.keepIn K (.ref f5) = true)
    {f6 : Addr} {od6 an6 : Option Addr} {sl6 : Array (Option Value)} {oc6 kV6 dc6 pm6 cd6 ct6 : Value}
    (a6 : PySem.W.nsIn K mainGlobals "_law_news" = some (some (.ref f6))) (l6 : K.lookup f6 = some ⟨oc6, od6, .func (PySem.W.fnOf "_law_news" "_law_news" (defArgs s_news) (defBody s_news) (defScope s_news) .none kV6 dc6 pm6 an6 cd6 ct6), sl6⟩) (c6 : PySem.W.codeIn K cd6 "_law_news" = true) (k6 : PySem.W.keepIn K (.ref f6) = true)
    {f7 : Addr} {od7 an7 : Option Addr} {sl7 : Array (Option Value)} {oc7 kV7 dc7 pm7 cd7 ct7 : Value}
    (a7 : PySem.W.nsIn K mainGlobals "_law_scroll" = some (some (.ref f7))) (l7 : K.lookup f7 = some ⟨oc7, od7, .func (PySem.W.fnOf "_law_scroll" "_law_scroll" (defArgs s_scroll) (defBody s_scroll) (defScope s_scroll) .none kV7 dc7 pm7 an7 cd7 ct7), sl7⟩) (c7 : PySem.W.codeIn K cd7 "_law_scroll" = true) (k7 : PySem.W.keepIn K (.ref f7) = true)
    {f8 : Addr} {od8 an8 : Option Addr} {sl8 : Array (Option Value)} {oc8 kV8 dc8 pm8 cd8 ct8 : Value}
    (a8 : PySem.W.nsIn K mainGlobals "book_of" = some (some (.ref f8))) (l8 : K.lookup f8 = some ⟨oc8, od8, .func (PySem.W.fnOf "book_of" "book_of" (defArgs s_book_of) (defBody s_book_of) (defScope s_book_of) .none kV8 dc8 pm8 an8 cd8 ct8), sl8⟩) (c8 : PySem.W.codeIn K cd8 "book_of" = true) (k8 : PySem.W.keepIn K (.ref f8) = true)
    {f9 : Addr} {od9 an9 : Option Addr} {sl9 : Array (Option Value)} {oc9 kV9 dc9 pm9 cd9 ct9 : Value}
    (a9 : PySem.W.nsIn K mainGlobals "law" = some (some (.ref f9))) (l9 : K.lookup f9 = some ⟨oc9, od9, .func (PySem.W.fnOf "law" "law" (defArgs s_law) (defBody s_law) (defScope s_law) .none kV9 dc9 pm9 an9 cd9 ct9), sl9⟩) (c9 : PySem.W.codeIn K cd9 "law" = true) (k9 : PySem.W.keepIn K (.ref f9) = true)
    (z_all : PySem.W.nsIn K mainGlobals "all" = some none)
    (z_bool : PySem.W.nsIn K mainGlobals "bool" = some none)
    (z_int : PySem.W.nsIn K mainGlobals "int" = some none)
    (z_isinstance : PySem.W.nsIn K mainGlobals "isinstance" = some none)
    (z_len : PySem.W.nsIn K mainGlobals "len" = some none)
    (z_max : PySem.W.nsIn K mainGlobals "max" = some none)
    (z_min : PySem.W.nsIn K mainGlobals "min" = some none)
    (z_range : PySem.W.nsIn K mainGlobals "range" = some none)
    (z_repr : PySem.W.nsIn K mainGlobals "repr" = some none)
    (z_set : PySem.W.nsIn K mainGlobals "set" = some none)
    (z_sorted : PySem.W.nsIn K mainGlobals "sorted" = some none)
    (z_str : PySem.W.nsIn K mainGlobals "str" = some none)
    (z_tuple : PySem.W.nsIn K mainGlobals "tuple" = some none)
    : ∃ (fd : FuncData) (cs : List (Addr × Addr)), (∀ p ∈ cs, h.get? p.2 = some { cls := .none, data := .fields #[] }) ∧ (∀ p ∈ cs, K.lookup p.2 = none) ∧ (∀ p ∈ cs, PySem.W.CodeHd h p.1 p.2) ∧ (∀ (s : Shared) (u : Value), BindsTo s fd ⟨[u], []⟩ [("_law_script", u)]) ∧
      ∀ base : Heap, K.In base → base.Ns mainGlobals mg → (∀ p ∈ cs, GxR.TabB base mg p.1 p.2) → FnG l.prog w K mg base 5 fa fd ["_law_script"] (spF K (cs.map (·.2)) P_law.length F_law) := by
  have isLaw : fa = f9 := by
    have e := hfa.symm.trans (PySem.W.mg_of X G a9)
    cases e; rfl
  have F0 : FunC K "_law_book_of" "_law_book_of" s_l_book_of f0 _ cd0 := ⟨⟨oc0, od0, kV0, dc0, pm0, an0, ct0, sl0, rfl, l0, c0⟩, k0⟩
  have b0 := F0.binds (ps := P_l_book_of) fun _ _ _ _ _ us hl => match us, hl with | [_], _ => rfl
  have F1 : FunC K "_law_take" "_law_take" s_take f1 _ cd1 := ⟨⟨oc1, od1, kV1, dc1, pm1, an1, ct1, sl1, rfl, l1, c1⟩, k1⟩
  have b1 := F1.binds (ps := P_take) fun _ _ _ _ _ us hl => match us, hl with | [_, _], _ => rfl
  have F2 : FunC K "_law_doubled" "_law_doubled" s_doubled f2 _ cd2 := ⟨⟨oc2, od2, kV2, dc2, pm2, an2, ct2, sl2, rfl, l2, c2⟩, k2⟩
  have b2 := F2.binds (ps := P_doubled) fun _ _ _ _ _ us hl => match us, hl with | [_, _], _ => rfl
  have F3 : FunC K "_law_parent" "_law_parent" s_parent f3 _ cd3 := ⟨⟨oc3, od3, kV3, dc3, pm3, an3, ct3, sl3, rfl, l3, c3⟩, k3⟩
  have b3 := F3.binds (ps := P_parent) fun _ _ _ _ _ us hl => match us, hl with | [_, _, _, _], _ => rfl
  have F4 : FunC K "_law_house" "_law_house" s_house f4 _ cd4 := ⟨⟨oc4, od4, kV4, dc4, pm4, an4, ct4, sl4, rfl, l4, c4⟩, k4⟩
  have b4 := F4.binds (ps := P_house) fun _ _ _ _ _ us hl => match us, hl with | [_, _], _ => rfl
  have F5 : FunC K "_law_is_plain" "_law_is_plain" s_is_plain f5 _ cd5 := ⟨⟨oc5, od5, kV5, dc5, pm5, an5, ct5, sl5, rfl, l5, c5⟩, k5⟩
  have b5 := F5.binds (ps := P_is_plain) fun _ _ _ _ _ us hl => match us, hl with | [_], _ => rfl
  have F6 : FunC K "_law_news" "_law_news" s_news f6 _ cd6 := ⟨⟨oc6, od6, kV6, dc6, pm6, an6, ct6, sl6, rfl, l6, c6⟩, k6⟩
  have b6 := F6.binds (ps := P_news) fun _ _ _ _ _ us hl => match us, hl with | [_, _], _ => rfl
  have F7 : FunC K "_law_scroll" "_law_scroll" s_scroll f7 _ cd7 := ⟨⟨oc7, od7, kV7, dc7, pm7, an7, ct7, sl7, rfl, l7, c7⟩, k7⟩
  have b7 := F7.binds (ps := P_scroll) fun _ _ _ _ _ us hl => match us, hl with | [_, _, _], _ => rfl
  have F8 : FunC K "book_of" "book_of" s_book_of f8 _ cd8 := ⟨⟨oc8, od8, kV8, dc8, pm8, an8, ct8, sl8, rfl, l8, c8⟩, k8⟩
  have b8 := F8.binds (ps := P_book_of) fun _ _ _ _ _ us hl => match us, hl with | [_], _ => rfl
  have F9 : FunC K "law" "law" s_law f9 _ cd9 := ⟨⟨oc9, od9, kV9, dc9, pm9, an9, ct9, sl9, rfl, l9, c9⟩, k9⟩
  have b9 := F9.binds (ps := P_law) fun _ _ _ _ _ us hl => match us, hl with | [_], _ => rfl
  let C : Ctx K mg (([] : List (Addr × Addr)).map (·.2)) := { f_l_book_of := f0, fd_l_book_of := _, cd_l_book_of := cd0, F_l_book_of := F0, b_l_book_of := b0, g_l_book_of := PySem.W.mg_of X G a0, f_take := f1, fd_take := _, cd_take := cd1, F_take := F1, b_take := b1, g_take := PySem.W.mg_of X G a1, f_doubled := f2, fd_doubled := _, cd_doubled := cd2, F_doubled := F2, b_doubled := b2, g_doubled := PySem.W.mg_of X G a2, f_parent := f3, fd_parent := _, cd_parent := cd3, F_parent := F3, b_parent := b3, g_parent := PySem.W.mg_of X G a3, f_house := f4, fd_house := _, cd_house := cd4, F_house := F4, b_house := b4, g_house := PySem.W.mg_of X G a4, f_is_plain := f5, fd_is_plain := _, cd_is_plain := cd5, F_is_plain := F5, b_is_plain := b5, g_is_plain := PySem.W.mg_of X G a5, f_news := f6, fd_news := _, cd_news := cd6, F_news := F6, b_news := b6, g_news := PySem.W.mg_of X G a6, f_scroll := f7, fd_scroll := _, cd_scroll := cd7, F_scroll := F7, b_scroll := b7, g_scroll := PySem.W.mg_of X G a7, f_book_of := f8, fd_book_of := _, cd_book_of := cd8, F_book_of := F8, b_book_of := b8, g_book_of := PySem.W.mg_of X G a8, f_law := f9, fd_law := _, cd_law := cd9, F_law := F9, b_law := b9, g_law := PySem.W.mg_of X G a9, z_all := PySem.W.mg_none_of X G z_all, z_bool := PySem.W.mg_none_of X G z_bool, z_int := PySem.W.mg_none_of X G z_int, z_isinstance := PySem.W.mg_none_of X G z_isinstance, z_len := PySem.W.mg_none_of X G z_len, z_max := PySem.W.mg_none_of X G z_max, z_min := PySem.W.mg_none_of X G z_min, z_range := PySem.W.mg_none_of X G z_range, z_repr := PySem.W.mg_none_of X G z_repr, z_set := PySem.W.mg_none_of X G z_set, z_sorted := PySem.W.mg_none_of X G z_sorted, z_str := PySem.W.mg_none_of X G z_str, z_tuple := PySem.W.mg_none_of X G z_tuple }
  exact ⟨_, [], (fun p hp => by cases hp), (fun p hp => by cases hp), (fun p hp => by cases hp), fun s u => .of_eq rfl, fun base _ _ hT => by rw [isLaw]; exact ok_law C⟩
end K83
open PySem PySem.W PyProof.Rows
set_option maxHeartbeats 0 in
theorem PySem.Challenge.cw_thronewalk_k83_books_of_scrolls_holds : PySem.Challenge.rw_thronewalk_k83_books_of_scrolls.Holds := by
  w_on; o_law; k_head; (case hw => w_witness2)
  k_fill
  refine Pw.walkG (l := PySem.Challenge.rw_thronewalk_k83_books_of_scrolls) (n := 63) (k := 5) (x := "_law_script") (F := K83.F_law) rfl (by decide) rfl ⟨rfl, by decide, by decide⟩ (fun w h Y => by first | exact PySem.W.kIn_of Y | exact PySem.W.km_in_of Y) ?F K83.holds
  case F =>
    intro w mg fa h KX G hmg tabs
    refine' K83.all_mk KX G hmg ?a0 ?l0 ?c0 ?k0 ?a1 ?l1 ?c1 ?k1 ?a2 ?l2 ?c2 ?k2 ?a3 ?l3 ?c3 ?k3 ?a4 ?l4 ?c4 ?k4 ?a5 ?l5 ?c5 ?k5 ?a6 ?l6 ?c6 ?k6 ?a7 ?l7 ?c7 ?k7 ?a8 ?l8 ?c8 ?k8 ?a9 ?l9 ?c9 ?k9 ?z_all ?z_bool ?z_int ?z_isinstance ?z_len ?z_max ?z_min ?z_range ?z_repr ?z_set ?z_sorted ?z_str ?z_tuple
    (case a0 => k_is)
    (case l0 => k_is)
    (case c0 => k_is)
    (case k0 => k_is)
    (case a1 => k_is)
    (case l1 => k_is)
    (case c1 => k_is)
    (case k1 => k_is)
    (case a2 => k_is)
    (case l2 => k_is)
    (case c2 => k_is)
    (case k2 => k_is)
    (case a3 => k_is)
    (case l3 => k_is)
    (case c3 => k_is)
    (case k3 => k_is)
    (case a4 => k_is)
    (case l4 => k_is)
    (case c4 => k_is)
    (case k4 => k_is)
    (case a5 => k_is)
    (case l5 => k_is)
    (case c5 => k_is)
    (case k5 => k_is)
    (case a6 => k_is)
    (case l6 => k_is)
    (case c6 => k_is)
    (case k6 => k_is)
    (case a7 => k_is)
    (case l7 => k_is)
    (case c7 => k_is)
    (case k7 => k_is)
    (case a8 => k_is)
    (case l8 => k_is)
    (case c8 => k_is)
    (case k8 => k_is)
    (case a9 => k_is)
    (case l9 => k_is)
    (case c9 => k_is)
    (case k9 => k_is)
    (case z_all => k_is)
    (case z_bool => k_is)
    (case z_int => k_is)
    (case z_isinstance => k_is)
    (case z_len => k_is)
    (case z_max => k_is)
    (case z_min => k_is)
    (case z_range => k_is)
    (case z_repr => k_is)
    (case z_set => k_is)
    (case z_sorted => k_is)
    (case z_str => k_is)
    (case z_tuple => k_is)
end
