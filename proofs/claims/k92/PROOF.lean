import PyProof.Rows.All
import HandS.ForMost
import HandS.Flow
import HandS.SortInts
import HandS.TupAny
import HandS.EndTab
import HandS.AnyAll
import HandS.Lambda
import HandS.Records
import KE.KMinKey
import HandS.SortKw
import HandS.Deep
import HandS.Strs
import HandS.SetFor
import KE.KSortTupG
import HandS.TupSets
import KE.KSortTupUse
import KE.LtData
import PyProof.TupleOfGen
import HandS.Conv
import HandS.More
import HandS.Style
import PyProof.Rows.MinMaxN
import HandS.DictComp
import HandS.Rev
import HandS.GenOver
import HandS.GenBody
import PyProof.GenQ
import HandS.GenList
import HandS.Zip
import HandS.IsInst
import HandS.IterVal
import HandS.NoneIn
import HandS.Text
import HandS.TupLe
import KE.KSortTup
import KE.GoesMore
import HandS.Iter
import KE.SortKeyHeap
import KE.DataMinKey
import KE.SortData
import PyProof.SeqRoads
import HandS.Dict
import PyProof.EqAt
import PySem.Challenge.RW_thronewalk_k92_texts_read
import PyProof.StrLawsTight
import PyProof.StrLawsChain
import Wide.All
import OpenK.AllK
import Wide.FinOn
section
set_option Elab.async false
set_option linter.all false
set_option maxRecDepth 100000
set_option maxHeartbeats 1000000
namespace Pw
open PySem PySem.Spec PyProof.Rows L2
inductive D where
  | non | bl (b : Bool) | int (i : Int) | str (x : Str) | tup (xs : List D) | tx (xs : List D) | fl (xs : List D) | lst (xs : List D) | dk (kvs : List (Key × D)) | dt (kvs : List (List Key × D)) | rl (b k : Nat)
inductive MO where
  | lst (xs : List D)
  | dk (kvs : List (Key × D))
  | dt (kvs : List (List Key × D))
  | rl (b k : Nat)
inductive W where
  | v (d : D) | r (n : Nat) | f (d : D)
abbrev Mem := List MO
abbrev Env := List (Option W)
abbrev FRG := PySem.W.Frag
def Fz (K : FRG) (H : Hp) (a : Addr) (vs : List V) : Prop :=
  (∃ o, H a = some (.frz o (.lst vs))) ∨
    ∃ (o : Obj) (its : Array Value) (n : Nat), K.lookup a = some o ∧ o.cls = .type "list" ∧ o.dict = none ∧ o.data = .seq its n ∧ its.size ≤ sizeLine ∧ Vals vs its.toList
theorem Fz.sq {K : FRG} {H : Hp} {a : Addr} {vs : List V} (h : Fz K H a vs) : SqL K H a vs := by
  rcases h with ⟨o, h⟩ | h
  · exact .inl (.inr ⟨o, h⟩)
  · exact .inr h
def kyV : List V → Bool
  | .str _ :: .int _ :: _ => true
  | _ => false
def SqN (K : FRG) (H : Hp) (a : Addr) (vs : List V) : Prop := SqT K H a vs ∧ (kyV vs = true → H a = some (.tup vs))
theorem SqN.of {K : FRG} {H : Hp} {a : Addr} {vs : List V} (h : H a = some (.tup vs)) : SqN K H a vs := ⟨SqT.of h, fun _ => h⟩
theorem SqN.no {K : FRG} {H : Hp} {a : Addr} {vs : List V} (h : SqT K H a vs) (n : kyV vs = false) : SqN K H a vs := ⟨h, fun z => by rw [n] at z; cases z⟩
def Tz (H : Hp) (a : Addr) (vs : List V) : Prop := ∃ o : Obj, H a = some (.frz o (.tup vs)) ∧ o.dict = none ∧ ∀ x, V.str x ∉ vs
theorem Tz.sq {K : FRG} {H : Hp} {a : Addr} {vs : List V} (h : Tz H a vs) : SqT K H a vs := by
  obtain ⟨o, h, _⟩ := h
  exact .inl (.inr ⟨o, h⟩)
mutual
inductive Rep (K : FRG) (φ ψ : List Addr) (H : Hp) : D → V → Prop
  | non : Rep K φ ψ H .non .non
  | bl (b : Bool) : Rep K φ ψ H (.bl b) (.bl b)
  | int (i : Int) : Rep K φ ψ H (.int i) (.int i)
  | str (x : Str) : Rep K φ ψ H (.str x) (.str x)
  | tup {a : Addr} {vs : List V} {ds : List D} : SqN K H a vs → Reps K φ ψ H ds vs → Rep K φ ψ H (.tup ds) (.ref a)
  | tx {a : Addr} {vs : List V} {ds : List D} : Tz H a vs → Reps K φ ψ H ds vs → Rep K φ ψ H (.tx ds) (.ref a)
  | fl {a : Addr} {vs : List V} {ds : List D} : Fz K H a vs → Reps K φ ψ H ds vs → Rep K φ ψ H (.fl ds) (.ref a)
  | lst {a : Addr} {vs : List V} {ds : List D} : a ∉ φ → a ∉ ψ → H a = some (.lst vs) → Reps K φ ψ H ds vs → Rep K φ ψ H (.lst ds) (.ref a)
  | dk {a : Addr} {vs : List (Key × V)} {kvs : List (Key × D)} : a ∉ φ → a ∉ ψ → Rd H a (.dK vs) → kvs.map (·.1) = vs.map (·.1) → Reps K φ ψ H (kvs.map (·.2)) (vs.map (·.2)) → Rep K φ ψ H (.dk kvs) (.ref a)
  | dt {a : Addr} {vs : List (List Key × V)} {kvs : List (List Key × D)} : a ∉ φ → a ∉ ψ → H a = some (.dT vs) → kvs.map (·.1) = vs.map (·.1) → Reps K φ ψ H (kvs.map (·.2)) (vs.map (·.2)) → Rep K φ ψ H (.dt kvs) (.ref a)
inductive Reps (K : FRG) (φ ψ : List Addr) (H : Hp) : List D → List V → Prop
  | nil : Reps K φ ψ H [] []
  | cons {d : D} {v : V} {ds : List D} {vs : List V} : Rep K φ ψ H d v → Reps K φ ψ H ds vs → Reps K φ ψ H (d :: ds) (v :: vs)
end
def ObjR (K : FRG) (φ ψ : List Addr) (H : Hp) (a : Addr) : MO → Prop
  | .lst ds => ∃ vs, H a = some (.lst vs) ∧ Reps K φ ψ H ds vs
  | .dk kvs => ∃ vs : List (Key × V), H a = some (.dK vs) ∧ kvs.map (·.1) = vs.map (·.1) ∧ Reps K φ ψ H (kvs.map (·.2)) (vs.map (·.2))
  | .dt kvs => ∃ vs : List (List Key × V), H a = some (.dT vs) ∧ kvs.map (·.1) = vs.map (·.1) ∧ Reps K φ ψ H (kvs.map (·.2)) (vs.map (·.2))
  | .rl b k => H a = some (.lst ((List.range k).map fun i => .ref (φ.getD (b + i) 0))) ∧ φ[b + k]? = some a
def lamDefs : List Str := ["by_nearness", "to_join"]
def lamQ (x : Str) : Str := x ++ ".<locals>." ++ "<lambda>"
def TabL (K : FRG) (H : Hp) (P : Addr) : Prop := ∀ x ∈ lamDefs, ∀ c, PySem.W.tabIn K x = some (c, P) → LamX.TabS H P (lamQ x)
def NotL (K : FRG) (P : Addr) : Prop := ∀ x ∈ lamDefs, ∀ c, PySem.W.tabIn K x ≠ some (c, P)
def InTb (K : FRG) (tb : List Addr) (P : Addr) : Prop := P ∈ tb ∧ NotL K P
theorem TabL.of {K : FRG} {H H' : Hp} {P : Addr} (h : TabL K H P) (e : H' P = H P) (k : ∀ c φ, H c = some (.ext φ) → H' c = H c) : TabL K H' P := fun x hx c hc => by
  obtain ⟨ps, h1, h2, h3⟩ := h x hx c hc
  refine ⟨ps, e.trans h1, h2, fun pos cv hcv => ?_⟩
  obtain ⟨d, e1, e2⟩ := h3 pos cv hcv
  exact ⟨d, e1, (k d _ e2).trans e2⟩
theorem TabL.upd {K : FRG} {H : Hp} {P a : Addr} {o : HO} (h : TabL K H P) (n : P ≠ a) (x : ∀ φ, H a ≠ some (.ext φ)) : TabL K (upd H a o) P :=
  h.of (upd_ne n) fun c φ e => upd_ne fun z => x φ (by rw [← z]; exact e)
structure Rel (K : FRG) (tb : List Addr) (φ ψ : List Addr) (H : Hp) (m : Mem) : Prop where
  len : φ.length = m.length
  nd : φ.Nodup
  obj : ∀ (n : Nat) (mo : MO) (a : Addr), m[n]? = some mo → φ[n]? = some a → ObjR K φ ψ H a mo
  tab : ∀ p ∈ tb, GxR.TabG H p
  sd : ∀ p ∈ ψ, H p ≠ none
  ap : ∀ p ∈ ψ, p ∉ φ
  lam : ∀ p ∈ tb, TabL K H p
def Kp (ψ : List Addr) (H' : Hp) (b : Addr) (o : HO) : Prop := H' b = some o ∨ (b ∉ ψ ∧ ∃ kvs od, o = .dK kvs ∧ H' b = some (.frz od o))
theorem Kp.ex {ψ : List Addr} {H' : Hp} {b : Addr} {o : HO} (h : Kp ψ H' b o) (n : ∀ kvs, o ≠ .dK kvs) : H' b = some o := by
  rcases h with h | ⟨_, kvs, _, e, _⟩
  · exact h
  · exact absurd e (n kvs)
theorem Kp.own {ψ : List Addr} {H' : Hp} {b : Addr} {o : HO} (h : Kp ψ H' b o) (n : b ∈ ψ) : H' b = some o := by
  rcases h with h | ⟨z, _⟩
  · exact h
  · exact absurd n z
structure Post (φ ψ : List Addr) (H : Hp) (φ' ψ' : List Addr) (H' : Hp) : Prop where
  pre : φ <+: φ'
  new : ∀ a ∈ φ', a ∈ φ ∨ H a = none
  side : ∀ a ∈ ψ', a ∈ ψ ∨ H a = none
  frm : ∀ b o, b ∉ φ → H b = some o → (∀ ps, o ≠ .tbl ps) → Kp ψ H' b o
  kp : ∀ b, H' b = none → H b = none
  sub : ∀ a ∈ ψ, a ∈ ψ'
section
variable {K : FRG} {tb φ φ1 φ2 φ' ψ ψ1 ψ2 ψ' : List Addr} {H H1 H2 H' : Hp} {m : Mem}
theorem Post.refl : Post φ ψ H φ ψ H := ⟨List.prefix_refl _, fun _ h => .inl h, fun _ h => .inl h, fun _ _ _ h _ => .inl h, fun _ h => h, fun _ h => h⟩
theorem Post.trans (p : Post φ ψ H φ1 ψ1 H1) (q : Post φ1 ψ1 H1 φ2 ψ2 H2) : Post φ ψ H φ2 ψ2 H2 := by
  refine ⟨p.pre.trans q.pre, fun a h => ?_, fun a h => ?_, fun b o hb e ht => ?_, fun b h => p.kp b (q.kp b h), fun a h => q.sub a (p.sub a h)⟩
  · rcases q.new a h with z | z
    · exact p.new a z
    · exact .inr (p.kp a z)
  · rcases q.side a h with z | z
    · exact p.side a z
    · exact .inr (p.kp a z)
  · have nb : b ∉ φ1 := fun z => by
      rcases p.new b z with y | y
      · exact hb y
      · rw [y] at e; cases e
    rcases p.frm b o hb e ht with h1 | ⟨h0, kvs, od, rfl, h1⟩
    · rcases q.frm b o nb h1 ht with h2 | ⟨h3, h2⟩
      · exact .inl h2
      · exact .inr ⟨fun z => h3 (p.sub b z), h2⟩
    · exact .inr ⟨h0, kvs, od, rfl, (q.frm b _ nb h1 fun _ z => nomatch z).ex fun _ z => nomatch z⟩
theorem Rel.mut {a : Addr} (R : Rel K tb φ ψ H m) (h : a ∈ φ) : (∃ vs, H a = some (.lst vs)) ∨ (∃ vs, H a = some (.dK vs)) ∨ ∃ vs, H a = some (.dT vs) := by
  obtain ⟨n, hn, e⟩ := List.getElem_of_mem h
  have e' : φ[n]? = some a := by rw [List.getElem?_eq_getElem hn, e]
  have hm : n < m.length := by rw [← R.len]; exact hn
  have q := R.obj n m[n] a (List.getElem?_eq_getElem hm) e'
  cases z : m[n] with
  | lst ds => rw [z] at q; obtain ⟨vs, q, _⟩ := q; exact .inl ⟨vs, q⟩
  | dk kvs => rw [z] at q; obtain ⟨vs, q, _⟩ := q; exact .inr (.inl ⟨vs, q⟩)
  | dt kvs => rw [z] at q; obtain ⟨vs, q, _⟩ := q; exact .inr (.inr ⟨vs, q⟩)
  | rl b k => rw [z] at q; exact .inl ⟨_, q.1⟩
theorem Rel.trk {a : Addr} (R : Rel K tb φ ψ H m) (h : a ∈ φ) : H a ≠ none := by
  rcases R.mut h with ⟨vs, e⟩ | ⟨vs, e⟩ | ⟨vs, e⟩ <;> (rw [e]; exact fun z => nomatch z)
theorem Rel.fresh {a : Addr} (R : Rel K tb φ ψ H m) (h : H a = none) : a ∉ φ := fun z => R.trk z h
theorem Rel.freshS {a : Addr} (R : Rel K tb φ ψ H m) (h : H a = none) : a ∉ ψ := fun z => R.sd a z h
theorem Rel.ntup {a : Addr} {xs : List V} (R : Rel K tb φ ψ H m) (h : H a = some (.tup xs)) : a ∉ φ := fun z => by
  rcases R.mut z with ⟨vs, e⟩ | ⟨vs, e⟩ | ⟨vs, e⟩ <;> (rw [h] at e; cases e)
theorem Rel.nfrz {a : Addr} {o : Obj} {u : HO} (R : Rel K tb φ ψ H m) (h : H a = some (.frz o u)) : a ∉ φ := fun z => by
  rcases R.mut z with ⟨vs, e⟩ | ⟨vs, e⟩ | ⟨vs, e⟩ <;> (rw [h] at e; cases e)
theorem Rel.ntbl {a : Addr} {ps : Array Value} (R : Rel K tb φ ψ H m) (h : H a = some (.tbl ps)) : a ∉ φ := fun z => by
  rcases R.mut z with ⟨vs, e⟩ | ⟨vs, e⟩ | ⟨vs, e⟩ <;> (rw [h] at e; cases e)
theorem Post.sqT {a : Addr} {xs : List V} (p : Post φ ψ H φ' ψ' H') (R : Rel K tb φ ψ H m) (h : SqT K H a xs) : SqT K H' a xs := by
  rcases h with (h | ⟨o, h⟩) | h
  · exact .inl (.inl ((p.frm _ _ (R.ntup h) h fun _ z => nomatch z).ex fun _ z => nomatch z))
  · exact .inl (.inr ⟨o, (p.frm _ _ (R.nfrz h) h fun _ z => nomatch z).ex fun _ z => nomatch z⟩)
  · exact .inr h
theorem Post.sqN {a : Addr} {xs : List V} (p : Post φ ψ H φ' ψ' H') (R : Rel K tb φ ψ H m) (h : SqN K H a xs) : SqN K H' a xs := ⟨p.sqT R h.1, fun z => (p.frm _ _ (R.ntup (h.2 z)) (h.2 z) fun _ z => nomatch z).ex fun _ z => nomatch z⟩
theorem Post.off {a : Addr} {o : HO} (p : Post φ ψ H φ' ψ' H') (h1 : a ∉ φ) (h2 : a ∉ ψ) (h : H a = some o) (ht : ∀ ps, o ≠ .tbl ps) (hk : ∀ kvs, o ≠ .dK kvs) : a ∉ φ' ∧ a ∉ ψ' ∧ H' a = some o := by
  refine ⟨fun z => ?_, fun z => ?_, (p.frm a o h1 h ht).ex hk⟩
  · rcases p.new a z with y | y
    · exact h1 y
    · rw [h] at y; cases y
  · rcases p.side a z with y | y
    · exact h2 y
    · rw [h] at y; cases y
theorem Post.offD {a : Addr} {kvs : List (Key × V)} (p : Post φ ψ H φ' ψ' H') (R : Rel K tb φ ψ H m) (h1 : a ∉ φ) (h2 : a ∉ ψ) (h : Rd H a (.dK kvs)) : a ∉ φ' ∧ a ∉ ψ' ∧ Rd H' a (.dK kvs) := by
  have n : H a ≠ none := fun z => by rcases h with h | ⟨o, h⟩ <;> (rw [z] at h; cases h)
  refine ⟨fun z => ?_, fun z => ?_, ?_⟩
  · rcases p.new a z with y | y
    · exact h1 y
    · exact n y
  · rcases p.side a z with y | y
    · exact h2 y
    · exact n y
  · rcases h with h | ⟨o, h⟩
    · rcases p.frm a _ h1 h fun _ z => nomatch z with q | ⟨_, _, od, _, q⟩
      · exact .inl q
      · exact .inr ⟨od, q⟩
    · exact .inr ⟨o, (p.frm a _ h1 h fun _ z => nomatch z).ex fun _ z => nomatch z⟩
theorem Post.fz {a : Addr} {xs : List V} (p : Post φ ψ H φ' ψ' H') (R : Rel K tb φ ψ H m) (h : Fz K H a xs) : Fz K H' a xs := by
  rcases h with ⟨o, h⟩ | h
  · exact .inl ⟨o, (p.frm _ _ (R.nfrz h) h fun _ z => nomatch z).ex fun _ z => nomatch z⟩
  · exact .inr h
theorem Post.tz {a : Addr} {xs : List V} (p : Post φ ψ H φ' ψ' H') (R : Rel K tb φ ψ H m) (h : Tz H a xs) : Tz H' a xs := by
  obtain ⟨o, h, d⟩ := h
  exact ⟨o, (p.frm _ _ (R.nfrz h) h fun _ z => nomatch z).ex (fun _ z => nomatch z), d⟩
theorem pre_get {n : Nat} {a : Addr} (p : φ <+: φ') (h : φ[n]? = some a) : φ'[n]? = some a := by
  obtain ⟨t, rfl⟩ := p
  obtain ⟨hn, _⟩ := List.getElem?_eq_some_iff.mp h
  rw [List.getElem?_append_left hn]; exact h
mutual
theorem Rep.map (ht : ∀ a xs, SqN K H a xs → SqN K H' a xs) (hz : ∀ a xs, Tz H a xs → Tz H' a xs) (hf : ∀ a xs, Fz K H a xs → Fz K H' a xs) (hd : ∀ a o, a ∉ φ → a ∉ ψ → H a = some o → (∀ ps, o ≠ .tbl ps) → (∀ kvs, o ≠ .dK kvs) → a ∉ φ' ∧ a ∉ ψ' ∧ H' a = some o) (hD : ∀ a kvs, a ∉ φ → a ∉ ψ → Rd H a (.dK kvs) → a ∉ φ' ∧ a ∉ ψ' ∧ Rd H' a (.dK kvs)) : ∀ {d : D} {v : V}, Rep K φ ψ H d v → Rep K φ' ψ' H' d v
  | _, _, .non => .non
  | _, _, .bl b => .bl b
  | _, _, .int i => .int i
  | _, _, .str x => .str x
  | _, _, .tup h r => .tup (ht _ _ h) (Reps.map ht hz hf hd hD r)
  | _, _, .tx h r => .tx (hz _ _ h) (Reps.map ht hz hf hd hD r)
  | _, _, .fl h r => .fl (hf _ _ h) (Reps.map ht hz hf hd hD r)
  | _, _, .lst h1 h2 h3 r => let z := hd _ _ h1 h2 h3 (fun _ z => nomatch z) fun _ z => nomatch z; .lst z.1 z.2.1 z.2.2 (Reps.map ht hz hf hd hD r)
  | _, _, .dk h1 h2 h3 h4 r => let z := hD _ _ h1 h2 h3; .dk z.1 z.2.1 z.2.2 h4 (Reps.map ht hz hf hd hD r)
  | _, _, .dt h1 h2 h3 h4 r => let z := hd _ _ h1 h2 h3 (fun _ z => nomatch z) fun _ z => nomatch z; .dt z.1 z.2.1 z.2.2 h4 (Reps.map ht hz hf hd hD r)
theorem Reps.map (ht : ∀ a xs, SqN K H a xs → SqN K H' a xs) (hz : ∀ a xs, Tz H a xs → Tz H' a xs) (hf : ∀ a xs, Fz K H a xs → Fz K H' a xs) (hd : ∀ a o, a ∉ φ → a ∉ ψ → H a = some o → (∀ ps, o ≠ .tbl ps) → (∀ kvs, o ≠ .dK kvs) → a ∉ φ' ∧ a ∉ ψ' ∧ H' a = some o) (hD : ∀ a kvs, a ∉ φ → a ∉ ψ → Rd H a (.dK kvs) → a ∉ φ' ∧ a ∉ ψ' ∧ Rd H' a (.dK kvs)) : ∀ {ds : List D} {vs : List V}, Reps K φ ψ H ds vs → Reps K φ' ψ' H' ds vs
  | _, _, .nil => .nil
  | _, _, .cons h r => .cons (Rep.map ht hz hf hd hD h) (Reps.map ht hz hf hd hD r)
end
theorem Rep.mono (p : Post φ ψ H φ' ψ' H') (R : Rel K tb φ ψ H m) {d : D} {v : V} (h : Rep K φ ψ H d v) : Rep K φ' ψ' H' d v := h.map (fun _ _ => p.sqN R) (fun _ _ => p.tz R) (fun _ _ => p.fz R) (fun _ _ h1 h2 h3 h4 h5 => p.off h1 h2 h3 h4 h5) fun _ _ h1 h2 h3 => p.offD R h1 h2 h3
theorem Reps.mono (p : Post φ ψ H φ' ψ' H') (R : Rel K tb φ ψ H m) {ds : List D} {vs : List V} (h : Reps K φ ψ H ds vs) : Reps K φ' ψ' H' ds vs := h.map (fun _ _ => p.sqN R) (fun _ _ => p.tz R) (fun _ _ => p.fz R) (fun _ _ h1 h2 h3 h4 h5 => p.off h1 h2 h3 h4 h5) fun _ _ h1 h2 h3 => p.offD R h1 h2 h3
theorem Rep.fewer (h : ∀ a, a ∉ φ → a ∉ ψ → a ∉ φ' ∧ a ∉ ψ') {d : D} {v : V} (q : Rep K φ ψ H d v) : Rep K φ' ψ' H d v := q.map (fun _ _ z => z) (fun _ _ z => z) (fun _ _ z => z) (fun a _ h1 h2 z _ _ => ⟨(h a h1 h2).1, (h a h1 h2).2, z⟩) fun a _ h1 h2 z => ⟨(h a h1 h2).1, (h a h1 h2).2, z⟩
theorem Reps.fewer (h : ∀ a, a ∉ φ → a ∉ ψ → a ∉ φ' ∧ a ∉ ψ') {d : List D} {v : List V} (q : Reps K φ ψ H d v) : Reps K φ' ψ' H d v := q.map (fun _ _ z => z) (fun _ _ z => z) (fun _ _ z => z) (fun a _ h1 h2 z _ _ => ⟨(h a h1 h2).1, (h a h1 h2).2, z⟩) fun a _ h1 h2 z => ⟨(h a h1 h2).1, (h a h1 h2).2, z⟩
theorem getD_of {l l' : List Addr} {i : Nat} (h : l'[i]? = l[i]?) : l'.getD i 0 = l.getD i 0 := by
  rw [List.getD_eq_getElem?_getD, List.getD_eq_getElem?_getD, h]
theorem ObjR.fewer (h : ∀ a, a ∉ φ → a ∉ ψ → a ∉ φ' ∧ a ∉ ψ') {a : Addr} {mo : MO} (q : ObjR K φ ψ H a mo) (hφ : (∃ b k, mo = .rl b k) → ∀ n : Nat, φ[n]? = some a → ∀ i : Nat, i ≤ n → φ'[i]? = φ[i]? := by first | exact (fun _ _ _ _ _ => rfl)) : ObjR K φ' ψ' H a mo := by
  cases mo with
  | rl b k =>
    have hh := hφ ⟨b, k, rfl⟩ _ q.2
    refine ⟨q.1.trans ?_, (hh _ (Nat.le_refl _)).trans q.2⟩
    congr 2
    refine List.map_congr_left fun i hi => ?_
    rw [getD_of (hh (b + i) (by have := List.mem_range.mp hi; omega))]
  | lst ds => obtain ⟨vs, q1, q2⟩ := q; exact ⟨vs, q1, q2.fewer h⟩
  | dk kvs => obtain ⟨vs, q1, q2, q3⟩ := q; exact ⟨vs, q1, q2, q3.fewer h⟩
  | dt kvs => obtain ⟨vs, q1, q2, q3⟩ := q; exact ⟨vs, q1, q2, q3.fewer h⟩
theorem Reps.length : ∀ {ds : List D} {vs : List V}, Reps K φ ψ H ds vs → ds.length = vs.length
  | _, _, .nil => rfl
  | _, _, .cons _ r => by simp [Reps.length r]
theorem Reps.get : ∀ {ds : List D} {vs : List V} {i : Nat} {d : D}, Reps K φ ψ H ds vs → ds[i]? = some d → ∃ v, vs[i]? = some v ∧ Rep K φ ψ H d v
  | _, _, _, _, .nil, e => by simp at e
  | _, _, 0, _, .cons h _, e => by simp at e; subst e; exact ⟨_, rfl, h⟩
  | _, _, i + 1, d, .cons _ r, e => by
    obtain ⟨v, h1, h2⟩ := Reps.get (i := i) (d := d) r (by simpa using e)
    exact ⟨v, by simpa using h1, h2⟩
theorem Reps.app : ∀ {ds es : List D} {vs ws : List V}, Reps K φ ψ H ds vs → Reps K φ ψ H es ws → Reps K φ ψ H (ds ++ es) (vs ++ ws)
  | _, _, _, _, .nil, s => s
  | _, _, _, _, .cons h r, s => .cons h (Reps.app r s)
theorem Reps.set {d : D} {v : V} (h : Rep K φ ψ H d v) : ∀ {ds : List D} {vs : List V} (i : Nat), Reps K φ ψ H ds vs → Reps K φ ψ H (ds.set i d) (vs.set i v)
  | _, _, _, .nil => .nil
  | _, _, 0, .cons _ r => .cons h r
  | _, _, i + 1, .cons q r => .cons q (Reps.set h i r)
theorem Reps.take : ∀ {ds : List D} {vs : List V} (n : Nat), Reps K φ ψ H ds vs → Reps K φ ψ H (ds.take n) (vs.take n)
  | _, _, 0, _ => .nil
  | _, _, _ + 1, .nil => .nil
  | _, _, n + 1, .cons h r => .cons h (Reps.take n r)
theorem Reps.drop : ∀ {ds : List D} {vs : List V} (n : Nat), Reps K φ ψ H ds vs → Reps K φ ψ H (ds.drop n) (vs.drop n)
  | _, _, 0, r => r
  | _, _, _ + 1, .nil => .nil
  | _, _, n + 1, .cons _ r => Reps.drop n r
theorem Reps.snoc {ds : List D} {vs : List V} {d : D} {v : V} (r : Reps K φ ψ H ds vs) (h : Rep K φ ψ H d v) : Reps K φ ψ H (ds ++ [d]) (vs ++ [v]) := r.app (.cons h .nil)
theorem ObjR.mono {a : Addr} {mo : MO} (p : Post φ ψ H φ' ψ' H') (R : Rel K tb φ ψ H m) (q : ObjR K φ ψ H a mo) (e : H' a = H a) : ObjR K φ' ψ' H' a mo := by
  cases mo with
  | rl b k =>
    have q' : ObjR K φ' ψ' H' a (.rl b k) := by
      obtain ⟨t, rfl⟩ := p.pre
      have hl := (List.getElem?_eq_some_iff.mp q.2).1
      refine ⟨(e.trans q.1).trans ?_, by rw [List.getElem?_append_left hl]; exact q.2⟩
      congr 2
      refine List.map_congr_left fun i hi => ?_
      rw [getD_of (l := φ) (l' := φ ++ t) (List.getElem?_append_left (by have := List.mem_range.mp hi; omega))]
    exact q'
  | lst ds => obtain ⟨vs, q1, q2⟩ := q; exact ⟨vs, e.trans q1, q2.mono p R⟩
  | dk kvs => obtain ⟨vs, q1, q2, q3⟩ := q; exact ⟨vs, e.trans q1, q2, q3.mono p R⟩
  | dt kvs => obtain ⟨vs, q1, q2, q3⟩ := q; exact ⟨vs, e.trans q1, q2, q3.mono p R⟩
theorem TabG.keep {p : Addr} (h : GxR.TabG H p) (e : H' p = H p) : GxR.TabG H' p := by
  obtain ⟨ps, q, r⟩ := h; exact ⟨ps, e.trans q, r⟩
theorem Rel.tsome {p : Addr} (R : Rel K tb φ ψ H m) (h : p ∈ tb) : H p ≠ none := by
  obtain ⟨ps, q, _⟩ := R.tab p h; rw [q]; exact fun z => nomatch z
theorem Rel.tnot {p : Addr} (R : Rel K tb φ ψ H m) (h : p ∈ tb) : p ∉ φ := by
  obtain ⟨ps, q, _⟩ := R.tab p h; exact R.ntbl q
theorem Post.lay {p : Addr} {o : HO} (h : H p = none) : Post φ ψ H φ ψ (upd H p o) :=
  ⟨List.prefix_refl _, fun _ z => .inl z, fun _ z => .inl z, fun b u _ e _ => .inl (by rw [upd_ne (ne_of_none e h)]; exact e), (fun b z => by
    by_cases hb : b = p
    · rw [hb]; exact h
    · rw [upd_ne hb] at z; exact z), fun _ z => z⟩
theorem Rel.lay {p : Addr} {o : HO} (R : Rel K tb φ ψ H m) (h : H p = none) : Rel K tb φ ψ (upd H p o) m := by
  refine ⟨R.len, R.nd, fun n mo a e1 e2 => ?_, fun q hq => TabG.keep (R.tab q hq) (upd_ne fun z => R.tsome hq (z ▸ h)), fun q hq z => R.sd q hq ((Post.lay (φ := φ) (ψ := ψ) h).kp q z), R.ap, fun q hq => (R.lam q hq).upd (fun z => R.tsome hq (z ▸ h)) fun _ e => by rw [h] at e; cases e⟩
  exact (R.obj n mo a e1 e2).mono (Post.lay h) R (upd_ne fun z => R.trk (List.mem_of_getElem? e2) (z ▸ h))
theorem Post.nw {p : Addr} {o : HO} (h : H p = none) : Post φ ψ H φ (p :: ψ) (upd H p o) :=
  ⟨List.prefix_refl _, fun _ z => .inl z, fun a z => by
    rcases List.mem_cons.mp z with z | z
    · rw [z]; exact .inr h
    · exact .inl z, (Post.lay (φ := φ) (ψ := ψ) h).frm, (Post.lay (φ := φ) (ψ := ψ) h).kp, fun _ z => List.mem_cons_of_mem _ z⟩
theorem Rel.nw {p : Addr} {o : HO} (R : Rel K tb φ ψ H m) (h : H p = none) : Rel K tb φ (p :: ψ) (upd H p o) m := by
  refine ⟨R.len, R.nd, fun n mo a e1 e2 => ?_, (R.lay (o := o) h).tab, fun q hq => ?_, fun q hq => ?_, (R.lay (o := o) h).lam⟩
  · exact (R.obj n mo a e1 e2).mono (Post.nw h) R (upd_ne fun z => R.trk (List.mem_of_getElem? e2) (z ▸ h))
  · rcases List.mem_cons.mp hq with z | z
    · rw [z, upd_same]; exact fun z => nomatch z
    · exact (R.lay (o := o) h).sd q z
  · rcases List.mem_cons.mp hq with z | z
    · rw [z]; exact R.fresh h
    · exact R.ap q z
theorem Rel.weak {p : Addr} (R : Rel K tb φ (p :: ψ) H m) : Rel K tb φ ψ H m :=
  ⟨R.len, R.nd, fun n mo a e1 e2 => (R.obj n mo a e1 e2).fewer fun b h1 h2 => ⟨h1, fun z => h2 (List.mem_cons_of_mem _ z)⟩, R.tab, fun q hq => R.sd q (List.mem_cons_of_mem _ hq), fun q hq => R.ap q (List.mem_cons_of_mem _ hq), R.lam⟩
theorem Post.weak {p : Addr} (P : Post φ ψ H φ' (p :: ψ') H') (hp : p ∉ ψ) : Post φ ψ H φ' ψ' H' := ⟨P.pre, P.new, fun a z => P.side a (List.mem_cons_of_mem _ z), P.frm, P.kp, fun a z => by
  rcases List.mem_cons.mp (P.sub a z) with y | y
  · exact absurd (y ▸ z) hp
  · exact y⟩
theorem Rep.weak {p : Addr} {d : D} {v : V} (h : Rep K φ (p :: ψ) H d v) : Rep K φ ψ H d v := h.fewer fun b h1 h2 => ⟨h1, fun z => h2 (List.mem_cons_of_mem _ z)⟩
theorem Reps.weak {p : Addr} {d : List D} {v : List V} (h : Reps K φ (p :: ψ) H d v) : Reps K φ ψ H d v := h.fewer fun b h1 h2 => ⟨h1, fun z => h2 (List.mem_cons_of_mem _ z)⟩
theorem nodup_snoc {p : Addr} (nd : φ.Nodup) (h : p ∉ φ) : (φ ++ [p]).Nodup := by
  rw [List.nodup_append]
  exact ⟨nd, by simp, fun a ha b hb => by rw [List.mem_singleton.mp hb]; exact fun z => h (z ▸ ha)⟩
theorem own_off {p : Addr} : ∀ a, a ∉ φ → a ∉ p :: ψ → a ∉ φ ++ [p] ∧ a ∉ ψ := fun a h1 h2 => ⟨fun z => by
    rcases List.mem_append.mp z with z | z
    · exact h1 z
    · rw [List.mem_singleton.mp z] at h2; exact h2 List.mem_cons_self, fun z => h2 (List.mem_cons_of_mem _ z)⟩
theorem Rel.own {p : Addr} {mo : MO} (R : Rel K tb φ (p :: ψ) H m) (hp : p ∉ ψ) (q : ObjR K φ (p :: ψ) H p mo) : Rel K tb (φ ++ [p]) ψ H (m ++ [mo]) := by
  have np := R.ap p List.mem_cons_self
  refine ⟨by simp [R.len], nodup_snoc R.nd np, fun n mo' a e1 e2 => ?_, R.tab, fun q hq => R.sd q (List.mem_cons_of_mem _ hq), fun q hq z => ?_, R.lam⟩
  · rcases Nat.lt_trichotomy n m.length with hn | hn | hn
    · rw [List.getElem?_append_left hn] at e1
      rw [List.getElem?_append_left (by rw [R.len]; exact hn)] at e2
      exact (R.obj n mo' a e1 e2).fewer own_off fun _ k hk i hi => List.getElem?_append_left (by have := (List.getElem?_eq_some_iff.mp hk).1; omega)
    · subst hn
      rw [List.getElem?_append_right (Nat.le_refl _), Nat.sub_self] at e1
      rw [← R.len, List.getElem?_append_right (Nat.le_refl _), Nat.sub_self] at e2
      have e1' : mo = mo' := Option.some.inj e1
      have e2' : p = a := Option.some.inj e2
      rw [← e1', ← e2']; exact q.fewer own_off fun _ k hk => absurd (List.mem_of_getElem? hk) np
    · rw [List.getElem?_eq_none (by simp; omega)] at e1; cases e1
  · rcases List.mem_append.mp z with z | z
    · exact R.ap q (List.mem_cons_of_mem _ hq) z
    · rw [List.mem_singleton.mp z] at hq; exact hp hq
theorem Post.own {p : Addr} (P : Post φ ψ H φ' (p :: ψ) H') (hp : p ∉ ψ) : Post φ ψ H (φ' ++ [p]) ψ H' :=
  ⟨P.pre.trans (List.prefix_append _ _), fun a z => by
    rcases List.mem_append.mp z with z | z
    · exact P.new a z
    · rw [List.mem_singleton.mp z]
      rcases P.side p List.mem_cons_self with y | y
      · exact absurd y hp
      · exact .inr y, fun a z => .inl z, P.frm, P.kp, fun _ z => z⟩
theorem Post.wr {a : Addr} {o : HO} (h : a ∈ φ) (hs : H a ≠ none) : Post φ ψ H φ ψ (upd H a o) :=
  ⟨List.prefix_refl _, fun _ z => .inl z, fun _ z => .inl z, fun b u hb e _ => .inl (by rw [upd_ne (fun z => hb (by rw [z]; exact h))]; exact e), (fun b z => by
    by_cases hb : b = a
    · rw [hb, upd_same] at z; cases z
    · rw [upd_ne hb] at z; exact z), fun _ z => z⟩
theorem Rel.wr {a : Addr} {n : Nat} {o : HO} {mo : MO} (R : Rel K tb φ ψ H m) (h : φ[n]? = some a) (q : ObjR K φ ψ (upd H a o) a mo) : Rel K tb φ ψ (upd H a o) (m.set n mo) := by
  have ha : a ∈ φ := List.mem_of_getElem? h
  have P : Post φ ψ H φ ψ (upd H a o) := Post.wr (o := o) ha (R.trk ha)
  obtain ⟨hn, en⟩ := List.getElem?_eq_some_iff.mp h
  refine ⟨by simp [R.len], R.nd, fun k mo' b e1 e2 => ?_, fun q hq => TabG.keep (R.tab q hq) (upd_ne fun z => R.tnot hq (z ▸ ha)), fun q hq z => R.sd q hq (P.kp q z), R.ap, fun q hq => (R.lam q hq).upd (fun z => R.tnot hq (z ▸ ha)) fun _ e => by rcases R.mut ha with ⟨_, y⟩ | ⟨_, y⟩ | ⟨_, y⟩ <;> (rw [y] at e; cases e)⟩
  by_cases hk : k = n
  · subst hk
    rw [h] at e2; cases e2
    rw [List.getElem?_set_self (by rw [← R.len]; exact hn)] at e1
    cases e1; exact q
  · rw [List.getElem?_set_ne (Ne.symm hk)] at e1
    refine (R.obj k mo' b e1 e2).mono P R (upd_ne fun z => hk ?_)
    obtain ⟨hk2, ek⟩ := List.getElem?_eq_some_iff.mp e2
    exact (List.getElem_inj R.nd).mp (ek.trans (z.trans en.symm))
theorem Rel.wrL {a : Addr} {n : Nat} {ds : List D} {vs : List V} (R : Rel K tb φ ψ H m) (h : φ[n]? = some a) (r : Reps K φ ψ H ds vs) : Rel K tb φ ψ (upd H a (.lst vs)) (m.set n (.lst ds)) :=
  R.wr h ⟨vs, upd_same, r.mono (Post.wr (List.mem_of_getElem? h) (R.trk (List.mem_of_getElem? h))) R⟩
theorem Post.sdw {p : Addr} {o : HO} (h : p ∈ ψ) (hp : p ∉ φ) (hs : H p ≠ none) : ∀ {φ0 ψ0 : List Addr} {H0 : Hp}, Post φ0 ψ0 H0 φ ψ H → H0 p = none → Post φ0 ψ0 H0 φ ψ (upd H p o) := fun {φ0 ψ0 H0} P h0 =>
  ⟨P.pre, P.new, P.side, fun b u hb e ht => by unfold Kp; rw [upd_ne (ne_of_none e h0)]; exact P.frm b u hb e ht, (fun b z => by
    by_cases hb : b = p
    · rw [hb, upd_same] at z; cases z
    · rw [upd_ne hb] at z; exact P.kp b z), P.sub⟩
theorem sd_sqT {p a : Addr} {vs xs : List V} {o : HO} (h : H p = some (.lst vs)) (q : SqT K H a xs) : SqT K (upd H p o) a xs := by
  rcases q with (q | ⟨o, q⟩) | q
  · exact .inl (.inl (by rw [upd_ne fun z => by rw [z, h] at q; cases q]; exact q))
  · exact .inl (.inr ⟨o, by rw [upd_ne fun z => by rw [z, h] at q; cases q]; exact q⟩)
  · exact .inr q
theorem sd_sqN {p a : Addr} {vs xs : List V} {o : HO} (h : H p = some (.lst vs)) (q : SqN K H a xs) : SqN K (upd H p o) a xs := ⟨sd_sqT h q.1, fun z => by rw [upd_ne fun y => by have := q.2 z; rw [y, h] at this; cases this]; exact q.2 z⟩
theorem sd_tz {p a : Addr} {vs xs : List V} {o : HO} (h : H p = some (.lst vs)) (q : Tz H a xs) : Tz (upd H p o) a xs := by
  obtain ⟨u, q, d⟩ := q
  exact ⟨u, by rw [upd_ne fun z => by rw [z, h] at q; cases q]; exact q, d⟩
theorem sd_fz {p a : Addr} {vs xs : List V} {o : HO} (h : H p = some (.lst vs)) (q : Fz K H a xs) : Fz K (upd H p o) a xs := by
  rcases q with ⟨u, q⟩ | q
  · exact .inl ⟨u, by rw [upd_ne fun z => by rw [z, h] at q; cases q]; exact q⟩
  · exact .inr q
theorem Reps.sdw {p : Addr} {vs : List V} {o : HO} (hp : p ∈ ψ) (h : H p = some (.lst vs)) {ds : List D} {us : List V} (r : Reps K φ ψ H ds us) : Reps K φ ψ (upd H p o) ds us :=
  r.map (fun _ _ => sd_sqN h) (fun _ _ => sd_tz h) (fun _ _ => sd_fz h) (fun a xs h1 h2 q _ _ => ⟨h1, h2, by rw [upd_ne (fun z => h2 (by rw [z]; exact hp))]; exact q⟩) fun a xs h1 h2 q => ⟨h1, h2, by unfold Rd at q ⊢; rw [upd_ne (fun z => h2 (by rw [z]; exact hp))]; exact q⟩
theorem Rep.sdw {p : Addr} {vs : List V} {o : HO} (hp : p ∈ ψ) (h : H p = some (.lst vs)) {d : D} {u : V} (r : Rep K φ ψ H d u) : Rep K φ ψ (upd H p o) d u :=
  r.map (fun _ _ => sd_sqN h) (fun _ _ => sd_tz h) (fun _ _ => sd_fz h) (fun a xs h1 h2 q _ _ => ⟨h1, h2, by rw [upd_ne (fun z => h2 (by rw [z]; exact hp))]; exact q⟩) fun a xs h1 h2 q => ⟨h1, h2, by unfold Rd at q ⊢; rw [upd_ne (fun z => h2 (by rw [z]; exact hp))]; exact q⟩
theorem Rel.sdw {p : Addr} {vs : List V} {o : HO} (R : Rel K tb φ ψ H m) (hp : p ∈ ψ) (h : H p = some (.lst vs)) : Rel K tb φ ψ (upd H p o) m := by
  refine ⟨R.len, R.nd, fun n mo a e1 e2 => ?_, fun q hq => TabG.keep (R.tab q hq) (upd_ne fun z => by
    obtain ⟨ps, e, _⟩ := R.tab q hq
    rw [z, h] at e; cases e), fun q hq z => ?_, R.ap, fun q hq => (R.lam q hq).upd (fun z => by
    obtain ⟨ps, e, _⟩ := R.tab q hq
    rw [z, h] at e; cases e) fun _ e => by rw [h] at e; cases e⟩
  · have ne : a ≠ p := fun z => R.ap p hp (z ▸ List.mem_of_getElem? e2)
    have q := R.obj n mo a e1 e2
    cases mo with
    | lst ds => obtain ⟨vs', q1, q2⟩ := q; exact ⟨vs', by rw [upd_ne ne]; exact q1, q2.sdw hp h⟩
    | dk kvs => obtain ⟨vs', q1, q2, q3⟩ := q; exact ⟨vs', by rw [upd_ne ne]; exact q1, q2, q3.sdw hp h⟩
    | dt kvs => obtain ⟨vs', q1, q2, q3⟩ := q; exact ⟨vs', by rw [upd_ne ne]; exact q1, q2, q3.sdw hp h⟩
    | rl b k => exact ⟨by rw [upd_ne ne]; exact q.1, q.2⟩
  · by_cases hb : q = p
    · rw [hb, upd_same] at z; cases z
    · rw [upd_ne hb] at z; exact R.sd q hq z
end
def stl : W → W
  | .f d => .v d
  | w => w
def RepS (K : FRG) (φ ψ : List Addr) (H : Hp) : W → V → Prop
  | .v d, v => Rep K φ ψ H d v
  | .f d, v => Rep K φ ψ H d v
  | .r n, v => ∃ a, φ[n]? = some a ∧ v = .ref a
def moD : MO → D
  | .lst ds => .lst ds
  | .dk kvs => .dk kvs
  | .dt kvs => .dt kvs
  | .rl b k => .rl b k
def dMO : D → Option MO
  | .lst ds => some (.lst ds)
  | .dk kvs => some (.dk kvs)
  | .dt kvs => some (.dt kvs)
  | _ => none
def RepW (K : FRG) (φ ψ ψ' : List Addr) (H : Hp) : W → V → Prop
  | .v d, v => ψ' = ψ ∧ Rep K φ ψ H d v
  | .r n, v => ψ' = ψ ∧ ∃ a, φ[n]? = some a ∧ v = .ref a
  | .f d, v => ∃ p mo, v = .ref p ∧ ψ' = p :: ψ ∧ p ∉ ψ ∧ d = moD mo ∧ ObjR K φ (p :: ψ) H p mo
section
variable {K : FRG} {tb φ φ1 φ2 φ' ψ ψ1 ψ2 ψ' : List Addr} {H H1 H2 H' : Hp} {m : Mem} {w : W} {v : V}
theorem ObjR.rep {p : Addr} {mo : MO} (h1 : p ∉ φ) (h2 : p ∉ ψ) (q : ObjR K φ ψ H p mo) : Rep K φ ψ H (moD mo) (.ref p) := by
  cases mo with
  | lst ds => obtain ⟨vs, q1, q2⟩ := q; exact .lst h1 h2 q1 q2
  | dk kvs => obtain ⟨vs, q1, q2, q3⟩ := q; exact .dk h1 h2 (.inl q1) q2 q3
  | dt kvs => obtain ⟨vs, q1, q2, q3⟩ := q; exact .dt h1 h2 q1 q2 q3
  | rl b k => exact absurd (List.mem_of_getElem? q.2) h1
theorem RepW.rel (h : RepW K φ ψ ψ' H w v) (R : Rel K tb φ ψ' H m) : Rel K tb φ ψ H m := by
  cases w with
  | v d => obtain ⟨rfl, _⟩ := h; exact R
  | r n => obtain ⟨rfl, _⟩ := h; exact R
  | f d => obtain ⟨p, mo, _, rfl, _⟩ := h; exact R.weak
theorem RepW.post {φ0 : List Addr} {H0 : Hp} (h : RepW K φ ψ ψ' H w v) (P : Post φ0 ψ H0 φ ψ' H) : Post φ0 ψ H0 φ ψ H := by
  cases w with
  | v d => obtain ⟨rfl, _⟩ := h; exact P
  | r n => obtain ⟨rfl, _⟩ := h; exact P
  | f d => obtain ⟨p, mo, _, rfl, np, _⟩ := h; exact P.weak np
theorem RepW.s (h : RepW K φ ψ ψ' H w v) (R : Rel K tb φ ψ' H m) : RepS K φ ψ H w v := by
  cases w with
  | v d => exact h.2
  | r n => exact h.2
  | f d =>
    obtain ⟨p, mo, rfl, rfl, np, rfl, q⟩ := h
    exact (q.fewer fun b h1 h2 => ⟨h1, fun z => h2 (List.mem_cons_of_mem _ z)⟩).rep (R.ap p List.mem_cons_self) np
theorem RepS.stl (h : RepS K φ ψ H w v) : RepS K φ ψ H (Pw.stl w) v := by cases w <;> exact h
theorem RepS.mono (p : Post φ ψ H φ' ψ' H') (R : Rel K tb φ ψ H m) (h : RepS K φ ψ H w v) : RepS K φ' ψ' H' w v := by
  cases w with
  | v d => exact Rep.mono p R h
  | f d => exact Rep.mono p R h
  | r n => obtain ⟨a, e, q⟩ := h; exact ⟨a, pre_get p.pre e, q⟩
theorem RepS.fewer (h : ∀ a, a ∉ φ → a ∉ ψ → a ∉ φ ∧ a ∉ ψ') (q : RepS K φ ψ H w v) : RepS K φ ψ' H w v := by
  cases w with
  | v d => exact Rep.fewer h q
  | f d => exact Rep.fewer h q
  | r n => exact q
end
inductive RepSs (K : FRG) (φ ψ : List Addr) (H : Hp) : List W → List V → Prop
  | nil : RepSs K φ ψ H [] []
  | cons {w : W} {v : V} {ws : List W} {vs : List V} : RepS K φ ψ H w v → RepSs K φ ψ H ws vs → RepSs K φ ψ H (w :: ws) (v :: vs)
theorem RepSs.mono {K : FRG} {tb φ φ' ψ ψ' : List Addr} {H H' : Hp} {m : Mem} (p : Post φ ψ H φ' ψ' H') (R : Rel K tb φ ψ H m) {ws : List W} {vs : List V} (h : RepSs K φ ψ H ws vs) : RepSs K φ' ψ' H' ws vs := by
  induction h with
  | nil => exact .nil
  | cons h r ih => exact .cons (h.mono p R) ih
theorem RepSs.length {K : FRG} {φ ψ : List Addr} {H : Hp} {ws : List W} {vs : List V} (h : RepSs K φ ψ H ws vs) : ws.length = vs.length := by
  induction h with
  | nil => rfl
  | cons h r ih => simp [ih]
theorem RepSs.get {K : FRG} {φ ψ : List Addr} {H : Hp} {ws : List W} {vs : List V} (h : RepSs K φ ψ H ws vs) : ∀ {i : Nat} {w : W}, ws[i]? = some w → ∃ v, vs[i]? = some v ∧ RepS K φ ψ H w v := by
  induction h with
  | nil => intro i w e; simp at e
  | cons h r ih =>
    intro i w e
    cases i with
    | zero => simp at e; subst e; exact ⟨_, rfl, h⟩
    | succ i => obtain ⟨v, h1, h2⟩ := ih (i := i) (w := w) (by simpa using e); exact ⟨v, by simpa using h1, h2⟩
def gt : W → Mem → Option D
  | .v d, _ => some d
  | .f d, _ => some d
  | .r n, m => (m[n]?).map moD
def RepC (K : FRG) (φ ψ : List Addr) (H : Hp) (d : D) (v : V) : Prop := Rep K φ ψ H d v ∨ ∃ a mo, v = .ref a ∧ d = moD mo ∧ ObjR K φ ψ H a mo
section
variable {K : FRG} {tb φ ψ : List Addr} {H : Hp} {m : Mem} {w : W} {v : V} {d : D}
theorem gt_c (R : Rel K tb φ ψ H m) (h : RepS K φ ψ H w v) (e : gt w m = some d) : RepC K φ ψ H d v := by
  cases w with
  | v d' => cases e; exact .inl h
  | f d' => cases e; exact .inl h
  | r n =>
    obtain ⟨a, e1, rfl⟩ := h
    obtain ⟨mo, e2, rfl⟩ := Option.map_eq_some_iff.mp e
    exact .inr ⟨a, mo, rfl, rfl, R.obj n mo a e2 e1⟩
theorem RepC.lst {ds : List D} (h : RepC K φ ψ H (.lst ds) v) : ∃ a vs, v = .ref a ∧ H a = some (.lst vs) ∧ Reps K φ ψ H ds vs := by
  rcases h with h | ⟨a, mo, rfl, e, q⟩
  · cases h with
    | lst h1 h2 h3 r => exact ⟨_, _, rfl, h3, r⟩
  · cases mo with
    | lst es => cases e; obtain ⟨vs, q1, q2⟩ := q; exact ⟨_, _, rfl, q1, q2⟩
    | dk es => cases e
    | dt es => cases e
    | rl b k => cases e
theorem RepC.fl {ds : List D} (h : RepC K φ ψ H (.fl ds) v) : ∃ a vs, v = .ref a ∧ SqL K H a vs ∧ Reps K φ ψ H ds vs := by
  rcases h with h | ⟨a, mo, rfl, e, q⟩
  · cases h with
    | fl h r => exact ⟨_, _, rfl, h.sq, r⟩
  · cases mo <;> cases e
theorem RepC.tup {ds : List D} (h : RepC K φ ψ H (.tup ds) v) : ∃ a vs, v = .ref a ∧ SqT K H a vs ∧ Reps K φ ψ H ds vs := by
  rcases h with h | ⟨a, mo, rfl, e, q⟩
  · cases h with
    | tup h r => exact ⟨_, _, rfl, h.1, r⟩
  · cases mo <;> cases e
theorem RepC.tupN {ds : List D} (h : RepC K φ ψ H (.tup ds) v) : ∃ a vs, v = .ref a ∧ SqN K H a vs ∧ Reps K φ ψ H ds vs := by
  rcases h with h | ⟨a, mo, rfl, e, q⟩
  · cases h with
    | tup h r => exact ⟨_, _, rfl, h, r⟩
  · cases mo <;> cases e
theorem RepC.dk {kvs : List (Key × D)} (h : RepC K φ ψ H (.dk kvs) v) : ∃ (a : Addr) (vs : List (Key × V)), v = .ref a ∧ Rd H a (.dK vs) ∧ kvs.map (·.1) = vs.map (·.1) ∧ Reps K φ ψ H (kvs.map (·.2)) (vs.map (·.2)) := by
  rcases h with h | ⟨a, mo, rfl, e, q⟩
  · cases h with
    | dk h1 h2 h3 h4 r => exact ⟨_, _, rfl, h3, h4, r⟩
  · cases mo with
    | lst es => cases e
    | dk es => cases e; obtain ⟨vs, q1, q2, q3⟩ := q; exact ⟨_, _, rfl, .inl q1, q2, q3⟩
    | dt es => cases e
    | rl b k => cases e
theorem RepC.dt {kvs : List (List Key × D)} (h : RepC K φ ψ H (.dt kvs) v) : ∃ (a : Addr) (vs : List (List Key × V)), v = .ref a ∧ H a = some (.dT vs) ∧ kvs.map (·.1) = vs.map (·.1) ∧ Reps K φ ψ H (kvs.map (·.2)) (vs.map (·.2)) := by
  rcases h with h | ⟨a, mo, rfl, e, q⟩
  · cases h with
    | dt h1 h2 h3 h4 r => exact ⟨_, _, rfl, h3, h4, r⟩
  · cases mo with
    | lst es => cases e
    | dk es => cases e
    | dt es => cases e; obtain ⟨vs, q1, q2, q3⟩ := q; exact ⟨_, _, rfl, q1, q2, q3⟩
    | rl b k => cases e
theorem RepC.int {i : Int} (h : RepC K φ ψ H (.int i) v) : v = .int i := by
  rcases h with h | ⟨a, mo, rfl, e, q⟩
  · cases h; rfl
  · cases mo <;> cases e
theorem RepC.bl {i : Bool} (h : RepC K φ ψ H (.bl i) v) : v = .bl i := by
  rcases h with h | ⟨a, mo, rfl, e, q⟩
  · cases h; rfl
  · cases mo <;> cases e
theorem RepC.str {i : Str} (h : RepC K φ ψ H (.str i) v) : v = .str i := by
  rcases h with h | ⟨a, mo, rfl, e, q⟩
  · cases h; rfl
  · cases mo <;> cases e
theorem RepC.non (h : RepC K φ ψ H .non v) : v = .non := by
  rcases h with h | ⟨a, mo, rfl, e, q⟩
  · cases h; rfl
  · cases mo <;> cases e
end
abbrev Ex := Env → Mem → Option (W × Mem)
abbrev Tx := Env → Mem → Option (Bool × Mem)
abbrev Ax := Env → Mem → Option (List W × Mem)
inductive Out where
  | nx | ret (w : W) | bk | ct
abbrev Sx := Env → Mem → Option (Out × Env × Mem)
structure RE (K : FRG) (φ ψ : List Addr) (H : Hp) (ρ : Env) (σ : L2.St) : Prop where
  val : ∀ (i : Nat) (w : W), ρ[i]? = some (some w) → ∃ v, σ[i]? = some (some v) ∧ RepS K φ ψ H w v
  len : ρ.length = σ.length
theorem RE.mono {K : FRG} {tb φ φ' ψ ψ' : List Addr} {H H' : Hp} {m : Mem} {ρ : Env} {σ : L2.St} (p : Post φ ψ H φ' ψ' H') (R : Rel K tb φ ψ H m) (e : RE K φ ψ H ρ σ) : RE K φ' ψ' H' ρ σ :=
  ⟨fun i d h => let ⟨v, h1, h2⟩ := e.val i d h; ⟨v, h1, h2.mono p R⟩, e.len⟩
theorem RE.set {K : FRG} {φ ψ : List Addr} {H : Hp} {ρ : Env} {σ : L2.St} {d : W} {v : V} (e : RE K φ ψ H ρ σ) (i : Nat) (h : RepS K φ ψ H d v) : RE K φ ψ H (ρ.set i (some d)) (σ.set i (some v)) := by
  refine ⟨fun j x hj => ?_, by simp [e.len]⟩
  by_cases hij : i = j
  · subst hij
    have hl : i < (ρ.set i (some d)).length := (List.getElem?_eq_some_iff.mp hj).1
    rw [List.length_set] at hl
    rw [List.getElem?_set_self hl] at hj
    cases hj
    exact ⟨v, by rw [List.getElem?_set_self (by rw [← e.len]; exact hl)], h⟩
  · rw [List.getElem?_set_ne hij] at hj
    rw [List.getElem?_set_ne hij]
    exact e.val j x hj
theorem RE.wipe1 {K : FRG} {φ ψ : List Addr} {H : Hp} {ρ : Env} {σ : L2.St} (e : RE K φ ψ H ρ σ) (i : Nat) : RE K φ ψ H (ρ.set i none) (σ.set i none) := by
  refine ⟨fun j x hj => ?_, by simp [e.len]⟩
  by_cases hij : i = j
  · subst hij
    have hl : i < (ρ.set i none).length := (List.getElem?_eq_some_iff.mp hj).1
    rw [List.length_set] at hl
    rw [List.getElem?_set_self hl] at hj
    cases hj
  · rw [List.getElem?_set_ne hij] at hj
    rw [List.getElem?_set_ne hij]
    exact e.val j x hj
theorem RE.fog1 {K : FRG} {φ ψ : List Addr} {H : Hp} {ρ : Env} {σ : L2.St} (e : RE K φ ψ H ρ σ) (i : Nat) : RE K φ ψ H (ρ.set i none) σ := by
  refine ⟨fun j x hj => ?_, by simp [e.len]⟩
  by_cases hij : i = j
  · subst hij
    have hl : i < (ρ.set i none).length := (List.getElem?_eq_some_iff.mp hj).1
    rw [List.length_set] at hl
    rw [List.getElem?_set_self hl] at hj
    cases hj
  · rw [List.getElem?_set_ne hij] at hj
    exact e.val j x hj
def wipeD (ρ : Env) : List Nat → Env
  | [] => ρ
  | v :: vs => (wipeD ρ vs).set v none
theorem RE.wipe {K : FRG} {φ ψ : List Addr} {H : Hp} {ρ : Env} {σ : L2.St} (e : RE K φ ψ H ρ σ) : ∀ vs : List Nat, RE K φ ψ H (wipeD ρ vs) (L2.wipe σ vs)
  | [] => e
  | v :: vs => (RE.wipe e vs).wipe1 v
theorem RE.fog {K : FRG} {φ ψ : List Addr} {H : Hp} {ρ : Env} {σ : L2.St} (e : RE K φ ψ H ρ σ) : ∀ vs : List Nat, RE K φ ψ H (wipeD ρ vs) σ
  | [] => e
  | v :: vs => (RE.fog e vs).fog1 v
section
variable (K : FRG) (tb : List Addr)
abbrev Go (φ ψ : List Addr) (H : Hp) (m' : Mem) (w : W) (Q : VK) : Prop := ∀ φ' ψ' H' v, Post φ ψ H φ' ψ' H' → Rel K tb φ' ψ' H' m' → RepW K φ' ψ ψ' H' w v → Q v H'
abbrev GoT (φ ψ : List Addr) (H : Hp) (m' : Mem) (b : Bool) (Q : Bool → Hp → Prop) : Prop := ∀ φ' H', Post φ ψ H φ' ψ H' → Rel K tb φ' ψ H' m' → Q b H'
abbrev GoA (φ ψ : List Addr) (H : Hp) (m' : Mem) (ds : List W) (Q : List V → Hp → Prop) : Prop := ∀ φ' H' vs, Post φ ψ H φ' ψ H' → Rel K tb φ' ψ H' m' → RepSs K φ' ψ H' ds vs → Q vs H'
def T (f : Ex) : TE := fun σ H Q => ∃ φ ψ ρ m w m', Rel K tb φ ψ H m ∧ RE K φ ψ H ρ σ ∧ f ρ m = some (w, m') ∧ Go K tb φ ψ H m' w Q
def Tt (f : Tx) : TT := fun σ H Q => ∃ φ ψ ρ m b m', Rel K tb φ ψ H m ∧ RE K φ ψ H ρ σ ∧ f ρ m = some (b, m') ∧ GoT K tb φ ψ H m' b Q
def Ta (f : Ax) : TA := fun σ H Q => ∃ φ ψ ρ m ds m', Rel K tb φ ψ H m ∧ RE K φ ψ H ρ σ ∧ f ρ m = some (ds, m') ∧ GoA K tb φ ψ H m' ds Q
def OutK (φ' ψ ψ' : List Addr) (H' : Hp) (E : Ends) (ρ' : Env) : Out → Prop
  | .nx => ψ' = ψ → ∀ σ', RE K φ' ψ H' ρ' σ' → E.nx σ' H'
  | .bk => ψ' = ψ → ∀ σ', RE K φ' ψ H' ρ' σ' → E.bk σ' H'
  | .ct => ψ' = ψ → ∀ σ', RE K φ' ψ H' ρ' σ' → E.ct σ' H'
  | .ret w => ∀ v, RepW K φ' ψ ψ' H' w v → E.rt v H'
def Ts (g : Sx) : TS := fun E σ H => ∃ φ ψ ρ m o ρ' m', Rel K tb φ ψ H m ∧ RE K φ ψ H ρ σ ∧ g ρ m = some (o, ρ', m') ∧ ∀ φ' ψ' H', Post φ ψ H φ' ψ' H' → Rel K tb φ' ψ' H' m' → OutK K φ' ψ ψ' H' E ρ' o
end
theorem pe_mono {X : Cx} {e : Expr} {t t' : TE} (h : PE X e t) (i : ∀ σ H Q, t' σ H Q → t σ H Q) : PE X e t' := ⟨fun pins s σ H Q I q => h.run pins s σ H Q I (i σ H Q q)⟩
theorem pt_mono {X : Cx} {e : Expr} {t t' : TT} (h : PT X e t) (i : ∀ σ H Q, t' σ H Q → t σ H Q) : PT X e t' := ⟨fun pins s σ H Q I q => h.run pins s σ H Q I (i σ H Q q)⟩
theorem pa_mono {X : Cx} {e : List Expr} {t t' : TA} (h : PA X e t) (i : ∀ σ H Q, t' σ H Q → t σ H Q) : PA X e t' := ⟨fun pos pins s σ H Q I q => h.run pos pins s σ H Q I (i σ H Q q)⟩
theorem ps_mono {X : Cx} {e : Stmt} {t t' : TS} (h : PS X e t) (i : ∀ D σ H, t' D σ H → t D σ H) : PS X e t' := ⟨fun pins s σ H D I q => h.run pins s σ H D I (i D σ H q)⟩
theorem pss_mono {X : Cx} {e : List Stmt} {t t' : TS} (h : PSs X e t) (i : ∀ D σ H, t' D σ H → t D σ H) : PSs X e t' := ⟨fun pins s σ H D I q => h.run pins s σ H D I (i D σ H q)⟩
end Pw
end
section
set_option Elab.async false
set_option linter.all false
set_option maxRecDepth 100000
set_option maxHeartbeats 1000000
namespace Pw
open PySem PySem.Spec PyProof.Rows L2
theorem small {n : Nat} (h : n ≤ 1000000) : n ≤ sizeLine := Nat.le_trans h (by rw [sizeLine_eq]; decide)
theorem smallT {n : Nat} (h : n < 1000000) : n < sizeLine := Nat.lt_of_lt_of_le h (by rw [sizeLine_eq]; decide)
theorem bnd {α β : Type} {o : Option α} {f : α → Option β} {b : β} (h : o.bind f = some b) : ∃ a, o = some a ∧ f a = some b := Option.bind_eq_some_iff.mp h
inductive RepCs (K : FRG) (φ ψ : List Addr) (H : Hp) : List D → List V → Prop
  | nil : RepCs K φ ψ H [] []
  | cons {d : D} {v : V} {ds : List D} {vs : List V} : RepC K φ ψ H d v → RepCs K φ ψ H ds vs → RepCs K φ ψ H (d :: ds) (v :: vs)
def gts : List W → Mem → Option (List D)
  | [], _ => some []
  | w :: ws, m => (gt w m).bind fun d => (gts ws m).bind fun ds => some (d :: ds)
def vls : List W → Option (List D)
  | [] => some []
  | .v d :: ws => (vls ws).bind fun ds => some (d :: ds)
  | .f d :: ws => (vls ws).bind fun ds => some (d :: ds)
  | .r _ :: _ => none
section
variable {K : FRG} {tb φ ψ : List Addr} {H : Hp} {m : Mem}
theorem gts_c (R : Rel K tb φ ψ H m) {ws : List W} {vs : List V} (h : RepSs K φ ψ H ws vs) : ∀ {ds : List D}, gts ws m = some ds → RepCs K φ ψ H ds vs := by
  induction h with
  | nil => intro ds e; cases e; exact .nil
  | cons h r ih =>
    intro ds e
    obtain ⟨d, e1, e⟩ := bnd e
    obtain ⟨es, e2, e⟩ := bnd e
    cases e
    exact .cons (gt_c R h e1) (ih e2)
theorem vls_c {ws : List W} {vs : List V} (h : RepSs K φ ψ H ws vs) : ∀ {ds : List D}, vls ws = some ds → Reps K φ ψ H ds vs := by
  induction h with
  | nil => intro ds e; cases e; exact .nil
  | @cons w v ws vs h r ih =>
    intro ds e
    cases w with
    | v d => obtain ⟨es, e2, e⟩ := bnd (show (vls ws).bind _ = _ from e); cases e; exact .cons h (ih e2)
    | f d => obtain ⟨es, e2, e⟩ := bnd (show (vls ws).bind _ = _ from e); cases e; exact .cons h (ih e2)
    | r n => cases e
end
section
variable (K : FRG) (tb : List Addr)
def OpS (r : R2) (g : D → D → Option W) : Prop := ∀ φ ψ H m x y dx dy w Q, Rel K tb φ ψ H m → RepC K φ ψ H dx x → RepC K φ ψ H dy y → g dx dy = some w → Go K tb φ ψ H m w Q → r x y H Q
def UnS (r : V → Hp → VK → Prop) (g : D → Option W) : Prop := ∀ φ ψ H m x dx w Q, Rel K tb φ ψ H m → RepC K φ ψ H dx x → g dx = some w → Go K tb φ ψ H m w Q → r x H Q
def CallS (r : List V → Hp → VK → Prop) (g : List D → Option W) : Prop := ∀ φ ψ H m vs ds w Q, Rel K tb φ ψ H m → RepCs K φ ψ H ds vs → g ds = some w → Go K tb φ ψ H m w Q → r vs H Q
def MtS (r : V → List V → Hp → VK → Prop) (g : W → List W → Mem → Option (W × Mem)) : Prop := ∀ φ ψ H m x vs w ws w' m' Q, Rel K tb φ ψ H m → RepS K φ ψ H w x → RepSs K φ ψ H ws vs → g w ws m = some (w', m') → Go K tb φ ψ H m' w' Q → r x vs H Q
end
section
variable {K : FRG} {tb φ ψ : List Addr} {H : Hp} {m : Mem} {Q : VK}
theorem Go.val {d : D} {v : V} (k : Go K tb φ ψ H m (.v d) Q) (R : Rel K tb φ ψ H m) (h : Rep K φ ψ H d v) : Q v H := k φ ψ H v .refl R ⟨rfl, h⟩
theorem Go.tup {ds : List D} {vs : List V} {p : Addr} (k : Go K tb φ ψ H m (.v (.tup ds)) Q) (R : Rel K tb φ ψ H m) (h : Reps K φ ψ H ds vs) (hp : H p = none) : Q (.ref p) (upd H p (.tup vs)) :=
  k φ ψ _ _ (Post.lay hp) (R.lay hp) ⟨rfl, .tup (SqN.of upd_same) (h.mono (Post.lay hp) R)⟩
theorem Go.lst {ds : List D} {vs : List V} {p : Addr} (k : Go K tb φ ψ H m (.f (.lst ds)) Q) (R : Rel K tb φ ψ H m) (h : Reps K φ ψ H ds vs) (hp : H p = none) : Q (.ref p) (upd H p (.lst vs)) :=
  k φ (p :: ψ) _ _ (Post.nw hp) (R.nw hp) ⟨p, .lst ds, rfl, rfl, R.freshS hp, rfl, vs, upd_same, h.mono (Post.nw hp) R⟩
theorem Go.dt {kvs : List (List Key × D)} {vs : List (List Key × V)} {p : Addr} (k : Go K tb φ ψ H m (.f (.dt kvs)) Q) (R : Rel K tb φ ψ H m) (hk : kvs.map (·.1) = vs.map (·.1)) (h : Reps K φ ψ H (kvs.map (·.2)) (vs.map (·.2))) (hp : H p = none) : Q (.ref p) (upd H p (.dT vs)) :=
  k φ (p :: ψ) _ _ (Post.nw hp) (R.nw hp) ⟨p, .dt kvs, rfl, rfl, R.freshS hp, rfl, vs, upd_same, hk, h.mono (Post.nw hp) R⟩
theorem Go.dk {kvs : List (Key × D)} {vs : List (Key × V)} {p : Addr} (k : Go K tb φ ψ H m (.f (.dk kvs)) Q) (R : Rel K tb φ ψ H m) (hk : kvs.map (·.1) = vs.map (·.1)) (h : Reps K φ ψ H (kvs.map (·.2)) (vs.map (·.2))) (hp : H p = none) : Q (.ref p) (upd H p (.dK vs)) :=
  k φ (p :: ψ) _ _ (Post.nw hp) (R.nw hp) ⟨p, .dk kvs, rfl, rfl, R.freshS hp, rfl, vs, upd_same, hk, h.mono (Post.nw hp) R⟩
end
def eVar (i : Nat) : Ex := fun ρ m => match ρ[i]? with
  | some (some w) => some (stl w, m)
  | _ => none
def eC (d : D) : Ex := fun _ m => some (.v d, m)
def eOp (g : D → D → Option W) (a b : Ex) : Ex := fun ρ m => (a ρ m).bind fun p => (b ρ p.2).bind fun q => (gt p.1 q.2).bind fun x => (gt q.1 q.2).bind fun y => (g x y).bind fun w => some (w, q.2)
def eUn (g : D → Option W) (a : Ex) : Ex := fun ρ m => (a ρ m).bind fun p => (gt p.1 p.2).bind fun x => (g x).bind fun w => some (w, p.2)
def aNil : Ax := fun _ m => some ([], m)
def aCons (a : Ex) (b : Ax) : Ax := fun ρ m => (a ρ m).bind fun p => (b ρ p.2).bind fun q => some (stl p.1 :: q.1, q.2)
def eCB (g : List D → Option W) (a : Ax) : Ex := fun ρ m => (a ρ m).bind fun p => (gts p.1 p.2).bind fun ds => (g ds).bind fun w => some (w, p.2)
def eMt (ck : W → Mem → Bool) (g : W → List W → Mem → Option (W × Mem)) (o : Ex) (a : Ax) : Ex := fun ρ m => (o ρ m).bind fun p => if ck p.1 p.2 = true then (a ρ p.2).bind fun q => g p.1 q.1 q.2 else none
def eTup (a : Ax) : Ex := fun ρ m => (a ρ m).bind fun p => (vls p.1).bind fun ds => if ds.length ≤ 1000000 then some (.v (.tup ds), p.2) else none
def eLst (a : Ax) : Ex := fun ρ m => (a ρ m).bind fun p => (vls p.1).bind fun ds => if ds.length ≤ 1000000 then some (.f (.lst ds), p.2) else none
def blD : D → Option Bool
  | .bl b => some b
  | _ => none
def tVal (a : Ex) : Tx := fun ρ m => (a ρ m).bind fun p => (gt p.1 p.2).bind fun d => (blD d).bind fun b => some (b, p.2)
def truD : D → Option Bool
  | .non => some false
  | .bl b => some b
  | .int i => some (i != 0)
  | .tup ds => some (!ds.isEmpty)
  | .fl ds => some (!ds.isEmpty)
  | .lst ds => some (!ds.isEmpty)
  | .dk kvs => some (!kvs.isEmpty)
  | _ => none
def tTru (a : Ex) : Tx := fun ρ m => (a ρ m).bind fun p => (gt p.1 p.2).bind fun d => (truD d).bind fun b => some (b, p.2)
def tAnd' (a b : Tx) : Tx := fun ρ m => (a ρ m).bind fun p => if p.1 = true then b ρ p.2 else some (false, p.2)
def tOr' (a b : Tx) : Tx := fun ρ m => (a ρ m).bind fun p => if p.1 = true then some (true, p.2) else b ρ p.2
def tNot' (a : Tx) : Tx := fun ρ m => (a ρ m).bind fun p => some (!p.1, p.2)
def eIf (t : Tx) (a b : Ex) : Ex := fun ρ m => (t ρ m).bind fun p => if p.1 = true then a ρ p.2 else b ρ p.2
def eChain (g g' : D → D → Option W) (a b c : Ex) : Ex := fun ρ m => (a ρ m).bind fun p => (b ρ p.2).bind fun q => (gt p.1 q.2).bind fun x => (gt q.1 q.2).bind fun y => (g x y).bind fun z => match z with
  | .v (.bl true) => (c ρ q.2).bind fun u => (gt q.1 u.2).bind fun y => (gt u.1 u.2).bind fun z => (g' y z).bind fun w => some (w, u.2)
  | .v (.bl false) => some (.v (.bl false), q.2)
  | _ => none
def eAnd (a b : Ex) : Ex := fun ρ m => (tVal a ρ m).bind fun p => if p.1 = true then b ρ p.2 else some (.v (.bl false), p.2)
def eOr (a b : Ex) : Ex := fun ρ m => (tVal a ρ m).bind fun p => if p.1 = true then some (.v (.bl true), p.2) else b ρ p.2
def eNot (a : Ex) : Ex := fun ρ m => (tVal a ρ m).bind fun p => some (.v (.bl (!p.1)), p.2)
section
variable {X : Cx} {tb : List Addr} {a b c : Expr} {fa fb fc : Ex} {ta : Tx} {tb' : Tx} {pos : Pos}
theorem RepS.w {K : FRG} {φ ψ : List Addr} {H : Hp} {w : W} {v : V} (h : RepS K φ ψ H w v) : RepW K φ ψ ψ H (Pw.stl w) v := by
  cases w with
  | v d => exact ⟨rfl, h⟩
  | f d => exact ⟨rfl, h⟩
  | r n => exact ⟨rfl, h⟩
theorem ex_var (i : Nat) {x : Str} (hN : X.N[i]? = some x := by rfl) (hv : Vis X.env.scope x := by first | exact Or.inl rfl | exact Or.inr (Or.inl rfl) | exact Or.inr (Or.inr rfl)) (hd : (x == ("__debug__" : Str)) = false := by decide)
    (hcd : (x == ("__classdict__" : Str)) = false := by decide) : PE X (.Name x pos) (T X.K tb (eVar i)) := by
  refine pe_mono (pe_var hN hv hd hcd) fun σ H Q h => ?_
  obtain ⟨φ, ψ, ρ, m, w, m', R, E, e, k⟩ := h
  unfold eVar at e
  split at e
  · rename_i w' hw
    cases e
    obtain ⟨v, h1, h2⟩ := E.val i _ hw
    exact ⟨v, h1, k φ ψ H v .refl R h2.w⟩
  · cases e
theorem ex_int {i : Int} {j : Nat} : PE X (.Constant (.int i) j pos) (T X.K tb (eC (.int i))) := pe_mono pe_int fun σ H Q ⟨φ, ψ, ρ, m, w, m', R, E, e, k⟩ => by
  cases e; exact Go.val k R (.int i)
theorem ex_bl {i : Bool} {j : Nat} : PE X (.Constant (.bool i) j pos) (T X.K tb (eC (.bl i))) := pe_mono pe_bl fun σ H Q ⟨φ, ψ, ρ, m, w, m', R, E, e, k⟩ => by
  cases e; exact Go.val k R (.bl i)
theorem ex_str {i : Str} {j : Nat} : PE X (.Constant (.str i) j pos) (T X.K tb (eC (.str i))) := pe_mono pe_str fun σ H Q ⟨φ, ψ, ρ, m, w, m', R, E, e, k⟩ => by
  cases e; exact Go.val k R (.str i)
theorem op_go {r : R2} {g : D → D → Option W} (hs : OpS X.K tb r g) {σ : L2.St} {H : Hp} {Q : VK} (h : T X.K tb (eOp g fa fb) σ H Q) : tOp r (T X.K tb fa) (T X.K tb fb) σ H Q := by
  obtain ⟨φ, ψ, ρ, m, w, m', R, E, e, k⟩ := h
  obtain ⟨⟨w1, m1⟩, e1, e⟩ := bnd e
  obtain ⟨⟨w2, m2⟩, e2, e⟩ := bnd e
  obtain ⟨x, ex, e⟩ := bnd e
  obtain ⟨y, ey, e⟩ := bnd e
  obtain ⟨w3, eg, e⟩ := bnd e
  cases e
  refine ⟨φ, ψ, ρ, m, w1, m1, R, E, e1, fun φ1 ψ1 H1 xv P1 R1 V1 => ⟨φ1, ψ, ρ, m1, w2, m2, V1.rel R1, E.mono (V1.post P1) R, e2, fun φ2 ψ2 H2 yv P2 R2 V2 => ?_⟩⟩
  have R2' := V2.rel R2
  have P2' := V2.post P2
  exact hs φ2 ψ H2 m2 xv yv x y w Q R2' (gt_c R2' ((V1.s R1).mono P2' (V1.rel R1)) ex) (gt_c R2' (V2.s R2) ey) eg fun φ3 ψ3 H3 v P3 R3 V3 => k φ3 ψ3 H3 v ((V1.post P1).trans (P2'.trans P3)) R3 V3
theorem ex_op {op : Operator} {r : R2} {g : D → D → Option W} (ho : OpR X (binaryOp op) r) (hs : OpS X.K tb r g) (ha : PE X a (T X.K tb fa)) (hb : PE X b (T X.K tb fb)) : PE X (.BinOp a op b pos) (T X.K tb (eOp g fa fb)) :=
  pe_mono (pe_op ho ha hb) fun _ _ _ h => op_go hs h
theorem ex_cmp {op : CmpOp} {r : R2} {g : D → D → Option W} (ho : OpR X (compareOp op) r) (hs : OpS X.K tb r g) (ha : PE X a (T X.K tb fa)) (hb : PE X b (T X.K tb fb)) (hm : behindInMarks op b = false) : PE X (.Compare a [op] [b] pos) (T X.K tb (eOp g fa fb)) :=
  pe_mono (pe_cmpR ho ha hb hm) fun _ _ _ h => op_go hs h
theorem blD_v {K : FRG} {φ ψ : List Addr} {H : Hp} {d : D} {v : V} {b : Bool} (h : RepC K φ ψ H d v) (e : blD d = some b) : v = .bl b := by
  unfold blD at e
  split at e
  · cases e; exact h.bl
  · cases e
theorem val_go {f : Ex} {σ : L2.St} {H : Hp} {Q : Bool → Hp → Prop} (h : Tt X.K tb (tVal f) σ H Q) : T X.K tb f σ H fun x H' => ∃ k, x = .bl k ∧ Q k H' := by
  obtain ⟨φ, ψ, ρ, m, w, m', R, E, e, k⟩ := h
  obtain ⟨⟨w1, m1⟩, e1, e⟩ := bnd e
  obtain ⟨d, ed, e⟩ := bnd e
  obtain ⟨b, eb, e⟩ := bnd e
  cases e
  exact ⟨φ, ψ, ρ, m, w1, _, R, E, e1, fun φ1 ψ1 H1 x P1 R1 V1 => ⟨_, blD_v (gt_c (V1.rel R1) (V1.s R1) ed) eb, k φ1 H1 (V1.post P1) (V1.rel R1)⟩⟩
theorem tx_cmp {op : CmpOp} {r : R2} {g : D → D → Option W} (ho : OpR X (compareOp op) r) (hs : OpS X.K tb r g) (ha : PE X a (T X.K tb fa)) (hb : PE X b (T X.K tb fb)) (hm : behindInMarks op b = false) : PT X (.Compare a [op] [b] pos) (Tt X.K tb (tVal (eOp g fa fb))) :=
  pt_mono (pt_cmpR ho ha hb hm) fun _ _ _ h => op_go hs (val_go h)
theorem chain_go {r r' : R2} {g g' : D → D → Option W} (hs : OpS X.K tb r g) (hs' : OpS X.K tb r' g') {σ : L2.St} {H : Hp} {Q : VK} (h : T X.K tb (eChain g g' fa fb fc) σ H Q) : tChain r r' (T X.K tb fa) (T X.K tb fb) (T X.K tb fc) σ H Q := by
  obtain ⟨φ, ψ, ρ, m, w, m', R, E, e, k⟩ := h
  obtain ⟨⟨w1, m1⟩, e1, e⟩ := bnd e
  obtain ⟨⟨w2, m2⟩, e2, e⟩ := bnd e
  obtain ⟨x, ex, e⟩ := bnd e
  obtain ⟨y, ey, e⟩ := bnd e
  obtain ⟨w3, eg, e⟩ := bnd e
  refine ⟨φ, ψ, ρ, m, w1, m1, R, E, e1, fun φ1 ψ1 H1 xv P1 R1 V1 => ⟨φ1, ψ, ρ, m1, w2, m2, V1.rel R1, E.mono (V1.post P1) R, e2, fun φ2 ψ2 H2 yv P2 R2 V2 => ?_⟩⟩
  have R2' := V2.rel R2
  have P2' := V2.post P2
  have S2 := V2.s R2
  have P12 := (V1.post P1).trans P2'
  refine hs φ2 ψ H2 m2 xv yv x y w3 _ R2' (gt_c R2' ((V1.s R1).mono P2' (V1.rel R1)) ex) (gt_c R2' S2 ey) eg fun φ3 ψ3 H3 v P3 R3 V3 => ?_
  split at e
  · obtain ⟨rfl, V3⟩ := V3
    cases V3
    obtain ⟨⟨w4, m4⟩, e4, e⟩ := bnd e
    obtain ⟨y', ey', e⟩ := bnd e
    obtain ⟨z', ez', e⟩ := bnd e
    obtain ⟨w5, eg', e⟩ := bnd e
    cases e
    refine ⟨true, rfl, iteT ⟨φ3, _, ρ, m2, w4, _, R3, E.mono (P12.trans P3) R, e4, fun φ4 ψ4 H4 z P4 R4 V4 => ?_⟩⟩
    have R4' := V4.rel R4
    have P4' := V4.post P4
    exact hs' φ4 _ H4 _ yv z y' z' w Q R4' (gt_c R4' (S2.mono (P3.trans P4') R2') ey') (gt_c R4' (V4.s R4) ez') eg' fun φ5 ψ5 H5 v P5 R5 V5 => k φ5 ψ5 H5 v (P12.trans (P3.trans (P4'.trans P5))) R5 V5
  · obtain ⟨rfl, V3⟩ := V3
    cases V3
    cases e
    exact ⟨false, rfl, iteF (k φ3 _ H3 _ (P12.trans P3) R3 ⟨rfl, .bl false⟩)⟩
  · cases e
theorem ex_chain {op op' : CmpOp} {r r' : R2} {g g' : D → D → Option W} (ho : OpR X (compareOp op) r) (ho' : OpR X (compareOp op') r') (hs : OpS X.K tb r g) (hs' : OpS X.K tb r' g') (ha : PE X a (T X.K tb fa)) (hb : PE X b (T X.K tb fb)) (hc : PE X c (T X.K tb fc))
    (hm : lastMarks [op, op'] [b, c] = false := by with_unfolding_all rfl) : PE X (.Compare a [op, op'] [b, c] pos) (T X.K tb (eChain g g' fa fb fc)) := pe_mono (pe_chain ho ho' ha hb hc hm) fun _ _ _ h => chain_go hs hs' h
theorem tx_chain {op op' : CmpOp} {r r' : R2} {g g' : D → D → Option W} (ho : OpR X (compareOp op) r) (ho' : OpR X (compareOp op') r') (hs : OpS X.K tb r g) (hs' : OpS X.K tb r' g') (ha : PE X a (T X.K tb fa)) (hb : PE X b (T X.K tb fb)) (hc : PE X c (T X.K tb fc))
    (hm : lastMarks [op, op'] [b, c] = false := by with_unfolding_all rfl) : PT X (.Compare a [op, op'] [b, c] pos) (Tt X.K tb (tVal (eChain g g' fa fb fc))) := pt_mono (pt_chain ho ho' ha hb hc hm) fun _ _ _ h => chain_go hs hs' (val_go h)
theorem un_go {r : V → Hp → VK → Prop} {g : D → Option W} (hs : UnS X.K tb r g) {σ : L2.St} {H : Hp} {Q : VK} (h : T X.K tb (eUn g fa) σ H Q) : tUn r (T X.K tb fa) σ H Q := by
  obtain ⟨φ, ψ, ρ, m, w, m', R, E, e, k⟩ := h
  obtain ⟨⟨w1, m1⟩, e1, e⟩ := bnd e
  obtain ⟨x, ex, e⟩ := bnd e
  obtain ⟨w2, eg, e⟩ := bnd e
  cases e
  exact ⟨φ, ψ, ρ, m, w1, _, R, E, e1, fun φ1 ψ1 H1 xv P1 R1 V1 => hs φ1 ψ H1 _ xv x w Q (V1.rel R1) (gt_c (V1.rel R1) (V1.s R1) ex) eg fun φ3 ψ3 H3 v P3 R3 V3 => k φ3 ψ3 H3 v ((V1.post P1).trans P3) R3 V3⟩
theorem ex_un {op : UnaryOp} {r : V → Hp → VK → Prop} {g : D → Option W} (ho : UnR X (unaryOp op) r) (hs : UnS X.K tb r g) (ha : PE X a (T X.K tb fa)) : PE X (.UnaryOp op a pos) (T X.K tb (eUn g fa)) := pe_mono (pe_un ho ha) fun _ _ _ h => un_go hs h
theorem ax_nil : PA X [] (Ta X.K tb aNil) := pa_mono pa_nil fun σ H Q ⟨φ, ψ, ρ, m, ds, m', R, E, e, k⟩ => by
  cases e; exact k φ H [] .refl R .nil
theorem ax_cons {es : List Expr} {f : Ax} (ha : PE X a (T X.K tb fa)) (hr : PA X es (Ta X.K tb f)) (hs : starEach (a :: es) X.env = (false, eval a X.env) :: starEach es X.env := by rfl) : PA X (a :: es) (Ta X.K tb (aCons fa f)) := by
  refine pa_mono (pa_cons ha hr hs) fun σ H Q ⟨φ, ψ, ρ, m, ds, m', R, E, e, k⟩ => ?_
  obtain ⟨⟨w1, m1⟩, e1, e⟩ := bnd e
  obtain ⟨⟨w2, m2⟩, e2, e⟩ := bnd e
  cases e
  exact ⟨φ, ψ, ρ, m, w1, m1, R, E, e1, fun φ1 ψ1 H1 x P1 R1 V1 => ⟨φ1, ψ, ρ, m1, w2, _, V1.rel R1, E.mono (V1.post P1) R, e2, fun φ2 H2 y P2 R2 V2 => k φ2 H2 _ ((V1.post P1).trans P2) R2 (.cons ((V1.s R1).mono P2 (V1.rel R1)).stl V2)⟩⟩
theorem cb_go {f : Ax} {r : List V → Hp → VK → Prop} {g : List D → Option W} (hs : CallS X.K tb r g) {σ : L2.St} {H : Hp} {Q : VK} (h : T X.K tb (eCB g f) σ H Q) : tCB r (Ta X.K tb f) σ H Q := by
  obtain ⟨φ, ψ, ρ, m, w, m', R, E, e, k⟩ := h
  obtain ⟨⟨ws, m1⟩, e1, e⟩ := bnd e
  obtain ⟨ds, ed, e⟩ := bnd e
  obtain ⟨w2, eg, e⟩ := bnd e
  cases e
  exact ⟨φ, ψ, ρ, m, ws, _, R, E, e1, fun φ1 H1 vs P1 R1 V1 => hs φ1 ψ H1 _ vs ds w Q R1 (gts_c R1 V1 ed) eg fun φ3 ψ3 H3 v P3 R3 V3 => k φ3 ψ3 H3 v (P1.trans P3) R3 V3⟩
theorem ex_callB {x : Str} {p : Pos} {es : List Expr} {id : String} {f : Ax} {r : List V → Hp → VK → Prop} {g : List D → Option W} (hs : CallS X.K tb r g) (hc : CallR X (.builtin id) r) (hg : Gl X x) (hm : X.mg x = none) (hv : bootBuiltins x = some (.builtin id)) (ha : PA X (a :: es) (Ta X.K tb f))
    (hn : x ≠ "__name__" := by decide) (hdb : (x == ("__debug__" : Str)) = false := by decide) (he : starEach (a :: es) X.env = (false, eval a X.env) :: starEach es X.env := by rfl) (hpl : (backTo pos (starEach es X.env)).any (·.1) = false := by rfl) :
    PE X (.Call (.Name x p) (a :: es) [] pos) (T X.K tb (eCB g f)) := pe_mono (pe_callB hc hg hm hv ha hn hdb he hpl) fun _ _ _ h => cb_go hs h
theorem ex_callTy {x : Str} {p : Pos} {es : List Expr} {id : String} {f : Ax} {r : List V → Hp → VK → Prop} {g : List D → Option W} (hs : CallS X.K tb r g) (hc : CallR X (.type id) r) (hg : Gl X x) (hm : X.mg x = none) (hv : bootBuiltins x = some (.type id)) (ha : PA X (a :: es) (Ta X.K tb f))
    (hn : x ≠ "__name__" := by decide) (hdb : (x == ("__debug__" : Str)) = false := by decide) (he : starEach (a :: es) X.env = (false, eval a X.env) :: starEach es X.env := by rfl) (hpl : (backTo pos (starEach es X.env)).any (·.1) = false := by rfl) :
    PE X (.Call (.Name x p) (a :: es) [] pos) (T X.K tb (eCB g f)) := pe_mono (pe_callTy hc hg hm hv ha hn hdb he hpl) fun _ _ _ h => cb_go hs h
theorem ex_tup {es : List Expr} {f : Ax} {x1} (h : PA X es (Ta X.K tb f)) : PE X (.Tuple es x1 pos) (T X.K tb (eTup f)) := by
  refine pe_mono (pe_tup h) fun σ H Q ⟨φ, ψ, ρ, m, w, m', R, E, e, k⟩ => ?_
  obtain ⟨⟨ws, m1⟩, e1, e⟩ := bnd e
  obtain ⟨ds, ed, e⟩ := bnd e
  refine ⟨φ, ψ, ρ, m, ws, m1, R, E, e1, fun φ1 H1 vs P1 R1 V1 => ?_⟩
  split at e
  · rename_i hl
    cases e
    have r := vls_c V1 ed
    exact ⟨small (by rw [← r.length]; exact hl), fun p hp => Go.tup (fun φ3 ψ3 H3 v P3 R3 V3 => k φ3 ψ3 H3 v (P1.trans P3) R3 V3) R1 r hp⟩
  · cases e
theorem ex_lst {es : List Expr} {f : Ax} (h : PA X es (Ta X.K tb f)) : PE X (.List es pos) (T X.K tb (eLst f)) := by
  refine pe_mono (pe_lst h) fun σ H Q ⟨φ, ψ, ρ, m, w, m', R, E, e, k⟩ => ?_
  obtain ⟨⟨ws, m1⟩, e1, e⟩ := bnd e
  obtain ⟨ds, ed, e⟩ := bnd e
  refine ⟨φ, ψ, ρ, m, ws, m1, R, E, e1, fun φ1 H1 vs P1 R1 V1 => ?_⟩
  split at e
  · rename_i hl
    cases e
    have r := vls_c V1 ed
    exact ⟨small (by rw [← r.length]; exact hl), fun p hp => Go.lst (fun φ3 ψ3 H3 v P3 R3 V3 => k φ3 ψ3 H3 v (P1.trans P3) R3 V3) R1 r hp⟩
  · cases e
theorem ex_mt {T' id : String} {name : Str} {apos cpos : Pos} {es : List Expr} {fo : Ex} {f : Ax} {r : V → List V → Hp → VK → Prop} {g : W → List W → Mem → Option (W × Mem)} {ck : W → Mem → Bool} {o : Expr}
    (hck : ∀ φ ψ H m d v, Rel X.K tb φ ψ H m → RepS X.K φ ψ H d v → ck d m = true → tyV X.K T' v H) (hs : MtS X.K tb r g)
    (pa : PlainAttrs T') (slot : Slot T' name id) (hty : typeOf (.builtin id) = pure (.type "method_descriptor")) (hm : MtR X id r) (ho : PE X o (T X.K tb fo)) (ha : PA X (a :: es) (Ta X.K tb f))
    (hbase : attributeBase o name X.env (eval o X.env) = eval o X.env := by rfl)
    (hfew : ((backTo cpos (starEach (a :: es) X.env)).all (fun x => !x.1) && (backToKw cpos (keywordEach [] X.env)).all (fun x => x.1.isSome)
      && decide ((a :: es).length + ([] : List Keyword).length + (if ([] : List Keyword).isEmpty then 0 else 1) < 30)) = true := by rfl)
    (hline : (apos.endLine == cpos.line) = true := by rfl) (hst : starEach (a :: es) X.env = (false, eval a X.env) :: starEach es X.env := by rfl) (hplain : (backTo cpos (starEach es X.env)).any (·.1) = false := by rfl) :
    PE X (.Call (.Attribute o name apos) (a :: es) [] cpos) (T X.K tb (eMt ck g fo f)) := by
  refine pe_mono (pe_bm pa slot hty hm ho ha hbase hfew hline hst hplain) fun σ H Q ⟨φ, ψ, ρ, m, w, m', R, E, e, k⟩ => ?_
  obtain ⟨⟨w1, m1⟩, e1, e⟩ := bnd e
  split at e
  · rename_i hc
    obtain ⟨⟨ws, m2⟩, e2, e⟩ := bnd e
    refine ⟨φ, ψ, ρ, m, w1, m1, R, E, e1, fun φ1 ψ1 H1 x P1 R1 V1 => ⟨hck φ1 ψ H1 m1 w1 x (V1.rel R1) (V1.s R1) hc, φ1, ψ, ρ, m1, ws, m2, V1.rel R1, E.mono (V1.post P1) R, e2, fun φ2 H2 vs P2 R2 V2 => ?_⟩⟩
    exact hs φ2 ψ H2 m2 x vs w1 ws w m' Q R2 ((V1.s R1).mono P2 (V1.rel R1)) V2 e fun φ3 ψ3 H3 v P3 R3 V3 => k φ3 ψ3 H3 v ((V1.post P1).trans (P2.trans P3)) R3 V3
  · cases e
theorem pt_or {X : Cx} {e : Expr} {t t' : TT} (h : PT X e t) (h' : PT X e t') : PT X e (fun σ H Q => t σ H Q ∨ t' σ H Q) := ⟨fun pins s σ H Q I q => q.elim (h.run pins s σ H Q I) (h'.run pins s σ H Q I)⟩
theorem tru_rd {X : Cx} : TruR X (fun x H Q => ∃ a kvs, x = V.ref a ∧ Rd H a (.dK kvs) ∧ Q (!kvs.isEmpty) H) := by
  intro pins s σ H x v Q I rx h
  obtain ⟨a, kvs, rfl, e, q⟩ := h
  cases rx
  exact d_truth I e fun s' I' => ⟨H, I', q⟩
theorem tx_tru {e : Expr} {f : Ex} (h : PE X e (T X.K tb f)) (he : ∀ whole, isTrue e X.env whole = (do let v ← whole; standAt e.pos; holding [v] (truthy v)) := by intro _; rfl) : PT X e (Tt X.K tb (tTru f)) := by
  refine pt_mono (pt_or (pt_truth h he) (pt_truthR h tru_rd he)) fun σ H Q ⟨φ, ψ, ρ, m, b, m', R, E, e, k⟩ => ?_
  obtain ⟨⟨w1, m1⟩, e1, e⟩ := bnd e
  obtain ⟨d, ed, e⟩ := bnd e
  obtain ⟨b1, e2, e⟩ := bnd e
  cases e
  by_cases hdk : ∃ kvs, d = .dk kvs
  · right
    obtain ⟨kvs, rfl⟩ := hdk
    cases e2
    refine ⟨φ, ψ, ρ, m, w1, m1, R, E, e1, fun φ1 ψ1 H1 x P1 R1 V1 => ?_⟩
    obtain ⟨a, vs, rfl, h, r1, r2⟩ := (gt_c (V1.rel R1) (V1.s R1) ed).dk
    refine ⟨a, vs, rfl, h, ?_⟩
    have : kvs.length = vs.length := by simpa using congrArg List.length r1
    have eb : (!kvs.isEmpty) = !vs.isEmpty := by cases kvs <;> cases vs <;> simp_all
    rw [← eb]
    exact k φ1 H1 (V1.post P1) (V1.rel R1)
  left
  refine ⟨φ, ψ, ρ, m, w1, m1, R, E, e1, fun φ1 ψ1 H1 x P1 R1 V1 => ⟨b, ?_, k φ1 H1 (V1.post P1) (V1.rel R1)⟩⟩
  have C := gt_c (V1.rel R1) (V1.s R1) ed
  cases d with
  | non => cases e2; rw [C.non]; rfl
  | bl b => cases e2; rw [C.bl]; rfl
  | int i => cases e2; rw [C.int]; rfl
  | str x => cases e2
  | tup ds => cases e2; obtain ⟨a, vs, rfl, h, r⟩ := C.tup; exact .inr (.inl ⟨_, h, by cases r <;> rfl⟩)
  | tx ds => cases e2
  | fl ds => cases e2; obtain ⟨a, vs, rfl, h, r⟩ := C.fl; exact .inl ⟨_, h, by cases r <;> rfl⟩
  | lst ds => cases e2; obtain ⟨a, vs, rfl, h, r⟩ := C.lst; exact .inl ⟨_, SqL.of h, by cases r <;> rfl⟩
  | dk kvs => exact absurd ⟨kvs, rfl⟩ hdk
  | dt kvs => cases e2
  | rl b k => cases e2
def pwt {e : Expr} {t : TT} (h : PW X e t) : PT X e t := h.pt
theorem tw_and1 (ha : PT X a (Tt X.K tb ta)) : PW X (.BoolOp .And [a] pos) (Tt X.K tb ta) := pw_and1 ha
theorem tw_or1 (ha : PT X a (Tt X.K tb ta)) : PW X (.BoolOp .Or [a] pos) (Tt X.K tb ta) := pw_or1 ha
theorem pw_mono {e : Expr} {t t' : TT} (h : PW X e t) (i : ∀ σ H Q, t' σ H Q → t σ H Q) : PW X e t' := ⟨fun w pins s σ H Q I q => h.run w pins s σ H Q I (i σ H Q q)⟩
theorem tw_and {rest : List Expr} (ha : PT X a (Tt X.K tb ta)) (hb : PW X (.BoolOp .And (b :: rest) pos) (Tt X.K tb tb')) : PW X (.BoolOp .And (a :: b :: rest) pos) (Tt X.K tb (tAnd' ta tb')) := by
  refine pw_mono (pw_and ha hb) fun σ H Q ⟨φ, ψ, ρ, m, d, m', R, E, e, k⟩ => ?_
  obtain ⟨⟨b1, m1⟩, e1, e⟩ := bnd e
  refine ⟨φ, ψ, ρ, m, b1, m1, R, E, e1, fun φ1 H1 P1 R1 => ?_⟩
  cases b1 with
  | true => exact iteT ⟨φ1, ψ, ρ, m1, d, m', R1, E.mono P1 R, e, fun φ2 H2 P2 R2 => k φ2 H2 (P1.trans P2) R2⟩
  | false => cases e; exact iteF (k φ1 H1 P1 R1)
theorem tw_or {rest : List Expr} (ha : PT X a (Tt X.K tb ta)) (hb : PW X (.BoolOp .Or (b :: rest) pos) (Tt X.K tb tb')) : PW X (.BoolOp .Or (a :: b :: rest) pos) (Tt X.K tb (tOr' ta tb')) := by
  refine pw_mono (pw_or ha hb) fun σ H Q ⟨φ, ψ, ρ, m, d, m', R, E, e, k⟩ => ?_
  obtain ⟨⟨b1, m1⟩, e1, e⟩ := bnd e
  refine ⟨φ, ψ, ρ, m, b1, m1, R, E, e1, fun φ1 H1 P1 R1 => ?_⟩
  cases b1 with
  | false => exact iteF ⟨φ1, ψ, ρ, m1, d, m', R1, E.mono P1 R, e, fun φ2 H2 P2 R2 => k φ2 H2 (P1.trans P2) R2⟩
  | true => cases e; exact iteT (k φ1 H1 P1 R1)
theorem tx_not (ha : PT X a (Tt X.K tb ta)) : PT X (.UnaryOp .Not a pos) (Tt X.K tb (tNot' ta)) := by
  refine pt_mono (pt_not ha) fun σ H Q ⟨φ, ψ, ρ, m, d, m', R, E, e, k⟩ => ?_
  obtain ⟨⟨b1, m1⟩, e1, e⟩ := bnd e
  cases e
  exact ⟨φ, ψ, ρ, m, b1, _, R, E, e1, fun φ1 H1 P1 R1 => k φ1 H1 P1 R1⟩
theorem ex_if (hc : PT X c (Tt X.K tb ta)) (ha : PE X a (T X.K tb fa)) (hb : PE X b (T X.K tb fb)) : PE X (.IfExp c a b pos) (T X.K tb (eIf ta fa fb)) := by
  refine pe_mono (pe_ifExp hc ha hb) fun σ H Q ⟨φ, ψ, ρ, m, d, m', R, E, e, k⟩ => ?_
  obtain ⟨⟨b1, m1⟩, e1, e⟩ := bnd e
  refine ⟨φ, ψ, ρ, m, b1, m1, R, E, e1, fun φ1 H1 P1 R1 => ?_⟩
  cases b1 with
  | true => exact iteT ⟨φ1, ψ, ρ, m1, d, m', R1, E.mono P1 R, e, fun φ2 ψ2 H2 v P2 R2 => k φ2 ψ2 H2 v (P1.trans P2) R2⟩
  | false => exact iteF ⟨φ1, ψ, ρ, m1, d, m', R1, E.mono P1 R, e, fun φ2 ψ2 H2 v P2 R2 => k φ2 ψ2 H2 v (P1.trans P2) R2⟩
theorem ex_one {op} {f : Ex} (h : PE X a (T X.K tb f)) : PE X (.BoolOp op [a] pos) (T X.K tb f) := pe_one h
theorem ex_and {rest : List Expr} (ha : PE X a (T X.K tb fa)) (hb : PE X (.BoolOp .And (b :: rest) pos) (T X.K tb fb)) : PE X (.BoolOp .And (a :: b :: rest) pos) (T X.K tb (eAnd fa fb)) := by
  refine pe_mono (pe_and ha hb) fun σ H Q ⟨φ, ψ, ρ, m, d, m', R, E, e, k⟩ => ?_
  obtain ⟨⟨b1, m1⟩, e1, e⟩ := bnd e
  refine val_go (X := X) (Q := fun c H1 => if c = true then T X.K tb fb σ H1 Q else Q (.bl false) H1) ⟨φ, ψ, ρ, m, b1, m1, R, E, e1, fun φ1 H1 P1 R1 => ?_⟩
  cases b1 with
  | true => exact iteT ⟨φ1, ψ, ρ, m1, d, m', R1, E.mono P1 R, e, fun φ2 ψ2 H2 v P2 R2 => k φ2 ψ2 H2 v (P1.trans P2) R2⟩
  | false => cases e; exact iteF (k φ1 ψ H1 _ P1 R1 ⟨rfl, .bl false⟩)
theorem ex_or {rest : List Expr} (ha : PE X a (T X.K tb fa)) (hb : PE X (.BoolOp .Or (b :: rest) pos) (T X.K tb fb)) : PE X (.BoolOp .Or (a :: b :: rest) pos) (T X.K tb (eOr fa fb)) := by
  refine pe_mono (pe_or ha hb) fun σ H Q ⟨φ, ψ, ρ, m, d, m', R, E, e, k⟩ => ?_
  obtain ⟨⟨b1, m1⟩, e1, e⟩ := bnd e
  refine val_go (X := X) (Q := fun c H1 => if c = true then Q (.bl true) H1 else T X.K tb fb σ H1 Q) ⟨φ, ψ, ρ, m, b1, m1, R, E, e1, fun φ1 H1 P1 R1 => ?_⟩
  cases b1 with
  | false => exact iteF ⟨φ1, ψ, ρ, m1, d, m', R1, E.mono P1 R, e, fun φ2 ψ2 H2 v P2 R2 => k φ2 ψ2 H2 v (P1.trans P2) R2⟩
  | true => cases e; exact iteT (k φ1 ψ H1 _ P1 R1 ⟨rfl, .bl true⟩)
theorem ex_not (ha : PE X a (T X.K tb fa)) : PE X (.UnaryOp .Not a pos) (T X.K tb (eNot fa)) := by
  refine pe_mono (pe_not ha) fun σ H Q ⟨φ, ψ, ρ, m, d, m', R, E, e, k⟩ => ?_
  obtain ⟨⟨b1, m1⟩, e1, e⟩ := bnd e
  cases e
  exact val_go (X := X) (Q := fun c H1 => Q (.bl (!c)) H1) ⟨φ, ψ, ρ, m, b1, _, R, E, e1, fun φ1 H1 P1 R1 => k φ1 ψ H1 _ P1 R1 ⟨rfl, .bl _⟩⟩
end
end Pw
end
section
set_option Elab.async false
set_option linter.all false
set_option maxRecDepth 100000
set_option maxHeartbeats 1000000
namespace Pw
open PySem PySem.Spec PyProof.Rows L2
def subD : D → D → Option W
  | .int i, .int j => some (.v (.int (i - j)))
  | _, _ => none
def cmpD (p : Int → Int → Bool) : D → D → Option W
  | .int i, .int j => some (.v (.bl (p i j)))
  | _, _ => none
def ltI (i j : Int) : Bool := decide (i < j)
def leI (i j : Int) : Bool := decide (i ≤ j)
def gtI (i j : Int) : Bool := decide (j < i)
def geI (i j : Int) : Bool := decide (j ≤ i)
open Classical in
noncomputable def intC (C : Int → Int → Prop) (g : Int → Int → Int) : D → D → Option W
  | .int i, .int j => if C i j then some (.v (.int (g i j))) else none
  | _, _ => none
def negD : D → Option W
  | .int i => some (.v (.int (-i)))
  | _ => none
def addD : D → D → Option W
  | .int i, .int j => some (.v (.int (i + j)))
  | .str i, .str j => if i.length + j.length ≤ 1000000 then some (.v (.str (i ++ j))) else none
  | .tup a, .tup b => if a.length + b.length ≤ 1000000 then some (.v (.tup (a ++ b))) else none
  | .lst a, .lst b => if a.length + b.length ≤ 1000000 then some (.f (.lst (a ++ b))) else none
  | _, _ => none
open Classical in
noncomputable def mulD : D → D → Option W
  | .int i, .int j => if CMul i j then some (.v (.int (i * j))) else none
  | .lst a, .int k => if -(2 ^ 63) ≤ k ∧ k < 2 ^ 63 ∧ a.length * k.toNat ≤ 1000000 then some (.f (.lst (List.replicate k.toNat a).flatten)) else none
  | _, _ => none
noncomputable def divD : D → D → Option W := intC CDiv fun i j => i / j
noncomputable def modD : D → D → Option W := intC (fun _ j => 0 < j) fun i j => i % j
noncomputable def powD : D → D → Option W := intC CPow fun i j => i ^ j.toNat
section
variable {K : FRG} {tb : List Addr}
theorem sub_s : OpS K tb (rI0 fun i j => .int (i - j)) subD := fun φ ψ H m x y dx dy w Q R hx hy e k => by
  unfold subD at e
  split at e
  · cases e; rw [hx.int, hy.int]
    exact ⟨_, _, rfl, rfl, Go.val k R (.int _)⟩
  · cases e
theorem cmp_s {p : Int → Int → Bool} : OpS K tb (rI0 fun i j => .bl (p i j)) (cmpD p) := fun φ ψ H m x y dx dy w Q R hx hy e k => by
  unfold cmpD at e
  split at e
  · cases e; rw [hx.int, hy.int]
    exact ⟨_, _, rfl, rfl, Go.val k R (.bl _)⟩
  · cases e
theorem intC_s {C : Int → Int → Prop} {g : Int → Int → Int} : OpS K tb (rI C fun i j => .int (g i j)) (intC C g) := fun φ ψ H m x y dx dy w Q R hx hy e k => by
  unfold intC at e
  split at e
  · split at e
    · rename_i hc
      cases e; rw [hx.int, hy.int]
      exact ⟨_, _, rfl, rfl, hc, Go.val k R (.int _)⟩
    · cases e
  · cases e
theorem neg_s : UnS K tb (rU fun i => .int (-i)) negD := fun φ ψ H m x dx w Q R hx e k => by
  unfold negD at e
  split at e
  · cases e; rw [hx.int]
    exact ⟨_, rfl, Go.val k R (.int _)⟩
  · cases e
abbrev rAdd (K : FRG) : R2 := fun x y H Q => (rI0 (fun i j => .int (i + j)) x y H Q) ∨ ((∃ i j, x = .str i ∧ y = .str j ∧ i.length + j.length ≤ sizeLine ∧ Q (.str (i ++ j)) H) ∨ (rCatA K x y H Q ∨ rCat x y H Q))
theorem op_addA {X : Cx} : OpR X (binaryOp .Add) (rAdd X.K) := op_add.or (op_add_str.or (op_catA.or op_cat))
theorem add_s : OpS K tb (rAdd K) addD := fun φ ψ H m x y dx dy w Q R hx hy e k => by
  unfold addD at e
  split at e
  · cases e; rw [hx.int, hy.int]
    exact .inl ⟨_, _, rfl, rfl, Go.val k R (.int _)⟩
  · split at e
    · rename_i hl
      cases e; rw [hx.str, hy.str]
      exact .inr (.inl ⟨_, _, rfl, rfl, small hl, Go.val k R (.str _)⟩)
    · cases e
  · split at e
    · rename_i hl
      cases e
      obtain ⟨a1, v1, rfl, h1, r1⟩ := hx.tupN
      obtain ⟨a2, v2, rfl, h2, r2⟩ := hy.tupN
      refine .inr (.inr (.inl ⟨_, _, _, _, rfl, rfl, h1.1, h2.1, small (by rw [← r1.length, ← r2.length]; exact hl), fun z => ?_, fun z1 z2 => ?_, fun z1 z2 p hp => Go.tup k R (r1.app r2) hp⟩))
      · subst z; cases r1; exact Go.val k R (.tup h2 r2)
      · subst z2; cases r2; rw [List.append_nil] at k; exact Go.val k R (.tup h1 r1)
    · cases e
  · split at e
    · rename_i hl
      cases e
      obtain ⟨a1, v1, rfl, h1, r1⟩ := hx.lst
      obtain ⟨a2, v2, rfl, h2, r2⟩ := hy.lst
      exact .inr (.inr (.inr ⟨_, _, _, _, rfl, rfl, h1, h2, small (by rw [← r1.length, ← r2.length]; exact hl), fun p hp => Go.lst k R (r1.app r2) hp⟩))
    · cases e
  · cases e
theorem Reps.rep : ∀ (n : Nat) {φ ψ : List Addr} {H : Hp} {ds : List D} {vs : List V}, Reps K φ ψ H ds vs → Reps K φ ψ H (List.replicate n ds).flatten (List.replicate n vs).flatten
  | 0, _, _, _, _, _, _ => .nil
  | n + 1, _, _, _, _, _, r => by
    rw [List.replicate_succ, List.replicate_succ, List.flatten_cons, List.flatten_cons]
    exact r.app (Reps.rep n r)
abbrev rMul : R2 := fun x y H Q => (rI CMul (fun i j => .int (i * j)) x y H Q) ∨ rRep x y H Q
theorem op_mulA {X : Cx} : OpR X (binaryOp .Mult) rMul := op_mul.or op_rep
theorem mul_s : OpS K tb rMul mulD := fun φ ψ H m x y dx dy w Q R hx hy e k => by
  unfold mulD at e
  split at e
  · split at e
    · rename_i hc
      cases e; rw [hx.int, hy.int]
      exact .inl ⟨_, _, rfl, rfl, hc, Go.val k R (.int _)⟩
    · cases e
  · split at e
    · rename_i hl
      cases e
      obtain ⟨a1, v1, rfl, h1, r1⟩ := hx.lst
      rw [hy.int]
      exact .inr ⟨_, _, _, rfl, rfl, h1, hl.1, hl.2.1, small (by rw [← r1.length]; exact hl.2.2), fun p hp => Go.lst k R (Reps.rep _ r1) hp⟩
    · cases e
  · cases e
theorem div_s : OpS K tb (rI CDiv fun i j => .int (i / j)) divD := intC_s
theorem mod_s : OpS K tb (rI (fun _ j => 0 < j) fun i j => .int (i % j)) modD := intC_s
theorem pow_s : OpS K tb (rI CPow fun i j => .int (i ^ j.toNat)) powD := intC_s
theorem lt_s : OpS K tb (rI0 fun i j => .bl (decide (i < j))) (cmpD ltI) := cmp_s
theorem le_s : OpS K tb (rI0 fun i j => .bl (decide (i ≤ j))) (cmpD leI) := cmp_s
theorem gt_s : OpS K tb (rI0 fun i j => .bl (decide (j < i))) (cmpD gtI) := cmp_s
theorem ge_s : OpS K tb (rI0 fun i j => .bl (decide (j ≤ i))) (cmpD geI) := cmp_s
end
mutual
def pyD : D → Option PyData
  | .non => some .none
  | .bl b => some (.bool b)
  | .int i => some (.int i)
  | .str x => some (.str x)
  | .tup ds => (pyDs ds).bind fun ps => some (.tuple ps)
  | .fl ds => (pyDs ds).bind fun ps => some (.list ps)
  | .lst ds => (pyDs ds).bind fun ps => some (.list ps)
  | .tx _ => none
  | .dk _ => none
  | .dt _ => none
  | .rl _ _ => none
def pyDs : List D → Option (List PyData)
  | [] => some []
  | d :: ds => (pyD d).bind fun x => (pyDs ds).bind fun xs => some (x :: xs)
end
section
variable {K : FRG} {tb : List Addr}
mutual
theorem pyD_dp {φ ψ : List Addr} {H : Hp} : ∀ {d : D} {v : V} {p : PyData}, Rep K φ ψ H d v → pyD d = some p → Dp K H v p
  | .non, v, p, h, e => by cases h; rw [pyD] at e; cases e; exact .non
  | .bl b, v, p, h, e => by cases h; rw [pyD] at e; cases e; exact .bl b
  | .int i, v, p, h, e => by cases h; rw [pyD] at e; cases e; exact .int i
  | .str x, v, p, h, e => by cases h; rw [pyD] at e; cases e; exact .str x
  | .tup ds, v, p, h, e => by
    rw [pyD] at e
    obtain ⟨ps, e1, e⟩ := bnd e
    cases e
    cases h with
    | tup h r => exact .tup h.1 (pyDs_dp r e1)
  | .fl ds, v, p, h, e => by
    rw [pyD] at e
    obtain ⟨ps, e1, e⟩ := bnd e
    cases e
    cases h with
    | fl h r => exact .lst h.sq (pyDs_dp r e1)
  | .lst ds, v, p, h, e => by
    rw [pyD] at e
    obtain ⟨ps, e1, e⟩ := bnd e
    cases e
    cases h with
    | lst h1 h2 h r => exact .lst (SqL.of h) (pyDs_dp r e1)
  | .tx _, v, p, h, e => by rw [pyD] at e; cases e
  | .dk _, v, p, h, e => by rw [pyD] at e; cases e
  | .dt _, v, p, h, e => by rw [pyD] at e; cases e
  | .rl _ _, v, p, h, e => by rw [pyD] at e; cases e
theorem pyDs_dp {φ ψ : List Addr} {H : Hp} : ∀ {ds : List D} {vs : List V} {ps : List PyData}, Reps K φ ψ H ds vs → pyDs ds = some ps → DpAll K H vs ps
  | [], vs, ps, h, e => by cases h; rw [pyDs] at e; cases e; exact .nil
  | d :: ds, vs, ps, h, e => by
    rw [pyDs] at e
    obtain ⟨p, e1, e⟩ := bnd e
    obtain ⟨qs, e2, e⟩ := bnd e
    cases e
    cases h with
    | cons h r => exact .cons (pyD_dp h e1) (pyDs_dp r e2)
end
theorem RepC.dp {φ ψ : List Addr} {H : Hp} {d : D} {v : V} {p : PyData} (h : RepC K φ ψ H d v) (e : pyD d = some p) : Dp K H v p := by
  rcases h with h | ⟨a, mo, rfl, rfl, q⟩
  · exact pyD_dp h e
  · cases mo with
    | lst ds =>
      rw [moD, pyD] at e
      obtain ⟨ps, e1, e⟩ := bnd e
      cases e
      obtain ⟨vs, q1, q2⟩ := q
      exact .lst (SqL.of q1) (pyDs_dp q2 e1)
    | dk kvs => rw [moD, pyD] at e; cases e
    | dt kvs => rw [moD, pyD] at e; cases e
    | rl b k => rw [moD, pyD] at e; cases e
def sc : D → Option V
  | .non => some .non
  | .bl b => some (.bl b)
  | .int i => some (.int i)
  | .str x => some (.str x)
  | _ => none
theorem sc_rep {φ ψ : List Addr} {H : Hp} {d : D} {v w : V} (h : RepC K φ ψ H d v) (e : sc d = some w) : v = w := by
  cases d <;> first | (cases e; first | exact h.non | exact h.bl | exact h.int | exact h.str) | (cases e)
def eqB (neg : Bool) (dx dy : D) : Option Bool := match sc dx, sc dy with
  | some x, some y => if scal x y = true then some (decide (x = y) != neg) else none
  | _, _ => match pyD dx, pyD dy with
    | some p, some q => if SeqAt.shaped p = true ∧ SeqAt.shaped q = true then some (PyData.eqv p q != neg) else none
    | _, _ => none
def eqD (neg : Bool) : D → D → Option W := fun dx dy => (eqB neg dx dy).bind fun b => some (.v (.bl b))
abbrev rEqA (K : FRG) : R2 := fun x y H Q => rEq x y H Q ∨ rEqD K x y H Q
abbrev rNeA (K : FRG) : R2 := fun x y H Q => rNe x y H Q ∨ rNeD K x y H Q
theorem op_eqA {X : Cx} (hu : X.A.units + 64 < cLine) : OpR X (compareOp .Eq) (rEqA X.K) := op_eq.or (op_eqD hu)
theorem op_neA {X : Cx} (hu : X.A.units + 64 < cLine) : OpR X (compareOp .NotEq) (rNeA X.K) := op_ne.or (op_neD hu)
theorem eq_s : OpS K tb (rEqA K) (eqD false) := fun φ ψ H m x y dx dy w Q R hx hy e k => by
  obtain ⟨b, e1, e2⟩ := bnd e
  cases e2
  unfold eqB at e1
  split at e1
  · rename_i a c h1 h2
    split at e1
    · rename_i hs
      cases e1
      rw [sc_rep hx h1, sc_rep hy h2]
      exact .inl ⟨hs, Go.val k R (by rw [Bool.bne_false]; exact .bl _)⟩
    · cases e1
  · split at e1
    · rename_i p q h1 h2
      split at e1
      · rename_i hs
        cases e1
        exact .inr ⟨p, q, hx.dp h1, hy.dp h2, hs.1, hs.2, Go.val k R (by rw [Bool.bne_false]; exact .bl _)⟩
      · cases e1
    · cases e1
theorem ne_s : OpS K tb (rNeA K) (eqD true) := fun φ ψ H m x y dx dy w Q R hx hy e k => by
  obtain ⟨b, e1, e2⟩ := bnd e
  cases e2
  unfold eqB at e1
  split at e1
  · rename_i a c h1 h2
    split at e1
    · rename_i hs
      cases e1
      rw [sc_rep hx h1, sc_rep hy h2]
      exact .inl ⟨hs, Go.val k R (by rw [Bool.bne_true]; exact .bl _)⟩
    · cases e1
  · split at e1
    · rename_i p q h1 h2
      split at e1
      · rename_i hs
        cases e1
        exact .inr ⟨p, q, hx.dp h1, hy.dp h2, hs.1, hs.2, Go.val k R (by rw [Bool.bne_true]; exact .bl _)⟩
      · cases e1
    · cases e1
def ixD : D → D → Option W
  | .tup ds, .int i => (atI ds i).bind fun d => some (.v d)
  | .fl ds, .int i => (atI ds i).bind fun d => some (.v d)
  | .lst ds, .int i => (atI ds i).bind fun d => some (.v d)
  | _, _ => none
theorem Reps.at {φ ψ : List Addr} {H : Hp} {ds : List D} {vs : List V} {i : Int} {d : D} (r : Reps K φ ψ H ds vs) (e : atI ds i = some d) : ∃ v, atI vs i = some v ∧ Rep K φ ψ H d v := by
  unfold atI at e ⊢
  obtain ⟨j, e1, e2⟩ := bnd e
  obtain ⟨v, h1, h2⟩ := r.get e2
  exact ⟨v, by rw [← r.length, e1]; exact h1, h2⟩
abbrev rIxLT (K : FRG) : R2 := fun x y H Q => rIxL K x y H Q ∨ rIxT K x y H Q
theorem ix_lt {X : Cx} : IxR X (rIxLT X.K) := ix_list.or ix_tup
theorem ix_s : OpS K tb (rIxLT K) ixD := fun φ ψ H m x y dx dy w Q R hx hy e k => by
  unfold ixD at e
  split at e
  · obtain ⟨z, e1, e2⟩ := bnd e
    cases e2
    obtain ⟨a, vs, rfl, h, r⟩ := hx.tup
    rw [hy.int]
    obtain ⟨v, h1, h2⟩ := r.at e1
    exact .inr ⟨_, _, _, v, rfl, rfl, h, h1, Go.val k R h2⟩
  · obtain ⟨z, e1, e2⟩ := bnd e
    cases e2
    obtain ⟨a, vs, rfl, h, r⟩ := hx.fl
    rw [hy.int]
    obtain ⟨v, h1, h2⟩ := r.at e1
    exact .inl ⟨_, _, _, v, rfl, rfl, h, h1, Go.val k R h2⟩
  · obtain ⟨z, e1, e2⟩ := bnd e
    cases e2
    obtain ⟨a, vs, rfl, h, r⟩ := hx.lst
    rw [hy.int]
    obtain ⟨v, h1, h2⟩ := r.at e1
    exact .inl ⟨_, _, _, v, rfl, rfl, SqL.of h, h1, Go.val k R h2⟩
  · cases e
theorem ex_ix {X : Cx} {tb : List Addr} {a b : Expr} {fa fb : Ex} {pos : Pos} (ha : PE X a (T X.K tb fa)) (hb : PE X b (T X.K tb fb)) (hs : PlainIx b := by exact fun _ _ => rfl) : PE X (.Subscript a b pos) (T X.K tb (eOp ixD fa fb)) :=
  pe_mono (pe_ix ix_lt ha hb hs) fun _ _ _ h => op_go ix_s h
abbrev Ox := Env → Mem → Option (Option Int × Mem)
def To (K : FRG) (tb : List Addr) (f : Ox) : TO := fun σ H Q => ∃ φ ψ ρ m o m', Rel K tb φ ψ H m ∧ RE K φ ψ H ρ σ ∧ f ρ m = some (o, m') ∧ ∀ φ' H', Post φ ψ H φ' ψ H' → Rel K tb φ' ψ H' m' → Q o H'
def oNone : Ox := fun _ m => some (none, m)
def inD' : D → Option Int
  | .int i => some i
  | _ => none
def oSome (a : Ex) : Ox := fun ρ m => (a ρ m).bind fun p => (gt p.1 p.2).bind fun d => (inD' d).bind fun i => some (some i, p.2)
theorem inD_v {φ ψ : List Addr} {H : Hp} {d : D} {v : V} {i : Int} (h : RepC K φ ψ H d v) (e : inD' d = some i) : v = .int i := by
  unfold inD' at e
  split at e
  · cases e; exact h.int
  · cases e
theorem po_mono {X : Cx} {e : Option Expr} {t t' : TO} (h : PO X e t) (i : ∀ σ H Q, t' σ H Q → t σ H Q) : PO X e t' := ⟨fun pins s σ H Q I q => h.run pins s σ H Q I (i σ H Q q)⟩
theorem ox_none {X : Cx} {tb : List Addr} : PO X none (To X.K tb oNone) := po_mono po_none fun σ H Q ⟨φ, ψ, ρ, m, d, m', R, E, e, k⟩ => by
  cases e; exact k φ H .refl R
theorem ox_some {X : Cx} {tb : List Addr} {a : Expr} {fa : Ex} (ha : PE X a (T X.K tb fa)) : PO X (some a) (To X.K tb (oSome fa)) := by
  refine po_mono (po_some ha) fun σ H Q ⟨φ, ψ, ρ, m, d, m', R, E, e, k⟩ => ?_
  obtain ⟨⟨w1, m1⟩, e1, e⟩ := bnd e
  obtain ⟨d1, e2, e⟩ := bnd e
  obtain ⟨i, e3, e⟩ := bnd e
  cases e
  exact ⟨φ, ψ, ρ, m, w1, _, R, E, e1, fun φ1 ψ1 H1 x P1 R1 V1 => ⟨_, inD_v (gt_c (V1.rel R1) (V1.s R1) e2) e3, k φ1 H1 (V1.post P1) (V1.rel R1)⟩⟩
def cutD (ds : List D) (lo hi : Option Int) : List D := (ds.drop (HT.sIx ds.length 0 lo)).take (HT.sIx ds.length ds.length hi - HT.sIx ds.length 0 lo)
theorem Reps.cut {φ ψ : List Addr} {H : Hp} {ds : List D} {vs : List V} (r : Reps K φ ψ H ds vs) (lo hi : Option Int) : Reps K φ ψ H (cutD ds lo hi) (cutV vs lo hi) := by
  unfold cutD cutV
  rw [r.length]
  exact (r.drop _).take _
def slcD : D → Option Int → Option Int → Option W
  | .lst ds, lo, hi => some (.f (.lst (cutD ds lo hi)))
  | .fl ds, lo, hi => some (.f (.lst (cutD ds lo hi)))
  | .tup ds, lo, hi => some (.v (.tup (cutD ds lo hi)))
  | _, _, _ => none
def eSlc (a : Ex) (lo hi : Ox) : Ex := fun ρ m => (a ρ m).bind fun p => (lo ρ p.2).bind fun l => (hi ρ l.2).bind fun h => (gt p.1 h.2).bind fun d => (slcD d l.1 h.1).bind fun w => some (w, h.2)
abbrev rSlLT (K : FRG) : V → Option Int → Option Int → Hp → VK → Prop := fun x lo hi H Q => rSlL K x lo hi H Q ∨ rSlA K x lo hi H Q
theorem sl_lt {X : Cx} : SlR X (rSlLT X.K) := sl_list.or sl_tupA
theorem cut_whole {ds : List D} {lo hi : Option Int} (h : HT.sIx ds.length 0 lo = 0 ∧ HT.sIx ds.length ds.length hi = ds.length) : cutD ds lo hi = ds := by
  unfold cutD
  rw [h.1, h.2]
  simp
theorem ex_sl {X : Cx} {tb : List Addr} {a : Expr} {lo hi : Option Expr} {fa : Ex} {fl fh : Ox} {pos p2 : Pos} (ha : PE X a (T X.K tb fa)) (hl : PO X lo (To X.K tb fl)) (hh : PO X hi (To X.K tb fh)) : PE X (.Subscript a (.Slice lo hi none p2) pos) (T X.K tb (eSlc fa fl fh)) := by
  refine pe_mono (pe_slice sl_lt ha hl hh) fun σ H Q ⟨φ, ψ, ρ, m, w, m', R, E, e, k⟩ => ?_
  obtain ⟨⟨w1, m1⟩, e1, e⟩ := bnd e
  obtain ⟨⟨o2, m2⟩, e2, e⟩ := bnd e
  obtain ⟨⟨o3, m3⟩, e3, e⟩ := bnd e
  obtain ⟨d, ed, e⟩ := bnd e
  obtain ⟨w2, eg, e⟩ := bnd e
  cases e
  refine ⟨φ, ψ, ρ, m, w1, m1, R, E, e1, fun φ1 ψ1 H1 x P1 R1 V1 => ⟨φ1, ψ, ρ, m1, o2, m2, V1.rel R1, E.mono (V1.post P1) R, e2, fun φ2 H2 P2 R2 => ⟨φ2, ψ, ρ, m2, o3, _, R2, E.mono ((V1.post P1).trans P2) R, e3, fun φ3 H3 P3 R3 => ?_⟩⟩⟩
  have P := (V1.post P1).trans (P2.trans P3)
  have C := gt_c R3 ((V1.s R1).mono (P2.trans P3) (V1.rel R1)) ed
  have k' : Go X.K tb φ3 ψ H3 _ w Q := fun φ4 ψ4 H4 v P4 R4 V4 => k φ4 ψ4 H4 v (P.trans P4) R4 V4
  have e' : slcD d o2 o3 = some w := eg
  unfold slcD at e'
  split at e'
  · cases e'
    obtain ⟨q, vs, rfl, hq, r⟩ := C.lst
    exact .inl ⟨q, vs, rfl, SqL.of hq, fun p hp => Go.lst k' R3 (r.cut _ _) hp⟩
  · cases e'
    obtain ⟨q, vs, rfl, hq, r⟩ := C.fl
    exact .inl ⟨q, vs, rfl, hq, fun p hp => Go.lst k' R3 (r.cut _ _) hp⟩
  · cases e'
    obtain ⟨q, vs, rfl, hq, r⟩ := C.tupN
    refine .inr ⟨_, _, rfl, hq.1, fun z => ?_, fun z p hp => Go.tup k' R3 (r.cut _ _) hp⟩
    rw [← r.length] at z
    rw [cut_whole z] at k'
    exact Go.val k' R3 (.tup hq r)
  · cases e'
end
end Pw
end
section
set_option Elab.async false
set_option linter.all false
set_option maxRecDepth 100000
set_option maxHeartbeats 1000000
namespace Pw
open PySem PySem.Spec PyProof.Rows L2
def ownW : W → Mem → Option (W × Mem)
  | .f d, m => (dMO d).bind fun mo => some (.r m.length, m ++ [mo])
  | .r n, m => some (.r n, m)
  | .v _, _ => none
def eOwn (a : Ex) : Ex := fun ρ m => (a ρ m).bind fun p => ownW p.1 p.2
theorem own_go {K : FRG} {tb : List Addr} {f : Ex} {σ : L2.St} {H : Hp} {Q : VK} (h : T K tb (eOwn f) σ H Q) : T K tb f σ H Q := by
  obtain ⟨φ, ψ, ρ, m, w, m', R, E, e, k⟩ := h
  obtain ⟨⟨w1, m1⟩, e1, e⟩ := bnd e
  refine ⟨φ, ψ, ρ, m, w1, m1, R, E, e1, fun φ1 ψ1 H1 v P1 R1 V1 => ?_⟩
  cases w1 with
  | v d => cases e
  | r n => cases e; exact k φ1 ψ1 H1 v P1 R1 V1
  | f d =>
    obtain ⟨mo, e2, e⟩ := bnd (show (dMO d).bind _ = _ from e)
    cases e
    obtain ⟨p, mo', rfl, rfl, np, rfl, q⟩ := V1
    have : mo' = mo := by cases mo' <;> cases e2 <;> rfl
    subst this
    exact k (φ1 ++ [p]) ψ H1 _ (P1.own np) (R1.own np q) ⟨rfl, p, by rw [← R1.len]; simp, rfl⟩
theorem ex_own {X : Cx} {tb : List Addr} {a : Expr} {fa : Ex} (h : PE X a (T X.K tb fa)) : PE X a (T X.K tb (eOwn fa)) := pe_mono h fun _ _ _ => own_go
def sNil : Sx := fun ρ m => some (.nx, ρ, m)
def sSeq (a b : Sx) : Sx := fun ρ m => (a ρ m).bind fun r => match r.1 with
  | .nx => b r.2.1 r.2.2
  | o => some (o, r.2.1, r.2.2)
def sRet (a : Ex) : Sx := fun ρ m => (a ρ m).bind fun p => some (.ret p.1, ρ, p.2)
def sDrop (a : Ex) : Sx := fun ρ m => (a ρ m).bind fun p => some (.nx, ρ, p.2)
def sIf (t : Tx) (a b : Sx) : Sx := fun ρ m => (t ρ m).bind fun p => if p.1 = true then a ρ p.2 else b ρ p.2
def sSet (i : Nat) (a : Ex) : Sx := fun ρ m => (a ρ m).bind fun p => some (.nx, ρ.set i (some (stl p.1)), p.2)
def sFog (vs : List Nat) (a : Sx) : Sx := fun ρ m => (a ρ m).bind fun r => some (r.1, wipeD r.2.1 vs, r.2.2)
def vl : W → Option D
  | .v d => some d
  | .f d => some d
  | .r _ => none
theorem vl_rep {K : FRG} {φ ψ : List Addr} {H : Hp} {w : W} {v : V} {d : D} (h : RepS K φ ψ H w v) (e : vl w = some d) : Rep K φ ψ H d v := by
  cases w <;> first | (cases e; exact h) | (cases e)
def putD : W → D → D → Mem → Option Mem
  | .r n, .int i, d, m => match m[n]? with
    | some (.lst ds) => (ixN ds.length i).map fun j => m.set n (.lst (ds.set j d))
    | _ => none
  | _, _, _, _ => none
def sPut (o i a : Ex) : Sx := fun ρ m => (a ρ m).bind fun p => (o ρ p.2).bind fun q => (i ρ q.2).bind fun r => (vl p.1).bind fun d => (gt r.1 r.2).bind fun i => (putD q.1 i d r.2).bind fun m' => some (.nx, ρ, m')
section
variable {X : Cx} {tb : List Addr} {a b c : Expr} {fa fb fc : Ex} {ft : Tx} {st : Stmt} {rest rest' : List Stmt} {g h : Sx} {pos : Pos}
theorem bs_nil : PSs X [] (Ts X.K tb sNil) := pss_mono pss_nil fun D σ H ⟨φ, ψ, ρ, m, o, ρ', m', R, E, e, k⟩ => by
  cases e; exact k φ ψ H .refl R rfl σ E
theorem bs_cons (h1 : PS X st (Ts X.K tb g)) (h2 : PSs X rest (Ts X.K tb h)) : PSs X (st :: rest) (Ts X.K tb (sSeq g h)) := by
  refine pss_mono (pss_cons h1 h2) fun D σ H ⟨φ, ψ, ρ, m, o, ρ', m', R, E, e, k⟩ => ?_
  obtain ⟨⟨o1, ρ1, m1⟩, e1, e⟩ := bnd e
  refine ⟨φ, ψ, ρ, m, o1, ρ1, m1, R, E, e1, fun φ1 ψ1 H1 P1 R1 => ?_⟩
  cases o1 with
  | nx =>
    intro z σ1 E1
    subst z
    exact ⟨φ1, _, ρ1, m1, o, ρ', m', R1, E1, e, fun φ2 ψ2 H2 P2 R2 => k φ2 ψ2 H2 (P1.trans P2) R2⟩
  | bk => cases e; exact k φ1 ψ1 H1 P1 R1
  | ct => cases e; exact k φ1 ψ1 H1 P1 R1
  | ret d => cases e; exact k φ1 ψ1 H1 P1 R1
theorem bs_one (h1 : PS X st (Ts X.K tb g)) : PSs X [st] (Ts X.K tb g) := pss_one h1
theorem bs_fog (vs : List Nat) (h1 : PS X st (Ts X.K tb g)) : PS X st (Ts X.K tb (sFog vs g)) := by
  refine ps_mono h1 fun D σ H ⟨φ, ψ, ρ, m, o, ρ', m', R, E, e, k⟩ => ?_
  obtain ⟨⟨o1, ρ1, m1⟩, e1, e⟩ := bnd e
  cases e
  refine ⟨φ, ψ, ρ, m, o1, ρ1, _, R, E, e1, fun φ1 ψ1 H1 P1 R1 => ?_⟩
  have q := k φ1 ψ1 H1 P1 R1
  cases o1 with
  | nx => exact fun z σ1 E1 => q z σ1 (E1.fog vs)
  | bk => exact fun z σ1 E1 => q z σ1 (E1.fog vs)
  | ct => exact fun z σ1 E1 => q z σ1 (E1.fog vs)
  | ret d => exact q
theorem bs_ret (ha : PE X a (T X.K tb fa)) : PS X (.Return (some a) pos) (Ts X.K tb (sRet fa)) := by
  refine ps_mono (ps_ret ha) fun D σ H ⟨φ, ψ, ρ, m, o, ρ', m', R, E, e, k⟩ => ?_
  obtain ⟨⟨d1, m1⟩, e1, e⟩ := bnd e
  cases e
  exact ⟨φ, ψ, ρ, m, d1, _, R, E, e1, fun φ1 ψ1 H1 v P1 R1 V1 => k φ1 ψ1 H1 P1 R1 v V1⟩
theorem bs_drop (ha : PE X a (T X.K tb fa)) (hs : swapsWith a none pos.line X.env = pure false := by rfl) : PS X (.Expr a pos) (Ts X.K tb (sDrop fa)) := by
  refine ps_mono (ps_expr ha hs) fun D σ H ⟨φ, ψ, ρ, m, o, ρ', m', R, E, e, k⟩ => ?_
  obtain ⟨⟨d1, m1⟩, e1, e⟩ := bnd e
  cases e
  exact ⟨φ, ψ, ρ, m, d1, _, R, E, e1, fun φ1 ψ1 H1 v P1 R1 V1 => k φ1 ψ H1 (V1.post P1) (V1.rel R1) rfl σ (E.mono (V1.post P1) R)⟩
theorem bs_if (hc : PT X c (Tt X.K tb ft)) (h1 : PSs X rest (Ts X.K tb g)) (h2 : PSs X rest' (Ts X.K tb h)) : PS X (.If c rest rest' pos) (Ts X.K tb (sIf ft g h)) := by
  refine ps_mono (ps_if hc h1 h2) fun D σ H ⟨φ, ψ, ρ, m, o, ρ', m', R, E, e, k⟩ => ?_
  obtain ⟨⟨b1, m1⟩, e1, e⟩ := bnd e
  refine ⟨φ, ψ, ρ, m, b1, m1, R, E, e1, fun φ1 H1 P1 R1 => ?_⟩
  cases b1 with
  | true => exact iteT ⟨φ1, ψ, ρ, m1, o, ρ', m', R1, E.mono P1 R, e, fun φ2 ψ2 H2 P2 R2 => k φ2 ψ2 H2 (P1.trans P2) R2⟩
  | false => exact iteF ⟨φ1, ψ, ρ, m1, o, ρ', m', R1, E.mono P1 R, e, fun φ2 ψ2 H2 P2 R2 => k φ2 ψ2 H2 (P1.trans P2) R2⟩
theorem set_go {i : Nat} {D : Ends} {σ : L2.St} {H : Hp} (h : Ts X.K tb (sSet i fa) D σ H) : tAsg (T X.K tb fa) (gName i) D σ H := by
  obtain ⟨φ, ψ, ρ, m, o, ρ', m', R, E, e, k⟩ := h
  obtain ⟨⟨d1, m1⟩, e1, e⟩ := bnd e
  cases e
  exact ⟨φ, ψ, ρ, m, d1, _, R, E, e1, fun φ1 ψ1 H1 v P1 R1 V1 => k φ1 ψ H1 (V1.post P1) (V1.rel R1) rfl _ ((E.mono (V1.post P1) R).set i (V1.s R1).stl)⟩
theorem bs_set (i : Nat) {x : Str} {pos' : Pos} (hN : X.N.Nodup) (ha : PE X a (T X.K tb fa)) (hi : X.N[i]? = some x := by rfl) (hx : Loc X.env.scope x := by first | exact Or.inl rfl | exact Or.inr rfl) (hs : swapsWith a (some (.Name x pos')) pos.line X.env = pure false := by rfl)
    (hf : X.fn x = true ∨ X.env.scope.names.lookup x = some .local := by first | exact .inl rfl | exact .inr rfl | assumption) : PS X (.Assign [.Name x pos'] a pos) (Ts X.K tb (sSet i fa)) :=
  ps_mono (ps_set hN hi hx ha hs hf) fun _ _ _ h => set_go h
theorem bs_put {o i : Expr} {fo fi : Ex} {tpos : Pos} (ho : PE X o (T X.K tb fo)) (hi : PE X i (T X.K tb fi)) (ha : PE X a (T X.K tb fa))
    (hss : ∀ v, assign (.Subscript o i tpos) X.env v = (do
      let ov ← holding [v] (eval o X.env)
      let iv ← holding [v, ov] (eval i X.env)
      standAt tpos
      holding [v, ov, iv] (setItem ov iv v)
      release [v, ov, iv] []) := by intro _; rfl)
    (hs : swapsWithSole [.Subscript o i tpos] a pos.line X.env = pure false := by rfl) (hw : swappedStores [.Subscript o i tpos] a X.env = pure none := by rfl)
    (h1 : (assignEach [.Subscript o i tpos] X.env).map (·.2) = [assign (.Subscript o i tpos) X.env] := by rfl) : PS X (.Assign [.Subscript o i tpos] a pos) (Ts X.K tb (sPut fo fi fa)) := by
  refine ps_mono (ps_asg ha (pg_sub ho hi set_list hss) hs hw h1) fun D σ H ⟨φ, ψ, ρ, m, o', ρ', m', R, E, e, k⟩ => ?_
  obtain ⟨⟨w1, m1⟩, e1, e⟩ := bnd e
  obtain ⟨⟨w2, m2⟩, e2, e⟩ := bnd e
  obtain ⟨⟨w3, m3⟩, e3, e⟩ := bnd e
  obtain ⟨d1, ev, e⟩ := bnd e
  obtain ⟨d3, eg, e⟩ := bnd e
  obtain ⟨m4, e4, e⟩ := bnd e
  cases e
  refine ⟨φ, ψ, ρ, m, w1, m1, R, E, e1, fun φ1 ψ1 H1 v P1 R1 V1 => ⟨φ1, ψ, ρ, m1, w2, m2, V1.rel R1, E.mono (V1.post P1) R, e2, fun φ2 ψ2 H2 x P2 R2 V2 => ⟨φ2, ψ, ρ, m2, w3, m3, V2.rel R2, E.mono ((V1.post P1).trans (V2.post P2)) R, e3, fun φ3 ψ3 H3 y P3 R3 V3 => ?_⟩⟩⟩
  have R3' := V3.rel R3
  have P3' := V3.post P3
  have e4' : putD w2 d3 d1 m3 = some m' := e4
  have P123 := (V1.post P1).trans ((V2.post P2).trans P3')
  unfold putD at e4'
  split at e4'
  · rename_i n i _ _
    split at e4'
    · rename_i hm
      obtain ⟨j, hj, rfl⟩ := Option.map_eq_some_iff.mp e4'
      have hy := (gt_c R3' (V3.s R3) eg).int
      subst hy
      obtain ⟨q, h1, rfl⟩ := (V2.s R2).mono P3' (V2.rel R2)
      obtain ⟨vs, hq, r⟩ := R3'.obj _ _ q hm h1
      have V1' := (vl_rep (V1.s R1) ev).mono ((V2.post P2).trans P3') (V1.rel R1)
      have hmem := List.mem_of_getElem? h1
      have Pw : Post φ3 ψ H3 φ3 ψ _ := Post.wr (o := .lst (vs.set j v)) hmem (R3'.trk hmem)
      refine ⟨q, vs, _, j, rfl, rfl, hq, by rw [← r.length]; exact hj, ?_⟩
      have P := P123.trans Pw
      exact k φ3 ψ _ P (R3'.wrL h1 (r.set V1' j)) rfl σ (E.mono P R)
    · cases e4'
  · cases e4'
end
inductive Itm where
  | seq (ds : List D)
  | lst (n : Nat)
  | zip (a b : Itm)
def itemsAt : Itm → Mem → Option (List D)
  | .seq ds, _ => some ds
  | .lst n, m => match m[n]? with
    | some (.lst ds) => some ds
    | _ => none
  | .zip a b, m => (itemsAt a m).bind fun xs => (itemsAt b m).bind fun ys => some (List.zipWith (fun x y => D.tup [x, y]) xs ys)
abbrev Ix := Env → Mem → Option (Itm × Mem)
def ItR (K : FRG) (tb : List Addr) (φ' ψ : List Addr) (H' : Hp) (J : It) (it : Itm) : Prop := ∀ φ2 ψ2 H2 m2 xs, Post φ' ψ H' φ2 ψ2 H2 → Rel K tb φ2 ψ2 H2 m2 → itemsAt it m2 = some xs →
  (∀ (i : Nat) (d : D), xs[i]? = some d → J.go i H2 ∧ ∀ x H3, J.yld i H2 x H3 → Post φ2 ψ2 H2 φ2 ψ2 H3 ∧ Rel K tb φ2 ψ2 H3 m2 ∧ Rep K φ2 ψ2 H3 d x ∧ (∀ b o, H2 b = some o → H3 b = some o)) ∧ ∀ i, xs.length ≤ i → J.stop i H2
def Ti (K : FRG) (tb : List Addr) (f : Ix) : TI := fun σ H Q => ∃ φ ψ ρ m it m', Rel K tb φ ψ H m ∧ RE K φ ψ H ρ σ ∧ f ρ m = some (it, m') ∧ ∀ φ' H' J, Post φ ψ H φ' ψ H' → Rel K tb φ' ψ H' m' → ItR K tb φ' ψ H' J it → Q J H'
theorem pi_mono {X : Cx} {tg e : Expr} {t t' : TI} (h : PI X tg e t) (i : ∀ σ H Q, t' σ H Q → t σ H Q) : PI X tg e t' := ⟨fun pins s σ H Q I q => h.run pins s σ H Q I (i σ H Q q)⟩
theorem pi_or {X : Cx} {tg e : Expr} {t t' : TI} (h : PI X tg e t) (h' : PI X tg e t') : PI X tg e (fun σ H Q => t σ H Q ∨ t' σ H Q) := ⟨fun pins s σ H Q I q => q.elim (h.run pins s σ H Q I) (h'.run pins s σ H Q I)⟩
def srcV : D → Option Itm
  | .tup ds => some (.seq ds)
  | .fl ds => some (.seq ds)
  | .lst ds => some (.seq ds)
  | _ => none
def srcW : W → Mem → Option Itm
  | .v d, _ => srcV d
  | .f d, _ => srcV d
  | .r n, m => match m[n]? with
    | some (.lst _) => some (.lst n)
    | _ => none
def iSeq (a : Ex) : Ix := fun ρ m => (a ρ m).bind fun p => (srcW p.1 p.2).bind fun it => some (it, p.2)
theorem Rep.is {K : FRG} {φ ψ : List Addr} {H : Hp} {d : D} {v w : V} (h : Rep K φ ψ H d v) (e : v = w) : Rep K φ ψ H d w := e ▸ h
theorem ix_seq' {X : Cx} {tb : List Addr} {tg a : Expr} {fa : Ex} (ha : PE X a (T X.K tb fa)) : PI X tg a (Ti X.K tb (iSeq fa)) := by
  refine pi_mono (pi_or (pi_list ha) (pi_tup ha)) fun σ H Q ⟨φ, ψ, ρ, m, it, m', R, E, e, k⟩ => ?_
  obtain ⟨⟨w1, m1⟩, e1, e⟩ := bnd e
  obtain ⟨it', e2, e⟩ := bnd e
  obtain ⟨rfl, rfl⟩ : it' = it ∧ m1 = m' := by cases e; exact ⟨rfl, rfl⟩
  have e2' : srcW w1 m1 = some it' := e2
  have val : ∀ d, vl w1 = some d → srcV d = some it' → iList X.K (T X.K tb fa) σ H Q ∨ iTup X.K (T X.K tb fa) σ H Q := fun d hv hs => by
    unfold srcV at hs
    split at hs
    · cases hs
      refine .inr ⟨φ, ψ, ρ, m, _, m1, R, E, e1, fun φ1 ψ1 H1 v P1 R1 V1 => ?_⟩
      have R1' := V1.rel R1
      cases vl_rep (V1.s R1) hv with
      | tup h r =>
        refine ⟨_, rfl, ⟨_, h.1⟩, k φ1 H1 _ (V1.post P1) R1' fun φ2 ψ2 H2 m2 xs P2 R2 ex => ?_⟩
        cases ex
        have h2 := P2.sqT R1' h.1
        have r2 := r.mono P2 R1'
        refine ⟨fun i d hd => ?_, fun i hi => ⟨_, h2, by rw [← r2.length]; exact hi⟩⟩
        obtain ⟨w, hw, rw⟩ := r2.get hd
        refine ⟨⟨_, w, h2, hw⟩, fun x H3 hy => ?_⟩
        obtain ⟨rfl, hy⟩ := hy
        exact ⟨.refl, R2, rw.is (Option.some.inj (hw.symm.trans (hy _ h2))), fun _ _ z => z⟩
    · cases hs
      refine .inl ⟨φ, ψ, ρ, m, _, m1, R, E, e1, fun φ1 ψ1 H1 v P1 R1 V1 => ?_⟩
      have R1' := V1.rel R1
      cases vl_rep (V1.s R1) hv with
      | fl h r =>
        refine ⟨_, rfl, ⟨_, h.sq⟩, k φ1 H1 _ (V1.post P1) R1' fun φ2 ψ2 H2 m2 xs P2 R2 ex => ?_⟩
        cases ex
        have h2 := (P2.fz R1' h).sq
        have r2 := r.mono P2 R1'
        refine ⟨fun i d hd => ?_, fun i hi => ⟨_, h2, by rw [← r2.length]; exact hi⟩⟩
        obtain ⟨w, hw, rw⟩ := r2.get hd
        refine ⟨⟨_, w, h2, hw⟩, fun x H3 hy => ?_⟩
        obtain ⟨rfl, hy⟩ := hy
        exact ⟨.refl, R2, rw.is (Option.some.inj (hw.symm.trans (hy _ h2))), fun _ _ z => z⟩
    · cases hs
      refine .inl ⟨φ, ψ, ρ, m, _, m1, R, E, e1, fun φ1 ψ1 H1 v P1 R1 V1 => ?_⟩
      have R1' := V1.rel R1
      cases vl_rep (V1.s R1) hv with
      | lst g1 g2 h r =>
        refine ⟨_, rfl, ⟨_, SqL.of h⟩, k φ1 H1 _ (V1.post P1) R1' fun φ2 ψ2 H2 m2 xs P2 R2 ex => ?_⟩
        cases ex
        have h2 : SqL X.K H2 _ _ := SqL.of (P2.off g1 g2 h (fun _ z => nomatch z) fun _ z => nomatch z).2.2
        have r2 := r.mono P2 R1'
        refine ⟨fun i d hd => ?_, fun i hi => ⟨_, h2, by rw [← r2.length]; exact hi⟩⟩
        obtain ⟨w, hw, rw⟩ := r2.get hd
        refine ⟨⟨_, w, h2, hw⟩, fun x H3 hy => ?_⟩
        obtain ⟨rfl, hy⟩ := hy
        exact ⟨.refl, R2, rw.is (Option.some.inj (hw.symm.trans (hy _ h2))), fun _ _ z => z⟩
    · cases hs
  cases w1 with
  | v d => exact val d rfl e2'
  | f d => exact val d rfl e2'
  | r n =>
    unfold srcW at e2'
    simp only at e2'
    split at e2'
    · rename_i ds0 hm
      cases e2'
      refine .inl ⟨φ, ψ, ρ, m, _, m1, R, E, e1, fun φ1 ψ1 H1 v P1 R1 V1 => ?_⟩
      have R1' := V1.rel R1
      obtain ⟨q, h1, rfl⟩ := V1.s R1
      obtain ⟨vs, hq, r⟩ := R1'.obj n _ q hm h1
      refine ⟨q, rfl, ⟨_, SqL.of hq⟩, k φ1 H1 _ (V1.post P1) R1' fun φ2 ψ2 H2 m2 xs P2 R2 ex => ?_⟩
      have hm2 : m2[n]? = some (.lst xs) := by
        unfold itemsAt at ex
        split at ex
        · rename_i h9
          cases ex
          exact h9
        · cases ex
      obtain ⟨vs2, hq2, r2⟩ := R2.obj n _ q hm2 (pre_get P2.pre h1)
      have h2 : SqL X.K H2 q vs2 := SqL.of hq2
      refine ⟨fun i d hd => ?_, fun i hi => ⟨_, h2, by rw [← r2.length]; exact hi⟩⟩
      obtain ⟨w, hw, rw⟩ := r2.get hd
      refine ⟨⟨_, w, h2, hw⟩, fun x H3 hy => ?_⟩
      obtain ⟨rfl, hy⟩ := hy
      exact ⟨.refl, R2, rw.is (Option.some.inj (hw.symm.trans (hy _ h2))), fun _ _ z => z⟩
    · cases e2'
def rngD (lo : Int) (n : Nat) : List D := (List.range n).map fun (i : Nat) => D.int (lo + (i : Int))
def rngA : List D → Option (List D)
  | [.int j] => if -1000000000 ≤ j ∧ j ≤ 1000000000 then some (rngD 0 j.toNat) else none
  | _ => none
def iRngA (a : Ax) : Ix := fun ρ m => (a ρ m).bind fun p => (gts p.1 p.2).bind fun ds => (rngA ds).bind fun xs => some (.seq xs, p.2)
theorem itr_r {K : FRG} {tb φ ψ : List Addr} {H : Hp} {lo : Int} {n : Nat} : ItR K tb φ ψ H (Itr lo n) (.seq (rngD lo n)) := fun φ2 ψ2 H2 m2 xs P2 R2 ex => by
  cases ex
  have hl : (rngD lo n).length = n := by simp [rngD]
  refine ⟨fun i d hd => ?_, fun i hi => by rw [hl] at hi; exact hi⟩
  have hi : i < n := by rw [← hl]; exact (List.getElem?_eq_some_iff.mp hd).1
  refine ⟨hi, fun x H3 hy => ?_⟩
  obtain ⟨rfl, rfl⟩ := hy
  have e : (rngD lo n)[i]? = some (.int (lo + i)) := by simp [rngD, hi]
  rw [e] at hd
  cases hd
  exact ⟨.refl, R2, .int _, fun _ _ z => z⟩
theorem ix_rng1 {X : Cx} {tb : List Addr} {tg a : Expr} {f : Ax} {p pos : Pos} (hg : Gl X "range") (hm : X.mg "range" = none) (ha : PA X [a] (Ta X.K tb f)) (hs : starEach [a] X.env = [(false, eval a X.env)] := by rfl) : PI X tg (.Call (.Name "range" p) [a] [] pos) (Ti X.K tb (iRngA f)) := by
  refine pi_mono (pi_range1 hg hm ha hs) fun σ H Q ⟨φ, ψ, ρ, m, it, m', R, E, e, k⟩ => ?_
  obtain ⟨⟨ws, m1⟩, e1, e⟩ := bnd e
  obtain ⟨ds, e2, e⟩ := bnd e
  obtain ⟨xs, e3, e⟩ := bnd e
  cases e
  refine ⟨φ, ψ, ρ, m, ws, _, R, E, e1, fun φ1 H1 vs P1 R1 V1 => ?_⟩
  have C := gts_c R1 V1 e2
  have e3' : rngA ds = some xs := e3
  unfold rngA at e3'
  split at e3'
  · rename_i j
    split at e3'
    · rename_i hb
      cases e3'
      cases C with
      | cons h1 r1 =>
        cases r1
        rw [h1.int]
        exact ⟨j, rfl, by omega, by omega, k φ1 H1 _ P1 R1 itr_r⟩
    · cases e3'
  · cases e3'
abbrev Gx := D → Env → Option Env
def gN (i : Nat) : Gx := fun d ρ => some (ρ.set i (some (.v d)))
def gL : List Gx → List D → Env → Option Env
  | [], [], ρ => some ρ
  | g :: gs, d :: ds, ρ => (g d ρ).bind fun ρ1 => gL gs ds ρ1
  | _, _, _ => none
def gT (gs : List Gx) : Gx := fun d ρ => match d with
  | .tup ds => gL gs ds ρ
  | _ => none
def TgS (K : FRG) (tb : List Addr) (g : TG) (t : Gx) : Prop := ∀ φ ψ H m ρ σ d v ρ' (Q : L2.St → Hp → Prop), Rel K tb φ ψ H m → RE K φ ψ H ρ σ → Rep K φ ψ H d v → t d ρ = some ρ' → (∀ σ', RE K φ ψ H ρ' σ' → Q σ' H) → g v σ H Q
def TgsS (K : FRG) (tb : List Addr) (g : TGs) (t : List Gx) : Prop := ∀ φ ψ H m ρ σ ds vs ρ' (Q : L2.St → Hp → Prop), Rel K tb φ ψ H m → RE K φ ψ H ρ σ → Reps K φ ψ H ds vs → gL t ds ρ = some ρ' → (∀ σ', RE K φ ψ H ρ' σ' → Q σ' H) → g vs σ H Q
def TgW (g : TG) (vs : List Nat) : Prop := ∀ v σ H (Q : L2.St → Hp → Prop), g v σ H Q → g v σ H fun σ2 H2 => wipe σ2 vs = wipe σ vs ∧ Q σ2 H2
def TgsW (g : TGs) (vs : List Nat) : Prop := ∀ v σ H (Q : L2.St → Hp → Prop), g v σ H Q → g v σ H fun σ2 H2 => wipe σ2 vs = wipe σ vs ∧ Q σ2 H2
theorem wipe_set {σ : L2.St} {x : Option V} : ∀ {vs : List Nat} {i : Nat}, i ∈ vs → wipe (σ.set i x) vs = wipe σ vs
  | [], i, h => by simp at h
  | w :: ws, i, h => by
    unfold wipe
    by_cases hi : i ∈ ws
    · rw [wipe_set hi]
    · have e : i = w := by
        rcases List.mem_cons.mp h with z | z
        · exact z
        · exact absurd z hi
      subst e
      have comm : ∀ (ws : List Nat) (τ : L2.St), i ∉ ws → wipe (τ.set i x) ws = (wipe τ ws).set i x := by
        intro ws
        induction ws with
        | nil => intro τ _; rfl
        | cons u us ih =>
          intro τ hn
          unfold wipe
          rw [ih τ fun z => hn (List.mem_cons_of_mem _ z), List.set_comm _ _ fun z => hn (by rw [z]; exact List.mem_cons_self)]
      rw [comm ws σ hi]
      simp
theorem wipe_wipe {σ : L2.St} (vs : List Nat) : wipe (wipe σ vs) vs = wipe σ vs := by
  have gen : ∀ (ws : List Nat), (∀ i ∈ ws, i ∈ vs) → wipe (wipe σ ws) vs = wipe σ vs := by
    intro ws
    induction ws with
    | nil => intro _; rfl
    | cons u us ih =>
      intro h
      show wipe ((wipe σ us).set u none) vs = _
      rw [wipe_set (h u List.mem_cons_self)]
      exact ih fun i hi => h i (List.mem_cons_of_mem _ hi)
  exact gen vs fun _ h => h
theorem tg_name {K : FRG} {tb : List Addr} (i : Nat) : TgS K tb (gName i) (gN i) := fun φ ψ H m ρ σ d v ρ' Q R E V e k => by
  cases e; exact k _ (E.set i V)
theorem tw_name (i : Nat) {vs : List Nat} (h : i ∈ vs) : TgW (gName i) vs := fun v σ H Q q => ⟨wipe_set h, q⟩
theorem tgs_nil {K : FRG} {tb : List Addr} : TgsS K tb gNil [] := fun φ ψ H m ρ σ ds vs ρ' Q R E V e k => by
  cases V with
  | nil => cases e; exact ⟨rfl, k _ E⟩
  | cons h r => cases e
theorem tgs_cons {K : FRG} {tb : List Addr} {g : TG} {gs : TGs} {t : Gx} {ts : List Gx} (h1 : TgS K tb g t) (h2 : TgsS K tb gs ts) : TgsS K tb (gCons g gs) (t :: ts) := fun φ ψ H m ρ σ ds vs ρ' Q R E V e k => by
  cases V with
  | nil => cases e
  | cons h r =>
    obtain ⟨ρ1, e1, e2⟩ := bnd (show (t _ ρ).bind (fun ρ1 => gL ts _ ρ1) = some ρ' from e)
    refine ⟨_, _, rfl, h1 φ ψ H m ρ σ _ _ ρ1 _ R E h e1 fun σ1 E1 => ?_⟩
    exact h2 φ ψ H m ρ1 σ1 _ _ ρ' Q R E1 r e2 k
theorem tws_nil {vs : List Nat} : TgsW gNil vs := fun v σ H Q q => ⟨q.1, rfl, q.2⟩
theorem tws_cons {i : Nat} {gs : TGs} {vs : List Nat} (h : i ∈ vs) (h2 : TgsW gs vs) : TgsW (gCons (gName i) gs) vs := fun v σ H Q q => by
  obtain ⟨x, r, rfl, q⟩ := q
  refine ⟨x, r, rfl, ?_⟩
  have q2 := h2 r _ H Q q
  show gs r (σ.set i (some x)) H _
  rw [wipe_set h] at q2
  exact q2
theorem gL_len : ∀ {ts : List Gx} {ds : List D} {ρ ρ' : Env}, gL ts ds ρ = some ρ' → ds.length = ts.length
  | [], [], _, _, _ => rfl
  | [], _ :: _, _, _, h => by cases h
  | _ :: _, [], _, _, h => by cases h
  | t :: ts, d :: ds, ρ, ρ', h => by
    obtain ⟨ρ1, e1, e2⟩ := bnd (show (t d ρ).bind (fun ρ1 => gL ts ds ρ1) = some ρ' from h)
    simp [gL_len e2]
theorem tg_tup {K : FRG} {tb : List Addr} {gs : TGs} {ts : List Gx} {n : Nat} (hn : ts.length = n) (h : TgsS K tb gs ts) : TgS K tb (gTup K n gs) (gT ts) := fun φ ψ H m ρ σ d v ρ' Q R E V e k => by
  cases V with
  | tup hq r => exact ⟨_, _, rfl, hq.1, by rw [← r.length, gL_len e]; exact hn, h φ ψ H m ρ σ _ _ ρ' Q R E r e k⟩
  | _ => cases e
theorem tw_tup {K : FRG} {gs : TGs} {n : Nat} {vs : List Nat} (h : TgsW gs vs) : TgW (gTup K n gs) vs := fun v σ H Q q => by
  obtain ⟨a, xs, e1, e2, e3, q⟩ := q
  exact ⟨a, xs, e1, e2, e3, h xs σ H Q q⟩
def sAsg (t : Gx) (a : Ex) : Sx := fun ρ m => (a ρ m).bind fun p => (vl p.1).bind fun d => (t d ρ).bind fun ρ' => some (.nx, ρ', p.2)
theorem bs_asg {X : Cx} {tb : List Addr} {tg a : Expr} {fa : Ex} {g : TG} {t : Gx} {pos : Pos} (ht : TgS X.K tb g t) (ha : PE X a (T X.K tb fa)) (hg : PG X tg g) (hs : swapsWithSole [tg] a pos.line X.env = pure false := by rfl) (hw : swappedStores [tg] a X.env = pure none := by rfl)
    (h1 : (assignEach [tg] X.env).map (·.2) = [assign tg X.env] := by rfl) : PS X (.Assign [tg] a pos) (Ts X.K tb (sAsg t fa)) := by
  refine ps_mono (ps_asg ha hg hs hw h1) fun D σ H ⟨φ, ψ, ρ, m, o, ρ', m', R, E, e, k⟩ => ?_
  obtain ⟨⟨d1, m1⟩, e1, e⟩ := bnd e
  obtain ⟨d, ev, e⟩ := bnd e
  obtain ⟨ρ1, e2, e⟩ := bnd e
  cases e
  exact ⟨φ, ψ, ρ, m, d1, _, R, E, e1, fun φ1 ψ1 H1 v P1 R1 V1 => ht φ1 ψ H1 _ ρ σ d v _ _ (V1.rel R1) (E.mono (V1.post P1) R) (vl_rep (V1.s R1) ev) e2 fun σ' E' => k φ1 ψ H1 (V1.post P1) (V1.rel R1) rfl σ' E'⟩
open Classical in
noncomputable def forL (it : Itm) (xs : List D) (t : Gx) (b : Sx) (dd : List Nat) : List D → Sx
  | [], ρ, m => if itemsAt it m = some xs then some (.nx, ρ, m) else none
  | d :: ds, ρ, m => if itemsAt it m = some xs then (t d ρ).bind fun ρ1 => (b ρ1 m).bind fun r => match r.1 with
      | .nx => forL it xs t b dd ds (wipeD r.2.1 dd) r.2.2
      | .ct => forL it xs t b dd ds (wipeD r.2.1 dd) r.2.2
      | .bk => some (.nx, wipeD r.2.1 dd, r.2.2)
      | .ret d => some (.ret d, r.2.1, r.2.2)
    else none
noncomputable def sFor (src : Ix) (t : Gx) (b : Sx) (dd : List Nat) : Sx := fun ρ m => (src ρ m).bind fun p => (itemsAt p.1 p.2).bind fun xs => forL p.1 xs t b dd xs ρ p.2
theorem bs_for {X : Cx} {tb : List Addr} {tg iter : Expr} {body : List Stmt} {src : Ix} {g : TG} {t : Gx} {b : Sx} {dd : List Nat} {pos : Pos} (hc : X.calm = true) (ht : TgS X.K tb g t) (hp : PassesOwn (model X.prog X.w) X.A X.env X.xe) (hi : PI X tg iter (Ti X.K tb src)) (hg : PG X tg g) (hb : PSs X body (Ts X.K tb b))
    (hs : ∀ x, foldedSetIterable iter X.env x = pure x := by intro _; rfl) : PS X (.For tg iter body [] pos) (Ts X.K tb (sFor src t b dd)) := by
  refine ps_mono (ps_for hp hc hi hg hb hs) fun D σ H ⟨φ, ψ, ρ, m, o, ρF, mF, R, E, e, k⟩ => ?_
  obtain ⟨⟨it, m1⟩, e1, e⟩ := bnd e
  obtain ⟨xs, e2, e⟩ := bnd e
  refine ⟨φ, ψ, ρ, m, it, m1, R, E, e1, fun φ1 H1 J P1 R1 IR => ?_⟩
  refine ⟨fun i n σ2 H2 => n = xs.length - i ∧ i ≤ xs.length ∧ ∃ φ2 ρ2 m2, Post φ1 ψ H1 φ2 ψ H2 ∧ Rel X.K tb φ2 ψ H2 m2 ∧ RE X.K φ2 ψ H2 ρ2 σ2 ∧ forL it xs t b dd (xs.drop i) ρ2 m2 = some (o, ρF, mF),
    ⟨xs.length, by simp, Nat.zero_le _, φ1, ρ, m1, .refl, R1, E.mono P1 R, by simpa using e⟩, ?_⟩
  rintro i n σ2 H2 ⟨rfl, hi2, φ2, ρ2, m2, P2, R2, E2, ef⟩
  by_cases hlt : i < xs.length
  · rw [List.drop_eq_getElem_cons hlt] at ef
    unfold forL at ef
    split at ef
    · rename_i hx
      obtain ⟨ρ3, e3, ef⟩ := bnd ef
      obtain ⟨⟨o4, ρ4, m4⟩, e4, ef⟩ := bnd ef
      obtain ⟨hgo, hy⟩ := (IR φ2 ψ H2 m2 xs P2 R2 hx).1 i xs[i] (List.getElem?_eq_getElem hlt)
      refine .inr ⟨hgo, fun σ' H' => i + 1 ≤ xs.length ∧ ∃ φ2 ρ2 m2, Post φ1 ψ H1 φ2 ψ H' ∧ Rel X.K tb φ2 ψ H' m2 ∧ RE X.K φ2 ψ H' ρ2 σ' ∧ forL it xs t b dd (xs.drop (i + 1)) ρ2 m2 = some (o, ρF, mF), fun σ' H' q => ⟨xs.length - (i + 1), by omega, rfl, q⟩, fun x H3 y => ?_⟩
      obtain ⟨P3, R3, V3, _⟩ := hy x H3 y
      refine ht φ2 ψ H3 m2 ρ2 σ2 _ x ρ3 _ R3 (E2.mono P3 R2) V3 e3 fun σ3 E3 => ?_
      refine ⟨φ2, ψ, ρ3, m2, o4, ρ4, m4, R3, E3, e4, fun φ5 ψ5 H5 P5 R5 => ?_⟩
      have P15 : Post φ1 ψ H1 φ5 ψ5 H5 := P2.trans (P3.trans P5)
      cases o4 with
      | nx => exact fun z σ5 E5 => by subst z; exact ⟨hlt, φ5, _, m4, P15, R5, E5.fog dd, ef⟩
      | ct => exact fun z σ5 E5 => by subst z; exact ⟨hlt, φ5, _, m4, P15, R5, E5.fog dd, ef⟩
      | bk => cases ef; exact fun z σ5 E5 => by subst z; exact k φ5 _ H5 (P1.trans P15) R5 rfl σ5 (E5.fog dd)
      | ret d => cases ef; exact k φ5 ψ5 H5 (P1.trans P15) R5
    · cases ef
  · rw [List.drop_of_length_le (by omega)] at ef
    unfold forL at ef
    split at ef
    · rename_i hx
      cases ef
      exact .inl ⟨(IR φ2 ψ H2 _ xs P2 R2 hx).2 i (by omega), k φ2 ψ H2 (P1.trans P2) R2 rfl σ2 E2⟩
    · cases ef
open Classical in
noncomputable def lcL (it : Itm) (xs : List D) (t : Gx) (c : Tx) (f : Ex) (ρ : Env) : List D → List D → Mem → Option (List D × Mem)
  | [], acc, m => if itemsAt it m = some xs then some (acc, m) else none
  | d :: ds, acc, m => if itemsAt it m = some xs then (t d ρ).bind fun ρ1 => (c ρ1 m).bind fun p => if p.1 = true then (f ρ1 p.2).bind fun q => (vl q.1).bind fun y => if acc.length < 1000000 then lcL it xs t c f ρ ds (acc ++ [y]) q.2 else none else lcL it xs t c f ρ ds acc p.2
    else none
noncomputable def eLc (src : Ix) (t : Gx) (c : Tx) (f : Ex) (vs : List Nat) : Ex := fun ρ m => (src ρ m).bind fun p => (itemsAt p.1 p.2).bind fun xs => (lcL p.1 xs t c f (wipeD ρ vs) xs [] p.2).bind fun q => some (.f (.lst q.1), q.2)
theorem lc_go {K : FRG} {tb : List Addr} {src : Ix} {g : TG} {t : Gx} {c : Tx} {f : Ex} {vs : List Nat} {σ : L2.St} {H : Hp} {Q : VK} (ht : TgS K tb g t) (hw : TgW g vs) (h : T K tb (eLc src t c f vs) σ H Q) :
    tLc (Ti K tb src) g (Tt K tb c) (T K tb f) vs σ H Q := by
  obtain ⟨φ, ψ, ρ, m, d, mF, R, E, e, k⟩ := h
  obtain ⟨⟨it, m1⟩, e1, e⟩ := bnd e
  obtain ⟨xs, e2, e⟩ := bnd e
  obtain ⟨⟨accF, m9⟩, e3, e⟩ := bnd e
  cases e
  refine ⟨φ, ψ, ρ, m, it, m1, R, E, e1, fun φ1 H1 J P1 R1 IR A hA => ?_⟩
  have nAS : A ∉ ψ := R1.freshS hA
  let Z : Nat → Hp → Prop := fun i H2 => ∃ φ2 m2 acc accV, Post φ1 ψ H1 φ2 (A :: ψ) H2 ∧ Rel K tb φ2 (A :: ψ) H2 m2 ∧ H2 A = some (.lst accV) ∧ Reps K φ2 (A :: ψ) H2 acc accV ∧ lcL it xs t c f (wipeD ρ vs) (xs.drop i) acc m2 = some (accF, m9)
  refine ⟨fun i n H2 => n = xs.length - i ∧ i ≤ xs.length ∧ Z i H2, ⟨xs.length, by simp, Nat.zero_le _, φ1, m1, [], [], Post.nw hA, R1.nw hA, upd_same, .nil, by simpa using e3⟩, ?_⟩
  rintro i n H2 ⟨rfl, hi2, φ2, m2, acc, accV, P2, R2, hA2, rA, ef⟩
  by_cases hlt : i < xs.length
  · rw [List.drop_eq_getElem_cons hlt] at ef
    unfold lcL at ef
    split at ef
    · rename_i hx
      obtain ⟨ρ3, e3', ef⟩ := bnd ef
      obtain ⟨⟨b4, m4⟩, e4, ef⟩ := bnd ef
      obtain ⟨hgo, hy⟩ := (IR φ2 (A :: ψ) H2 m2 xs P2 R2 hx).1 i xs[i] (List.getElem?_eq_getElem hlt)
      refine .inr ⟨hgo, fun H' => i + 1 ≤ xs.length ∧ Z (i + 1) H', fun H' q => ⟨xs.length - (i + 1), by omega, rfl, q⟩, fun x H3 y => ?_⟩
      obtain ⟨P3, R3, V3, same⟩ := hy x H3 y
      have hA3 : H3 A = some (.lst accV) := same A _ hA2
      have rA3 := rA.mono P3 R2
      have E3 : RE K φ2 (A :: ψ) H3 (wipeD ρ vs) (wipe σ vs) := (E.mono (P1.trans (P2.trans P3)) R).wipe vs
      have st := ht φ2 (A :: ψ) H3 m2 (wipeD ρ vs) (wipe σ vs) _ x ρ3 (fun σ3 H3' => Tt K tb c σ3 H3' fun b H4 => if b = true then T K tb f σ3 H4 fun y H5 => ∃ acc, H5 A = some (.lst acc) ∧ acc.length < sizeLine ∧ (fun H' => i + 1 ≤ xs.length ∧ Z (i + 1) H') (upd H5 A (.lst (acc ++ [y]))) else (fun H' => i + 1 ≤ xs.length ∧ Z (i + 1) H') H4) R3 E3 V3 e3' fun σ3 E3' => ?_
      · have st2 := hw _ _ _ _ st
        simp only [wipe_wipe] at st2
        exact st2
      · refine ⟨φ2, A :: ψ, ρ3, m2, b4, m4, R3, E3', e4, fun φ4 H4 P4 R4 => ?_⟩
        have hA4 : H4 A = some (.lst accV) := (P4.frm A _ (R3.ap A List.mem_cons_self) hA3 fun _ z => nomatch z).ex fun _ z => nomatch z
        have rA4 := rA3.mono P4 R3
        have P14 := P2.trans (P3.trans P4)
        cases b4 with
        | false => exact iteF ⟨hlt, φ4, m4, acc, accV, P14, R4, hA4, rA4, ef⟩
        | true =>
          obtain ⟨⟨w5, m5⟩, e5, ef⟩ := bnd ef
          obtain ⟨y5, ev, ef⟩ := bnd ef
          split at ef
          · rename_i hl
            refine iteT ⟨φ4, A :: ψ, ρ3, m4, w5, m5, R4, E3'.mono P4 R3, e5, fun φ5 ψ5 H5 v P5 R5 V5 => ?_⟩
            have R5' := V5.rel R5
            have P5' := V5.post P5
            have hA5 : H5 A = some (.lst accV) := (P5'.frm A _ (R4.ap A List.mem_cons_self) hA4 fun _ z => nomatch z).ex fun _ z => nomatch z
            have rA5 := rA4.mono P5' R4
            have y5' := vl_rep (V5.s R5) ev
            exact ⟨accV, hA5, smallT (by rw [← rA5.length]; exact hl), hlt, φ5, m5, acc ++ [y5], accV ++ [v], Post.sdw List.mem_cons_self (R5'.ap A List.mem_cons_self) (R5'.sd A List.mem_cons_self) (P14.trans P5') hA, R5'.sdw List.mem_cons_self hA5, upd_same, (rA5.snoc y5').sdw List.mem_cons_self hA5, ef⟩
          · cases ef
    · cases ef
  · rw [List.drop_of_length_le (by omega)] at ef
    unfold lcL at ef
    split at ef
    · rename_i hx
      cases ef
      refine .inl ⟨(IR φ2 (A :: ψ) H2 _ xs P2 R2 hx).2 i (by omega), ?_⟩
      exact k φ2 (A :: ψ) H2 _ (P1.trans P2) R2 ⟨A, .lst accF, rfl, rfl, nAS, rfl, accV, hA2, rA⟩
    · cases ef
def tYes' : Tx := fun _ m => some (true, m)
theorem pts_mono {X : Cx} {e : List Expr} {t t' : TT} (h : PTs X e t) (i : ∀ σ H Q, t' σ H Q → t σ H Q) : PTs X e t' := ⟨fun pins s σ H Q I q => h.run pins s σ H Q I (i σ H Q q)⟩
theorem ts_nil {X : Cx} {tb : List Addr} : PTs X [] (Tt X.K tb tYes') := pts_mono pts_nil fun σ H Q ⟨φ, ψ, ρ, m, b, m', R, E, e, k⟩ => by
  cases e; exact k φ H .refl R
theorem ts_one {X : Cx} {tb : List Addr} {c : Expr} {ft : Tx} (h : PT X c (Tt X.K tb ft)) : PTs X [c] (Tt X.K tb ft) := pts_one h
end Pw
end
section
set_option Elab.async false
set_option linter.all false
set_option maxRecDepth 100000
set_option maxHeartbeats 1000000
namespace Pw
open PySem PySem.Spec PyProof.Rows L2
theorem ex_lc {X : Cx} {tb : List Addr} {elt tg iter : Expr} {ifs : List Expr} {scope : Scope} {own : List (Str × Nat)} {pos : Pos} {src : Ix} {g : TG} {t : Gx} {c : Tx} {f : Ex} (hc : X.calm = true) (hN : X.N.Nodup) (htg : TgS X.K tb g t) (hw : TgW g (own.map (·.2)))
    (hi : PI X tg iter (Ti X.K tb src)) (ok : BlkOk X.N X.env.scope scope own)
    (hg : ∀ (s : Shared) (H : Hp) (C : Addr) (cl : List (Str × Addr)) (fp : List Addr), PG (X.blk s H scope (compEnvC scope cl C X.env) fp) tg g) (ht : ∀ (s : Shared) (H : Hp) (C : Addr) (cl : List (Str × Addr)) (fp : List Addr), PTs (X.blk s H scope (compEnvC scope cl C X.env) fp) ifs (Tt X.K tb c))
    (he : ∀ (s : Shared) (H : Hp) (C : Addr) (cl : List (Str × Addr)) (fp : List Addr), PE (X.blk s H scope (compEnvC scope cl C X.env) fp) elt (T X.K tb f)) (hs : ∀ x, foldedSetIterable iter X.env x = pure x := by intro _; rfl) :
    PE X (.ListComp elt [⟨tg, iter, ifs, 0⟩] scope pos) (T X.K tb (eLc src t c f (own.map (·.2)))) :=
  pe_mono (pe_lc hc hN hi ok hg ht he hs) fun _ _ _ h => lc_go htg hw h
theorem bs_setLc {X : Cx} {tb : List Addr} (i : Nat) {y : Str} {py : Pos} {elt tg iter : Expr} {ifs : List Expr} {scope : Scope} {own : List (Str × Nat)} {pos spos : Pos} {src : Ix} {g : TG} {t : Gx} {c : Tx} {f : Ex} (hc : X.calm = true) (hN : X.N.Nodup) (htg : TgS X.K tb g t) (hw : TgW g (own.map (·.2)))
    (hi : PI X tg iter (Ti X.K tb src)) (ok : BlkOk X.N X.env.scope scope own)
    (hg : ∀ (s : Shared) (H : Hp) (C : Addr) (cl : List (Str × Addr)) (fp : List Addr), PG (X.blk s H scope (compEnvC scope cl C X.env) fp) tg g) (ht : ∀ (s : Shared) (H : Hp) (C : Addr) (cl : List (Str × Addr)) (fp : List Addr), PTs (X.blk s H scope (compEnvC scope cl C X.env) fp) ifs (Tt X.K tb c))
    (he : ∀ (s : Shared) (H : Hp) (C : Addr) (cl : List (Str × Addr)) (fp : List Addr), PE (X.blk s H scope (compEnvC scope cl C X.env) fp) elt (T X.K tb f))
    (hsw : swapsWith (.ListComp elt [⟨tg, iter, ifs, 0⟩] scope pos) (some (.Name y py)) spos.line X.env = pure true) (hy : X.N[i]? = some y := by rfl) (hyl : X.env.scope.names.lookup y = some .local := by rfl)
    (hs : ∀ x, foldedSetIterable iter X.env x = pure x := by intro _; rfl) :
    PS X (.Assign [.Name y py] (.ListComp elt [⟨tg, iter, ifs, 0⟩] scope pos) spos) (Ts X.K tb (sSet i (eLc src t c f (own.map (·.2))))) :=
  ps_mono (ps_setLc hc hN hy hyl hsw hi ok hg ht he hs) fun D σ H h => lc_go htg hw (set_go (X := X) h)
abbrev Fx := List W → Mem → Option (W × Mem)
def startD (n : Nat) (ws : List W) : Env := ws.map some ++ List.replicate (n - ws.length) none
def inner (m : Mem) (b : Nat) : Nat → Option (List D)
  | 0 => some []
  | c + 1 => (inner m b c).bind fun ds => match m[b + c]? with
    | some (.lst es) => some (ds ++ [.lst es])
    | _ => none
def outW (k : Nat) : W → Mem → Option (W × Mem)
  | .v d, m => some (.v d, m.take k)
  | .f d, m => some (.f d, m.take k)
  | .r n, m => if n < k then some (.r n, m.take k) else match m[n]? with
    | some (.rl b c) => if k ≤ b then (inner m b c).bind fun ds => some (.v (.lst ds), m.take k) else none
    | some mo => some (.f (moD mo), m.take k)
    | none => none
def runF (np n : Nat) (b : Sx) : Fx := fun ws m => if ws.length = np then (b (startD n ws) m).bind fun r => match r.1 with
  | .nx => some (.v .non, r.2.2.take m.length)
  | .ret w => outW m.length w r.2.2
  | _ => none
  else none
def spF (K : FRG) (tb : List Addr) (np : Nat) (F : Fx) : Sp := fun vs H Q _ => ∃ φ ψ ws m w m', Rel K tb φ ψ H m ∧ RepSs K φ ψ H ws vs ∧ ws.length = np ∧ F ws m = some (w, m') ∧ Go K tb φ ψ H m' w Q
theorem re_start {K : FRG} {φ ψ : List Addr} {H : Hp} {N : List Str} {ws : List W} {vs : List V} (r : RepSs K φ ψ H ws vs) : RE K φ ψ H (startD N.length ws) (start N vs) := by
  refine ⟨fun i d h => ?_, by simp [startD, L2.start, r.length]⟩
  unfold startD at h
  by_cases hi : i < ws.length
  · rw [List.getElem?_append_left (by simpa using hi), List.getElem?_map] at h
    cases e : ws[i]? with
    | none => rw [e] at h; cases h
    | some x =>
      rw [e] at h
      cases h
      obtain ⟨v, h1, h2⟩ := r.get e
      refine ⟨v, ?_, h2⟩
      unfold L2.start
      rw [List.getElem?_append_left (by rw [List.length_map, ← r.length]; exact hi), List.getElem?_map, h1]
      rfl
  · rw [List.getElem?_append_right (by simpa using hi), List.getElem?_replicate] at h
    split at h <;> cases h
section
variable {K : FRG} {tb φ φ1 ψ ψ1 : List Addr} {H H1 : Hp} {m m1 : Mem}
theorem Rel.cut (R : Rel K tb φ1 ψ1 H m1) (hp : φ <+: φ1) (hs : ∀ a ∈ ψ, a ∈ ψ1 ∨ (a ∈ φ1 ∧ a ∉ φ)) : Rel K tb φ ψ H (m1.take φ.length) := by
  obtain ⟨t, rfl⟩ := hp
  have hl := R.len
  rw [List.length_append] at hl
  have few : ∀ a, a ∉ φ ++ t → a ∉ ψ1 → a ∉ φ ∧ a ∉ ψ := fun a h1 h2 => ⟨fun z => h1 (List.mem_append_left _ z), fun z => (hs a z).elim h2 fun y => h1 y.1⟩
  refine ⟨by rw [List.length_take]; omega, (List.nodup_append.mp R.nd).1, fun n mo a e1 e2 => ?_, R.tab, fun p hp => ?_, fun p hp => ?_, R.lam⟩
  · have hn : n < φ.length := (List.getElem?_eq_some_iff.mp e2).1
    rw [List.getElem?_take_of_lt hn] at e1
    exact (R.obj n mo a e1 (by rw [List.getElem?_append_left hn]; exact e2)).fewer few fun _ k hk i hi => by
      have e2' : (φ ++ t)[n]? = some a := by rw [List.getElem?_append_left hn]; exact e2
      obtain ⟨h1, h2⟩ := List.getElem?_eq_some_iff.mp e2'
      obtain ⟨h3, h4⟩ := List.getElem?_eq_some_iff.mp hk
      have : k = n := (List.getElem_inj R.nd).mp (h4.trans h2.symm)
      exact (List.getElem?_append_left (by omega)).symm
  · rcases hs p hp with z | z
    · exact R.sd p z
    · exact R.trk z.1
  · rcases hs p hp with z | z
    · exact fun y => R.ap p z (List.mem_append_left _ y)
    · exact z.2
theorem out_go {w w' : W} {m' : Mem} {v : V} {Q : VK} (hl : φ.length = m.length) (P : Post φ ψ H φ1 ψ1 H1) (R : Rel K tb φ1 ψ1 H1 m1) (h : RepW K φ1 ψ ψ1 H1 w v) (e : outW m.length w m1 = some (w', m')) (k : Go K tb φ ψ H m' w' Q) : Q v H1 := by
  have few : ∀ (a : Addr), a ∉ φ1 → ∀ (ψ' : List Addr), a ∉ ψ' → a ∉ φ ∧ a ∉ ψ' := fun a h1 ψ' h2 => ⟨fun z => h1 (P.pre.subset z), h2⟩
  have post : ∀ (ψ' : List Addr), (∀ a ∈ ψ', a ∈ ψ ∨ H a = none) → (∀ a ∈ ψ, a ∈ ψ') → Post φ ψ H φ ψ' H1 := fun ψ' hs hb => ⟨List.prefix_refl _, fun _ z => .inl z, hs, P.frm, P.kp, hb⟩
  cases w with
  | v d =>
    cases e
    obtain ⟨rfl, h⟩ := h
    rw [← hl] at k
    exact k φ _ H1 v (post _ P.side P.sub) (R.cut P.pre fun _ z => .inl z) ⟨rfl, h.fewer fun a h1 h2 => few a h1 _ h2⟩
  | f d =>
    cases e
    obtain ⟨p, mo, rfl, rfl, np, rfl, q⟩ := h
    rw [← hl] at k
    exact k φ _ H1 _ (post _ P.side P.sub) (R.cut P.pre fun _ z => .inl z) ⟨p, mo, rfl, rfl, np, rfl, q.fewer (fun a h1 h2 => few a h1 _ h2) fun _ k hk => absurd (List.mem_of_getElem? hk) (R.ap p List.mem_cons_self)⟩
  | r n =>
    obtain ⟨rfl, a, ha, rfl⟩ := h
    unfold outW at e
    simp only at e
    split at e
    · rename_i hn
      cases e
      rw [← hl] at k
      refine k φ _ H1 _ (post _ P.side P.sub) (R.cut P.pre fun _ z => .inl z) ⟨rfl, a, ?_, rfl⟩
      obtain ⟨t, rfl⟩ := P.pre
      rw [List.getElem?_append_left (by rw [hl]; exact hn)] at ha
      exact ha
    · rename_i hn
      have mem : a ∈ φ1 := List.mem_of_getElem? ha
      have nA : a ∉ φ := fun z => by
        obtain ⟨t, rfl⟩ := P.pre
        rw [List.getElem?_append_right (by rw [hl]; omega)] at ha
        exact (List.nodup_append.mp R.nd).2.2 a z a (List.mem_of_getElem? ha) rfl
      have h0 : H a = none := (P.new a mem).resolve_left nA
      have nP : a ∉ ψ1 := fun z => R.ap a z mem
      have hk : ∀ j, m.length ≤ j → ∀ c, φ1[j]? = some c → c ∉ φ := fun j hj c hc z => by
        obtain ⟨t, rfl⟩ := P.pre
        rw [List.getElem?_append_right (by rw [hl]; exact hj)] at hc
        exact (List.nodup_append.mp R.nd).2.2 c z c (List.mem_of_getElem? hc) rfl
      have isRl : ∀ b c, m1[n]? = some (.rl b c) → outW m.length (.r n) m1 = some (w', m') → Q (.ref a) H1 := fun b c e1 e => by
        unfold outW at e
        simp only [e1, if_neg hn] at e
        split at e
        · rename_i hb
          obtain ⟨ds, ed, e⟩ := bnd e
          cases e
          obtain ⟨o1, o2⟩ := R.obj n _ a e1 ha
          have hlen := (List.getElem?_eq_some_iff.mp o2).1
          have rs : ∀ c', c' ≤ c → ∀ ds, inner m1 b c' = some ds → Reps K φ ψ1 H1 ds ((List.range c').map fun i => V.ref (φ1.getD (b + i) 0)) := by
            intro c'
            induction c' with
            | zero => intro _ ds e; cases e; exact .nil
            | succ c' ih =>
              intro hc ds e
              obtain ⟨ds', e3, e⟩ := bnd e
              split at e
              · rename_i es e4
                cases e
                rw [List.range_succ, List.map_append]
                have hj : b + c' < φ1.length := by omega
                have e5 : φ1[b + c']? = some φ1[b + c'] := List.getElem?_eq_getElem hj
                obtain ⟨us, u1, u2⟩ := R.obj _ _ _ e4 e5
                have e6 : φ1.getD (b + c') 0 = φ1[b + c'] := by rw [List.getD_eq_getElem?_getD, e5]; rfl
                refine (ih (by omega) ds' e3).snoc ?_
                show Rep K φ ψ1 H1 (D.lst es) (V.ref (φ1.getD (b + c') 0))
                rw [e6]
                exact .lst (hk _ (by omega) _ e5) (fun z => R.ap _ z (List.mem_of_getElem? e5)) u1 (u2.fewer fun x h1 h2 => few x h1 _ h2)
              · cases e
          rw [← hl] at k
          exact k φ ψ1 H1 _ (post _ P.side P.sub) (R.cut P.pre fun _ z => .inl z) ⟨rfl, .lst nA nP o1 (rs c (Nat.le_refl _) ds ed)⟩
        · cases e
      by_cases hr : ∃ b c, m1[n]? = some (.rl b c)
      · obtain ⟨b, c, e1⟩ := hr
        refine isRl b c e1 ?_
        unfold outW
        simp only [if_neg hn]
        exact e
      have e' : ∃ mo, m1[n]? = some mo ∧ some (W.f (moD mo), m1.take m.length) = some (w', m') := by
        split at e
        · rename_i b c e1; exact absurd ⟨b, c, e1⟩ hr
        · rename_i mo e1 _; exact ⟨mo, by assumption, e⟩
        · cases e
      obtain ⟨mo, e1, e⟩ := e'
      cases e
      rw [← hl] at k
      refine k φ (a :: ψ1) H1 _ (post _ (fun b hb => ?_) fun b hb => List.mem_cons_of_mem _ hb) (R.cut P.pre fun b hb => ?_) ⟨a, mo, rfl, rfl, nP, rfl, (R.obj n mo a e1 ha).fewer (fun b h1 h2 => few b h1 _ fun z => ?_) fun ⟨b, c, z⟩ => absurd ⟨b, c, by rw [← z]; exact e1⟩ hr⟩
      · rcases List.mem_cons.mp hb with z | z
        · rw [z]; exact .inr h0
        · exact .inl z
      · rcases List.mem_cons.mp hb with z | z
        · rw [z]; exact .inr ⟨mem, nA⟩
        · exact .inl z
      · rcases List.mem_cons.mp z with y | y
        · rw [y] at h1; exact h1 mem
        · exact h2 y
end
theorem body_go {K : FRG} {tb : List Addr} {np : Nat} {N : List Str} {b : Sx} {vs : List V} {H : Hp} {Q : VK} {E : XK} (h : spF K tb np (runF np N.length b) vs H Q E) : Ts K tb b { nx := fun _ H' => Q .non H', rt := Q } (start N vs) H := by
  obtain ⟨φ, ψ, ws, m, w, m', R, r, hl, e, k⟩ := h
  unfold runF at e
  rw [if_pos hl] at e
  obtain ⟨⟨o, ρ', m1⟩, e1, e⟩ := bnd e
  refine ⟨φ, ψ, _, m, o, ρ', m1, R, re_start r, e1, fun φ1 ψ1 H1 P1 R1 => ?_⟩
  cases o with
  | nx =>
    intro z σ1 E1
    subst z
    exact out_go (w := .v .non) R.len P1 R1 ⟨rfl, .non⟩ e k
  | ret x => exact fun v V => out_go R.len P1 R1 V e k
  | bk => cases e
  | ct => cases e
def eCall (F : Fx) (a : Ax) : Ex := fun ρ m => (a ρ m).bind fun p => F p.1 p.2
theorem call_s {X : Cx} {tb : List Addr} {np : Nat} {F : Fx} {f : Ax} {σ : L2.St} {H : Hp} {Q : VK} (hn : ∀ ds m r, F ds m = some r → ds.length = np) (h : T X.K tb (eCall F f) σ H Q) : tCall (spF X.K tb np F) [] E0 (Ta X.K tb f) σ H Q := by
  obtain ⟨φ, ψ, ρ, m, w, m', R, E, e, k⟩ := h
  obtain ⟨⟨ws, m1⟩, e1, e⟩ := bnd e
  refine ⟨φ, ψ, ρ, m, ws, m1, R, E, e1, fun φ1 H1 vs P1 R1 V1 => ?_⟩
  show spF X.K tb np F (vs ++ []) H1 Q E0
  rw [List.append_nil]
  exact ⟨φ1, ψ, ws, m1, w, m', R1, V1, hn _ _ _ e, e, fun φ3 ψ3 H3 v P3 R3 V3 => k φ3 ψ3 H3 v (P1.trans P3) R3 V3⟩
theorem runF_len {np n : Nat} {b : Sx} {ws : List W} {m : Mem} {r : W × Mem} (h : runF np n b ws m = some r) : ws.length = np := by
  unfold runF at h
  split at h
  · assumption
  · cases h
structure FnG (P : Program) (w : World) (K : FRG) (mg : Str → Option Value) (base : Heap) (k : Nat) (f : Addr) (fd : FuncData) (ps : List Str) (sp : Sp) : Prop where
  len : ∀ vs H Q E, sp vs H Q E → vs.length = ps.length
  run : ∀ (A : Around) (outer : List PySem.Env) (s : Shared) (H : Hp) (args : Args) (us : List Value) (vs : List V) (Q : VK) (E : XK), A.guards = some [] → Room k A → Env0 P w K mg base A outer s H → BindsTo s fd args (ps.zip us) → Vals vs us → sp vs H Q E →
    codeAny (model P w) A (.call (.ref f) args) (CR CX0 outer P w H s Q E) s
structure FunC (K : FRG) (x qual : Str) (st : Stmt) (f : Addr) (fd : FuncData) (cdv : Value) : Prop where
  ex : ∃ (oc : Value) (od : Option Addr) (kV doc pm : Value) (an : Option Addr) (ct : Value) (osl : Array (Option Value)),
    fd = PySem.W.fnOf x qual (defArgs st) (defBody st) (defScope st) .none kV doc pm an cdv ct ∧ K.lookup f = some ⟨oc, od, .func fd, osl⟩ ∧ PySem.W.codeIn K cdv qual = true
  kp : PySem.W.keepIn K (.ref f) = true
theorem okG {P : Program} {w : World} {K : FRG} {mg : Str → Option Value} {base : Heap} {tb : List Addr} {x qual : Str} {st : Stmt} {f : Addr} {fd : FuncData} {cdv : Value} {N ps : List Str} {k : Nat} {b : Sx} (F : FunC K x qual st f fd cdv) (S : FnScope N ps (defScope st))
    (hb : ∀ (A : Around) (outer : List PySem.Env) (s : Shared) (H : Hp) (E : XK), A.guards = some [] → Room k (A.deeper (envOfC qual (defScope st) s.heap.objs.size f cdv)) → PSs (cxOf CX0 P w K mg base N qual (defScope st) f cdv A outer s H E).nox (defBody st) (Ts K tb b)) :
    FnG P w K mg base (k + 1) f fd ps (spF K tb ps.length (runF ps.length N.length b)) := by
  obtain ⟨oc, od, kV, doc, pm, an, ct, osl, rfl, known, isCode⟩ := F.ex
  have many : ∀ vs H Q E, spF K tb ps.length (runF ps.length N.length b) vs H Q E → vs.length = ps.length := fun vs H Q E q => by
    obtain ⟨φ, ψ, ws, m, d, m', R, r, hl, e, go⟩ := q
    rw [← r.length]; exact hl
  refine ⟨many, fun A outer s H args us vs Q E noG room entry bound rel want => ?_⟩
  have inK : K.In s.heap := entry.mod.kin.keeps fun c o e => (entry.bs c o e).1
  have free : s.heap.NoLimit := entry.mod.nolimit.keeps fun c o e => (entry.bs c o e).1
  have kinds : ∀ y ∈ ps.zip us, (defScope st).names.lookup y.1 = some .local ∨ ((defScope st).names.lookup y.1 = some .cell ∧ ((cellsFrom (s.heap.objs.size + 1) (defScope st).names []).lookup y.1).isSome = true) := by
    rintro ⟨nm, val⟩ mem
    rcases S.par nm (List.of_mem_zip mem).1 with z | z
    · exact Or.inl z
    · exact Or.inr ⟨z, PySem.W.cellsFrom_some _ _ _ (Or.inl z)⟩
  refine codeAny_call_function room.depth (inK _ _ known) rfl S.co S.gen rfl (PySem.W.codeRec_of inK isCode) (bound _ _ _ _ ?_)
  refine wpAny_newFunctionEnv_cells S.kind kinds fun here isHere t inCall => ?_
  subst isHere
  refine ⟨free.keeps inCall.toInCall.keep, codeAny_func ?_⟩
  have J : Inv (cxOf CX0 P w K mg base N qual (defScope st) f cdv A outer s H E) [] (L2.start N vs) H t := inv_start S room.hd entry (many _ _ _ _ want) rel inCall
  have body := (hb A outer s H E noG (room.deeper _)).nox
  refine wpAny_mono (body.run [] t (L2.start N vs) H _ J (body_go want)) (fun flow t' ends => ?_) fun _ _ z => z
  cases flow with
  | ret u =>
    obtain ⟨v, τ, H', J', rv, q⟩ := ends
    exact ⟨v, H', J'.os, J'.bare, J'.base, J'.hok, rv, q⟩
  | next =>
    obtain ⟨τ, H', J', q⟩ := ends
    exact ⟨.non, H', J'.os, J'.bare, J'.base, J'.hok, rfl, q⟩
  | brk => obtain ⟨_, _, _, z⟩ := ends; exact z.elim
  | cont => obtain ⟨_, _, _, z⟩ := ends; exact z.elim
theorem runG {X : Cx} {k : Nat} {f : Addr} {fd : FuncData} {ps : List Str} {sp : Sp} {pins : List (Addr × Obj)} {σ : L2.St} {H : Hp} {s : Shared} {Q : VK} {us : List Value} {vs : List V} (F : FnG X.prog X.w X.K X.mg X.base k f fd ps sp) (hg : X.A.guards = some []) (hr : Room k X.A) (hb : Binds X.K fd ps [])
    (I : Inv X pins σ H s) (r : Vals vs us) (h : sp vs H Q E0) : wpAny (model X.prog X.w) X.A (call (.ref f) us) (EP X pins σ Q) X.xe s := by
  have hl : us.length = ps.length := r.length.symm.trans (F.len _ _ _ _ h)
  have bound := hb s us I.kIn (by rw [List.append_nil]; exact hl)
  rw [List.append_nil] at bound
  refine wpAny_call (codeAny_mono (F.run X.A X.stack s H ⟨us, []⟩ us vs Q E0 hg hr I.env0 bound r h) fun res t ends => ?_)
  match res, ends with
  | .ok (.ret u), z => exact I.after z
theorem ex_callG {X : Cx} {tb : List Addr} {k : Nat} {f : Addr} {fd : FuncData} {ps : List Str} {x : Str} {p pos : Pos} {e : Expr} {es : List Expr} {fa : Ax} {F : Fx} (hn : ∀ ds m r, F ds m = some r → ds.length = ps.length) (G : FnG X.prog X.w X.K X.mg X.base k f fd ps (spF X.K tb ps.length F)) (hgd : X.A.guards = some []) (hr : Room k X.A) (hg : Gl X x) (hm : X.mg x = some (.ref f)) (hk : PySem.W.keepIn X.K (.ref f) = true) (hb : Binds X.K fd ps [])
    (ha : PA X (e :: es) (Ta X.K tb fa)) (hdb : (x == ("__debug__" : Str)) = false := by decide) (he : starEach (e :: es) X.env = (false, eval e X.env) :: starEach es X.env := by rfl) (hpl : (backTo pos (starEach es X.env)).any (·.1) = false := by rfl) :
    PE X (.Call (.Name x p) (e :: es) [] pos) (T X.K tb (eCall F fa)) := by
  constructor
  intro pins s σ H Q I want
  have h := call_s hn want
  refine wpAny_Call_Name_kw (ld_glob I hg hm ?_ hdb)
  refine PySem.W.callWith_K (h₀ := X.base) I.ok.mod.kin hk (thn (ha.run pos pins s σ H _ I h) fun us t ⟨vs, H1, I1, r, q⟩ => ⟨I1.kIn, ?_⟩) he hpl
  have q' : spF X.K tb ps.length F (vs ++ []) H1 Q E0 := q
  rw [List.append_nil] at q'
  exact runG G hgd hr hb I1 r q'
theorem FunC.binds {K : FRG} {x qual : Str} {st : Stmt} {f : Addr} {fd : FuncData} {cdv : Value} {ps : List Str} (F : FunC K x qual st f fd cdv)
    (h : ∀ (kV doc pm : Value) (an : Option Addr) (ct : Value) (us : List Value), us.length = ps.length → bindArgs (PySem.W.fnOf x qual (defArgs st) (defBody st) (defScope st) .none kV doc pm an cdv ct) ⟨us, []⟩ = pure (ps.zip us)) : Binds K fd ps [] := by
  obtain ⟨oc, od, kV, doc, pm, an, ct, osl, rfl, lk, hcd⟩ := F.ex
  exact .all (h kV doc pm an ct)
end Pw
end
section
set_option Elab.async false
set_option linter.all false
set_option maxRecDepth 100000
set_option maxHeartbeats 1000000
namespace Pv
open PySem PySem.Spec PyProof.Rows L2
def bst_max (b : Option Int) (x : Int) : Option Int := match b with
  | none => some x
  | some y => if x > y then some x else some y
def cell2 (b : Option (Int × Tok)) : Array Value := match b with
  | none => #[]
  | some (y, t) => #[.int y t, .int y t]
section
variable {prog : Program} {w : World} {A : Around} {E : Value → Shared → Prop} {R : Result → Shared → Prop} {I : Addr} {fp wr : List Addr} {n : Nat} {P : Nat → Value → Prop} {St : Nat → Heap → Prop}
theorem max_turns (W : Walks prog w A.in1 I fp wr n P St) (f : Nat → Int) (hP : ∀ i v, P i v → ∃ t, v = .int (f i) t) (B : Addr) (hB : B ∉ fp) (dv : Value) : ∀ (k i : Nat) (s : Shared) (b : Option (Int × Tok)) (c : Nat), n - i = k → i ≤ n → St i s.heap →
    s.heap.get? B = some { cls := .type "list", dict := none, data := .seq (cell2 b) c, slots := #[] } →
    (∀ v h' tk, (match ((List.range' i k).map f).foldl bst_max (b.map (·.1)) with | none => v = dv | some y => ∃ t, v = .int y t) → (∀ a o, a ∉ wr → a ≠ B → s.heap.get? a = some o → h'.get? a = some o) → R (.ok (.ret v)) { s with heap := h', toks := tk }) →
    codeAny (model prog w) A (.builtin "max.loop" ⟨[.ref I, .none, .ref B], [(Str.ofString "default", dv)]⟩) R s := by
  have hw : B ∉ wr := fun z => hB (W.sub _ z)
  have nm : (toString "max" ++ toString ".loop" : String) = "max.loop" := by decide
  intro k
  induction k with
  | zero =>
    intro i s b c hk hi st at0 fin
    obtain rfl : i = n := by omega
    refine codeAny_builtin F.entry_max_loop ?_
    rw [Around.under_plainId F.plain_max_loop _]
    show wpAny _ A.in1 (seqItems? (.ref B) >>= _) _ _ _
    refine wpAny_bind (wpAny_seqItems at0 rfl ?_)
    show wpAny _ A.in1 (tryCatch (pyNext (.ref I)) _ >>= _) _ _ _
    refine wpAny_bind (wpAny_tryCatch (W.done s _ _ st fun h' tk kp => ?_))
    cases b with
    | none =>
      refine wpAny_bind (wpAny_rule ?_)
      exact wpAny_pure (fin dv h' tk (by exact rfl) fun a o q1 _ q3 => kp a o q1 q3)
    | some p =>
      obtain ⟨y, t⟩ := p
      show wpAny _ A.in1 (updateSeq B (fun _ => #[]) >>= _) _ _ _
      have at1 : h'.get? B = some { cls := .type "list", dict := none, data := .seq #[.int y t, .int y t] c, slots := #[] } := kp B _ hw at0
      refine wpAny_bind (wpAny_updateSeq at1 rfl (wpAny_bind (wpAny_letGo (wpAny_pure ?_))))
      exact fin (.int y t) _ tk ⟨t, rfl⟩ fun a o q1 q2 q3 => (Heap.get?_update_other _ _ (Ne.symm q2)).trans (kp a o q1 q3)
  | succ k ih =>
    intro i s b c hk hi st at0 fin
    have lt : i < n := by omega
    refine codeAny_builtin F.entry_max_loop ?_
    rw [Around.under_plainId F.plain_max_loop _]
    show wpAny _ A.in1 (seqItems? (.ref B) >>= _) _ _ _
    refine wpAny_bind (wpAny_seqItems at0 rfl ?_)
    show wpAny _ A.in1 (tryCatch (pyNext (.ref I)) _ >>= _) _ _ _
    refine wpAny_bind (wpAny_tryCatch (W.item i s _ _ lt st fun v h' tk pv st' kp => ?_))
    have at1 := kp B _ hw at0
    obtain ⟨tv, rfl⟩ := hP i v pv
    cases b with
    | none =>
      have at1 : h'.get? B = some { cls := .type "list", dict := none, data := .seq #[] c, slots := #[] } := kp B _ hw at0
      refine wpAny_bind (m := pure (Value.int (f i) tv)) (wpAny_pure ?_)
      show wpAny _ A.in1 (updateSeq B (fun _ => #[.int (f i) tv, .int (f i) tv]) >>= _) _ _ _
      refine wpAny_bind (wpAny_updateSeq at1 rfl ?_)
      rw [nm]
      refine wpAny_pure ⟨plainId_quiet F.plain_max_loop _, ih (i + 1) _ (some (f i, tv)) _ (by omega) lt (W.frame _ _ _ st' fun a ha o e => ?_) (Heap.get?_update_self _ at1 rfl) fun v h2 tk2 q hk2 => ?_⟩
      · exact (Heap.get?_update_other _ _ (fun z : B = a => hB (by rw [z]; exact ha))).trans e
      · exact fin v h2 tk2 (by simpa [List.range'_succ, bst_max] using q) fun a o q1 q2 q3 => hk2 a o q1 q2 ((Heap.get?_update_other _ _ (Ne.symm q2)).trans (kp a o q1 q3))
    | some p =>
      obtain ⟨y, t⟩ := p
      have at1 : h'.get? B = some { cls := .type "list", dict := none, data := .seq #[.int y t, .int y t] c, slots := #[] } := kp B _ hw at0
      refine wpAny_bind (m := pure (Value.int (f i) tv)) (wpAny_pure ?_)
      show wpAny _ A.in1 (tryCatch (holding [Value.int (f i) tv, Value.int (f i) tv] (richCompare .Gt (Value.int (f i) tv) (Value.int y t) >>= _)) _ >>= _) _ _ _
      refine wpAny_bind (wpAny_tryCatch (wpAny_holding (wpAny_bind ?_)))
      refine CmpOf.ints_gt (P := fun j v => ∃ t, v = .int (if j = 0 then f i else y) t) (fun j => if j = 0 then f i else y) (fun _ _ h => h) 0 1 _ _ _ _ _ ⟨tv, rfl⟩ ⟨t, rfl⟩ ?_
      refine wpAny_bind (wpAny_holding (wpAny_truthy_bool ?_))
      refine wpAny_bind (wpAny_letGo (wpAny_pure ?_))
      by_cases hb : f i > y
      · refine wp_if_pos (by simpa using hb) ?_
        show wpAny _ A.in1 (updateSeq B (fun _ => #[.int (f i) tv, .int (f i) tv]) >>= _) _ _ _
        refine wpAny_bind (wpAny_updateSeq at1 rfl (wpAny_bind (wpAny_letGo ?_)))
        rw [nm]
        refine wpAny_pure ⟨plainId_quiet F.plain_max_loop _, ih (i + 1) _ (some (f i, tv)) _ (by omega) lt (W.frame _ _ _ st' fun a ha o e => ?_) (Heap.get?_update_self _ at1 rfl) fun v h2 tk2 q hk2 => ?_⟩
        · exact (Heap.get?_update_other _ _ (fun z : B = a => hB (by rw [z]; exact ha))).trans e
        · exact fin v h2 tk2 (by simpa [List.range'_succ, bst_max, hb] using q) fun a o q1 q2 q3 => hk2 a o q1 q2 ((Heap.get?_update_other _ _ (Ne.symm q2)).trans (kp a o q1 q3))
      · refine wp_if_neg (by simpa using hb) ?_
        refine wpAny_bind (wpAny_letGo ?_)
        rw [nm]
        refine wpAny_pure ⟨plainId_quiet F.plain_max_loop _, ih (i + 1) _ (some (y, t)) _ (by omega) lt st' at1 fun v h2 tk2 q hk2 => ?_⟩
        exact fin v h2 tk2 (by simpa [List.range'_succ, bst_max, hb] using q) fun a o q1 q2 q3 => hk2 a o q1 q2 (kp a o q1 q3)
theorem args_maxd (a d : Value) : argsOk "max" ⟨[a], [(Str.ofString "default", d)]⟩ := by unfold argsOk; kernel_rfl
theorem max_def {s : Shared} {l : Addr} {its : List Value} {ns : List Int} {dv : Value} {Q : Value → Shared → Prop} (hh : A.handled = none) (hl : s.heap.IsList l its.toArray) (hi : IntsAre its ns)
    (h : ∀ v h' tk, (match ns.foldl bst_max none with | none => v = dv | some y => ∃ t, v = .int y t) → (∀ b o, s.heap.get? b = some o → h'.get? b = some o) → Q v { s with heap := h', toks := tk }) :
    wpAny (model prog w) A (call (.builtin "max") [.ref l] [(Str.ofString "default", dv)]) Q E s := by
  have nm : (toString "max" ++ toString ".loop" : String) = "max.loop" := by decide
  obtain ⟨ol, hol, hcl⟩ := id hl
  have lt : l < s.heap.objs.size := Heap.lt_size hol
  refine PyProof.Rows.kmk_tree F.kind_max F.plain_max F.entry_max (args_maxd _ _) ?_
  refine wpAny_bind (m := Builtin.Builtins.bindParams "max" ["key", "default"] 0 ⟨[], [(Str.ofString "default", dv)]⟩) (wpAny_of_eq (t := Builtin.Builtins.bindParams "max" ["key", "default"] 0 ⟨[], [(Str.ofString "default", dv)]⟩) (a := [none, some dv]) rfl ?_)
  refine wpAny_bind (m := pure (Value.ref l)) (wpAny_pure ?_)
  refine wpAny_bind (wpAny_pyIter_list hl ?_)
  refine wpAny_bind (wpAny_newList ?_ (Nat.zero_le _))
  rw [nm]
  let it : Obj := { cls := .type "list_iterator", data := .fields #[.ref l, .int 0 0] }
  have sz : (s.heap.push it).objs.size = s.heap.objs.size + 1 := PyProof.Rows.size_push' ..
  have Wk := Walks.list (prog := prog) (w := w) (A := A.in1) hh s.heap.objs.size l (Nat.ne_of_lt lt) its.toArray
  have hlen : its.toArray.size = ns.length := by rw [List.size_toArray]; exact hi.length
  have hB : (s.heap.push it).objs.size ∉ [s.heap.objs.size, l] := by
    rw [sz]
    intro z
    rcases List.mem_cons.mp z with z | z
    · omega
    · exact Nat.ne_of_gt (Nat.lt_succ_of_lt lt) (List.mem_singleton.mp z)
  refine wpAny_pure ⟨plainId_quiet F.plain_max_loop _, max_turns Wk (fun i => ns.getD i 0) (fun i v hv => ?_) _ hB dv its.toArray.size 0 _ none 0 (Nat.sub_zero _) (Nat.zero_le _) ⟨⟨_, Heap.get?_push_of_some _ (Heap.get?_push_size _ rfl), rfl, rfl⟩, (hl.push _).push _⟩ (Heap.get?_push_size _ rfl) fun v h' tk q kp => ?_⟩
  · exact PyProof.Rows.IntsAre.int_at hi i v (by simpa using hv)
  · refine h v h' tk ?_ fun b o e => ?_
    · have e : (List.range' 0 its.toArray.size).map (fun i => ns.getD i 0) = ns := by
        rw [hlen]
        refine List.ext_getElem (by simp) fun i h1 h2 => ?_
        simp [List.getElem_range', h2]
      rw [e] at q
      exact q
    · have lb := Heap.lt_size e
      refine kp b o (fun z => ?_) (fun z => ?_) (Heap.get?_push_of_some _ (Heap.get?_push_of_some _ e))
      · exact Nat.ne_of_lt lb (List.mem_singleton.mp z)
      · have z' : b = (s.heap.push it).objs.size := z
        rw [sz] at z'; exact Nat.ne_of_lt (Nat.lt_succ_of_lt lb) z'
end
def bst_min (b : Option Int) (x : Int) : Option Int := match b with
  | none => some x
  | some y => if x < y then some x else some y
section
variable {prog : Program} {w : World} {A : Around} {E : Value → Shared → Prop} {R : Result → Shared → Prop} {I : Addr} {fp wr : List Addr} {n : Nat} {P : Nat → Value → Prop} {St : Nat → Heap → Prop}
theorem min_turns (W : Walks prog w A.in1 I fp wr n P St) (f : Nat → Int) (hP : ∀ i v, P i v → ∃ t, v = .int (f i) t) (B : Addr) (hB : B ∉ fp) (dv : Value) : ∀ (k i : Nat) (s : Shared) (b : Option (Int × Tok)) (c : Nat), n - i = k → i ≤ n → St i s.heap →
    s.heap.get? B = some { cls := .type "list", dict := none, data := .seq (cell2 b) c, slots := #[] } →
    (∀ v h' tk, (match ((List.range' i k).map f).foldl bst_min (b.map (·.1)) with | none => v = dv | some y => ∃ t, v = .int y t) → (∀ a o, a ∉ wr → a ≠ B → s.heap.get? a = some o → h'.get? a = some o) → R (.ok (.ret v)) { s with heap := h', toks := tk }) →
    codeAny (model prog w) A (.builtin "min.loop" ⟨[.ref I, .none, .ref B], [(Str.ofString "default", dv)]⟩) R s := by
  have hw : B ∉ wr := fun z => hB (W.sub _ z)
  have nm : (toString "min" ++ toString ".loop" : String) = "min.loop" := by decide
  intro k
  induction k with
  | zero =>
    intro i s b c hk hi st at0 fin
    obtain rfl : i = n := by omega
    refine codeAny_builtin F.entry_min_loop ?_
    rw [Around.under_plainId F.plain_min_loop _]
    show wpAny _ A.in1 (seqItems? (.ref B) >>= _) _ _ _
    refine wpAny_bind (wpAny_seqItems at0 rfl ?_)
    show wpAny _ A.in1 (tryCatch (pyNext (.ref I)) _ >>= _) _ _ _
    refine wpAny_bind (wpAny_tryCatch (W.done s _ _ st fun h' tk kp => ?_))
    cases b with
    | none =>
      refine wpAny_bind (wpAny_rule ?_)
      exact wpAny_pure (fin dv h' tk (by exact rfl) fun a o q1 _ q3 => kp a o q1 q3)
    | some p =>
      obtain ⟨y, t⟩ := p
      show wpAny _ A.in1 (updateSeq B (fun _ => #[]) >>= _) _ _ _
      have at1 : h'.get? B = some { cls := .type "list", dict := none, data := .seq #[.int y t, .int y t] c, slots := #[] } := kp B _ hw at0
      refine wpAny_bind (wpAny_updateSeq at1 rfl (wpAny_bind (wpAny_letGo (wpAny_pure ?_))))
      exact fin (.int y t) _ tk ⟨t, rfl⟩ fun a o q1 q2 q3 => (Heap.get?_update_other _ _ (Ne.symm q2)).trans (kp a o q1 q3)
  | succ k ih =>
    intro i s b c hk hi st at0 fin
    have lt : i < n := by omega
    refine codeAny_builtin F.entry_min_loop ?_
    rw [Around.under_plainId F.plain_min_loop _]
    show wpAny _ A.in1 (seqItems? (.ref B) >>= _) _ _ _
    refine wpAny_bind (wpAny_seqItems at0 rfl ?_)
    show wpAny _ A.in1 (tryCatch (pyNext (.ref I)) _ >>= _) _ _ _
    refine wpAny_bind (wpAny_tryCatch (W.item i s _ _ lt st fun v h' tk pv st' kp => ?_))
    have at1 := kp B _ hw at0
    obtain ⟨tv, rfl⟩ := hP i v pv
    cases b with
    | none =>
      have at1 : h'.get? B = some { cls := .type "list", dict := none, data := .seq #[] c, slots := #[] } := kp B _ hw at0
      refine wpAny_bind (m := pure (Value.int (f i) tv)) (wpAny_pure ?_)
      show wpAny _ A.in1 (updateSeq B (fun _ => #[.int (f i) tv, .int (f i) tv]) >>= _) _ _ _
      refine wpAny_bind (wpAny_updateSeq at1 rfl ?_)
      rw [nm]
      refine wpAny_pure ⟨plainId_quiet F.plain_min_loop _, ih (i + 1) _ (some (f i, tv)) _ (by omega) lt (W.frame _ _ _ st' fun a ha o e => ?_) (Heap.get?_update_self _ at1 rfl) fun v h2 tk2 q hk2 => ?_⟩
      · exact (Heap.get?_update_other _ _ (fun z : B = a => hB (by rw [z]; exact ha))).trans e
      · exact fin v h2 tk2 (by simpa [List.range'_succ, bst_min] using q) fun a o q1 q2 q3 => hk2 a o q1 q2 ((Heap.get?_update_other _ _ (Ne.symm q2)).trans (kp a o q1 q3))
    | some p =>
      obtain ⟨y, t⟩ := p
      have at1 : h'.get? B = some { cls := .type "list", dict := none, data := .seq #[.int y t, .int y t] c, slots := #[] } := kp B _ hw at0
      refine wpAny_bind (m := pure (Value.int (f i) tv)) (wpAny_pure ?_)
      show wpAny _ A.in1 (tryCatch (holding [Value.int (f i) tv, Value.int (f i) tv] (richCompare .Lt (Value.int (f i) tv) (Value.int y t) >>= _)) _ >>= _) _ _ _
      refine wpAny_bind (wpAny_tryCatch (wpAny_holding (wpAny_bind ?_)))
      refine CmpOf.ints_lt (P := fun j v => ∃ t, v = .int (if j = 0 then f i else y) t) (fun j => if j = 0 then f i else y) (fun _ _ h => h) 0 1 _ _ _ _ _ ⟨tv, rfl⟩ ⟨t, rfl⟩ ?_
      refine wpAny_bind (wpAny_holding (wpAny_truthy_bool ?_))
      refine wpAny_bind (wpAny_letGo (wpAny_pure ?_))
      by_cases hb : f i < y
      · refine wp_if_pos (by simpa using hb) ?_
        show wpAny _ A.in1 (updateSeq B (fun _ => #[.int (f i) tv, .int (f i) tv]) >>= _) _ _ _
        refine wpAny_bind (wpAny_updateSeq at1 rfl (wpAny_bind (wpAny_letGo ?_)))
        rw [nm]
        refine wpAny_pure ⟨plainId_quiet F.plain_min_loop _, ih (i + 1) _ (some (f i, tv)) _ (by omega) lt (W.frame _ _ _ st' fun a ha o e => ?_) (Heap.get?_update_self _ at1 rfl) fun v h2 tk2 q hk2 => ?_⟩
        · exact (Heap.get?_update_other _ _ (fun z : B = a => hB (by rw [z]; exact ha))).trans e
        · exact fin v h2 tk2 (by simpa [List.range'_succ, bst_min, hb] using q) fun a o q1 q2 q3 => hk2 a o q1 q2 ((Heap.get?_update_other _ _ (Ne.symm q2)).trans (kp a o q1 q3))
      · refine wp_if_neg (by simpa using hb) ?_
        refine wpAny_bind (wpAny_letGo ?_)
        rw [nm]
        refine wpAny_pure ⟨plainId_quiet F.plain_min_loop _, ih (i + 1) _ (some (y, t)) _ (by omega) lt st' at1 fun v h2 tk2 q hk2 => ?_⟩
        exact fin v h2 tk2 (by simpa [List.range'_succ, bst_min, hb] using q) fun a o q1 q2 q3 => hk2 a o q1 q2 (kp a o q1 q3)
theorem args_mind (a d : Value) : argsOk "min" ⟨[a], [(Str.ofString "default", d)]⟩ := by unfold argsOk; kernel_rfl
theorem min_def {s : Shared} {l : Addr} {its : List Value} {ns : List Int} {dv : Value} {Q : Value → Shared → Prop} (hh : A.handled = none) (hl : s.heap.IsList l its.toArray) (hi : IntsAre its ns)
    (h : ∀ v h' tk, (match ns.foldl bst_min none with | none => v = dv | some y => ∃ t, v = .int y t) → (∀ b o, s.heap.get? b = some o → h'.get? b = some o) → Q v { s with heap := h', toks := tk }) :
    wpAny (model prog w) A (call (.builtin "min") [.ref l] [(Str.ofString "default", dv)]) Q E s := by
  have nm : (toString "min" ++ toString ".loop" : String) = "min.loop" := by decide
  obtain ⟨ol, hol, hcl⟩ := id hl
  have lt : l < s.heap.objs.size := Heap.lt_size hol
  refine PyProof.Rows.kmk_tree F.kind_min F.plain_min F.entry_min (args_mind _ _) ?_
  refine wpAny_bind (m := Builtin.Builtins.bindParams "min" ["key", "default"] 0 ⟨[], [(Str.ofString "default", dv)]⟩) (wpAny_of_eq (t := Builtin.Builtins.bindParams "min" ["key", "default"] 0 ⟨[], [(Str.ofString "default", dv)]⟩) (a := [none, some dv]) rfl ?_)
  refine wpAny_bind (m := pure (Value.ref l)) (wpAny_pure ?_)
  refine wpAny_bind (wpAny_pyIter_list hl ?_)
  refine wpAny_bind (wpAny_newList ?_ (Nat.zero_le _))
  rw [nm]
  let it : Obj := { cls := .type "list_iterator", data := .fields #[.ref l, .int 0 0] }
  have sz : (s.heap.push it).objs.size = s.heap.objs.size + 1 := PyProof.Rows.size_push' ..
  have Wk := Walks.list (prog := prog) (w := w) (A := A.in1) hh s.heap.objs.size l (Nat.ne_of_lt lt) its.toArray
  have hlen : its.toArray.size = ns.length := by rw [List.size_toArray]; exact hi.length
  have hB : (s.heap.push it).objs.size ∉ [s.heap.objs.size, l] := by
    rw [sz]
    intro z
    rcases List.mem_cons.mp z with z | z
    · omega
    · exact Nat.ne_of_gt (Nat.lt_succ_of_lt lt) (List.mem_singleton.mp z)
  refine wpAny_pure ⟨plainId_quiet F.plain_min_loop _, min_turns Wk (fun i => ns.getD i 0) (fun i v hv => ?_) _ hB dv its.toArray.size 0 _ none 0 (Nat.sub_zero _) (Nat.zero_le _) ⟨⟨_, Heap.get?_push_of_some _ (Heap.get?_push_size _ rfl), rfl, rfl⟩, (hl.push _).push _⟩ (Heap.get?_push_size _ rfl) fun v h' tk q kp => ?_⟩
  · exact PyProof.Rows.IntsAre.int_at hi i v (by simpa using hv)
  · refine h v h' tk ?_ fun b o e => ?_
    · have e : (List.range' 0 its.toArray.size).map (fun i => ns.getD i 0) = ns := by
        rw [hlen]
        refine List.ext_getElem (by simp) fun i h1 h2 => ?_
        simp [List.getElem_range', h2]
      rw [e] at q
      exact q
    · have lb := Heap.lt_size e
      refine kp b o (fun z => ?_) (fun z => ?_) (Heap.get?_push_of_some _ (Heap.get?_push_of_some _ e))
      · exact Nat.ne_of_lt lb (List.mem_singleton.mp z)
      · have z' : b = (s.heap.push it).objs.size := z
        rw [sz] at z'; exact Nat.ne_of_lt (Nat.lt_succ_of_lt lb) z'
end
end Pv
end
section
set_option Elab.async false
set_option linter.all false
set_option maxRecDepth 100000
set_option maxHeartbeats 3200000
namespace Pv
open PySem PySem.Spec PyProof.Rows L2
abbrev nso (w : World) : Obj := { cls := .type "set", dict := none, data := .set #[] 0 (.fresh 0 0 (!w.params.followText "set-order")) }
abbrev Kps (h h' : Heap) : Prop := ∀ b o, h.get? b = some o → h'.get? b = some o
section
variable {P : Program} {w : World} {A : Around} {E : Value → Shared → Prop} {s : Shared}
structure Fills (P : Program) (w : World) (h0 : Heap) (S : Addr) (Pv : Nat → Value → Prop) (J : Nat → Heap → Prop) (u : Nat) : Prop where
  keep : ∀ i h h', J i h → (∀ o, h.get? S = some o → h'.get? S = some o) → Kps h0 h' → J i h'
  step : ∀ i v (A : Around) (E : Value → Shared → Prop) (s : Shared) (Q : Bool → Shared → Prop), Pv i v → A.units < u → J i s.heap → Kps h0 s.heap →
    (∀ r h' tk, s.toks ≤ tk → Heap.SameBut S s.heap h' → J (i + 1) h' → Q r { s with heap := h', toks := tk }) → wpAny (model P w) A (setAdd S v) Q E s
theorem fill_turns {I S : Addr} {fp wr : List Addr} {G : Array GenState → Array GenState → Prop} {n u : Nat} {Pv : Nat → Value → Prop} {St : Nat → Shared → Prop} {R : Result → Shared → Prop} {h0 : Heap} {J : Nat → Heap → Prop}
    (W : WalksS P w A.in1 I fp wr G n Pv St) (hf : S ∉ fp) (F0 : Fills P w h0 S Pv J u) (hu : A.in1.units < u) (hS : h0.get? S = none) (hw : ∀ b ∈ wr, h0.get? b = none) : ∀ (k i : Nat) (s : Shared), n - i = k → i ≤ n → St i s → Kps h0 s.heap → J i s.heap →
      (∀ s', Moved (S :: wr) G s s' → J n s'.heap → Kps h0 s'.heap → R (.ok (.ret .none)) s') → codeAny (model P w) A (.builtin "set.update.loop" ⟨[.ref S, .ref I], []⟩) R s := by
  have hsw : S ∉ wr := fun z => hf (W.sub _ z)
  have mv : ∀ {s s' : Shared}, Moved wr G s s' → Kps h0 s.heap → Kps h0 s'.heap := fun m k b o e => m.heap b o (fun z => by rw [hw b z] at e; cases e) (k b o e)
  intro k
  induction k with
  | zero =>
    intro i s hk hi st kp j fin
    obtain rfl : i = n := by omega
    refine codeAny_builtin F.entry_set_update_loop ?_
    rw [Around.under_plainId F.plain_set_update_loop _]
    show wpAny _ A.in1 (pyNext (.ref I) >>= _) _ _ s
    refine wpAny_bind (W.done s _ _ st fun s' m => ?_)
    show wpAny _ A.in1 (ret Value.none) _ _ s'
    exact wpAny_pure (fin s' (m.mono fun b hb => List.mem_cons_of_mem _ hb) (F0.keep _ _ _ j (fun o e => m.heap S o hsw e) (mv m kp)) (mv m kp))
  | succ k ih =>
    intro i s hk hi st kp j fin
    have lt : i < n := by omega
    refine codeAny_builtin F.entry_set_update_loop ?_
    rw [Around.under_plainId F.plain_set_update_loop _]
    show wpAny _ A.in1 (pyNext (.ref I) >>= _) _ _ s
    refine wpAny_bind (W.item i s _ _ lt st fun v s' pv st' m => ?_)
    have kp1 := mv m kp
    show wpAny _ A.in1 (holding [v] (setAdd S v) >>= _) _ _ s'
    refine wpAny_bind (wpAny_holding ?_)
    refine F0.step i v _ _ s' _ pv hu (F0.keep _ _ _ j (fun o e => m.heap S o hsw e) kp1) kp1 fun r h' tk ht sb j' => ?_
    have kp2 : Kps h0 h' := fun b o e => (sb.2 b (fun z => by rw [z, hS] at e; cases e)).trans (kp1 b o e)
    refine wpAny_pure ⟨plainId_quiet F.plain_set_update_loop _, ih (i + 1) _ (by omega) lt (W.frame _ s' _ _ st' ht fun b hb o e => ?_) kp2 j' fun s2 m2 j2 kp3 => ?_⟩
    · rw [sb.2 b (fun z : b = S => hf (by rw [← z]; exact hb))]; exact e
    · refine fin s2 (Moved.trans W.gtrans ((m.mono fun b hb => List.mem_cons_of_mem _ hb).then_heap ht fun b o hb e => ?_) m2) j2 kp3
      rw [sb.2 b (fun z : b = S => hb (by rw [z]; exact List.mem_cons_self))]; exact e
theorem get_none {h : Heap} {b : Addr} (hb : h.objs.size ≤ b) : h.get? b = none := by
  cases q : h.get? b with
  | none => rfl
  | some o => exact absurd (Nat.lt_of_lt_of_le (Heap.lt_size q) hb) (Nat.lt_irrefl _)
theorem call_set_any {l : Addr} {items : Array Value} {u : Nat} {J : Nat → Heap → Prop} {Q : Value → Shared → Prop} (hh : A.handled = none) (hl : s.heap.IsList l items ∨ s.heap.IsTuple l items)
    (F0 : Fills P w s.heap s.heap.objs.size (fun i v => items[i]? = some v) J u) (hu : A.units + 3 < u) (hJ0 : ∀ h, h.get? s.heap.objs.size = some (nso w) → Kps s.heap h → J 0 h)
    (h : ∀ (h' : Heap) (tk : Nat), J items.size h' → Kps s.heap h' → Q (.ref s.heap.objs.size) { s with heap := h', toks := tk }) :
    wpAny (model P w) A (call (.type "set") [.ref l]) Q E s := by
  obtain ⟨c, tl, hmro⟩ := F.called_set.mro
  have hmade := F.called_set.made
  have hsub := F.called_set.sub
  refine wpAny_call (codeAny_of_tree ?_)
  show wpAny _ _ (callAny (.type "set") _) _ _ _
  refine wpAny_pure ⟨Code.quiet_builtin _ (by decide +kernel), codeAny_builtin F.entry_type_call ?_⟩
  rw [Around.under_plain (weight_type_call_type "set" [.ref l] []) rfl]
  have g1 := F.called_set.notType
  have g2 := F.called_set.canCreate
  have g3 := F.typeCall_set_1 (.ref l)
  repeat (any_goals (first | assumption | wp_step))
  refine codeAny_mono (code_set_led1 (.ref l) (E := E) (Q₁ := fun x s1 => x = .ref s.heap.objs.size ∧ s1 = { s with heap := s.heap.push (nso w) }) ⟨rfl, rfl⟩) fun r s1 hr => ?_
  cases r with
  | error e => exact hr
  | ok fl =>
    cases fl with
    | ret x =>
      obtain ⟨rfl, rfl⟩ := hr
      have at0 : (s.heap.push (nso w)).get? s.heap.objs.size = some (nso w) := Heap.get?_push_size _ rfl
      have ty : Shared.TypeIs { s with heap := s.heap.push (nso w) } (.ref s.heap.objs.size) "set" := ⟨_, at0, rfl⟩
      have g4 := F.called_set.init.lookup
      have g5 := F.called_set.init.bind (.ref s.heap.objs.size)
      repeat (any_goals (first | assumption | wp_step))
      refine codeAny_mono (codeAny_call_builtin (R := wants (fun r s2 => r = .none ∧ ∃ h' tk, s2 = { s with heap := h', toks := tk } ∧ J items.size h' ∧ Kps s.heap h') E) F.called_set.init.plain F.entry_set_init (check_set_init_1 ty ?_)) fun r2 s2 hr2 => ?_
      · have hh3 : A.in1.in1.in1.handled = none := by simp [hh]
        rcases hl with hl | hl
        · obtain ⟨ol, hol, hcl, nl, hdl⟩ := hl
          obtain ⟨ocls, odict, odata, oslots⟩ := ol
          simp only at hcl hdl
          subst hcl; subst hdl
          have q0 : (s.heap.push (nso w)).get? l = some { cls := .type "list", dict := odict, data := .seq items nl, slots := oslots } := Heap.get?_push_of_some _ hol
          have q1 := F.sub_list_set
          have q2 := F.sub_list_frozenset
          have q3 : (Value.type "list" == Value.type "dict") = false := by decide
          have q4 : (s.heap.push (nso w)).IsList l items := ⟨_, q0, rfl, nl, rfl⟩
          unfold Builtin.«set.__init__» noKeywords Builtin.Frozenset.updateFrom
          generalize hPI : pyIter = PI
          wp_walk
          subst hPI
          refine wpAny_pyIter_list q4 ?_
          refine wpAny_bind (wpAny_runValue ?_)
          have ll : l < s.heap.objs.size := Heap.lt_size hol
          have ni : l ≠ (s.heap.push (nso w)).objs.size := by rw [Heap.size_push]; exact Nat.ne_of_lt (Nat.lt_succ_of_lt ll)
          have nf : s.heap.objs.size ∉ [(s.heap.push (nso w)).objs.size, l] := by
            rw [Heap.size_push]; simp only [List.mem_cons, List.mem_singleton, List.not_mem_nil, or_false, not_or]
            exact ⟨Nat.ne_of_lt (Nat.lt_succ_self _), Nat.ne_of_gt ll⟩
          refine fill_turns ((Walks.list hh3 _ l ni items).toS) nf F0 hu (get_none (Nat.le_refl _)) (fun b hb => get_none (by rw [List.mem_singleton.mp hb, Heap.size_push]; exact Nat.le_succ _)) (items.size - 0) 0 _ rfl (Nat.zero_le _)
            ⟨⟨_, Heap.get?_push_size _ rfl, rfl, rfl⟩, (q4.push _)⟩ (fun b o e => Heap.get?_push_of_some _ (Heap.get?_push_of_some _ e)) (hJ0 _ (Heap.get?_push_of_some _ at0) fun b o e => Heap.get?_push_of_some _ (Heap.get?_push_of_some _ e)) ?_
          intro s' m j kp
          obtain ⟨h', gg, dd, tk', oo⟩ := s'
          obtain rfl : gg = s.gens := m.gens
          obtain rfl : dd = s.drawn := m.drawn
          obtain rfl : oo = s.os := m.os
          show wpAny _ _ _ _ _ _
          refine wpAny_pure ?_
          show wpAny _ _ (ret Value.none) _ _ _
          exact wpAny_pure ⟨rfl, h', tk', rfl, j, kp⟩
        · obtain ⟨ol, hol, hcl, nl, hdl⟩ := hl
          obtain ⟨ocls, odict, odata, oslots⟩ := ol
          simp only at hcl hdl
          subst hcl; subst hdl
          have q0 : (s.heap.push (nso w)).get? l = some { cls := .type "tuple", dict := odict, data := .seq items nl, slots := oslots } := Heap.get?_push_of_some _ hol
          have q1 := F.sub_tuple_set
          have q2 := F.sub_tuple_frozenset
          have q3 : (Value.type "tuple" == Value.type "dict") = false := by decide
          have q4 : (s.heap.push (nso w)).IsTuple l items := ⟨_, q0, rfl, nl, rfl⟩
          unfold Builtin.«set.__init__» noKeywords Builtin.Frozenset.updateFrom
          generalize hPI : pyIter = PI
          wp_walk
          subst hPI
          refine wpAny_pyIter_tuple q4 ?_
          refine wpAny_bind (wpAny_runValue ?_)
          have ll : l < s.heap.objs.size := Heap.lt_size hol
          have ni : l ≠ (s.heap.push (nso w)).objs.size := by rw [Heap.size_push]; exact Nat.ne_of_lt (Nat.lt_succ_of_lt ll)
          have nf : s.heap.objs.size ∉ [(s.heap.push (nso w)).objs.size, l] := by
            rw [Heap.size_push]; simp only [List.mem_cons, List.mem_singleton, List.not_mem_nil, or_false, not_or]
            exact ⟨Nat.ne_of_lt (Nat.lt_succ_self _), Nat.ne_of_gt ll⟩
          refine fill_turns ((Walks.tuple hh3 _ l ni items).toS) nf F0 hu (get_none (Nat.le_refl _)) (fun b hb => get_none (by rw [List.mem_singleton.mp hb, Heap.size_push]; exact Nat.le_succ _)) (items.size - 0) 0 _ rfl (Nat.zero_le _)
            ⟨⟨_, Heap.get?_push_size _ rfl, rfl, rfl⟩, (q4.push _)⟩ (fun b o e => Heap.get?_push_of_some _ (Heap.get?_push_of_some _ e)) (hJ0 _ (Heap.get?_push_of_some _ at0) fun b o e => Heap.get?_push_of_some _ (Heap.get?_push_of_some _ e)) ?_
          intro s' m j kp
          obtain ⟨h', gg, dd, tk', oo⟩ := s'
          obtain rfl : gg = s.gens := m.gens
          obtain rfl : dd = s.drawn := m.drawn
          obtain rfl : oo = s.os := m.os
          show wpAny _ _ _ _ _ _
          refine wpAny_pure ?_
          show wpAny _ _ (ret Value.none) _ _ _
          exact wpAny_pure ⟨rfl, h', tk', rfl, j, kp⟩
      · cases r2 with
        | error e => exact hr2
        | ok f2 =>
          cases f2 with
          | ret r =>
            obtain ⟨rfl, h', tk, rfl, j, kp⟩ := hr2
            repeat (any_goals (first | assumption | wp_step))
            exact h _ _ j kp
          | _ => exact hr2.elim
    | _ => exact hr.elim
end
end Pv
end
section
set_option Elab.async false
set_option linter.all false
set_option maxRecDepth 100000
set_option maxHeartbeats 1000000
namespace Pv
open PySem PySem.Spec PyProof.Rows L2
section
variable {α : Type} [DecidableEq α] {lt : α → α → Bool}
def insU (lt : α → α → Bool) (x : α) : List α → List α
  | [] => [x]
  | y :: ys => if x = y then y :: ys else if lt x y = true then x :: y :: ys else y :: insU lt x ys
def sortU (lt : α → α → Bool) (xs : List α) : List α := xs.foldr (insU lt) []
structure Lin (lt : α → α → Bool) : Prop where
  irr : ∀ x, lt x x = false
  tr : ∀ x y z, lt x y = true → lt y z = true → lt x z = true
  tot : ∀ x y, lt x y = false → lt y x = false → x = y
theorem mem_insU {x y : α} : ∀ {l : List α}, y ∈ insU lt x l ↔ y = x ∨ y ∈ l
  | [] => by simp [insU]
  | z :: l => by
    unfold insU
    split
    · rename_i h; subst h; simp
    · split
      · simp
      · rw [List.mem_cons, mem_insU (l := l), List.mem_cons]
        constructor
        · rintro (h | h | h)
          · exact .inr (.inl h)
          · exact .inl h
          · exact .inr (.inr h)
        · rintro (h | h | h)
          · exact .inr (.inl h)
          · exact .inl h
          · exact .inr (.inr h)
theorem mem_sortU {y : α} : ∀ {xs : List α}, y ∈ sortU lt xs ↔ y ∈ xs
  | [] => by simp [sortU]
  | x :: xs => by
    show y ∈ insU lt x (sortU lt xs) ↔ _
    rw [mem_insU, mem_sortU, List.mem_cons]
theorem insU_sorted (L : Lin lt) {x : α} : ∀ {l : List α}, l.Pairwise (fun a b => lt a b = true) → (insU lt x l).Pairwise (fun a b => lt a b = true)
  | [], _ => by simp [insU]
  | y :: l, h => by
    obtain ⟨h1, h2⟩ := List.pairwise_cons.mp h
    unfold insU
    split
    · exact h
    · rename_i ne
      split
      · rename_i hl
        refine List.pairwise_cons.mpr ⟨fun z hz => ?_, h⟩
        rcases List.mem_cons.mp hz with rfl | hz
        · exact hl
        · exact L.tr _ _ _ hl (h1 z hz)
      · rename_i hl
        refine List.pairwise_cons.mpr ⟨fun z hz => ?_, insU_sorted L h2⟩
        rcases mem_insU.mp hz with rfl | hz
        · cases q : lt y z with
          | true => rfl
          | false => exact absurd (L.tot _ _ (by simpa using hl) q) ne
        · exact h1 z hz
theorem sortU_sorted (L : Lin lt) : ∀ (xs : List α), (sortU lt xs).Pairwise (fun a b => lt a b = true)
  | [] => List.Pairwise.nil
  | x :: xs => insU_sorted L (sortU_sorted L xs)
theorem sorted_uniq (L : Lin lt) : ∀ {a b : List α}, a.Pairwise (fun x y => lt x y = true) → b.Pairwise (fun x y => lt x y = true) → (∀ x, x ∈ a ↔ x ∈ b) → a = b
  | [], [], _, _, _ => rfl
  | [], y :: b, _, _, h => absurd ((h y).mpr List.mem_cons_self) (by simp)
  | x :: a, [], _, _, h => absurd ((h x).mp List.mem_cons_self) (by simp)
  | x :: a, y :: b, ha, hb, h => by
    obtain ⟨a1, a2⟩ := List.pairwise_cons.mp ha
    obtain ⟨b1, b2⟩ := List.pairwise_cons.mp hb
    have e : x = y := by
      rcases List.mem_cons.mp ((h x).mp List.mem_cons_self) with e | hx
      · exact e
      · rcases List.mem_cons.mp ((h y).mpr List.mem_cons_self) with e | hy
        · exact e.symm
        · exact absurd (L.tr _ _ _ (a1 y hy) (b1 x hx)) (by rw [L.irr]; decide)
    subst e
    congr 1
    refine sorted_uniq L a2 b2 fun z => ⟨fun hz => ?_, fun hz => ?_⟩
    · rcases List.mem_cons.mp ((h z).mp (List.mem_cons_of_mem _ hz)) with e | q
      · exact absurd (a1 z hz) (by rw [e, L.irr]; decide)
      · exact q
    · rcases List.mem_cons.mp ((h z).mpr (List.mem_cons_of_mem _ hz)) with e | q
      · exact absurd (b1 z hz) (by rw [e, L.irr]; decide)
      · exact q
theorem insU_len {x : α} : ∀ {l : List α}, (insU lt x l).length ≤ l.length + 1
  | [] => by simp [insU]
  | y :: l => by
    unfold insU
    split
    · simp
    · split
      · simp
      · have := insU_len (x := x) (l := l); simp; omega
theorem sortU_len : ∀ (xs : List α), (sortU lt xs).length ≤ xs.length
  | [] => Nat.le_refl _
  | x :: xs => by
    show (insU lt x (sortU lt xs)).length ≤ _
    have := insU_len (lt := lt) (x := x) (l := sortU lt xs)
    have := sortU_len xs
    simp; omega
end
def iLt (a b : Int) : Bool := decide (a < b)
theorem lin_i : Lin iLt := by
  refine ⟨fun x => ?_, fun x y z h1 h2 => ?_, fun x y h1 h2 => ?_⟩
  · simp [iLt]
  · simp only [iLt, decide_eq_true_eq] at h1 h2 ⊢; omega
  · simp only [iLt, decide_eq_false_iff_not] at h1 h2; omega
section
variable {P : Program} {w : World} {A : Around} {E : Value → Shared → Prop} {s : Shared} {a : Addr}
theorem sorted_setR {S : Int → Bool} {n : Nat} {Q : Value → Shared → Prop} (R : SetR w s.heap a S n) (hh : A.handled = none)
    (fin : ∀ s' p (out : List Value) (c : Nat) (ns : List Int), (∀ b o, s.heap.get? b = some o → s'.heap.get? b = some o) → s'.gens = s.gens → s'.os = s.os → s.heap.objs.size ≤ p →
      s'.heap.get? p = some (seqObj "list" out.toArray c) → IntsAre out ns → ns.Pairwise (fun x y => iLt x y = true) → (∀ k, k ∈ ns ↔ S k = true) → ns.length ≤ 4096 → Q (.ref p) s') : wpAny (model P w) A (call (.builtin "sorted") [.ref a]) Q E s := by
  obtain ⟨o, es, ep, t, ho, hex, hd, g, nd, hm, hb, hf, hn, hr, hl⟩ := R
  refine Calls.call_function_entry kind_sorted plain_sorted entry_sorted (args_sorted1 _) ?_
  unfold Builtin.«sorted»
  refine wpAny_bind (m := checkCount "sorted" 1 1 _) (wpAny_pure ?_)
  refine wpAny_bind (collect_set (A := A.in1) hh ⟨o, ho, hex.1, hd⟩ hf hb hr hl fun s1 vs k1 hz g1 o1 pm => ?_)
  have vl : vs.length ≤ 4096 := by
    rw [pm.length_eq, List.length_map, Array.length_toList]
    have : scanBound = 4096 := rfl
    omega
  have vi : ∀ v ∈ vs, ∃ i t, v = Value.int i t := fun v hv => by
    obtain ⟨e, he, q⟩ := List.mem_map.mp (pm.mem_iff.mp hv)
    obtain ⟨k, tk, z, _⟩ := g e he
    exact ⟨k, tk, by rw [← q]; exact z⟩
  have hI := SrtO.ints_iv vi
  have ke : ∀ v ∈ es.toList.map (·.2), SrtO.iv v = Builtin.Re.reRawOf v := fun v hv => by
    obtain ⟨i, t, rfl⟩ := vi v (pm.mem_iff.mpr hv)
    rfl
  have pk : (vs.map SrtO.iv).Perm (es.toList.map keyOf) := by
    have q := pm.map SrtO.iv
    rw [List.map_map] at q
    refine q.trans (List.Perm.of_eq (List.map_congr_left fun e he => ?_))
    exact ke e.2 (List.mem_map.mpr ⟨e, he, rfl⟩)
  refine wpAny_bind (wpAny_newList ?_ (by rw [sizeLine_eq]; omega))
  have at1 : (s1.heap.push (seqObj "list" vs.toArray 0)).get? s1.heap.objs.size = some (seqObj "list" vs.toArray 0) := Heap.get?_push_size _ rfl
  refine wpAny_bind (wpAny_holding (wpAny_call_entry slot_list_sort ⟨_, at1, rfl⟩ entry_list_sort
    (SrtO.list_sort_ord SrtO.swo_int at1 (by rw [sizeLine_eq]; omega) (fun h2 => SrtO.ints_sortable hI h2) fun out h1 h2 => ⟨.none, rfl, ?_⟩) (args_list_sort _)))
  obtain ⟨c1, c2, c3⟩ := SrtO.ints_out hI h1 h2
  obtain ⟨c, hc⟩ := sortedHeap_at (vs := vs) (out := out.toArray) at1
  have pn : (out.map SrtO.iv).Perm (es.toList.map keyOf) := c2.trans pk
  refine wpAny_pure ⟨_, rfl, fin _ s1.heap.objs.size out c _ (fun b u e => ?_) g1 o1 hz hc c1 ?_ (fun k => by rw [pn.mem_iff, ← hm k]) ?_⟩
  · have q := k1 b u e
    have hlt := Heap.lt_size q
    show (sortedHeap (s1.heap.push (seqObj "list" vs.toArray 0)) s1.heap.objs.size vs out.toArray).get? b = some u
    rw [sortedHeap_old (Nat.ne_of_lt hlt) (by rw [size_push']; exact Nat.lt_succ_of_lt hlt)]
    exact Heap.get?_push_of_some _ q
  · exact (lt_of_le_nodup _ c3 (pn.nodup_iff.mpr nd)).imp fun {x y} h => decide_eq_true h
  · rw [c2.length_eq, List.length_map]; exact vl
end
section
variable {X : Cx}
def rSortedSA (w : World) : List V → Hp → VK → Prop := fun vs H Q => ∃ (a : Addr) (S : Int → Bool) (n : Nat), vs = [V.ref a] ∧ H a = some (SetO w a S n) ∧
  ∀ (ns : List Int) (p : Addr), ns.Pairwise (fun x y => iLt x y = true) → (∀ k : Int, k ∈ ns ↔ S k = true) → H p = none → Q (.ref p) (upd H p (.lst (ns.map V.int)))
theorem cr_sortedSA (hc : X.calm = true) : CallR X (.builtin "sorted") (rSortedSA X.w) := by
  intro pins s σ H vs us Q I r h
  obtain ⟨a, S, n, rfl, ha, q⟩ := h
  rw [Vals.ref1 r]
  refine sorted_setR (setO_get I ha) (I.ok.hd hc) fun s' p out c ns k g o hp hg hi hs hm hl => ?_
  have hn : H p = none := I.hok.fresh hp
  have hlen : (ns.map V.int).length ≤ sizeLine := by rw [List.length_map, sizeLine_eq]; omega
  have J : Inv X pins σ (upd H p (.lst (ns.map V.int))) { s with heap := s'.heap, gens := s'.gens, drawn := s'.drawn, toks := s'.toks } :=
    I.call (ch := []) (Un.laid k hp hn) (I.hok.laid k hp ⟨hlen, out, c, vals_of_ints hi, hg⟩) (by rw [g]; exact I.bare) (fun _ z => nomatch z)
  have e : s' = { s with heap := s'.heap, gens := s'.gens, drawn := s'.drawn, toks := s'.toks } := by
    cases s'; cases s; cases o; rfl
  rw [e]
  exact ⟨.ref p, _, J, rfl, q ns p hs hm hn⟩
end
end Pv
end
section
set_option Elab.async false
set_option linter.all false
set_option maxRecDepth 100000
set_option maxHeartbeats 1000000
namespace Pv
open PySem PySem.Spec PyProof.Rows L2
abbrev KT' := List L2.Key
abbrev Ent := Addr × KT'
abbrev IsM (P : Program) (w : World) (h : Heap) (k : KT') (b : Addr) : Prop := IsTupleKey (mixKind P w) h k b
abbrev mh (P : Program) (w : World) (k : KT') : Int := tupleKeyHash (mixKind P w) k
abbrev hsE (P : Program) (w : World) (e : Ent) : Int := mh P w e.2
abbrev rowE (P : Program) (w : World) (e : Ent) : Int × Value := (mh P w e.2, Value.ref e.1)
section
variable {P : Program} {w : World} {A : Around} {E : Value → Shared → Prop} {s : Shared}
theorem mix_items {k : KT'} {vs : List Value} (h : ItemsAre (mixKind P w) k vs) : ∀ v ∈ vs, (∃ i t, v = Value.int i t) ∨ ∃ x t, v = Value.str x t := by
  induction h with
  | nil => intro v hv; cases hv
  | @cons k0 v0 ks vs h1 _ ih =>
    intro v hv
    rcases List.mem_cons.mp hv with rfl | hv
    · rcases keyIs_shape (k := k0) (v := v) h1 with ⟨i, t, _, e⟩ | ⟨x, t, _, e⟩
      · exact .inl ⟨i, t, e⟩
      · exact .inr ⟨x, t, e⟩
    · exact ih v hv
theorem ofCls_str (n : Nat) (x : Str) (t : Tok) : ofAClassStatement n (.str x t) = pure false := by cases n <;> rfl
theorem byVal_str (n : Nat) (x : Str) (t : Tok) : hashByValue n (.str x t) = pure false := by cases n <;> rfl
theorem ofCls_mix {k : KT'} {b : Addr} {Q : Bool → Shared → Prop} (hk : IsM P w s.heap k b) (h : Q false s) : wpAny (model P w) A (ofAClassStatement 8 (.ref b)) Q E s := by
  have ty := hk.typeIs
  obtain ⟨o, items, n, ho, _, hd, hi⟩ := hk
  unfold ofAClassStatement
  refine wpAny_bind (wpAny_typeOf ty ?_)
  dsimp only
  simp only [show (("tuple" : String) == "tuple") = true by decide, if_true, Bool.not_true, Bool.false_eq_true, if_false]
  try refine wpAny_bind (wpAny_pure ?_)
  try simp only [Bool.not_true, Bool.false_eq_true, if_false]
  show wpAny _ _ (seqItems? (.ref b) >>= _) _ _ s
  refine wpAny_bind (wpAny_seqItems ho hd ?_)
  dsimp only
  refine wpAny_bind ?_
  show wpAny _ _ (forIn items _ _) _ _ s
  rw [← Array.forIn_toList]
  refine wpAny_forIn_list _ (fun l r s' => r.1 = none ∧ s' = s ∧ ∀ v ∈ l, (∃ i t, v = Value.int i t) ∨ ∃ x t, v = Value.str x t) _ ?_ ?_ _ _ ⟨rfl, rfl, mix_items hi⟩
  · rintro v l r s' ⟨_, rfl, q⟩
    have ql : ∀ u ∈ l, (∃ i t, u = Value.int i t) ∨ ∃ x t, u = Value.str x t := fun u hu => q u (List.mem_cons_of_mem _ hu)
    rcases q v List.mem_cons_self with ⟨i, t, rfl⟩ | ⟨x, t, rfl⟩
    · rw [ofAClass_int]
      refine wpAny_bind (wpAny_pure ?_)
      simp only [Bool.false_eq_true, if_false]
      exact wpAny_pure ⟨rfl, rfl, ql⟩
    · rw [ofCls_str]
      refine wpAny_bind (wpAny_pure ?_)
      simp only [Bool.false_eq_true, if_false]
      exact wpAny_pure ⟨rfl, rfl, ql⟩
  · rintro ⟨r1, r2⟩ s' ⟨q, rfl, _⟩
    simp only at q
    subst q
    exact wpAny_pure h
theorem byVal_mix {k : KT'} {b : Addr} {Q : Bool → Shared → Prop} (hk : IsM P w s.heap k b) (h : ∀ r, Q r s) : wpAny (model P w) A (hashByValue 8 (.ref b)) Q E s := by
  have ty := hk.typeIs
  obtain ⟨o, items, n, ho, _, hd, hi⟩ := hk
  unfold hashByValue
  refine wpAny_bind (wpAny_specialOf ty F.slot_tuple_hash.lookup ?_)
  show wpAny _ _ (seqItems? (.ref b) >>= _) _ _ s
  refine wpAny_bind (wpAny_seqItems ho hd ?_)
  refine wpAny_bind ?_
  show wpAny _ _ (forIn items _ _) _ _ s
  rw [← Array.forIn_toList]
  refine wpAny_forIn_list _ (fun l r s' => r.1 = none ∧ s' = s ∧ ∀ v ∈ l, (∃ i t, v = Value.int i t) ∨ ∃ x t, v = Value.str x t) _ ?_ ?_ _ _ ⟨rfl, rfl, mix_items hi⟩
  · rintro v l r s' ⟨_, rfl, q⟩
    have ql : ∀ u ∈ l, (∃ i t, u = Value.int i t) ∨ ∃ x t, u = Value.str x t := fun u hu => q u (List.mem_cons_of_mem _ hu)
    rcases q v List.mem_cons_self with ⟨i, t, rfl⟩ | ⟨x, t, rfl⟩
    · rw [hashBy_int]
      refine wpAny_bind (wpAny_pure ?_)
      simp only [Bool.not_true, Bool.false_eq_true, if_false]
      exact wpAny_pure ⟨rfl, rfl, ql⟩
    · rw [byVal_str]
      refine wpAny_bind (wpAny_pure ?_)
      simp only [Bool.not_false, if_true]
      exact wpAny_pure (wpAny_pure (h false))
  · rintro ⟨r1, r2⟩ s' ⟨q, rfl, _⟩
    simp only at q
    subst q
    exact wpAny_pure (h true)
theorem unseen_mix {k : KT'} {b : Addr} {Q : Bool → Shared → Prop} (hk : IsM P w s.heap k b) {ys : List Value} (hy : ∀ y ∈ ys, ∃ k' c, y = Value.ref c ∧ IsM P w s.heap k' c) (h : Q false s) :
    wpAny (model P w) A (searchCouldBeSeen (.ref b) ys) Q E s := by
  unfold searchCouldBeSeen
  refine wpAny_bind ?_
  refine wpAny_forIn_list _ (fun l r s' => r.1 = none ∧ s' = s ∧ ∀ y ∈ l, ∃ k' c, y = Value.ref c ∧ IsM P w s.heap k' c) _ ?_ ?_ _ _ ⟨rfl, rfl, hy⟩
  · rintro v l r s' ⟨_, rfl, q⟩
    obtain ⟨k', c, rfl, hc⟩ := q v List.mem_cons_self
    have ql : ∀ y ∈ l, ∃ k' c, y = Value.ref c ∧ IsM P w s'.heap k' c := fun u hu => q u (List.mem_cons_of_mem _ hu)
    dsimp only
    by_cases hv : (b == c || (carriedByValue (.ref b) && carriedByValue (.ref c))) = true
    · exact wp_if_pos hv (wpAny_pure ⟨rfl, rfl, ql⟩)
    · refine wp_if_neg hv ?_
      refine wpAny_bind (wpAny_eqIsQuiet_tuple hk ?_)
      simp only [Bool.not_true, Bool.false_eq_true, if_false]
      refine wpAny_bind (wpAny_eqIsQuiet_tuple hc ?_)
      simp only [Bool.not_true, Bool.false_eq_true, if_false]
      refine wpAny_bind (ofCls_mix hk ?_)
      simp only [Bool.false_eq_true, if_false]
      refine wpAny_bind (ofCls_mix hc ?_)
      simp only [Bool.false_eq_true, if_false]
      exact wpAny_pure ⟨rfl, rfl, ql⟩
  · rintro ⟨r1, r2⟩ s' ⟨q, rfl, _⟩
    simp only at q
    subst q
    exact wpAny_pure h
structure MS (P : Program) (w : World) (h : Heap) (a : Addr) (L : List Ent) (es : Array (Int × Value)) (ep : Nat) (t : SetTable) : Prop where
  ob : ∃ o, h.get? a = some o ∧ o.ExactSet ∧ o.data = .set es ep t
  rw' : es.toList = L.map (rowE P w)
  tb : TabOk t (L.map (hsE P w))
  nd : (L.map (·.2)).Nodup
  tu : ∀ e ∈ L, IsM P w h e.2 e.1
  ld : w.params.followText "set-order" = true ∨ t.led = true
  rm : L.length * 5 < t.mask * 3
  fw : L.length < 64
variable {a : Addr} {L : List Ent} {es : Array (Int × Value)} {ep : Nat} {t : SetTable}
theorem rows_size (r : es.toList = L.map (rowE P w)) : es.size = L.length := by
  have := congrArg List.length r
  simpa using this
theorem rows_at (r : es.toList = L.map (rowE P w)) {i : Nat} {e : Ent} (h : L[i]? = some e) : es[i]? = some (rowE P w e) := by
  rw [← Array.getElem?_toList, r, List.getElem?_map, h]; rfl
theorem MS.fit (R : MS P w s.heap a L es ep t) : t.fits es.size = true := by
  have q1 := R.tb.sz
  rw [List.length_map] at q1
  have q2 := rows_size R.rw'
  have q3 := R.rm
  unfold SetTable.fits SetTable.fill
  rw [R.tb.dm, Bool.and_eq_true, beq_iff_eq, decide_eq_true_eq]
  show t.place.size = es.size ∧ t.place.size + 0 ≤ t.mask
  omega
theorem MS.nogw (R : MS P w s.heap a L es ep t) : ¬ t.gaveWay = true := by
  unfold SetTable.gaveWay
  rw [mask_odd R.tb.mok]; decide
abbrev stp (t : SetTable) (h : Int) (c : Nat) : SetTable.Probe := nth t.mask (runAt t.mask (SetTable.bits h % (t.mask + 1)) (SetTable.bits h)) c
theorem stp_dummy (t : SetTable) (h : Int) (c : Nat) : (stp t h c).dummy = none := by
  have key : ∀ (n : Nat) (p : SetTable.Probe), p.dummy = none → (nth t.mask p n).dummy = none := by
    intro n
    induction n with
    | zero => exact fun _ q => q
    | succ n ih => exact fun p q => ih (adv t.mask p) (by unfold adv; split <;> exact q)
  exact key c _ rfl
theorem stp_add (t : SetTable) (h : Int) (c q : Nat) : nth t.mask (stp t h c) q = stp t h (c + q) := (nth_add t.mask c _ q).symm
theorem ms_find (R : MS P w s.heap a L es ep t) {x : Addr} {k : KT'} (hx : IsM P w s.heap k x) (hu : A.units < cLine) {K : Nat} (k1 : K < 10 * SetTable.turns t.mask)
    (k2 : way t.mask (mh P w k) K ∉ t.place.toList) (k3 : ∀ c, c < K → way t.mask (mh P w k) c ∈ t.place.toList) {Q : SetFound → Shared → Prop}
    (yes : k ∈ L.map (·.2) → Q (.there none) s) (no : k ∉ L.map (·.2) → Q (.free (way t.mask (mh P w k) K) false) s) :
    ∀ (f c : Nat) (st : Option SetTable.Probe), st.getD (t.probeStart (mh P w k)) = stp t (mh P w k) c → c ≤ K → K - c < f →
      (∀ (i : Nat) e, L[i]? = some e → e.2 = k → ∃ d, c ≤ d ∧ d < K ∧ t.place.toList[i]? = some (way t.mask (mh P w k) d)) →
      wpAny (model P w) A (setSearchFrom a (.ref x) (mh P w k) true f st) Q E s
  | 0, c, st, _, _, hf, _ => absurd hf (Nat.not_lt_zero _)
  | f + 1, c, st, e0, hc, hf, left => by
    obtain ⟨o, ho, hex, hd⟩ := R.ob
    rw [setSearchFrom_succ]
    refine wpAny_bind (wpAny_setState_of ho hd R.fit ?_)
    dsimp only
    refine wp_if_neg R.nogw ?_
    try refine wpAny_bind (wpAny_pure ?_)
    have jat : ∀ q, (nth t.mask (stp t (mh P w k) c) q).j = way t.mask (mh P w k) (c + q) := fun q => congrArg SetTable.Probe.j (stp_add t _ c q)
    have sp := go_spec t R.tb.ris R.tb.dm (fun i => (es[i]?.map (·.1)).getD 0) (mh P w k) (10 * SetTable.turns t.mask) (K - c) (stp t (mh P w k) c) (stp_dummy _ _ _) (by omega)
      (fun q hq => by rw [jat]; exact k3 (c + q) (by omega)) (by rw [jat, show c + (K - c) = K by omega]; exact k2)
    have hat : ∀ (i : Nat) e, L[i]? = some e → (es[i]?.map (·.1)).getD 0 = mh P w e.2 := fun i e he => by rw [rows_at R.rw' he]; rfl
    rcases sp with ⟨q, i, hq, hi, hh, hno, hp⟩ | ⟨hno, hp⟩
    · have hp' : t.probe (fun i => (es[i]?.map (·.1)).getD 0) (mh P w k) (st.getD (t.probeStart (mh P w k))) = some (.candidate (way t.mask (mh P w k) (c + q)) i (stp t (mh P w k) (c + (q + 1)))) := by
        rw [e0, ← jat, ← stp_add]; exact hp
      rw [hp']
      dsimp only
      rw [jat] at hi
      have il : i < L.length := by
        have z1 : i < t.place.toList.length := (List.getElem?_eq_some_iff.mp hi).1
        have z2 := R.tb.sz
        rw [List.length_map] at z2
        rw [Array.length_toList] at z1
        omega
      obtain ⟨e, he⟩ : ∃ e, L[i]? = some e := ⟨L[i], List.getElem?_eq_getElem il⟩
      have em : e ∈ L := List.mem_of_getElem? he
      have et := R.tu e em
      have tail : wpAny (model P w) A (searchRest a (.ref x) (mh P w k) true f es t (way t.mask (mh P w k) (c + q)) i (stp t (mh P w k) (c + (q + 1)))) Q E s := by
        unfold searchRest
        rw [rows_at R.rw' he]
        dsimp only
        refine wpAny_bind (wpAny_holding (wpAny_eqBool_tuple hu et hx ?_))
        refine wpAny_bind (wpAny_setState_of ho hd R.fit ?_)
        dsimp only
        by_cases hk : e.2 = k
        · exact wp_if_pos (by simp [hk]) (wpAny_pure (yes (List.mem_map.mpr ⟨e, em, hk⟩)))
        · refine wp_if_neg (by simp [hk]) ?_
          try refine wpAny_bind (wpAny_pure ?_)
          rw [sameMem]
          dsimp only
          have sl : t.slot (way t.mask (mh P w k) (c + q)) = .live i := slot_live R.tb.ris hi
          simp only [if_true, sl, rows_at R.rw' he]
          refine wpAny_bind (wpAny_isSame_ref_self (wpAny_bind (wpAny_pure ?_)))
          simp only [if_true]
          refine wp_if_neg (by simp [hk]) ?_
          refine ms_find R hx hu k1 k2 k3 yes no f (c + (q + 1)) _ rfl (by omega) (by omega) fun i0 e1 z1 z2 => ?_
          obtain ⟨d, d1, d2, d3⟩ := left i0 e1 z1 z2
          refine ⟨d, ?_, d2, d3⟩
          rcases Nat.lt_trichotomy d (c + q) with z | z | z
          · exfalso
            exact hno (d - c) i0 (by omega) (by rw [jat, show c + (d - c) = d by omega]; exact d3) ((hat i0 e1 z1).trans (congrArg (mh P w) z2))
          · exfalso
            rw [z] at d3
            have s0 := slot_live R.tb.ris d3
            rw [sl] at s0
            injection s0 with s0
            rw [← s0, he] at z1
            exact hk ((congrArg Prod.snd (Option.some.inj z1)).trans z2)
          · omega
      by_cases hl : t.led = true
      · refine wp_if_neg (by simp [hl]) ?_
        try refine wpAny_bind (wpAny_pure ?_)
        exact tail
      · refine wp_if_pos (by simp [hl]) ?_
        refine wpAny_bind (unseen_mix hx (fun y hy => ?_) ?_)
        · obtain ⟨r, hr, er⟩ := List.mem_map.mp hy
          have hr1 : r ∈ es ∧ r.1 = mh P w k := by simpa using hr
          have hr2 : r ∈ es.toList := by simpa using hr1.1
          rw [R.rw'] at hr2
          obtain ⟨e2, m2, e3⟩ := List.mem_map.mp hr2
          exact ⟨e2.2, e2.1, by rw [← er, ← e3], R.tu e2 m2⟩
        · refine wp_if_neg (by decide) ?_
          try refine wpAny_bind (wpAny_pure ?_)
          exact tail
    · have hp' : t.probe (fun i => (es[i]?.map (·.1)).getD 0) (mh P w k) (st.getD (t.probeStart (mh P w k))) = some (.empty (way t.mask (mh P w k) K) none) := by
        have z : way t.mask (mh P w k) K = (nth t.mask (stp t (mh P w k) c) (K - c)).j := by rw [jat, show c + (K - c) = K by omega]
        rw [e0, z]; exact hp
      rw [hp']
      dsimp only
      refine wpAny_pure (no fun hm => ?_)
      obtain ⟨e, em, ek⟩ := List.mem_map.mp hm
      obtain ⟨i0, hi0, ei⟩ := List.getElem_of_mem em
      have z1 : L[i0]? = some e := by rw [List.getElem?_eq_getElem hi0, ei]
      obtain ⟨d, d1, d2, d3⟩ := left i0 e z1 ek
      exact hno (d - c) i0 (by omega) (by rw [jat, show c + (d - c) = d by omega]; exact d3) ((hat i0 e z1).trans (congrArg (mh P w) ek))
theorem ms_search (R : MS P w s.heap a L es ep t) {x : Addr} {k : KT'} (hx : IsM P w s.heap k x) (hu : A.units < cLine) {Q : SetFound → Shared → Prop} (yes : k ∈ L.map (·.2) → Q (.there none) s)
    (no : ∀ K, k ∉ L.map (·.2) → way t.mask (mh P w k) K ∉ t.place.toList → (∀ c, c < K → way t.mask (mh P w k) c ∈ t.place.toList) → Q (.free (way t.mask (mh P w k) K) false) s) :
    wpAny (model P w) A (setSearch a (.ref x) (mh P w k) true) Q E s := by
  have rm := R.rm
  obtain ⟨K, k1, k2, k3⟩ := R.tb.first (by rw [List.length_map]; omega) (mh P w k)
  have k4 : K < 100000 := by
    have : 10 * SetTable.turns t.mask ≤ 1420 := by
      unfold SetTable.turns
      rcases R.tb.mok with e | e | e <;> omega
    omega
  unfold setSearch
  refine ms_find R hx hu k1 k2 k3 yes (fun n => no K n k2 k3) 100000 0 none rfl (Nat.zero_le _) (by omega) fun i e he hk => ?_
  have z1 : (L.map (hsE P w))[i]? = some (mh P w k) := by rw [List.getElem?_map, he, ← hk]; rfl
  have z2 : i < t.place.toList.length := by
    have q1 : i < L.length := (List.getElem?_eq_some_iff.mp he).1
    have q2 := R.tb.sz
    rw [List.length_map] at q2
    rw [Array.length_toList]; omega
  have z3 := List.getElem?_eq_getElem z2
  obtain ⟨d, d1, d2⟩ := R.tb.before k2 z1 z3
  exact ⟨d, Nat.zero_le _, d1, by rw [z3, d2]⟩
end
end Pv
end
section
set_option Elab.async false
set_option linter.all false
set_option maxRecDepth 100000
set_option maxHeartbeats 1000000
namespace Pv
open PySem PySem.Spec PyProof.Rows L2
section
variable {P : Program} {w : World} {A : Around} {E : Value → Shared → Prop} {s : Shared} {a : Addr} {L : List Ent} {es : Array (Int × Value)} {ep : Nat} {t : SetTable}
theorem pick_map {α : Type} (l : List α) (d : α) : ∀ is : List Nat, (∀ i ∈ is, i < l.length) → is.filterMap (fun i => l[i]?) = is.map fun i => l.getD i d
  | [], _ => rfl
  | i :: is, h => by
    have hi := h i List.mem_cons_self
    rw [List.filterMap_cons_some (List.getElem?_eq_getElem hi), List.map_cons, pick_map l d is fun j hj => h j (List.mem_cons_of_mem _ hj), List.getD_eq_getElem?_getD, List.getElem?_eq_getElem hi]; rfl
theorem pick_all {α : Type} (l : List α) (d : α) : (List.range l.length).map (fun i => l.getD i d) = l := by
  refine List.ext_getElem (by simp) fun i h1 h2 => ?_
  simp [h2]
theorem reorder {es : Array (Int × Value)} (r : es.toList = L.map (rowE P w)) {ord : Array Nat} (hp : ord.toList.Perm (List.range L.length)) :
    ∃ L2 : List Ent, (ord.filterMap (es[·]?)).toList = L2.map (rowE P w) ∧ L2.Perm L ∧ L2.map (hsE P w) = ord.toList.map fun i => (es.map (·.1)).getD i 0 := by
  have hb : ∀ i ∈ ord.toList, i < L.length := fun i hi => List.mem_range.mp (hp.mem_iff.mp hi)
  refine ⟨ord.toList.filterMap fun i => L[i]?, ?_, ?_, ?_⟩
  · have e : (fun i : Nat => es[i]?) = fun i : Nat => (L[i]?).map (rowE P w) := by
      funext i
      rw [← Array.getElem?_toList, r, List.getElem?_map]
    rw [Array.toList_filterMap, e, List.map_filterMap]
  · have z := hp.filterMap fun i => L[i]?
    have e2 : (List.range L.length).filterMap (fun i => L[i]?) = L := by
      rw [pick_map L ((0 : Addr), []) _ fun i hi => List.mem_range.mp hi, pick_all]
    rw [e2] at z
    exact z
  · rw [pick_map L ((0 : Addr), []) _ hb, List.map_map]
    refine List.map_congr_left fun i hi => ?_
    have hl := hb i hi
    have e1 : es[i]? = some (rowE P w L[i]) := rows_at r (List.getElem?_eq_getElem hl)
    have e2 : (es.map (·.1)).getD i 0 = mh P w (L[i]).2 := by
      have e3 : (es.map (·.1))[i]? = some (mh P w (L[i]).2) := by rw [Array.getElem?_map, e1]; rfl
      simp [Array.getD_eq_getD_getElem?, e3]
    rw [e2]
    show hsE P w (L.getD i ((0 : Addr), [])) = _
    rw [List.getD_eq_getElem?_getD, List.getElem?_eq_getElem hl]; rfl
theorem mix_apart {h h' : Heap} {k : KT'} {b : Addr} {o : Obj} (hb : IsM P w h k b) (ho : h.get? a = some o) (hd : o.data = .set es ep t) (sb : Heap.SameBut a h h') : IsM P w h' k b := by
  obtain ⟨o', its, n, e, r1, r2, r3⟩ := hb
  have ne : b ≠ a := by
    rintro rfl
    obtain rfl : o' = o := Option.some.inj (e.symm.trans ho)
    rw [hd] at r2
    exact nomatch r2
  exact ⟨o', its, n, (sb.2 b ne).trans e, r1, r2, r3⟩
theorem mix_keep {h h' : Heap} {k : KT'} {b : Addr} (x : IsM P w h k b) (hk : Kps h h') : IsM P w h' k b := by
  obtain ⟨o, its, n, e, r⟩ := x
  exact ⟨o, its, n, hk b o e, r⟩
theorem ms_relay {o : Obj} (ho : s.heap.get? a = some o) (hex : o.ExactSet) (hd : o.data = .set es ep t) (r : es.toList = L.map (rowE P w)) (z1 : t.place.size = es.size) (z2 : t.dummies = #[]) (z3 : es.size ≤ t.mask)
    (nd : (L.map (·.2)).Nodup) (tu : ∀ e ∈ L, IsM P w s.heap e.2 e.1) (ld : w.params.followText "set-order" = true ∨ t.led = true) (fw : L.length < 64) {wd M : Nat}
    (m1 : SetTable.sizeAbove wd - 1 = M) (m2 : MaskOk M) (m3 : SetTable.sizeAbove wd ≤ 128) (m4 : L.length * 5 < M * 3) {Q : Unit → Shared → Prop}
    (fin : ∀ h' L' es' ep' t', Heap.SameBut a s.heap h' → MS P w h' a L' es' ep' t' → L'.Perm L → Q () { s with heap := h' }) : wpAny (model P w) A (setRelay a wd) Q E s := by
  have sl := rows_size r
  have ft : t.fits es.size = true := by
    unfold SetTable.fits SetTable.fill
    rw [z2, Bool.and_eq_true, beq_iff_eq, decide_eq_true_eq]
    show t.place.size = es.size ∧ t.place.size + 0 ≤ t.mask
    omega
  obtain ⟨t', ord, e, hp, T, em, el, _, _⟩ := relaid_ok t (hs := es.map (·.1)) (wanted := wd) m1 m2 (by rw [Array.size_map, sl]; omega)
  rw [Array.size_map, sl] at hp
  obtain ⟨L2, r1, r2, r3⟩ := reorder r hp
  rw [← r3] at T
  have s2 : (ord.filterMap (es[·]?)).size = es.size := by
    rw [rows_size r1, r2.length_eq, sl]
  rw [setRelay_eq]
  refine wpAny_bind (wpAny_setState_of ho hd ft ?_)
  dsimp only
  refine wp_if_neg (by rw [sizeLine_eq]; omega) ?_
  try refine wpAny_bind (wpAny_pure ?_)
  rw [e]
  dsimp only
  refine wpAny_bind ?_
  refine wp_if_neg (by rw [s2]; simp) ?_
  try refine wpAny_bind (wpAny_pure ?_)
  refine wpAny_pure ?_
  dsimp only
  refine wpAny_storeSet_of ho hd ?_ (by rw [s2, sl, sizeLine_eq]; omega)
  have sb : Heap.SameBut a s.heap (s.heap.update a (Obj.putSet (ord.filterMap (es[·]?)) t')) := Heap.SameBut.update ..
  refine fin _ L2 (ord.filterMap (es[·]?)) (ep + 1) t' sb ⟨⟨_, store_at ho hd, ⟨hex.1, hex.2.1, hex.2.2⟩, rfl⟩, r1, T, (r2.map (·.2)).nodup_iff.mpr nd, fun e he => mix_apart (tu e (r2.mem_iff.mp he)) ho hd sb, by rw [el]; exact ld, ?_, by rw [r2.length_eq]; exact fw⟩ r2
  rw [r2.length_eq, em]; exact m4
theorem tab_plain {t : SetTable} {hs : List Int} (T : TabOk t hs) (b : Bool) : TabOk { t with plain := b } hs := ⟨T.ris, T.dm, T.sz, T.mok, T.bd, T.reach⟩
theorem ms_add (R : MS P w s.heap a L es ep t) {x : Addr} {k : KT'} (hx : IsM P w s.heap k x) (hu : A.units < cLine) (fw : L.length + 1 < 64) {Q : Bool → Shared → Prop}
    (fin : ∀ b h' L' es' ep' t', Heap.SameBut a s.heap h' → MS P w h' a L' es' ep' t' → (k ∈ L.map (·.2) → L' = L) → (k ∉ L.map (·.2) → L'.Perm ((x, k) :: L)) → Q b { s with heap := h' }) :
    wpAny (model P w) A (setAddHashed a (.ref x) (mh P w k)) Q E s := by
  obtain ⟨o, ho, hex, hd⟩ := R.ob
  have sl := rows_size R.rw'
  have rm := R.rm
  unfold setAddHashed
  refine wpAny_holding ?_
  rw [show (100000 : Nat) = 99999 + 1 from rfl, setAddHashedIn_succ]
  refine wpAny_bind (wpAny_setState_of ho hd R.fit ?_)
  dsimp only
  refine wp_if_neg (by simp [byScan, Value.scannable]) ?_
  try refine wpAny_bind (wpAny_pure ?_)
  refine wpAny_bind (ms_search R hx hu (fun hm => ?_) fun K hm k2 k3 => ?_)
  · dsimp only
    exact wpAny_pure (fin false s.heap L es ep t (Heap.SameBut.refl a s.heap) R (fun _ => rfl) fun z => absurd hm z)
  · dsimp only
    refine wpAny_bind (wpAny_setState_of ho hd R.fit ?_)
    dsimp only
    obtain ⟨q1, q2, q3, q4, q5, _, _, _, q9⟩ := R.tb.put k2 k3
    have hin : (SetTable.insertAt es (SetTable.below t.place (way t.mask (mh P w k) K)) (mh P w k, Value.ref x)).toList = (L.take (SetTable.below t.place (way t.mask (mh P w k) K)) ++ (x, k) :: L.drop (SetTable.below t.place (way t.mask (mh P w k) K))).map (rowE P w) := by
      rw [SetTable.toList_insertAt, R.rw', List.map_append, List.map_cons, List.map_take, List.map_drop]
    generalize hpt : t.put (way t.mask (mh P w k) K) = pt at q1 q3 q4 q5 q9 ⊢
    obtain ⟨t0, p⟩ := pt
    dsimp only at q1 q3 q4 q5 q9 ⊢
    subst q1
    generalize SetTable.below t.place (way t.mask (mh P w k) K) = p at q2 q3 hin ⊢
    have pm : (L.take p ++ (x, k) :: L.drop p).Perm ((x, k) :: L) := put_perm L p (x, k)
    have ln : (L.take p ++ (x, k) :: L.drop p).length = L.length + 1 := pm.length_eq
    have hh : (L.map (hsE P w)).take p ++ mh P w k :: (L.map (hsE P w)).drop p = (L.take p ++ (x, k) :: L.drop p).map (hsE P w) := by
      rw [List.map_append, List.map_cons, List.map_take, List.map_drop]
    rw [hh] at q3
    have nd1 : ((L.take p ++ (x, k) :: L.drop p).map (·.2)).Nodup := (pm.map (·.2)).nodup_iff.mpr (List.nodup_cons.mpr ⟨hm, R.nd⟩)
    have es1 : (SetTable.insertAt es p (mh P w k, Value.ref x)).size = L.length + 1 := by rw [rows_size hin, ln]
    generalize SetTable.insertAt es p (mh P w k, Value.ref x) = fs at hin es1 ⊢
    generalize L.take p ++ (x, k) :: L.drop p = L1 at pm ln q3 nd1 hin
    have go : ∀ pb : Bool, wpAny (model P w) A (storeSet a fs { t0 with plain := pb } >>= fun _ => if (!false && SetTable.tooFull { t0 with plain := pb }) = true then (setRelay a (SetTable.grown (es.size + 1)) >>= fun _ => pure true) else pure true) Q E s := fun pb => by
      have T1 := tab_plain q3 pb
      refine wpAny_bind (wpAny_storeSet_of ho hd ?_ (by rw [es1, sizeLine_eq]; omega))
      have sb : Heap.SameBut a s.heap (s.heap.update a (Obj.putSet fs { t0 with plain := pb })) := Heap.SameBut.update ..
      have ho1 := store_at (es' := fs) (t' := { t0 with plain := pb }) ho hd
      generalize s.heap.update a (Obj.putSet fs { t0 with plain := pb }) = h1 at sb ho1 ⊢
      have tu1 : ∀ e ∈ L1, IsM P w h1 e.2 e.1 := fun e he => by
        rcases List.mem_cons.mp (pm.mem_iff.mp he) with z | z
        · rw [z]; exact mix_apart hx ho hd sb
        · exact mix_apart (R.tu e z) ho hd sb
      have ld1 : w.params.followText "set-order" = true ∨ ({ t0 with plain := pb } : SetTable).led = true := by
        show _ ∨ t0.led = true
        rw [q5]; exact R.ld
      have mk1 : ({ t0 with plain := pb } : SetTable).mask = t.mask := q4
      have fl1 : ({ t0 with plain := pb } : SetTable).fill = (L.map (hsE P w)).length + 1 := q9
      generalize ({ t0 with plain := pb } : SetTable) = t1 at T1 ho1 ld1 mk1 fl1 ⊢
      by_cases hf : t1.tooFull = true
      · have full : (L.length + 1) * 5 ≥ t1.mask * 3 := by
          have z := hf
          unfold SetTable.tooFull at z
          rw [decide_eq_true_eq, fl1, List.length_map] at z
          exact z
        have sz1 : t1.place.size = fs.size := by
          have z := T1.sz
          rw [List.length_map, ln] at z
          rw [z, es1]
        have two : (t.mask = 7 ∧ L.length = 4) ∨ (t.mask = 31 ∧ L.length = 18) := by
          rcases R.tb.mok with e | e | e
          · left; rw [mk1, e] at full; rw [e] at rm; exact ⟨e, by omega⟩
          · right; rw [mk1, e] at full; rw [e] at rm; exact ⟨e, by omega⟩
          · exfalso; rw [mk1, e] at full; omega
        rw [sl]
        refine wp_if_pos (by simp [hf]) (wpAny_bind ?_)
        have rel : ∀ M, SetTable.sizeAbove (SetTable.grown (L.length + 1)) - 1 = M → MaskOk M → SetTable.sizeAbove (SetTable.grown (L.length + 1)) ≤ 128 → (L.length + 1) * 5 < M * 3 →
            wpAny (model P w) A (setRelay a (SetTable.grown (L.length + 1))) (fun _ s' => wpAny (model P w) A (pure true) Q E s') E { s with heap := h1 } := fun M g1 g2 g3 g4 =>
          ms_relay (s := { s with heap := h1 }) ho1 ⟨hex.1, hex.2.1, hex.2.2⟩ rfl hin sz1 T1.dm (by rw [es1, mk1]; rcases two with ⟨e, e2⟩ | ⟨e, e2⟩ <;> omega) nd1 tu1 ld1 (by rw [ln]; exact fw) g1 g2 g3 (by rw [ln]; exact g4)
            fun h2 L2 es2 ep2 t2 sb2 R2 pm2 => wpAny_pure (fin true h2 L2 es2 ep2 t2 (sb.trans sb2) R2 (fun z => absurd z hm) fun _ => pm2.trans pm)
        rcases two with ⟨_, e2⟩ | ⟨_, e2⟩
        · exact rel 31 (by rw [e2, size_20]) (.inr (.inl rfl)) (by rw [e2, size_20]; decide) (by omega)
        · exact rel 127 (by rw [e2, size_76]) (.inr (.inr rfl)) (by rw [e2, size_76]; decide) (by omega)
      · refine wp_if_neg (by simp [hf]) ?_
        refine wpAny_pure (fin true h1 L1 fs (ep + 1) t1 sb ⟨⟨_, ho1, ⟨hex.1, hex.2.1, hex.2.2⟩, rfl⟩, hin, T1, nd1, tu1, ld1, ?_, by rw [ln]; exact fw⟩ (fun z => absurd z hm) fun _ => pm)
        have z := hf
        unfold SetTable.tooFull at z
        rw [decide_eq_true_eq, fl1, List.length_map] at z
        rw [ln]; omega
    have fin2 : ∀ b : Bool, wpAny (model P w) A (storeSet a fs (if b = true then t0 else { t0 with plain := false }) >>= fun _ => if (!false && SetTable.tooFull (if b = true then t0 else { t0 with plain := false })) = true then (setRelay a (SetTable.grown (es.size + 1)) >>= fun _ => pure true) else pure true) Q E s := fun b => by
      cases b with
      | true => exact go t0.plain
      | false => exact go false
    by_cases hpl : t0.plain = true
    · first
        | (refine wpAny_bind ?_; refine wp_if_pos hpl ?_; exact byVal_mix hx fun b => fin2 b)
        | exact wp_if_pos hpl (wpAny_bind (byVal_mix hx fun b => fin2 b))
    · first
        | (refine wpAny_bind ?_; refine wp_if_neg hpl ?_; exact wpAny_pure (fin2 true))
        | exact wp_if_neg hpl (fin2 true)
end
end Pv
end
section
set_option Elab.async false
set_option linter.all false
set_option maxRecDepth 100000
set_option maxHeartbeats 1000000
namespace Pv
open PySem PySem.Spec PyProof.Rows L2
def ck : L2.Key → Int ⊕ List Nat
  | .inl i => .inl i
  | .inr x => .inr x.cps.toList
theorem ck_inj : ∀ {a b : L2.Key}, ck a = ck b → a = b
  | .inl _, .inl _, h => by simpa [ck] using h
  | .inl _, .inr _, h => by simp [ck] at h
  | .inr _, .inl _, h => by simp [ck] at h
  | .inr _, .inr _, h => by
    have : _ = _ := Sum.inr.inj h
    rw [PySem.W.str_of_cps this]
theorem cks_inj : ∀ {a b : KT'}, a.map ck = b.map ck → a = b
  | [], [], _ => rfl
  | [], _ :: _, h => by simp at h
  | _ :: _, [], h => by simp at h
  | x :: a, y :: b, h => by
    simp only [List.map_cons, List.cons.injEq] at h
    rw [ck_inj h.1, cks_inj h.2]
def kLt (a b : KT') : Bool := PyProof.Rows.lexLt itemOrd (a.map ck) (b.map ck)
theorem lin_k : Lin kLt := ⟨fun _ => lex_irrefl _, fun _ _ _ => lex_trans _ _ _, fun _ _ h1 h2 => cks_inj (lex_total _ _ h1 h2)⟩
abbrev refE (e : Ent) : Value := Value.ref e.1
abbrev shp (sh : List Bool) : Nat → Bool := fun i => sh.getD i false
theorem perm_lift {α β : Type} (f : α → β) : ∀ {l : List β} {L : List α}, l.Perm (L.map f) → ∃ L' : List α, l = L'.map f ∧ L'.Perm L
  | [], L, h => ⟨[], rfl, by
      have := h.length_eq
      simp at this
      rw [List.eq_nil_of_length_eq_zero this.symm]⟩
  | x :: l, L, h => by
    obtain ⟨e, he, rfl⟩ := List.mem_map.mp (h.mem_iff.mp List.mem_cons_self)
    obtain ⟨A, B, rfl⟩ := List.append_of_mem he
    have h2 : l.Perm ((A ++ B).map f) := by
      refine List.Perm.cons_inv (h.trans ?_)
      rw [List.map_append, List.map_cons, List.map_append]
      exact List.perm_middle
    obtain ⟨L', rfl, p⟩ := perm_lift f h2
    exact ⟨e :: L', rfl, (p.cons e).trans List.perm_middle.symm⟩
section
variable {P : Program} {w : World} {A : Around} {E : Value → Shared → Prop} {s : Shared} {a : Addr} {L : List Ent} {sh : List Bool}
theorem tupItems_mix : ∀ {k : KT'} {vs : List Value} (f : Nat → Bool) (i : Nat), ItemsAre (mixKind P w) k vs → (∀ j b, (k.map Sum.isRight)[j]? = some b → f (i + j) = b) → tupItems f i vs = some (k.map ck)
  | _, _, _, _, .nil, _ => rfl
  | _, _, f, i, .cons (k := k0) (ks := ks) (vs := vs) h1 h2, hf => by
    have f0 := hf 0 _ rfl
    have ih := tupItems_mix f (i + 1) h2 fun j b hb => by
      have := hf (j + 1) b (by simpa using hb)
      rw [← this]; congr 1; omega
    rcases keyIs_shape (k := k0) h1 with ⟨n, t, rfl, rfl⟩ | ⟨x, t, rfl, rfl⟩
    · unfold tupItems
      have f1 : f i = false := f0
      rw [f1, ih]; rfl
    · unfold tupItems
      have f1 : f i = true := f0
      rw [f1, ih]; rfl
theorem key_mix {h : Heap} {k : KT'} {b : Addr} (x : IsM P w h k b) (e : k.map Sum.isRight = sh) : G.tupKeyC h (shp sh) (.ref b) = some (k.map ck) := by
  obtain ⟨o, its, n, ho, hc, hd, hi⟩ := x
  refine G.tupKeyC_of ho hc hd (tupItems_mix _ 0 hi fun j b hb => ?_)
  rw [e] at hb
  simp [shp, List.getD_eq_getElem?_getD, hb]
theorem tups_mix {h : Heap} (hne : sh ≠ []) : ∀ {L : List Ent}, (∀ e ∈ L, IsM P w h e.2 e.1) → (∀ e ∈ L, e.2.map Sum.isRight = sh) → ∃ fs, TupsOf h (shp sh) (L.map refE) fs
  | [], _, _ => ⟨[], .nil⟩
  | e :: L, ht, hs => by
    obtain ⟨fs, r⟩ := tups_mix hne (L := L) (fun x hx => ht x (List.mem_cons_of_mem _ hx)) fun x hx => hs x (List.mem_cons_of_mem _ hx)
    obtain ⟨o, its, n, ho, hc, hd, hi⟩ := ht e List.mem_cons_self
    have hse := hs e List.mem_cons_self
    cases hk : e.2 with
    | nil => rw [hk] at hse; exact absurd hse.symm hne
    | cons k0 ks =>
      rw [hk] at hi hse
      cases hv : its.toList with
      | nil => rw [hv] at hi; cases hi
      | cons v vs =>
        rw [hv] at hi
        cases hi with
        | cons h1 h2 =>
          have at0 : its[0]? = some v := by rw [← Array.getElem?_toList, hv]; rfl
          have s0 : shp sh 0 = k0.isRight := by rw [← hse]; rfl
          refine ⟨v :: fs, .cons ⟨e.1, o, its, n, rfl, ho, hc, hd, at0, fun z => ?_, fun z => ?_⟩ r⟩
          · rcases keyIs_shape (k := k0) h1 with ⟨i, t, rfl, rfl⟩ | ⟨x, t, rfl, rfl⟩
            · exact ⟨i, t, rfl⟩
            · rw [s0] at z; cases z
          · rcases keyIs_shape (k := k0) h1 with ⟨i, t, rfl, rfl⟩ | ⟨x, t, rfl, rfl⟩
            · rw [s0] at z; cases z
            · exact ⟨x, t, rfl⟩
theorem zip_two : ∀ L : List Ent, (L.map refE).zip (L.map refE) = L.map fun e => (refE e, refE e)
  | [] => rfl
  | e :: L => by rw [List.map_cons, List.zip_cons_cons, zip_two L]; rfl
theorem sort_mix {n : Nat} {R : PySem.Fin → Shared → Prop} (ho : s.heap.get? a = some (seqObj "list" (L.map refE).toArray n)) (ht : ∀ e ∈ L, IsM P w s.heap e.2 e.1) (hs : ∀ e ∈ L, e.2.map Sum.isRight = sh) (hne : sh ≠ [])
    (hz : L.length ≤ sizeLine) (fin : ∀ L' : List Ent, L'.Perm L → L'.Pairwise (fun e f => kLt f.2 e.2 = false) → R (.done (.ret .none)) { s with heap := sortedHeap s.heap a (L.map refE) (L'.map refE).toArray }) :
    wpAny (model P w) A (Builtin.«list.sort» ⟨[.ref a], []⟩) R E s := by
  obtain ⟨fs, tf⟩ := tups_mix hne ht hs
  refine G.list_sort_tups ho tf (fun v hv => ?_) (by rw [List.length_map]; exact hz) fun st h1 h2 h3 => ?_
  · obtain ⟨e, he, rfl⟩ := List.mem_map.mp hv
    exact ⟨_, key_mix (ht e he) (hs e he)⟩
  · have hl : (arrOf st).toList.Perm ((L.map refE).zip (L.map refE)) := by rw [← pairsOf_toList]; exact Array.perm_iff_toList_perm.mp h1
    have hz2 : (L.map refE).zip (L.map refE) = L.map fun e => (refE e, refE e) := zip_two L
    rw [hz2] at hl
    obtain ⟨L', e1, p1⟩ := perm_lift _ hl
    have e2 : ((arrOf st).map (·.2)) = (L'.map refE).toArray := by
      refine Array.ext' ?_
      rw [Array.toList_map, e1, List.map_map]; rfl
    rw [e2]
    refine fin L' p1 (List.pairwise_iff_getElem.mpr fun i j hi hj hij => ?_)
    have hsz : (pairsOf (L.map refE)).size = L'.length := by rw [pairsOf_size, List.length_map, p1.length_eq]
    have q := h2 i j (Nat.le_of_lt hij) (by rw [hsz]; exact hj)
    have kk : ∀ (m : Nat) (hm : m < L'.length), KK (G.tupKindC s.heap (shp sh)) (arrOf st) m = (L'[m]).2.map ck := fun m hm => by
      have at1 : (arrOf st)[m]? = some (refE L'[m], refE L'[m]) := by
        rw [← Array.getElem?_toList, e1, List.getElem?_map, List.getElem?_eq_getElem hm]; rfl
      have me : L'[m] ∈ L := p1.mem_iff.mp (List.getElem_mem hm)
      unfold KK
      rw [at1]
      show (G.tupKeyC s.heap (shp sh) (.ref (L'[m]).1)).getD [] = _
      rw [key_mix (ht _ me) (hs _ me)]; rfl
    rw [kk i hi, kk j hj] at q
    exact q
end
end Pv
end
section
set_option Elab.async false
set_option linter.all false
set_option maxRecDepth 100000
set_option maxHeartbeats 1000000
namespace Pv
open PySem PySem.Spec PyProof.Rows L2
section
variable {P : Program} {w : World} {A : Around} {E : Value → Shared → Prop} {s : Shared}
theorem fillsI {items : Array Value} {ns : List Int} {h0 : Heap} {S : Addr} {u : Nat} (hi : IntsAre items.toList ns) (hb : ns.length + 1 < 4096) :
    Fills P w h0 S (fun i v => items[i]? = some v) (fun i h => ∃ c, c ≤ i ∧ SetR w h S (fun j => decide (j ∈ ns.take i)) c) u where
  keep := fun i h h' ⟨c, hc, R⟩ k1 _ => ⟨c, hc, R.at k1⟩
  step := fun i v A E s Q hv _ ⟨c, hc, R⟩ _ fin => by
    have hl : items.toList.length = ns.length := hi.length
    have il : i < ns.length := by rw [← hl, Array.length_toList]; exact (Array.getElem?_eq_some_iff.mp hv).1
    obtain ⟨t, rfl⟩ := PyProof.Rows.IntsAre.int_at hi i v (by rw [Array.getElem?_toList]; exact hv)
    have hz : ns[i]? = some (ns.getD i 0) := by rw [List.getD_eq_getElem?_getD, List.getElem?_eq_getElem il]; rfl
    generalize ns.getD i 0 = z at hz
    unfold setAdd
    refine wpAny_holding ?_
    refine wpAny_bind ((intKind P w).pyHash (k := z) (intKind_is _ _ _ _) ?_)
    refine setR_add_hashed (s := { s with toks := s.toks + 1 }) R (by show c + 1 < 4096; omega) fun h' sb R2 => ?_
    refine fin _ h' (s.toks + 1) (Nat.le_succ _) sb ⟨_, ?_, R2.congr fun j => ?_⟩
    · split <;> omega
    · rw [List.take_add_one, hz]; simp [List.mem_append]
structure GotE (ks : List Ent) (i : Nat) (L : List Ent) : Prop where
  sub : ∀ e ∈ L, e ∈ ks.take i
  all : ∀ e ∈ ks.take i, e.2 ∈ L.map (·.2)
  len : L.length ≤ i
theorem fillsM {items : Array Value} {ks : List Ent} {h0 : Heap} {S : Addr} (hit : items.toList = ks.map refE) (hk : ∀ e ∈ ks, IsM P w h0 e.2 e.1) (hf : ks.length < 64) :
    Fills P w h0 S (fun i v => items[i]? = some v) (fun i h => ∃ L es ep t, MS P w h S L es ep t ∧ GotE ks i L) cLine where
  keep := fun i h h' ⟨L, es, ep, t, R, g⟩ k1 k2 => by
    obtain ⟨o, ho, r⟩ := R.ob
    exact ⟨L, es, ep, t, ⟨⟨o, k1 o ho, r⟩, R.rw', R.tb, R.nd, fun e he => mix_keep (hk e (List.mem_of_mem_take (g.sub e he))) k2, R.ld, R.rm, R.fw⟩, g⟩
  step := fun i v A E s Q hv hu ⟨L, es, ep, t, R, g⟩ kp fin => by
    have q : items.toList[i]? = some v := by rw [Array.getElem?_toList]; exact hv
    rw [hit, List.getElem?_map] at q
    cases hq : ks[i]? with
    | none => rw [hq] at q; cases q
    | some e =>
      rw [hq] at q
      obtain rfl : refE e = v := Option.some.inj q
      have il : i < ks.length := (List.getElem?_eq_some_iff.mp hq).1
      have hx : IsM P w s.heap e.2 e.1 := mix_keep (hk e (List.mem_of_getElem? hq)) kp
      have tk : ks.take (i + 1) = ks.take i ++ [e] := by rw [List.take_succ, hq]; rfl
      unfold setAdd
      refine wpAny_holding ?_
      refine wpAny_bind (wpAny_pyHash_tuple hu hx ?_)
      refine ms_add (s := { s with toks := s.toks + (e.2.length + 1) }) R hx hu (by have := g.len; omega) fun b h' L' es' ep' t' sb R2 c1 c2 => ?_
      refine fin b h' _ (Nat.le_add_right _ _) sb ⟨L', es', ep', t', R2, ?_⟩
      rcases Classical.em (e.2 ∈ L.map (·.2)) with c | c
      · obtain rfl := c1 c
        refine ⟨fun x hx => by rw [tk]; exact List.mem_append_left _ (g.sub x hx), fun x hx => ?_, Nat.le_succ_of_le g.len⟩
        rw [tk] at hx
        rcases List.mem_append.mp hx with z | z
        · exact g.all x z
        · rw [List.mem_singleton.mp z]; exact c
      · have pm := c2 c
        refine ⟨fun x hx => ?_, fun x hx => ?_, by rw [pm.length_eq, List.length_cons]; have := g.len; omega⟩
        · rw [tk]
          rcases List.mem_cons.mp (pm.mem_iff.mp hx) with z | z
          · rw [z]; exact List.mem_append_right _ (List.mem_singleton.mpr rfl)
          · exact List.mem_append_left _ (g.sub x z)
        · rw [(pm.map (·.2)).mem_iff, List.map_cons]
          rw [tk] at hx
          rcases List.mem_append.mp hx with z | z
          · exact List.mem_cons_of_mem _ (g.all x z)
          · rw [List.mem_singleton.mp z]; exact List.mem_cons_self
theorem ms_new {h : Heap} {a : Addr} (ho : h.get? a = some (nso w)) : MS P w h a [] #[] 0 (.fresh 0 0 (!w.params.followText "set-order")) where
  ob := ⟨_, ho, ⟨rfl, rfl, rfl⟩, rfl⟩
  rw' := rfl
  tb := ⟨List.Pairwise.nil, rfl, rfl, .inl rfl, fun x hx => (by cases hx), fun i h j hi => (by simp at hi)⟩
  nd := List.nodup_nil
  tu := fun e he => (by cases he)
  ld := by
    show _ ∨ (!w.params.followText "set-order") = true
    cases w.params.followText "set-order"
    · exact .inr rfl
    · exact .inl rfl
  rm := by show 0 * 5 < 7 * 3; decide
  fw := by show 0 < 64; decide
def MS0 (P : Program) (w : World) (h : Heap) (a : Addr) (L : List Ent) : Prop := ∃ (es : Array (Int × Value)) (ep : Nat) (t : SetTable), (∃ o, h.get? a = some o ∧ o.ExactSet ∧ o.data = .set es ep t) ∧ es.toList = L.map (rowE P w) ∧ TabOk t (L.map (hsE P w)) ∧
  (L.map (·.2)).Nodup ∧ (w.params.followText "set-order" = true ∨ t.led = true) ∧ L.length * 5 < t.mask * 3 ∧ L.length < 64
def SetM (P : Program) (w : World) (a : Addr) (L : List Ent) : HO := .ext fun h => MS0 P w h a L
theorem setM_new {H : Hp} {h : Heap} {a : Addr} {L : List Ent} {es : Array (Int × Value)} {ep : Nat} {t : SetTable} (R : MS P w h a L es ep t) : ObjOk P w H h a (SetM P w a L) := by
  obtain ⟨o, ho, r⟩ := R.ob
  refine ⟨⟨es, ep, t, ⟨o, ho, r⟩, R.rw', R.tb, R.nd, R.ld, R.rm, R.fw⟩, ⟨o, ho⟩, fun h1 h2 p k => ?_⟩
  obtain ⟨es', ep', t', ⟨o', ho', r'⟩, q⟩ := p
  exact ⟨es', ep', t', ⟨o', k o' ho', r'⟩, q⟩
theorem items_mix : ∀ {k : KT'} {us : List Value}, Vals (k.map kV) us → ItemsAre (mixKind P w) k us
  | [], _, .nil => .nil
  | .inl i :: k, _, .cons r t => by
    obtain ⟨tk, rfl⟩ := r
    exact .cons (k := Sum.inl i) (by show keyIs (Sum.inl i) (Value.int i tk) = true; simp [keyIs, Value.isInt]) (items_mix t)
  | .inr x :: k, _, .cons r t => by
    obtain ⟨tk, rfl⟩ := r
    exact .cons (k := Sum.inr x) (by show keyIs (Sum.inr x) (Value.str x tk) = true; simp [keyIs, Value.isStrOf]) (items_mix t)
theorem refs_mix : ∀ {ks : List Ent} {us : List Value}, Vals (ks.map fun e => V.ref e.1) us → us = ks.map refE
  | [], _, .nil => rfl
  | e :: ks, _, .cons r t => by
    cases r
    rw [refs_mix t]; rfl
theorem vals_mix : ∀ (ks : List Ent), Vals (ks.map fun e => V.ref e.1) (ks.map refE)
  | [] => .nil
  | e :: ks => .cons rfl (vals_mix ks)
end
section
variable {X : Cx}
theorem inv_mix {pins : List (Addr × Obj)} {σ : L2.St} {H : Hp} {s : Shared} {b : Addr} {k : KT'} (I : Inv X pins σ H s) (h : SqT X.K H b (k.map kV)) : IsM X.prog X.w s.heap k b := by
  obtain ⟨its, r, ⟨o, ho, hc, n, hd⟩, _⟩ := I.tuple h
  exact ⟨o, its.toArray, n, ho, hc, hd, by simpa using items_mix r⟩
def Sq (K : PySem.W.Frag) (H : Hp) (l : Addr) (vs : List V) : Prop := SqL K H l vs ∨ SqT K H l vs
theorem inv_sq {pins : List (Addr × Obj)} {σ : L2.St} {H : Hp} {s : Shared} {l : Addr} {vs : List V} (I : Inv X pins σ H s) (h : Sq X.K H l vs) : ∃ its : List Value, Vals vs its ∧ (s.heap.IsList l its.toArray ∨ s.heap.IsTuple l its.toArray) := by
  rcases h with h | h
  · obtain ⟨its, r, pl, _⟩ := I.list h
    exact ⟨its, r, .inl pl.isList⟩
  · obtain ⟨its, r, ⟨o, ho, hc, n, hd⟩, _⟩ := I.tuple h
    exact ⟨its, r, .inr ⟨o, ho, hc, n, hd⟩⟩
def rSetA (K : PySem.W.Frag) (P : Program) (w : World) : List V → Hp → VK → Prop := fun xs H Q => ∃ l, xs = [V.ref l] ∧
  ((∃ ns : List Int, Sq K H l (ns.map V.int) ∧ ns.length + 1 < 4096 ∧ ∀ a n, H a = none → Q (.ref a) (upd H a (SetO w a (fun j => decide (j ∈ ns)) n))) ∨
   (∃ ks : List Ent, Sq K H l (ks.map fun e => V.ref e.1) ∧ (∀ e ∈ ks, SqT K H e.1 (e.2.map kV)) ∧ ks.length < 64 ∧ ∀ a L, H a = none → (∀ e ∈ L, e ∈ ks) → (∀ e ∈ ks, e.2 ∈ L.map (·.2)) → Q (.ref a) (upd H a (SetM P w a L))))
theorem cr_setA (hc : X.calm = true) (hu : X.A.units + 64 < cLine) : CallR X (.type "set") (rSetA X.K X.prog X.w) := by
  intro pins s σ H xs us Q I r h
  obtain ⟨l, rfl, h⟩ := h
  rw [Vals.ref1 r]
  have hn : H s.heap.objs.size = none := I.hok.fresh (Nat.le_refl _)
  rcases h with ⟨ns, hl, hb, q⟩ | ⟨ks, hl, hk, hf, q⟩
  · obtain ⟨its, rv, pl⟩ := inv_sq I hl
    have hi : IntsAre its ns := rv.ints
    refine call_set_any (P := X.prog) (w := X.w) (u := X.A.units + 4) (I.ok.hd hc) pl (fillsI (ns := ns) (by simpa using hi) hb) (by omega) (fun h ho _ => ⟨0, Nat.le_refl _, setR_new_at ho⟩) fun h' tk ⟨c, hc', R⟩ k => ?_
    have e : ns.take its.toArray.size = ns := List.take_of_length_le (by rw [List.size_toArray, hi.length]; exact Nat.le_refl _)
    rw [e] at R
    exact ⟨.ref s.heap.objs.size, _, I.laid (t' := tk) k (Nat.le_refl _) (setO_new R), rfl, q _ c hn⟩
  · obtain ⟨its, rv, pl⟩ := inv_sq I hl
    have hi := refs_mix rv
    subst hi
    refine call_set_any (P := X.prog) (w := X.w) (u := cLine) (I.ok.hd hc) pl (fillsM (ks := ks) (by simp) (fun e he => inv_mix I (hk e he)) hf) (by omega) (fun h ho _ => ⟨[], #[], 0, _, ms_new ho, ⟨fun e he => (by cases he), fun e he => (by simp at he), Nat.le_refl _⟩⟩) fun h' tk ⟨L, es, ep, t, R, g⟩ k => ?_
    have e : ks.take (ks.map refE).toArray.size = ks := List.take_of_length_le (by simp)
    exact ⟨.ref s.heap.objs.size, _, I.laid (t' := tk) k (Nat.le_refl _) (setM_new R), rfl, q _ L hn (fun x hx => List.mem_of_mem_take (g.sub x hx)) fun x hx => g.all x (by rw [e]; exact hx)⟩
def rSortedM (K : PySem.W.Frag) (P : Program) (w : World) : List V → Hp → VK → Prop := fun vs H Q => ∃ (a : Addr) (L : List Ent) (sh : List Bool), vs = [V.ref a] ∧ H a = some (SetM P w a L) ∧ (∀ e ∈ L, SqT K H e.1 (e.2.map kV)) ∧ sh ≠ [] ∧ (∀ e ∈ L, e.2.map Sum.isRight = sh) ∧
  ∀ (L' : List Ent) (p : Addr), L'.Perm L → L'.Pairwise (fun e f => kLt e.2 f.2 = true) → H p = none → Q (.ref p) (upd H p (.lst (L'.map fun e => V.ref e.1)))
theorem cr_sortedM (hc : X.calm = true) : CallR X (.builtin "sorted") (rSortedM X.K X.prog X.w) := by
  intro pins s σ H vs us Q I r h
  obtain ⟨a, L, sh, rfl, ha, hk, hne, hs, q⟩ := h
  rw [Vals.ref1 r]
  have R0 : MS0 X.prog X.w s.heap a L := (I.hok a _ ha).1
  obtain ⟨es, ep, t, ⟨o, ho, hex, hd⟩, rw', tb, nd, ld, rm, fw⟩ := R0
  have R : MS X.prog X.w s.heap a L es ep t := ⟨⟨o, ho, hex, hd⟩, rw', tb, nd, fun e he => inv_mix I (hk e he), ld, rm, fw⟩
  refine Calls.call_function_entry kind_sorted plain_sorted entry_sorted (args_sorted1 _) ?_
  unfold Builtin.«sorted»
  refine wpAny_bind (m := checkCount "sorted" 1 1 _) (wpAny_pure ?_)
  have ez := rows_size rw'
  refine wpAny_bind (collect_set (A := X.A.in1) (I.ok.hd hc) ⟨o, ho, hex.1, hd⟩ R.fit (by rw [ez]; show L.length < 4096; omega) tb.ris ld fun s1 vs k1 hz g1 o1 pm => ?_)
  have hes : es.toList.map (·.2) = L.map refE := by rw [rw', List.map_map]; rfl
  rw [hes] at pm
  obtain ⟨L1, rfl, p1⟩ := perm_lift refE pm
  have l1 : L1.length < 64 := by rw [p1.length_eq]; exact fw
  refine wpAny_bind (wpAny_newList ?_ (by rw [List.length_map, sizeLine_eq]; omega))
  have at1 : (s1.heap.push (seqObj "list" (L1.map refE).toArray 0)).get? s1.heap.objs.size = some (seqObj "list" (L1.map refE).toArray 0) := Heap.get?_push_size _ rfl
  refine wpAny_bind (wpAny_holding (wpAny_call_entry slot_list_sort ⟨_, at1, rfl⟩ entry_list_sort
    (sort_mix (P := X.prog) (w := X.w) (s := { s1 with heap := s1.heap.push (seqObj "list" (L1.map refE).toArray 0) }) at1 (fun e he => mix_keep (R.tu e (p1.mem_iff.mp he)) fun b o e => Heap.get?_push_of_some _ (k1 b o e)) (fun e he => hs e (p1.mem_iff.mp he)) hne (by rw [sizeLine_eq]; omega)
      fun L' p2 pw => ⟨.none, rfl, ?_⟩) (args_list_sort _)))
  obtain ⟨c, hc'⟩ := sortedHeap_at (vs := L1.map refE) (out := (L'.map refE).toArray) at1
  have p3 := p2.trans p1
  have hn : H s1.heap.objs.size = none := I.hok.fresh hz
  have kp : Kps s.heap (sortedHeap (s1.heap.push (seqObj "list" (L1.map refE).toArray 0)) s1.heap.objs.size (L1.map refE) (L'.map refE).toArray) := fun b u e => by
    have q := k1 b u e
    have hlt := Heap.lt_size q
    rw [sortedHeap_old (Nat.ne_of_lt hlt) (by rw [size_push']; exact Nat.lt_succ_of_lt hlt)]
    exact Heap.get?_push_of_some _ q
  have J : Inv X pins σ (upd H s1.heap.objs.size (.lst (L'.map fun e => V.ref e.1))) { s with heap := sortedHeap (s1.heap.push (seqObj "list" (L1.map refE).toArray 0)) s1.heap.objs.size (L1.map refE) (L'.map refE).toArray, gens := s1.gens, drawn := s1.drawn, toks := s1.toks } :=
    I.call (ch := []) (Un.laid kp hz hn) (I.hok.laid kp hz ⟨by rw [List.length_map, p3.length_eq, sizeLine_eq]; omega, L'.map refE, c, vals_mix L', hc'⟩) (by rw [g1]; exact I.bare) (fun _ z => nomatch z)
  have st : L'.Pairwise (fun e f => kLt e.2 f.2 = true) := by
    have nd2 : (L'.map (·.2)).Nodup := (p3.map (·.2)).nodup_iff.mpr nd
    have nd3 : L'.Pairwise (fun e f => e.2 ≠ f.2) := List.pairwise_map.mp nd2
    refine (List.Pairwise.and pw nd3).imp fun {e f} ⟨h1, h2⟩ => ?_
    cases z : kLt e.2 f.2 with
    | true => rfl
    | false => exact absurd (lin_k.tot _ _ z h1) h2
  have e : ({ s1 with heap := sortedHeap (s1.heap.push (seqObj "list" (L1.map refE).toArray 0)) s1.heap.objs.size (L1.map refE) (L'.map refE).toArray } : Shared) = { s with heap := sortedHeap (s1.heap.push (seqObj "list" (L1.map refE).toArray 0)) s1.heap.objs.size (L1.map refE) (L'.map refE).toArray, gens := s1.gens, drawn := s1.drawn, toks := s1.toks } := by
    cases s1; cases s; cases o1; rfl
  refine wpAny_pure ⟨_, rfl, ?_⟩
  show EP X pins σ Q (.ref s1.heap.objs.size) { s1 with heap := sortedHeap (s1.heap.push (seqObj "list" (L1.map refE).toArray 0)) s1.heap.objs.size (L1.map refE) (L'.map refE).toArray }
  rw [e]
  exact ⟨.ref _, _, J, rfl, q L' _ p3 st hn⟩
end
end Pv
end
section
set_option Elab.async false
set_option linter.all false
set_option maxRecDepth 100000
set_option maxHeartbeats 2000000
namespace Pv
open PySem PySem.Spec PyProof.Rows L2
section
variable {α : Type} {lt : α → α → Bool}
def insM (lt : α → α → Bool) (x : α) : List α → List α
  | [] => [x]
  | y :: ys => if lt y x = true then y :: insM lt x ys else x :: y :: ys
def sortM (lt : α → α → Bool) (xs : List α) : List α := xs.foldr (insM lt) []
theorem insM_perm {x : α} : ∀ {l : List α}, (insM lt x l).Perm (x :: l)
  | [] => List.Perm.refl _
  | y :: l => by
    unfold insM
    split
    · exact ((insM_perm (l := l)).cons y).trans (List.Perm.swap x y l)
    · exact List.Perm.refl _
theorem sortM_perm : ∀ (xs : List α), (sortM lt xs).Perm xs
  | [] => List.Perm.refl _
  | x :: xs => insM_perm.trans ((sortM_perm xs).cons x)
end
section
variable {α : Type} [DecidableEq α] {lt : α → α → Bool}
theorem Lin.le_tr (L : Lin lt) {x y z : α} (h1 : lt y x = false) (h2 : lt z y = false) : lt z x = false := by
  cases q : lt z x with
  | false => rfl
  | true =>
    cases q1 : lt x y with
    | true => exact absurd (L.tr _ _ _ q q1) (by rw [h2]; decide)
    | false => rw [L.tot _ _ h1 q1] at h2; rw [q] at h2; cases h2
theorem insM_sorted (L : Lin lt) {x : α} : ∀ {l : List α}, l.Pairwise (fun a b => lt b a = false) → (insM lt x l).Pairwise (fun a b => lt b a = false)
  | [], _ => by simp [insM]
  | y :: l, h => by
    obtain ⟨h1, h2⟩ := List.pairwise_cons.mp h
    unfold insM
    split
    · rename_i hl
      refine List.pairwise_cons.mpr ⟨fun z hz => ?_, insM_sorted L h2⟩
      rcases List.mem_cons.mp (insM_perm.mem_iff.mp hz) with rfl | hz
      · cases q : lt z y with
        | false => rfl
        | true => exact absurd (L.tr _ _ _ hl q) (by rw [L.irr]; decide)
      · exact h1 z hz
    · rename_i hl
      have hl' : lt y x = false := by simpa using hl
      refine List.pairwise_cons.mpr ⟨fun z hz => ?_, h⟩
      rcases List.mem_cons.mp hz with rfl | hz
      · exact hl'
      · exact L.le_tr hl' (h1 z hz)
theorem sortM_sorted (L : Lin lt) : ∀ (xs : List α), (sortM lt xs).Pairwise (fun a b => lt b a = false)
  | [] => List.Pairwise.nil
  | x :: xs => insM_sorted L (sortM_sorted L xs)
theorem sortedM_uniq (L : Lin lt) : ∀ {a b : List α}, a.Pairwise (fun x y => lt y x = false) → b.Pairwise (fun x y => lt y x = false) → a.Perm b → a = b
  | [], b, _, _, h => by
    have := h.length_eq
    exact (List.eq_nil_of_length_eq_zero (by simpa using this.symm)).symm
  | x :: a, [], _, _, h => absurd h.length_eq (by simp)
  | x :: a, y :: b, ha, hb, h => by
    obtain ⟨a1, a2⟩ := List.pairwise_cons.mp ha
    obtain ⟨b1, b2⟩ := List.pairwise_cons.mp hb
    have e : x = y := by
      rcases List.mem_cons.mp (h.mem_iff.mp List.mem_cons_self) with e | hx
      · exact e
      · rcases List.mem_cons.mp (h.mem_iff.mpr List.mem_cons_self) with e | hy
        · exact e.symm
        · exact L.tot _ _ (b1 x hx) (a1 y hy)
    subst e
    rw [sortedM_uniq L a2 b2 (List.Perm.cons_inv h)]
end
theorem tab_in {K : PySem.W.Frag} {x q : Str} {f co tb : Addr} {oc e : Value} {od an dd : Option Addr} {st : Stmt} {kV dc pm cd ct : Value} {osl sl : Array (Option Value)} {vs : Array Value} (a : PySem.W.nsIn K mainGlobals x = some (some (.ref f)))
    (l : K.lookup f = some ⟨oc, od, .func (PySem.W.fnOf x q (defArgs st) (defBody st) (defScope st) .none kV dc pm an cd ct), osl⟩) (cc : cd = .ref co) (lc : K.lookup co = some ⟨e, dd, .fields vs, sl⟩) (hv : vs[11]? = some (.ref tb)) : PySem.W.tabIn K x = some (co, tb) := by
  subst cc
  unfold PySem.W.tabIn
  rw [a]
  simp only [l, PySem.W.fnOf, lc, hv]
def FolkRaw (h : Heap) (ah : Addr) (ps : List (Int × Int)) : Prop := ∃ its : Array Value, IsTup h ah its ∧ its.size = ps.length ∧
  ∀ (i : Nat) (p : Int × Int), ps[i]? = some p → ∃ ai itsi t u, its[i]? = some (.ref ai) ∧ IsTup h ai itsi ∧ 3 ≤ itsi.size ∧ itsi[1]? = some (.int p.1 t) ∧ itsi[2]? = some (.int p.2 u)
theorem FolkRaw.keeps {h h' : Heap} {ah : Addr} {ps : List (Int × Int)} (x : FolkRaw h ah ps) (k : ∀ b o, h.get? b = some o → h'.get? b = some o) : FolkRaw h' ah ps := by
  obtain ⟨its, a, b, c⟩ := x
  refine ⟨its, a.keeps k, b, fun i p e => ?_⟩
  obtain ⟨ai, itsi, t, u, e1, e2, e3⟩ := c i p e
  exact ⟨ai, itsi, t, u, e1, e2.keeps k, e3⟩
theorem pe_alt {X : Cx} {e : Expr} {t1 t2 : TE} (h1 : PE X e t1) (h2 : PE X e t2) : PE X e (fun σ H Q => t1 σ H Q ∨ t2 σ H Q) := ⟨fun pins s σ H Q I h => h.elim (fun h => h1.run pins s σ H Q I h) fun h => h2.run pins s σ H Q I h⟩
end Pv
end
section
set_option Elab.async false
set_option linter.all false
set_option maxRecDepth 100000
set_option maxHeartbeats 1000000
namespace Pw
open PySem PySem.Spec PyProof.Rows L2 Pv
section
variable {X : Cx} {K : FRG} {tb : List Addr}
def lenD : List D → Option W
  | [.tup ds] => some (.v (.int ds.length))
  | [.fl ds] => some (.v (.int ds.length))
  | [.lst ds] => some (.v (.int ds.length))
  | [.dk kvs] => some (.v (.int kvs.length))
  | _ => none
abbrev rLenA (K : FRG) : List V → Hp → VK → Prop := fun xs H Q => (∃ p ys, xs = [.ref p] ∧ (SqL K H p ys ∨ SqT K H p ys) ∧ Q (.int (ys.length : Nat)) H) ∨ ∃ a kvs, xs = [V.ref a] ∧ Rd H a (.dK kvs) ∧ Q (.int (kvs.length : Nat)) H
theorem call_lenRd : CallR X (.builtin "len") (fun xs H Q => ∃ a kvs, xs = [V.ref a] ∧ Rd H a (.dK kvs) ∧ Q (.int (kvs.length : Nat)) H) := by
  intro pins s σ H xs us Q I r h
  obtain ⟨a, kvs, rfl, ha, q⟩ := h
  rw [Vals.ref1 r]
  exact d_len I ha fun t s' I' => ⟨.int kvs.length, H, I', ⟨t, rfl⟩, q⟩
theorem cr_lenA : CallR X (.builtin "len") (rLenA X.K) := call_len_seq.or call_lenRd
theorem len_s : CallS K tb (rLenA K) lenD := fun φ ψ H m vs ds w Q R r e k => by
  unfold lenD at e
  split at e
  · cases e
    cases r with
    | cons h r => cases r; obtain ⟨a, vs, rfl, hq, q⟩ := h.tup; exact .inl ⟨_, _, rfl, .inr hq, Go.val k R (by rw [q.length]; exact .int _)⟩
  · cases e
    cases r with
    | cons h r => cases r; obtain ⟨a, vs, rfl, hq, q⟩ := h.fl; exact .inl ⟨_, _, rfl, .inl hq, Go.val k R (by rw [q.length]; exact .int _)⟩
  · cases e
    cases r with
    | cons h r => cases r; obtain ⟨a, vs, rfl, hq, q⟩ := h.lst; exact .inl ⟨_, _, rfl, .inl (SqL.of hq), Go.val k R (by rw [q.length]; exact .int _)⟩
  · cases e
    cases r with
    | cons h r =>
      cases r
      obtain ⟨a, vs, rfl, hq, q1, q2⟩ := h.dk
      refine .inr ⟨_, _, rfl, hq, Go.val k R ?_⟩
      have e9 := congrArg List.length q1
      rw [List.length_map, List.length_map] at e9
      rw [e9]; exact .int _
  · cases e
def maxI (i j : Int) : Int := if j > i then j else i
def minI (i j : Int) : Int := if j < i then j else i
def two (g : Int → Int → Int) : List D → Option W
  | [.int i, .int j] => some (.v (.int (g i j)))
  | _ => none
theorem two_s {g : Int → Int → Int} : CallS K tb (fun xs H Q => ∃ i j, xs = [.int i, .int j] ∧ Q (.int (g i j)) H) (two g) := fun φ ψ H m vs ds w Q R r e k => by
  unfold two at e
  split at e
  · cases e
    cases r with
    | cons h1 r => cases r with
      | cons h2 r => cases r; rw [h1.int, h2.int]; exact ⟨_, _, rfl, Go.val k R (.int _)⟩
  · cases e
theorem cr_max (hc : X.calm = true) : CallR X (.builtin "max") (fun xs H Q => ∃ i j, xs = [.int i, .int j] ∧ Q (.int (maxI i j)) H) := call_max2 hc
theorem cr_min (hc : X.calm = true) : CallR X (.builtin "min") (fun xs H Q => ∃ i j, xs = [.int i, .int j] ∧ Q (.int (minI i j)) H) := call_min2 hc
def intD : List D → Option W
  | [.int i] => some (.v (.int i))
  | [.bl b] => some (.v (.int (if b then 1 else 0)))
  | _ => none
theorem int_s : CallS K tb (fun xs H Q => (∃ i, xs = [.int i] ∧ Q (.int i) H) ∨ ∃ k, xs = [.bl k] ∧ Q (.int (if k then 1 else 0)) H) intD := fun φ ψ H m vs ds w Q R r e k => by
  unfold intD at e
  split at e
  · cases e
    cases r with
    | cons h1 r => cases r; rw [h1.int]; exact .inl ⟨_, rfl, Go.val k R (.int _)⟩
  · cases e
    cases r with
    | cons h1 r => cases r; rw [h1.bl]; exact .inr ⟨_, rfl, Go.val k R (.int _)⟩
  · cases e
def tupleD : List D → Option W
  | [.tup ds] => some (.v (.tup ds))
  | [.fl ds] => some (.v (.tup ds))
  | [.lst ds] => some (.v (.tup ds))
  | _ => none
theorem tuple_s : CallS K tb (fun xs H Q => ∃ p ys, xs = [.ref p] ∧ ((SqL K H p ys ∧ ∀ l, H l = none → Q (.ref l) (upd H l (.tup ys))) ∨ (SqT K H p ys ∧ Q (.ref p) H))) tupleD := fun φ ψ H m vs ds w Q R r e k => by
  unfold tupleD at e
  split at e
  · cases e
    cases r with
    | cons h r => cases r; obtain ⟨a, vs, rfl, hq, q⟩ := h.tupN; exact ⟨_, _, rfl, .inr ⟨hq.1, Go.val k R (.tup hq q)⟩⟩
  · cases e
    cases r with
    | cons h r => cases r; obtain ⟨a, vs, rfl, hq, q⟩ := h.fl; exact ⟨_, _, rfl, .inl ⟨hq, fun p hp => Go.tup k R q hp⟩⟩
  · cases e
    cases r with
    | cons h r => cases r; obtain ⟨a, vs, rfl, hq, q⟩ := h.lst; exact ⟨_, _, rfl, .inl ⟨SqL.of hq, fun p hp => Go.tup k R q hp⟩⟩
  · cases e
def listD : List D → Option W
  | [.tup ds] => some (.f (.lst ds))
  | [.fl ds] => some (.f (.lst ds))
  | [.lst ds] => some (.f (.lst ds))
  | _ => none
def allI : List D → Option (List Int)
  | [] => some []
  | .int i :: ds => (allI ds).bind fun is => some (i :: is)
  | _ => none
def kD : L2.Key → D
  | .inl i => .int i
  | .inr x => .str x
abbrev tD (k : KT') : D := .tup (k.map kD)
def allK : List D → Option KT'
  | [] => some []
  | .int i :: ds => (allK ds).bind fun k => some (Sum.inl i :: k)
  | .str x :: ds => (allK ds).bind fun k => some (Sum.inr x :: k)
  | _ => none
def allT : List D → Option (List KT')
  | [] => some []
  | .tup d :: ds => (allK d).bind fun k => (allT ds).bind fun ks => some (k :: ks)
  | _ => none
def itmD : D → Option (List D)
  | .tup ds => some ds
  | .fl ds => some ds
  | .lst ds => some ds
  | _ => none
def itmL : D → Option (List D)
  | .fl ds => some ds
  | .lst ds => some ds
  | _ => none
def oneSh (ks : List KT') : Bool := ks.all fun k => k.map Sum.isRight == (ks.headD []).map Sum.isRight && !k.isEmpty
end
section
variable {K : FRG} {tb φ ψ : List Addr} {H : Hp} {m : Mem}
theorem allI_rep : ∀ {ds : List D} {vs : List V} {is : List Int}, Reps K φ ψ H ds vs → allI ds = some is → vs = is.map V.int
  | [], _, _, .nil, e => by cases e; rfl
  | .int i :: ds, _, _, .cons h r, e => by
    rw [allI] at e
    obtain ⟨js, e1, e⟩ := bnd e
    cases e
    cases h
    rw [allI_rep r e1]; rfl
  | .non :: _, _, _, _, e => by simp [allI] at e
  | .bl _ :: _, _, _, _, e => by simp [allI] at e
  | .str _ :: _, _, _, _, e => by simp [allI] at e
  | .tup _ :: _, _, _, _, e => by simp [allI] at e
  | .fl _ :: _, _, _, _, e => by simp [allI] at e
  | .lst _ :: _, _, _, _, e => by simp [allI] at e
  | .dk _ :: _, _, _, _, e => by simp [allI] at e
  | .dt _ :: _, _, _, _, e => by simp [allI] at e
  | .rl _ _ :: _, _, _, _, e => by simp [allI] at e
theorem allK_rep : ∀ {ds : List D} {vs : List V} {k : KT'}, Reps K φ ψ H ds vs → allK ds = some k → vs = k.map kV
  | [], _, _, .nil, e => by cases e; rfl
  | .int i :: ds, _, _, .cons h r, e => by
    rw [allK] at e
    obtain ⟨js, e1, e⟩ := bnd e
    cases e
    cases h
    rw [allK_rep r e1]; rfl
  | .str i :: ds, _, _, .cons h r, e => by
    rw [allK] at e
    obtain ⟨js, e1, e⟩ := bnd e
    cases e
    cases h
    rw [allK_rep r e1]; rfl
  | .non :: _, _, _, _, e => by simp [allK] at e
  | .bl _ :: _, _, _, _, e => by simp [allK] at e
  | .tup _ :: _, _, _, _, e => by simp [allK] at e
  | .fl _ :: _, _, _, _, e => by simp [allK] at e
  | .lst _ :: _, _, _, _, e => by simp [allK] at e
  | .dk _ :: _, _, _, _, e => by simp [allK] at e
  | .dt _ :: _, _, _, _, e => by simp [allK] at e
  | .rl _ _ :: _, _, _, _, e => by simp [allK] at e
theorem allT_rep : ∀ {ds : List D} {vs : List V} {ks : List KT'}, Reps K φ ψ H ds vs → allT ds = some ks → ∃ es : List Ent, vs = es.map (fun e => V.ref e.1) ∧ es.map (·.2) = ks ∧ ∀ e ∈ es, SqN K H e.1 (e.2.map kV)
  | [], _, _, .nil, e => by cases e; exact ⟨[], rfl, rfl, fun e he => by cases he⟩
  | .tup d :: ds, _, _, .cons h r, e => by
    rw [allT] at e
    obtain ⟨k, e1, e⟩ := bnd e
    obtain ⟨js, e2, e⟩ := bnd e
    cases e
    obtain ⟨es, rfl, rfl, hs⟩ := allT_rep r e2
    cases h with
    | tup hq q =>
      rename_i a vs
      refine ⟨(a, k) :: es, rfl, rfl, fun e he => ?_⟩
      rcases List.mem_cons.mp he with rfl | he
      · rw [← allK_rep q e1]; exact hq
      · exact hs e he
  | .non :: _, _, _, _, e => by simp [allT] at e
  | .bl _ :: _, _, _, _, e => by simp [allT] at e
  | .int _ :: _, _, _, _, e => by simp [allT] at e
  | .str _ :: _, _, _, _, e => by simp [allT] at e
  | .fl _ :: _, _, _, _, e => by simp [allT] at e
  | .lst _ :: _, _, _, _, e => by simp [allT] at e
  | .dk _ :: _, _, _, _, e => by simp [allT] at e
  | .dt _ :: _, _, _, _, e => by simp [allT] at e
  | .rl _ _ :: _, _, _, _, e => by simp [allT] at e
theorem reps_ints : ∀ is : List Int, Reps K φ ψ H (is.map D.int) (is.map V.int)
  | [] => .nil
  | i :: is => .cons (.int i) (reps_ints is)
theorem reps_keys : ∀ k : KT', Reps K φ ψ H (k.map kD) (k.map kV)
  | [] => .nil
  | .inl i :: k => .cons (.int i) (reps_keys k)
  | .inr x :: k => .cons (.str x) (reps_keys k)
theorem reps_ents : ∀ es : List Ent, (∀ e ∈ es, SqN K H e.1 (e.2.map kV)) → Reps K φ ψ H (es.map fun e => tD e.2) (es.map fun e => V.ref e.1)
  | [], _ => .nil
  | e :: es, h => .cons (.tup (h e List.mem_cons_self) (reps_keys e.2)) (reps_ents es fun x hx => h x (List.mem_cons_of_mem _ hx))
theorem itm_sq {x : D} {v : V} {ds : List D} (hx : RepC K φ ψ H x v) (e : itmD x = some ds) : ∃ l vs, v = .ref l ∧ Sq K H l vs ∧ Reps K φ ψ H ds vs := by
  unfold itmD at e
  split at e
  · cases e; obtain ⟨a, vs, rfl, hq, q⟩ := hx.tup; exact ⟨_, _, rfl, .inr hq, q⟩
  · cases e; obtain ⟨a, vs, rfl, hq, q⟩ := hx.fl; exact ⟨_, _, rfl, .inl hq, q⟩
  · cases e; obtain ⟨a, vs, rfl, hq, q⟩ := hx.lst; exact ⟨_, _, rfl, .inl (SqL.of hq), q⟩
  · cases e
theorem itmL_sq {x : D} {v : V} {ds : List D} (hx : RepC K φ ψ H x v) (e : itmL x = some ds) : ∃ l vs, v = .ref l ∧ SqL K H l vs ∧ Reps K φ ψ H ds vs := by
  unfold itmL at e
  split at e
  · cases e; obtain ⟨a, vs, rfl, hq, q⟩ := hx.fl; exact ⟨_, _, rfl, hq, q⟩
  · cases e; obtain ⟨a, vs, rfl, hq, q⟩ := hx.lst; exact ⟨_, _, rfl, SqL.of hq, q⟩
  · cases e
end
section
variable {X : Cx} {K : FRG} {tb : List Addr} {pos : Pos}
def isLst : W → Mem → Bool
  | .r n, m => match m[n]? with
    | some (.lst _) => true
    | _ => false
  | _, _ => false
theorem isLst_ty {φ ψ : List Addr} {H : Hp} {m : Mem} {w : W} {v : V} (R : Rel K tb φ ψ H m) (h : RepS K φ ψ H w v) (e : isLst w m = true) : tyV K "list" v H := by
  unfold isLst at e
  split at e
  · split at e
    · rename_i hm
      obtain ⟨a, h1, rfl⟩ := h
      obtain ⟨vs, q, r⟩ := R.obj _ _ a hm h1
      exact .inl ⟨rfl, _, SqL.of q⟩
    · cases e
  · cases e
def appD : W → List W → Mem → Option (W × Mem)
  | .r n, [w], m => match m[n]? with
    | some (.lst ds) => (vl w).bind fun d => if ds.length < 1000000 then some (.v .non, m.set n (.lst (ds ++ [d]))) else none
    | _ => none
  | _, _, _ => none
theorem app_s : MtS K tb rAppend appD := fun φ ψ H m x vs w ws w' m' Q R hx r e k => by
  unfold appD at e
  split at e
  · split at e
    · rename_i hm
      obtain ⟨d, ev, e⟩ := bnd e
      split at e
      · rename_i hl
        cases e
        cases r with
        | cons h r =>
          cases r
          obtain ⟨q, h1, rfl⟩ := hx
          obtain ⟨vs, hq, rl⟩ := R.obj _ _ q hm h1
          have hmem := List.mem_of_getElem? h1
          exact ⟨q, vs, _, rfl, rfl, hq, smallT (by rw [← rl.length]; exact hl), k φ ψ _ _ (Post.wr hmem (R.trk hmem)) (R.wrL h1 (rl.snoc (vl_rep h ev))) ⟨rfl, .non⟩⟩
      · cases e
    · cases e
  · cases e
theorem ex_append {o a : Expr} {fo : Ex} {f : Ax} {apos cpos : Pos} {es : List Expr} (ho : PE X o (T X.K tb fo)) (ha : PA X (a :: es) (Ta X.K tb f))
    (hbase : attributeBase o "append" X.env (eval o X.env) = eval o X.env := by rfl)
    (hfew : ((backTo cpos (starEach (a :: es) X.env)).all (fun x => !x.1) && (backToKw cpos (keywordEach [] X.env)).all (fun x => x.1.isSome)
      && decide ((a :: es).length + ([] : List Keyword).length + (if ([] : List Keyword).isEmpty then 0 else 1) < 30)) = true := by rfl)
    (hline : (apos.endLine == cpos.line) = true := by rfl) (hst : starEach (a :: es) X.env = (false, eval a X.env) :: starEach es X.env := by rfl) (hplain : (backTo cpos (starEach es X.env)).any (·.1) = false := by rfl) :
    PE X (.Call (.Attribute o "append" apos) (a :: es) [] cpos) (T X.K tb (eMt isLst appD fo f)) :=
  ex_mt (fun φ ψ H m d v R h e => isLst_ty R h e) app_s PySem.F.plainAttrs_list PySem.F.slot_list_append PySem.F.type_list_append mt_append ho ha hbase hfew hline hst hplain
def inB (neg : Bool) (dx : D) (ds : List D) : Option Bool := (sc dx).bind fun x => (ds.mapM sc).bind fun ys => some (inV x ys != neg)
def inD (neg : Bool) : D → D → Option W := fun x y => (itmD y).bind fun ds => (inB neg x ds).bind fun b => some (.v (.bl b))
theorem sc_flat {d : D} {v : V} (h : sc d = some v) : flatV v = true := by
  cases d <;> first | (cases h; rfl) | (cases h)
theorem scs_rep {φ ψ : List Addr} {H : Hp} : ∀ {ds : List D} {vs ws : List V}, Reps K φ ψ H ds vs → ds.mapM sc = some ws → vs = ws ∧ ws.all flatV = true
  | [], _, _, .nil, e => by cases e; exact ⟨rfl, rfl⟩
  | d :: ds, _, _, .cons h r, e => by
    simp only [List.mapM_cons, Option.bind_eq_bind, Option.pure_def] at e
    obtain ⟨v, e1, e⟩ := bnd e
    obtain ⟨ws, e2, e⟩ := bnd e
    cases e
    obtain ⟨rfl, hf⟩ := scs_rep r e2
    have hv := sc_rep (.inl h) e1
    subst hv
    exact ⟨rfl, by rw [List.all_cons, sc_flat e1, hf]; rfl⟩
theorem in_s {neg : Bool} : OpS K tb (rIn K neg) (inD neg) := fun φ ψ H m x y dx dy w Q R hx hy e k => by
  obtain ⟨ds, e1, e⟩ := bnd e
  obtain ⟨b, e2, e⟩ := bnd e
  cases e
  obtain ⟨l, vs, rfl, hq, r⟩ := itm_sq hy e1
  unfold inB at e2
  obtain ⟨x', h1, e2⟩ := bnd e2
  obtain ⟨ys, h2, e2⟩ := bnd e2
  cases e2
  obtain ⟨rfl, hf⟩ := scs_rep r h2
  have := sc_rep hx h1
  subst this
  refine ⟨l, vs, rfl, hq, sc_flat h1, hf, Go.val k R ?_⟩
  cases neg with
  | true => rw [Bool.bne_true]; exact .bl _
  | false => rw [Bool.bne_false]; exact .bl _
def bestD (f : Option Int → Int → Option Int) : D → D → Option W := fun x y => (itmL x).bind fun ds => (allI ds).bind fun is => match is.foldl f none with
  | none => some (.v y)
  | some i => some (.v (.int i))
def eBest (f : Option Int → Int → Option Int) (a b : Ex) : Ex := fun ρ m => (a ρ m).bind fun p => (b ρ p.2).bind fun q => (gt p.1 q.2).bind fun x => (vl q.1).bind fun y => (bestD f x y).bind fun w => some (w, q.2)
theorem shape {es L : List Ent} (ho : oneSh (es.map (·.2)) = true) (hL : ∀ e ∈ L, e ∈ es) : ∃ sh : List Bool, sh ≠ [] ∧ ∀ e ∈ L, e.2.map Sum.isRight = sh := by
  have sh : ∀ e ∈ L, e.2.map Sum.isRight = ((es.map (·.2)).headD []).map Sum.isRight ∧ e.2 ≠ [] := fun e he => by
    have z := List.all_eq_true.mp ho e.2 (List.mem_map.mpr ⟨e, hL e he, rfl⟩)
    simp only [Bool.and_eq_true, beq_iff_eq, Bool.not_eq_true', List.isEmpty_eq_false_iff] at z
    exact z
  cases L with
  | nil => exact ⟨[true], by simp, fun e he => by cases he⟩
  | cons e L =>
    obtain ⟨z1, z2⟩ := sh e List.mem_cons_self
    refine ⟨_, ?_, fun f hf => (sh f hf).1⟩
    rw [← z1]
    simpa using z2
def sortSetD : List D → Option W
  | [x] => (itmD x).bind fun ds => match allI ds with
    | some is => if is.length < 4000 then some (.f (.lst ((sortU iLt is).map .int))) else none
    | none => (allT ds).bind fun ks => if ks.length < 64 ∧ oneSh ks = true then some (.f (.lst ((sortU kLt ks).map tD))) else none
  | _ => none
theorem ex_sortSet {p p2 q : Pos} {a : Expr} {fa : Ex} (hc : X.calm = true) (hu : X.A.units + 64 < cLine) (hg : Gl X "sorted") (hm : X.mg "sorted" = none) (hg2 : Gl X "set") (hm2 : X.mg "set" = none) (ha : PE X a (T X.K tb fa))
    (h1 : starEach [a] X.env = (false, eval a X.env) :: starEach [] X.env := by rfl) (h2 : starEach [.Call (.Name "set" p2) [a] [] q] X.env = (false, eval (.Call (.Name "set" p2) [a] [] q) X.env) :: starEach [] X.env := by rfl)
    (h3 : (backTo q (starEach [] X.env)).any (·.1) = false := by rfl) (h4 : (backTo pos (starEach [] X.env)).any (·.1) = false := by rfl) :
    PE X (.Call (.Name "sorted" p) [.Call (.Name "set" p2) [a] [] q] [] pos) (T X.K tb (eCB sortSetD (aCons fa aNil))) := by
  have inner := pe_callTy (p := p2) (pos := q) (cr_setA hc hu) hg2 hm2 (by decide +kernel) (pa_cons ha pa_nil h1) (by decide) (by decide) h1 h3
  have outer := pe_alt (pe_callB (p := p) (pos := pos) (cr_sortedSA hc) hg hm (by decide +kernel) (pa_cons inner pa_nil h2) (by decide) (by decide) h2 h4) (pe_callB (p := p) (pos := pos) (cr_sortedM hc) hg hm (by decide +kernel) (pa_cons inner pa_nil h2) (by decide) (by decide) h2 h4)
  refine pe_mono outer fun σ H Q ⟨φ, ψ, ρ, m, w, m', R, E, e, k⟩ => ?_
  obtain ⟨⟨ws, m1⟩, e1, e⟩ := bnd e
  obtain ⟨⟨w1, m2⟩, e2, e3⟩ := bnd e1
  obtain ⟨⟨_, m3⟩, e4, e5⟩ := bnd e3
  cases e4
  cases e5
  obtain ⟨ds0, ed, e⟩ := bnd e
  obtain ⟨x, ex, ed⟩ := bnd ed
  cases ed
  obtain ⟨w3, eb, e⟩ := bnd e
  cases e
  unfold sortSetD at eb
  obtain ⟨ds, e6, eb⟩ := bnd eb
  cases hI : allI ds with
  | some is =>
    rw [hI] at eb
    dsimp only at eb
    split at eb
    · rename_i hb
      cases eb
      left
      refine ⟨φ, ψ, ρ, m, w1, _, R, E, e2, fun φ1 ψ1 H1 v P1 R1 V1 => ?_⟩
      obtain ⟨l, vs, rfl, hq, rs⟩ := itm_sq (gt_c (V1.rel R1) (V1.s R1).stl ex) e6
      obtain rfl := allI_rep rs hI
      refine ⟨l, rfl, .inl ⟨is, hq, by omega, fun a n han => ?_⟩⟩
      refine ⟨a, _, n, rfl, upd_same, fun ns p h1 h2 hp => ?_⟩
      have en : ns = sortU iLt is := sorted_uniq lin_i h1 (sortU_sorted lin_i is) fun z => by rw [h2, mem_sortU]; simp
      rw [en]
      have P2 := Post.lay (φ := φ1) (ψ := ψ) (o := SetO X.w a (fun j => decide (j ∈ is)) n) han
      have R2 := (V1.rel R1).lay (o := SetO X.w a (fun j => decide (j ∈ is)) n) han
      exact Go.lst (fun φ3 ψ3 H3 v P3 R3 V3 => k φ3 ψ3 H3 v (((V1.post P1).trans P2).trans P3) R3 V3) R2 (reps_ints _) hp
    · cases eb
  | none =>
    rw [hI] at eb
    dsimp only at eb
    obtain ⟨ks, e7, eb⟩ := bnd eb
    split at eb
    · rename_i hb
      obtain ⟨hb, ho⟩ := hb
      cases eb
      right
      refine ⟨φ, ψ, ρ, m, w1, _, R, E, e2, fun φ1 ψ1 H1 v P1 R1 V1 => ?_⟩
      obtain ⟨l, vs, rfl, hq, rs⟩ := itm_sq (gt_c (V1.rel R1) (V1.s R1).stl ex) e6
      obtain ⟨es, rfl, rfl, hs⟩ := allT_rep rs e7
      refine ⟨l, rfl, .inr ⟨es, hq, fun e he => (hs e he).1, by simpa using hb, fun a L han l1 l2 => ?_⟩⟩
      have P2 := Post.lay (φ := φ1) (ψ := ψ) (o := SetM X.prog X.w a L) han
      have R2 := (V1.rel R1).lay (o := SetM X.prog X.w a L) han
      obtain ⟨sh', hne, hsh⟩ := shape ho l1
      have hsL : ∀ e ∈ L, SqN X.K (upd H1 a (SetM X.prog X.w a L)) e.1 (e.2.map kV) := fun e he => P2.sqN (V1.rel R1) (hs e (l1 e he))
      refine ⟨a, L, sh', rfl, upd_same, fun e he => (hsL e he).1, hne, hsh, fun L' p p1 pw hp => ?_⟩
      have en : L'.map (·.2) = sortU kLt (es.map (·.2)) := sorted_uniq lin_k (List.pairwise_map.mpr pw) (sortU_sorted lin_k _) fun z => by
        rw [mem_sortU]
        constructor
        · intro hz
          obtain ⟨e, he, rfl⟩ := List.mem_map.mp hz
          exact List.mem_map.mpr ⟨e, l1 e (p1.mem_iff.mp he), rfl⟩
        · intro hz
          obtain ⟨e, he, rfl⟩ := List.mem_map.mp hz
          exact (p1.map (·.2)).mem_iff.mpr (l2 e he)
      have ed : (sortU kLt (es.map (·.2))).map tD = L'.map fun e => tD e.2 := by rw [← en, List.map_map]; rfl
      rw [ed] at k
      exact Go.lst (fun φ3 ψ3 H3 v P3 R3 V3 => k φ3 ψ3 H3 v (((V1.post P1).trans P2).trans P3) R3 V3) R2 (reps_ents L' fun e he => hsL e (p1.mem_iff.mp he)) hp
    · cases eb
end
end Pw
end
section
set_option Elab.async false
set_option linter.all false
set_option maxRecDepth 100000
set_option maxHeartbeats 4000000
namespace Pw
open PySem PySem.Spec PyProof.Rows L2 Pv
def entryH (K : FRG) (tabs : List Addr) (a : Addr) (o : Obj) (vs : List V) : Hp := fun b =>
  if b ∈ tabs then some (.tbl #[]) else if b = a ∧ K.lookup a = none then some (.frz o (.lst vs)) else none
theorem entryH_cases {K : FRG} {tabs : List Addr} {a b : Addr} {o : Obj} {vs : List V} {u : HO} (h : entryH K tabs a o vs b = some u) :
    (b ∈ tabs ∧ u = .tbl #[]) ∨ (b ∉ tabs ∧ b = a ∧ K.lookup a = none ∧ u = .frz o (.lst vs)) := by
  unfold entryH at h
  by_cases hb : b ∈ tabs
  · rw [if_pos hb] at h; cases h; exact .inl ⟨hb, rfl⟩
  · rw [if_neg hb] at h
    by_cases hc : b = a ∧ K.lookup a = none
    · rw [if_pos hc] at h; cases h; exact .inr ⟨hb, hc.1, hc.2, rfl⟩
    · rw [if_neg hc] at h; cases h
theorem entryH_tab {K : FRG} {tabs : List Addr} {a b : Addr} {o : Obj} {vs : List V} (hb : b ∈ tabs) : entryH K tabs a o vs b = some (.tbl #[]) := if_pos hb
theorem law_callG {P : Program} {w : World} {K : FRG} {mg mb : Str → Option Value} {k : Nat} {fa a : Addr} {cs : List (Addr × Addr)} {fd : FuncData} {x : Str} {F : Fx} {t0 : Shared} {us : List Value} {ns : List Int}
    (inK : K.In t0.heap) (glob : t0.heap.Ns mainGlobals mg) (blt : t0.heap.Ns builtinsNs mb) (bltIs : ∀ x : Str, x ≠ "__name__" → mb x = bootBuiltins x) (lim : t0.heap.NoLimit) (gens : t0.gens = #[])
    (tabs : ∀ p ∈ cs, t0.heap.get? p.2 = some { cls := .none, data := .fields #[] }) (notK : ∀ p ∈ cs, K.lookup p.2 = none) (codes : ∀ p ∈ cs, PySem.W.CodeHd t0.heap p.1 p.2)
    (bmod : ∃ (bm : Addr) (ob : Obj), mg "__builtins__" = some (.ref bm) ∧ bm ≠ builtinsNs ∧ t0.heap.get? bm = some ob ∧ ob.cls = .type "module" ∧ ob.dict = some builtinsNs ∧ ob.data = .plain)
    (obj : t0.heap.get? a = some { cls := .type "list", data := .seq us.toArray }) (isI : IntsAre us ns) (few : ns.length ≤ sizeLine) (room : Room k callerA)
    (G : ∀ base : Heap, K.In base → base.Ns mainGlobals mg → (∀ p ∈ cs, GxR.TabB base mg p.1 p.2) → FnG P w K mg base k fa fd [x] (spF K (cs.map (·.2)) 1 F)) (binds : ∀ (s : Shared) (u : Value), BindsTo s fd ⟨[u], []⟩ [(x, u)])
    (holds : ∃ m', F [.v (.fl (ns.map .int))] [] = some (.v (.bl true), m')) :
    codeAny (model P w) callerA (.call (.ref fa) ⟨[.ref a], []⟩) (fun r s' => r = .ok (.ret (.bool true)) ∧ OldK t0.heap s'.heap ∧ s'.os = t0.os ∧ AllBare s'.gens) t0 := by
  obtain ⟨m', holds⟩ := holds
  have rel := vals_ints isI
  have lens := isI.length
  let ob : Obj := { cls := .type "list", data := .seq us.toArray }
  let TB := cs.map (·.2)
  let H := entryH K TB a ob (ns.map V.int)
  have tabAt : ∀ b, b ∈ TB → t0.heap.get? b = some { cls := .none, data := .fields #[] } := fun b hb => by
    obtain ⟨p, hp, rfl⟩ := List.mem_map.mp hb
    exact tabs p hp
  have ok : HOk P w H t0.heap := fun b u e => by
    rcases entryH_cases e with ⟨hb, rfl⟩ | ⟨_, rfl, _, rfl⟩
    · exact tabAt b hb
    · exact ⟨obj, by rw [List.length_map]; exact few, us, _, rel, obj⟩
  have offData : ∀ {b : Addr} {o : Obj}, t0.heap.get? b = some o → (∀ vs n, o.data ≠ .seq vs n) → o.data ≠ .fields #[] → H b = none := fun {b o} e h1 h2 => by
    cases q : H b with
    | none => rfl
    | some u =>
      exfalso
      rcases entryH_cases q with ⟨hb, _⟩ | ⟨_, rfl, _, _⟩
      · rw [tabAt b hb] at e; cases e; exact h2 rfl
      · rw [obj] at e; cases e; exact h1 _ _ rfl
  have down : ∀ {b : Addr} {o : Obj}, t0.heap.get? b = some o → H b = none → (hidT t0.heap H).get? b = some o := fun e n => hidT_get e n
  have nsDown : ∀ {b : Addr} {f : Str → Option Value}, t0.heap.Ns b f → (hidT t0.heap H).Ns b f := by
    rintro b f ⟨o, es, ep, e, d, r⟩
    exact ⟨o, es, ep, down e (offData e (fun vs n z => by rw [d] at z; cases z) fun z => by rw [d] at z; cases z), d, r⟩
  have kDown : K.In (hidT t0.heap H) := fun b o e => down (inK b o e) (by
    cases q : H b with
    | none => rfl
    | some u =>
      exfalso
      rcases entryH_cases q with ⟨hb, _⟩ | ⟨_, rfl, hk, _⟩
      · obtain ⟨p, hp, rfl⟩ := List.mem_map.mp hb
        rw [notK p hp] at e; cases e
      · rw [hk] at e; cases e)
  have modOk : L2.Mod K mg (hidT t0.heap H) := by
    obtain ⟨mc, l1, l2⟩ := lim
    exact ⟨kDown, nsDown glob, ⟨mb, nsDown blt, bltIs⟩, ⟨mc, nsDown l1, l2⟩⟩
  have tabsOk : ∀ p ∈ cs, GxR.TabB (hidT t0.heap H) mg p.1 p.2 := fun p hp => by
    constructor
    · obtain ⟨o, vs, file, tf, flags, tg, inF, text, tt, e1, rest⟩ := codes p hp
      refine ⟨o, vs, file, tf, flags, tg, inF, text, tt, down e1 (offData e1 (fun vs' n z => ?_) fun z => ?_), rest⟩
      · rw [rest.2.1] at z; cases z
      · rw [rest.2.1] at z
        have z' := Data.fields.inj z
        have h11 := rest.2.2.1
        rw [z'] at h11
        simp at h11
    · obtain ⟨bm, o, b1, b2, b3, b4, b5, b6⟩ := bmod
      refine ⟨bm, o, b1, b2, fun z => ?_, fun z => ?_, down b3 (offData b3 (fun vs n z => ?_) fun z => ?_), b4, b5, b6⟩
      · obtain ⟨o', es, ep, e, d, _⟩ := glob
        rw [z, e] at b3; cases b3
        rw [d] at b6; cases b6
      · rw [z, tabs p hp] at b3; cases b3; cases b6
      · rw [b6] at z; cases z
      · rw [b6] at z; cases z
    · intro z
      obtain ⟨o', es, ep, e, d, _⟩ := glob
      rw [z, tabs p hp] at e; cases e; cases d
  have entry : Env0 P w K mg (hidT t0.heap H) callerA [] t0 H := ⟨rfl, modOk, fun b o e => of_hidT e, Nat.le_of_eq (hidT_size _ _), trivial, fun b hb => absurd (show b ∈ ([] : List Addr) from hb) (by simp), ok, AllBare.of_eq gens⟩
  have RL : Rel K TB [] [] H [] := ⟨rfl, List.nodup_nil, fun n mo b e1 _ => by simp at e1, fun p hp => ⟨#[], entryH_tab hp, by trivial⟩, (fun p hp => nomatch hp), (fun p hp => nomatch hp), fun p hp _ _ _ _ => LamX.TabS.nil (entryH_tab hp)⟩
  have rInts : ∀ l : List Int, Reps K [] [] H (l.map .int) (l.map V.int) := fun l => by
    induction l with
    | nil => exact .nil
    | cons i l ih => exact .cons (.int i) ih
  have nT : a ∉ TB := fun z => by
    have e := tabAt a z
    rw [obj] at e
    have e' := congrArg Obj.data (Option.some.inj e)
    cases e'
  have script : Rep K [] [] H (.fl (ns.map .int)) (.ref a) := by
    refine .fl ?_ (rInts ns)
    cases hk : K.lookup a with
    | none =>
      refine .inl ⟨ob, ?_⟩
      show entryH K TB a ob _ a = _
      unfold entryH
      rw [if_neg nT, if_pos ⟨rfl, hk⟩]
    | some o =>
      have e := inK a o hk
      rw [obj] at e
      cases e
      exact .inr ⟨_, us.toArray, _, hk, rfl, rfl, rfl, by rw [List.size_toArray, lens]; exact few, by simpa using rel⟩
  have want : spF K TB 1 F [.ref a] H (fun v _ => v = .bl true) E0 := ⟨[], [], [.v (.fl (ns.map .int))], [], .v (.bl true), m', RL, .cons script .nil, rfl, holds, fun φ' ψ' H' v _ _ r => by obtain ⟨_, r⟩ := r; cases r; rfl⟩
  refine codeAny_mono ((G _ kDown (nsDown glob) tabsOk).run callerA [] t0 H ⟨[.ref a], []⟩ [.ref a] [.ref a] _ _ rfl room entry (binds t0 (.ref a)) (.cons rfl .nil) want) fun res t1 ends => ?_
  match res, ends with
  | .ok (.ret u), ⟨v, H', os, bare, un, ok', rv, isT⟩ =>
    have isT' : v = .bl true := isT
    subst isT'
    obtain rfl : u = Value.bool true := rv
    have kept : ∀ b o, b ∉ TB → t0.heap.get? b = some o → t1.heap.get? b = some o := fun b o nb e => by
      cases q : H b with
      | none => exact un.keep b o e q (fun z => absurd (show b ∈ ([] : List Addr) from z) (by simp)) (by simp)
      | some y =>
        rcases entryH_cases q with ⟨hb, _⟩ | ⟨_, rfl, _, rfl⟩
        · exact absurd hb nb
        · have q2 := un.frzs _ _ _ q
          obtain ⟨e1, _⟩ := ok' _ _ q2
          rw [obj] at e; cases e
          exact e1
    have grown : ∀ p ∈ cs, ∃ more : Array Value, t1.heap.get? p.2 = some { cls := .none, data := .fields more } := fun p hp => by
      obtain ⟨more, z⟩ := un.tbls p.2 #[] (entryH_tab (List.mem_map.mpr ⟨p, hp, rfl⟩))
      exact ⟨_, ok' p.2 _ z⟩
    refine ⟨rfl, ⟨fun b o e => ?_, fun b o e => ?_⟩, os, bare⟩
    · by_cases hb : b ∈ TB
      · obtain ⟨p, hp, rfl⟩ := List.mem_map.mp hb
        obtain ⟨more, hm⟩ := grown p hp
        rw [tabs p hp] at e
        cases e
        exact .inr (.inl ⟨((codes p hp).tab (tabs p hp)).isCodeTable, rfl, #[], more, rfl, by rw [Array.empty_append]; exact hm⟩)
      · exact .inl (kept b o hb e)
    · by_cases hb : b ∈ TB
      · obtain ⟨p, hp, rfl⟩ := List.mem_map.mp hb
        obtain ⟨more, hm⟩ := grown p hp
        exact ⟨_, hm⟩
      · exact ⟨o, kept b o hb e⟩
theorem walkG {l : PySem.W.OpenLaw} {n k : Nat} {q : Program} {loose : List Str} {XP : (Str → Option Value) → Heap → Prop} {YP : World → Heap → Prop} {d : DefRec} {K : Params → FRG} {x : Str} {F : Fx}
    (hn : l.most = some n) (hn2 : n ≤ sizeLine) (hdf : d.params.defaults = []) (room : Room k callerA) (hY : ∀ (w : World) (h : Heap), YP w h → (K w.params).In h)
    (G : ∀ (w : World) (mg : Str → Option Value) (fa : Addr) (h : Heap), (K w.params).In h → h.Ns mainGlobals mg → mg d.name = some (.ref fa) →
      (∀ (x : Str) (d : DefRec) (c P : Addr), (recsOf q).find? (fun e => e.name == x) = some d → PySem.W.tabIn (K w.params) x = some (c, P) → PySem.W.CodeHd h c P ∧ h.get? P = some { cls := .none, data := .fields #[] }) →
      ∃ (fd : FuncData) (cs : List (Addr × Addr)), (∀ p ∈ cs, h.get? p.2 = some { cls := .none, data := .fields #[] }) ∧ (∀ p ∈ cs, (K w.params).lookup p.2 = none) ∧ (∀ p ∈ cs, PySem.W.CodeHd h p.1 p.2) ∧ (∀ (s : Shared) (u : Value), BindsTo s fd ⟨[u], []⟩ [(x, u)]) ∧
        ∀ base : Heap, (K w.params).In base → base.Ns mainGlobals mg → (∀ p ∈ cs, GxR.TabB base mg p.1 p.2) → FnG l.prog w (K w.params) mg base k fa fd [x] (spF (K w.params) (cs.map (·.2)) 1 F))
    (holds : ∀ ns : List Int, ns.length ≤ n → ∃ m', F [.v (.fl (ns.map .int))] [] = some (.v (.bl true), m')) :
    PySem.W.WalkO q loose XP YP l.row.toRowW d [] (fun f vs => PySem.call f vs) := by
  refine Att.attach_callB hn hdf fun w s₀ t0 mg mb fa o pm cd doc a us ns Gr Y ho hd hcd hmg hobj hints hlen hbits hg => ?_
  have inK := hY w _ Y
  obtain ⟨fd, cs, tabs, notK, codes, binds, hG⟩ := G w mg fa _ inK Gr.T.g hmg fun x d c P h1 h2 => PySem.W.tab_of Gr.T inK h1 h2
  exact law_callG inK Gr.T.g Gr.T.b Gr.T.builtins Gr.T.nolimit hg tabs notK codes Gr.T.bmain hobj hints (Nat.le_trans hlen hn2) room hG binds (holds ns hlen)
theorem Post.tbl {φ ψ : List Addr} {H : Hp} {p : Addr} {ps ps' : Array Value} (h : H p = some (.tbl ps)) : Post φ ψ H φ ψ (upd H p (.tbl ps')) :=
  ⟨List.prefix_refl _, fun _ z => .inl z, fun _ z => .inl z, fun b u _ e ht => .inl (by rw [upd_ne (fun z => by rw [z, h] at e; cases e; exact ht _ rfl)]; exact e), (fun b z => by
    by_cases hb : b = p
    · rw [hb, upd_same] at z; cases z
    · rw [upd_ne hb] at z; exact z), fun _ z => z⟩
theorem Rel.tbl {K : FRG} {tb φ ψ : List Addr} {H : Hp} {m : Mem} {p : Addr} {ps ps' : Array Value} (R : Rel K tb φ ψ H m) (h : H p = some (.tbl ps)) (ht : TriplesOk ps'.toList) (hn : NotL K p) : Rel K tb φ ψ (upd H p (.tbl ps')) m := by
  refine ⟨R.len, R.nd, fun n mo a e1 e2 => ?_, fun q hq => ?_, fun q hq z => R.sd q hq ((Post.tbl (φ := φ) (ψ := ψ) h).kp q z), R.ap, fun q hq => ?_⟩
  · exact (R.obj n mo a e1 e2).mono (Post.tbl h) R (upd_ne fun z => R.ntbl h (z ▸ List.mem_of_getElem? e2))
  · by_cases hb : q = p
    · rw [hb]; exact ⟨ps', upd_same, ht⟩
    · exact TabG.keep (R.tab q hq) (upd_ne hb)
  · by_cases hb : q = p
    · exact fun x hx c hc => absurd (hb ▸ hc) (hn x hx c)
    · exact (R.lam q hq).upd hb fun _ e => by rw [h] at e; cases e
end Pw
end
section
set_option Elab.async false
set_option linter.all false
set_option maxRecDepth 100000
set_option maxHeartbeats 2000000
namespace Pv
open PySem PySem.Spec PyProof.Rows L2
end Pv
end
section
set_option Elab.async false
set_option linter.all false
set_option maxRecDepth 100000
set_option maxHeartbeats 2000000
namespace Pw
open PySem PySem.Spec PyProof.Rows L2 Pv
section
variable {κ : Type} [DecidableEq κ]
def valX (kvs : List (κ × D)) (k : κ) : Option D := (kvs.find? fun kv => decide (kv.1 = k)).map (·.2)
def putX (kvs : List (κ × D)) (k : κ) (d : D) : List (κ × D) :=
  if (kvs.any fun kv => decide (kv.1 = k)) = true then kvs.map (fun kv => if kv.1 = k then (kv.1, d) else kv) else kvs ++ [(k, d)]
def PR (K : FRG) (φ ψ : List Addr) (H : Hp) (kvs : List (κ × D)) (vs : List (κ × V)) : Prop := kvs.map (·.1) = vs.map (·.1) ∧ Reps K φ ψ H (kvs.map (·.2)) (vs.map (·.2))
variable {K : FRG} {φ ψ : List Addr} {H : Hp}
theorem PR.len {kvs : List (κ × D)} {vs : List (κ × V)} (h : PR K φ ψ H kvs vs) : kvs.length = vs.length := by
  have := congrArg List.length h.1
  simpa using this
theorem PR.uncons {p : κ × D} {q : κ × V} {kvs : List (κ × D)} {vs : List (κ × V)} (h : PR K φ ψ H (p :: kvs) (q :: vs)) : p.1 = q.1 ∧ Rep K φ ψ H p.2 q.2 ∧ PR K φ ψ H kvs vs := by
  obtain ⟨h1, h2⟩ := h
  rw [List.map_cons, List.map_cons] at h1 h2
  cases h2 with
  | cons a b => exact ⟨(List.cons.inj h1).1, a, (List.cons.inj h1).2, b⟩
theorem PR.cons {p : κ × D} {q : κ × V} {kvs : List (κ × D)} {vs : List (κ × V)} (h1 : p.1 = q.1) (h2 : Rep K φ ψ H p.2 q.2) (h : PR K φ ψ H kvs vs) : PR K φ ψ H (p :: kvs) (q :: vs) :=
  ⟨by rw [List.map_cons, List.map_cons, h1, h.1], .cons h2 h.2⟩
theorem PR.val {k : κ} : ∀ {kvs : List (κ × D)} {vs : List (κ × V)}, PR K φ ψ H kvs vs → (∀ d, valX kvs k = some d → ∃ v, valV vs k = some v ∧ Rep K φ ψ H d v) ∧ (valX kvs k = none → valV vs k = none)
  | [], [], _ => ⟨(fun d e => by cases e), fun _ => rfl⟩
  | [], _ :: _, h => by have := h.len; simp at this
  | _ :: _, [], h => by have := h.len; simp at this
  | p :: kvs, q :: vs, h => by
    obtain ⟨e1, e2, e3⟩ := h.uncons
    obtain ⟨i1, i2⟩ := PR.val (k := k) e3
    by_cases hk : p.1 = k
    · refine ⟨fun d e => ⟨q.2, valV_pos (e1 ▸ hk), ?_⟩, fun e => ?_⟩
      · simp [valX, List.find?_cons, hk] at e
        rw [← e]; exact e2
      · simp [valX, List.find?_cons, hk] at e
    · have hq : ¬ q.1 = k := fun z => hk (e1.trans z)
      have ev : valX (p :: kvs) k = valX kvs k := by simp [valX, List.find?_cons, hk]
      rw [ev, valV_neg hq]
      exact ⟨i1, i2⟩
theorem PR.any {k : κ} {kvs : List (κ × D)} {vs : List (κ × V)} (h : PR K φ ψ H kvs vs) : (kvs.any fun kv => decide (kv.1 = k)) = vs.any fun kv => decide (kv.1 = k) := by
  have a : ∀ (l : List (κ × D)), (l.any fun kv => decide (kv.1 = k)) = (l.map (·.1)).any fun x => decide (x = k) := fun l => by rw [List.any_map]; rfl
  have b : ∀ (l : List (κ × V)), (l.any fun kv => decide (kv.1 = k)) = (l.map (·.1)).any fun x => decide (x = k) := fun l => by rw [List.any_map]; rfl
  rw [a, b, h.1]
theorem PR.repl {k : κ} {d : D} {v : V} (r : Rep K φ ψ H d v) : ∀ {kvs : List (κ × D)} {vs : List (κ × V)}, PR K φ ψ H kvs vs → PR K φ ψ H (kvs.map (fun kv => if kv.1 = k then (kv.1, d) else kv)) (vs.map (fun kv => if kv.1 = k then (kv.1, v) else kv))
  | [], [], h => h
  | [], _ :: _, h => by have := h.len; simp at this
  | _ :: _, [], h => by have := h.len; simp at this
  | p :: kvs, q :: vs, h => by
    obtain ⟨e1, e2, e3⟩ := h.uncons
    rw [List.map_cons, List.map_cons]
    by_cases hk : p.1 = k
    · rw [if_pos hk, if_pos (e1 ▸ hk)]
      exact .cons e1 r (PR.repl r e3)
    · rw [if_neg hk, if_neg (fun z => hk (e1.trans z))]
      exact .cons e1 e2 (PR.repl r e3)
theorem PR.put {k : κ} {d : D} {v : V} {kvs : List (κ × D)} {vs : List (κ × V)} (h : PR K φ ψ H kvs vs) (r : Rep K φ ψ H d v) : PR K φ ψ H (putX kvs k d) (putK vs k v) := by
  unfold putX putK
  rw [h.any]
  split
  · exact h.repl r
  · exact ⟨by rw [List.map_append, List.map_append, h.1]; rfl, by rw [List.map_append, List.map_append]; exact h.2.app (.cons r .nil)⟩
end
end Pw
end
section
set_option Elab.async false
set_option linter.all false
set_option maxRecDepth 100000
set_option maxHeartbeats 2000000
namespace Pw
open PySem PySem.Spec PyProof.Rows L2 Pv
section
variable {X : Cx} {K : FRG} {tb : List Addr} {pos : Pos}
def eMt0 (ck : W → Mem → Bool) (g : W → List W → Mem → Option (W × Mem)) (o : Ex) : Ex := fun ρ m => (o ρ m).bind fun p => if ck p.1 p.2 = true then g p.1 [] p.2 else none
theorem ex_mt0 {T' id : String} {name : Str} {apos cpos : Pos} {fo : Ex} {r : V → List V → Hp → VK → Prop} {g : W → List W → Mem → Option (W × Mem)} {ck : W → Mem → Bool} {o : Expr}
    (hck : ∀ φ ψ H m d v, Rel X.K tb φ ψ H m → RepS X.K φ ψ H d v → ck d m = true → tyV X.K T' v H) (hs : MtS X.K tb r g)
    (pa : PlainAttrs T') (slot : Slot T' name id) (hty : typeOf (.builtin id) = pure (.type "method_descriptor")) (hm : MtR X id r) (ho : PE X o (T X.K tb fo))
    (hbase : attributeBase o name X.env (eval o X.env) = eval o X.env := by rfl) (hline : (apos.endLine == cpos.line) = true := by rfl) :
    PE X (.Call (.Attribute o name apos) [] [] cpos) (T X.K tb (eMt0 ck g fo)) := by
  refine pe_mono (pe_bm0 pa slot hty hm ho hbase hline) fun σ H Q ⟨φ, ψ, ρ, m, w, m', R, E, e, k⟩ => ?_
  obtain ⟨⟨w1, m1⟩, e1, e⟩ := bnd e
  split at e
  · rename_i hc
    refine ⟨φ, ψ, ρ, m, w1, m1, R, E, e1, fun φ1 ψ1 H1 x P1 R1 V1 => ⟨hck φ1 ψ H1 m1 w1 x (V1.rel R1) (V1.s R1) hc, ?_⟩⟩
    exact hs φ1 ψ H1 m1 x [] w1 [] w m' Q (V1.rel R1) (V1.s R1) .nil e fun φ3 ψ3 H3 v P3 R3 V3 => k φ3 ψ3 H3 v ((V1.post P1).trans P3) R3 V3
  · cases e
def popD : W → List W → Mem → Option (W × Mem)
  | .r n, [], m => match m[n]? with
    | some (.lst ds) => (ds[ds.length - 1]?).bind fun d => some (.v d, m.set n (.lst ds.dropLast))
    | _ => none
  | _, _, _ => none
theorem Reps.dropLast {φ ψ : List Addr} {H : Hp} {ds : List D} {vs : List V} (r : Reps K φ ψ H ds vs) : Reps K φ ψ H ds.dropLast vs.dropLast := by
  rw [List.dropLast_eq_take, List.dropLast_eq_take, ← r.length]
  exact r.take _
theorem pop_s : MtS K tb rPop popD := fun φ ψ H m x vs w ws w' m' Q R hx r e k => by
  unfold popD at e
  split at e
  · split at e
    · rename_i hm
      obtain ⟨d, ed, e⟩ := bnd e
      cases e
      cases r
      obtain ⟨q, h1, rfl⟩ := hx
      obtain ⟨vs, hq, rl⟩ := R.obj _ _ q hm h1
      have hmem := List.mem_of_getElem? h1
      obtain ⟨v, ev, hv⟩ := rl.get ed
      have P := Post.wr (ψ := ψ) (o := .lst vs.dropLast) hmem (R.trk hmem)
      exact ⟨q, vs, v, rfl, rfl, hq, by rw [← rl.length]; exact ev, k φ ψ _ _ P (R.wrL h1 rl.dropLast) ⟨rfl, hv.mono P R⟩⟩
    · cases e
  · cases e
theorem ex_pop {o : Expr} {fo : Ex} {apos cpos : Pos} (ho : PE X o (T X.K tb fo))
    (hbase : attributeBase o "pop" X.env (eval o X.env) = eval o X.env := by rfl) (hline : (apos.endLine == cpos.line) = true := by rfl) :
    PE X (.Call (.Attribute o "pop" apos) [] [] cpos) (T X.K tb (eMt0 isLst popD fo)) :=
  ex_mt0 (fun φ ψ H m d v R h e => isLst_ty R h e) pop_s PySem.F.plainAttrs_list PySem.F.slot_list_pop PySem.F.type_list_pop mt_pop ho hbase hline
end
end Pw
end
section
set_option Elab.async false
set_option linter.all false
set_option maxRecDepth 100000
set_option maxHeartbeats 2000000
namespace Pw
open PySem PySem.Spec PyProof.Rows L2 Pv
section
variable {X : Cx} {K : FRG} {tb : List Addr}
def rMaxL (K : FRG) : List V → Hp → VK → Prop := fun xs H Q => ∃ (a : Addr) (ns : List Int), xs = [.ref a] ∧ SqL K H a (ns.map V.int) ∧ 0 < ns.length ∧ ∀ M, M ∈ ns → (∀ z ∈ ns, z ≤ M) → Q (.int M) H
theorem cr_maxL (hc : X.calm = true) : CallR X (.builtin "max") (rMaxL X.K) := by
  intro pins s σ H vs us Q I r h
  obtain ⟨a, ns, rfl, hs, hne, q⟩ := h
  obtain rfl := Vals.ref1 r
  obtain ⟨its, rv, hl, _⟩ := I.list hs
  have hi := rv.ints
  have hl' := hl.isList
  obtain ⟨xs, e⟩ := hi.allInts.items
  have hns : ns = xs.toList.map (·.1) := by
    rw [← hi.numsOf, ← nums_intItems, ← e]
  have hsz : 0 < xs.size := by
    have h3 := hne; rw [hns, List.length_map, Array.length_toList] at h3; exact h3
  rw [e] at hl'
  refine max_intList (I.ok.hd hc) hl' hsz fun v h' tk hv hk => ?_
  obtain ⟨t, rfl⟩ := intItems_at hv
  obtain ⟨h1, h2⟩ := argBest_gt (numAt xs) (xs.size - 1)
  refine ⟨.int _, H, I.kept hk, ⟨t, rfl⟩, q _ ?_ fun a ha => ?_⟩
  · rw [hns, numAt_eq]; exact getD_mem (by rw [List.length_map, Array.length_toList]; omega)
  · rw [hns] at ha
    obtain ⟨j, hj, rfl⟩ := mem_getD ha
    rw [List.length_map, Array.length_toList] at hj
    rw [← numAt_eq]; exact h2 j (by omega)
def topD (g : Int → Int → Int) : List D → Option W
  | [x] => (itmL x).bind fun ds => (allI ds).bind fun is => match is with
    | [] => none
    | i :: is => some (.v (.int (is.foldl g i)))
  | _ => none
theorem fold_maxI : ∀ (l : List Int) (i : Int), (l.foldl maxI i = i ∨ l.foldl maxI i ∈ l) ∧ i ≤ l.foldl maxI i ∧ ∀ z ∈ l, z ≤ l.foldl maxI i
  | [], i => ⟨.inl rfl, Int.le_refl _, fun z h => nomatch h⟩
  | a :: l, i => by
    obtain ⟨h1, h2, h3⟩ := fold_maxI l (maxI i a)
    have m1 : maxI i a = i ∨ maxI i a = a := by unfold maxI; split <;> simp
    have m2 : i ≤ maxI i a ∧ a ≤ maxI i a := by unfold maxI; split <;> omega
    rw [List.foldl_cons]
    refine ⟨?_, by omega, fun z hz => ?_⟩
    · rcases h1 with h1 | h1
      · rcases m1 with m1 | m1
        · exact .inl (h1.trans m1)
        · exact .inr (by rw [h1, m1]; exact List.mem_cons_self)
      · exact .inr (List.mem_cons_of_mem _ h1)
    · rcases List.mem_cons.mp hz with z | z
      · subst z; omega
      · exact h3 _ z
theorem topMax_s : CallS K tb (rMaxL K) (topD maxI) := fun φ ψ H m vs ds w Q R r e k => by
  unfold topD at e
  split at e
  · obtain ⟨xs, e1, e⟩ := bnd e
    obtain ⟨is, e2, e⟩ := bnd e
    split at e
    · cases e
    · rename_i i is
      cases e
      cases r with
      | cons h r =>
        cases r
        obtain ⟨l, vs, rfl, hq, q⟩ := itmL_sq h e1
        obtain rfl := allI_rep q e2
        refine ⟨_, _, rfl, hq, by simp, fun M hM hT => ?_⟩
        obtain ⟨a1, a2, a3⟩ := fold_maxI is i
        have : M = is.foldl maxI i := by
          have b1 : M ≤ is.foldl maxI i := by
            rcases List.mem_cons.mp hM with z | z
            · omega
            · exact a3 M z
          have b2 : is.foldl maxI i ≤ M := by
            rcases a1 with z | z
            · rw [z]; exact hT i List.mem_cons_self
            · exact hT _ (List.mem_cons_of_mem _ z)
          omega
        rw [this]
        exact Go.val k R (.int _)
  · cases e
end
end Pw
end
section
set_option Elab.async false
set_option linter.all false
set_option maxRecDepth 100000
set_option maxHeartbeats 2000000
namespace Pw
open PySem PySem.Spec PyProof.Rows L2 Pv
def keyOf : D → Option Key
  | .int i => some (.inl i)
  | .str x => some (.inr x)
  | _ => none
section
variable {X : Cx} {K : FRG} {tb : List Addr} {pos : Pos}
theorem pe_or {e : Expr} {t t' : TE} (h : PE X e t) (h' : PE X e t') : PE X e (fun σ H Q => t σ H Q ∨ t' σ H Q) := ⟨fun pins s σ H Q I q => q.elim (h.run pins s σ H Q I) (h'.run pins s σ H Q I)⟩
end
end Pw
end
section
set_option Elab.async false
set_option linter.all false
set_option maxRecDepth 100000
set_option maxHeartbeats 2000000
namespace Pw
open PySem PySem.Spec PyProof.Rows L2 Pv
section
variable {X : Cx} {tb : List Addr}
end
end Pw
end
section
set_option Elab.async false
set_option linter.all false
set_option maxRecDepth 100000
set_option maxHeartbeats 2000000
namespace Pw
open PySem PySem.Spec PyProof.Rows L2 Pv
theorem RepCs.len {K : FRG} {φ ψ : List Addr} {H : Hp} : ∀ {ds : List D} {vs : List V}, RepCs K φ ψ H ds vs → ds.length = vs.length
  | _, _, .nil => rfl
  | _, _, .cons _ r => by simp [RepCs.len r]
end Pw
end
section
set_option Elab.async false
set_option linter.all false
set_option maxRecDepth 100000
set_option maxHeartbeats 1000000
namespace Gn
open PySem PySem.Spec PyProof.Rows L2
abbrev genCx (X : Cx) (A1 : Around) (G : Expr) (it : Addr) (s : Shared) (H : Hp) (cenv : PySem.Env) (fp : List Addr) : Cx :=
  { X with A := A1.over (.compLoop G 0 (.ref it) .none cenv) [], s_0 := s, H_0 := H, env := cenv, outer := X.stack, stack := cenv :: X.stack, ex := fp, fn := fun _ => false, pn := [], xe := fun _ _ => False }
section
variable {X : Cx} {pins : List (Addr × Obj)} {σ : L2.St} {H : Hp} {s : Shared}
theorem clo_mem {scope : Scope} {own : List (Str × Nat)} (I : Inv X pins σ H s) (ok : BlkOk X.N X.env.scope scope own) {y : Str} {c : Addr} (hm : (y, c) ∈ cloFrom X.env.cells scope.names []) : X.env.cells.lookup y = some c ∧ c < s.heap.objs.size := by
  have hfree : ∀ y ∈ scope.names, y.2 = .free → ∃ c, X.env.cells.lookup y.1 = some c := fun y hy e => by
    rcases ok.free y hy e with k | k
    · exact I.ok.has _ (.inl k)
    · exact I.ok.has _ (.inr k)
  rcases cloFrom_mem hm with hm | ⟨h1, rfl⟩
  · cases hm
  · obtain ⟨c, hc⟩ := hfree _ h1 rfl
    rw [hc]
    obtain ⟨w, z⟩ := I.cell _ _ hc
    exact ⟨rfl, z.lt⟩
theorem gen_start {A1 : Around} {G1 G2 : Expr} {cl : List Comprehension} {sc0 : Scope} {gpos : Pos} {it : Addr} {scope : Scope} {own : List (Str × Nat)} {fp : List Addr} {code : Value} {h5 : Heap} {gens' : Array GenState} {tk : Nat} {m : Str → Option Value} {pins' : List (Addr × Obj)}
    (I : Inv X pins σ H s) (ok : BlkOk X.N X.env.scope scope own) (hN : X.N.Nodup) (hcell : ∀ y ∈ scope.names, y.2 ≠ .cell) (hfp : ∀ b ∈ fp, FpOk X pins H b ∧ b < s.heap.objs.size)
    (hh : A1.handled = none) (hfr : A1.frames = X.A.frames)
    (kp : ∀ b o, s.heap.get? b = some o → h5.get? b = some o) (hn : h5.Ns s.heap.objs.size m) (hb : AllBare gens')
    (hp : ∀ p ∈ pins', h5.get? p.1 = some p.2 ∧ H p.1 = none ∧ p.1 ≠ s.heap.objs.size ∧ p.1 ∉ frs X.stack ∧ ∀ v, p.2.data ≠ .cell v) :
    Inv (genCx X A1 (.GeneratorExp G1 cl sc0 gpos) it s H (genEnv scope (cloFrom X.env.cells scope.names []) s.heap.objs.size code builtinsNs X.env) fp) pins' (wipe σ (own.map (·.2))) H { s with heap := h5, gens := gens', toks := tk } := by
  have look : ∀ {y}, scope.names.lookup y = some .free → ∃ c, (cloFrom X.env.cells scope.names []).lookup y = some c ∧ X.env.cells.lookup y = some c := fun {y} hl => by
    have hy : (y, NameKind.free) ∈ scope.names := PySem.mem_of_lookup hl
    obtain ⟨c', e'⟩ := mem_lookup (cloFrom_has (cells := X.env.cells) (acc := []) hy)
    exact ⟨c', e', (clo_mem I ok (PySem.mem_of_lookup e')).1⟩
  have okB : (genCx X A1 (.GeneratorExp G1 cl sc0 gpos) it s H (genEnv scope (cloFrom X.env.cells scope.names []) s.heap.objs.size code builtinsNs X.env) fp).Ok := by
    refine ⟨I.ok.mod, ok.kind, I.ok.glob, rfl, Nat.le_refl _, fun y z c e1 e2 => ?_, fun y hy => ?_, fun y c z e => ?_, fun _ => ?_, ?_, .inr ⟨rfl, rfl⟩, fun b hb => ⟨?_, fun y c e z => ?_⟩, I.bs, Nat.le_trans I.ok.bsz I.sz, fun b o e hb => ?_, fun b hb z => ?_, I.stack, I.stkFree⟩
    · exact I.ok.inj y z c (clo_mem I ok (PySem.mem_of_lookup e1)).1 (clo_mem I ok (PySem.mem_of_lookup e2)).1
    · rcases hy with hy | hy
      · exact absurd rfl (hcell _ (PySem.mem_of_lookup hy))
      · obtain ⟨c, h1, _⟩ := look hy
        exact ⟨c, h1⟩
    · cases z
    · exact hh
    · have e : (A1.over (.compLoop (.GeneratorExp G1 cl sc0 gpos) 0 (.ref it) .none (genEnv scope (cloFrom X.env.cells scope.names []) s.heap.objs.size code builtinsNs X.env)) []).frames = pushEnvs (Code.envs (.compLoop (.GeneratorExp G1 cl sc0 gpos) 0 (.ref it) .none (genEnv scope (cloFrom X.env.cells scope.names []) s.heap.objs.size code builtinsNs X.env))) (pushEnvs (envsOf []) A1.frames) := rfl
      rw [hfr, I.ok.frames] at e
      exact e
    · exact Nat.ne_of_lt (hfp b hb).2
    · exact (hfp b hb).1.2.2.2.2.1 y c (clo_mem I ok (PySem.mem_of_lookup e)).1 z
    · rcases (hfp b hb).1.2.2.2.1 with z | z
      · exact I.ok.noex b o e z
      · exact absurd (Nat.lt_of_lt_of_le (Heap.lt_size e) (Nat.le_trans I.ok.bsz z)) (Nat.lt_irrefl _)
    · rcases List.mem_cons.mp (I.stkSub b z) with z | z
      · exact (hfp b hb).1.2.1 z
      · exact (hfp b hb).1.2.2.1 z
  refine ⟨okB, rfl, hb, Un.kept kp, ⟨m, hn, fun i y av e1 e2 e3 => ?_⟩, fun y c e => ?_, I.hok.fresh (Nat.le_refl _), fun y c e => ?_, fun p hp' => ?_, I.hok.kept kp, by rw [wipe_length]; exact I.len⟩
  · obtain ⟨e2, hne⟩ := wipe_some e2
    have e3 : Vis scope y := e3
    have hfr : scope.names.lookup y = some .free := by
      have no : ∀ k, scope.names.lookup y = some k → ¬ (k = .local ∨ k = .cell) := fun k e hh => by
        rcases ok.own _ (PySem.mem_of_lookup e) hh with e' | e'
        · obtain ⟨p, hp, hpy⟩ := List.mem_map.mp e'
          have e3 := ok.ix p hp
          have : p.1 = y := hpy
          rw [this] at e3
          exact hne (List.mem_map.mpr ⟨p, hp, nodup_ix hN e3 e1⟩)
        · exact e' (List.mem_of_getElem? e1)
      rcases e3 with e3 | e3 | e3
      · exact absurd (.inl rfl) (no _ e3)
      · exact absurd (.inr rfl) (no _ e3)
      · exact e3
    obtain ⟨m0, hn0, hl⟩ := I.loc
    have hvis : Vis X.env.scope y := (ok.free _ (PySem.mem_of_lookup hfr) rfl).elim (fun k => .inr (.inl k)) (fun k => .inr (.inr k))
    obtain ⟨w, r, q⟩ := hl i y av e1 e2 hvis
    refine ⟨w, r, .inr ⟨.inr hfr, ?_⟩⟩
    obtain ⟨c, h1, h2⟩ := look hfr
    rcases q with ⟨k, _⟩ | ⟨_, c', e', z⟩
    · have k : X.env.scope.names.lookup y = some .local := k
      rcases ok.free _ (PySem.mem_of_lookup hfr) rfl with k' | k' <;> rw [show X.env.scope.names.lookup y = _ from k'] at k <;> cases k
    · rw [h2] at e'; cases e'
      exact ⟨c, h1, z.keeps kp⟩
  · obtain ⟨w, z⟩ := I.cell y c (clo_mem I ok (PySem.mem_of_lookup e)).1
    exact ⟨w, z.keeps kp⟩
  · exact I.freeC y c (clo_mem I ok (PySem.mem_of_lookup e)).1
  · exact hp p hp'
end
end Gn
end
section
set_option Elab.async false
set_option linter.all false
set_option maxRecDepth 100000
set_option maxHeartbeats 1000000
namespace Gn
open PySem PySem.Spec PyProof.Rows L2
structure Lp (g : TG) (tt : TT) (te : TE) (vs : List Nat) (σ : L2.St) (J : It) (W : Nat → Nat → List V → Hp → Prop) (Done : List V → Hp → Prop) (Z C : V → Hp → Prop) : Prop where
  turn : ∀ i m ys H, W i m ys H → (J.stop i H ∧ Done ys H) ∨ (J.go i H ∧ 1 ≤ m ∧ ∃ Nx : List V → Hp → Prop, (∀ ys' H', Nx ys' H' → ∃ m', m' < m ∧ W (i + 1) m' ys' H') ∧
    ∀ x H', J.yld i H x H' → g x (wipe σ vs) H' fun σ2 H2 => wipe σ2 vs = wipe σ vs ∧ tt σ2 H2 fun b H3 => if b = true then te σ2 H3 fun y H4 => Z y H4 ∧ (C y H4 → Nx (ys ++ [y]) H4) else Nx ys H3)
structure Ar (X : Cx) (A1 : Around) : Prop where
  hd : A1.handled = X.A.handled
  fr : A1.frames = X.A.frames
  gd : A1.guards = X.A.guards
  dp : A1.depth = X.A.depth
  un : A1.units ≤ X.A.units + 4
theorem Ar.in2 {X : Cx} : Ar X X.A.in1.in1 := ⟨rfl, rfl, rfl, rfl, by show X.A.units + 1 + 1 ≤ _; omega⟩
theorem Ar.in4 {X : Cx} : Ar X X.A.in1.in1.in1.in1 := ⟨rfl, rfl, rfl, rfl, by show X.A.units + 1 + 1 + 1 + 1 ≤ _; omega⟩
theorem Ar.room {X : Cx} {A1 : Around} {k : Nat} {G1 : Expr} {cl : List Comprehension} {sc : Scope} {gpos : Pos} {it : Value} {cenv : PySem.Env} (h : Ar X A1) (r : Room (k + 1) X.A) : Room k (A1.over (.compLoop (.GeneratorExp G1 cl sc gpos) 0 it .none cenv) []) := by
  refine ⟨h.hd.trans r.hd, ?_, ?_⟩
  · have := r.dp
    have e : (A1.over (.compLoop (.GeneratorExp G1 cl sc gpos) 0 it .none cenv) []).depth = A1.depth + 0 + 1 := rfl
    rw [e, h.dp]; omega
  · have := r.un
    have := h.un
    have e : (A1.over (.compLoop (.GeneratorExp G1 cl sc gpos) 0 it .none cenv) []).units = A1.units + 0 + 3 := rfl
    rw [e]; omega
theorem Ar.guards {X : Cx} {A1 : Around} {G1 : Expr} {cl : List Comprehension} {sc : Scope} {gpos : Pos} {it : Value} {cenv : PySem.Env} (h : Ar X A1) (r : X.A.guards = some []) : (A1.over (.compLoop (.GeneratorExp G1 cl sc gpos) 0 it .none cenv) []).guards = some [] := by
  have e : (A1.over (.compLoop (.GeneratorExp G1 cl sc gpos) 0 it .none cenv) []).guards = A1.guards := rfl
  rw [e, h.gd, r]
section
variable {X : Cx} (PR : List V → List (Addr × Obj) → Prop) (Back : Value → Shared → Shared → Prop)
def genEnd (X : Cx) (τ : L2.St) (N0 : Nat) (Done : List V → Hp → Prop) : Nat → Shared → Shared → Prop := fun n _ s1 => ∃ ys H' pins, n + ys.length = N0 ∧ PR ys pins ∧ Inv X pins τ H' s1 ∧ Done ys H'
def genY (X : Cx) (τ : L2.St) (N0 : Nat) (Z C : V → Hp → Prop) : Protocol := fun n _ v s1 kap => ∃ ys y H' pins, n + 1 + ys.length = N0 ∧ RelV y v ∧ Z y H' ∧ PR ys pins ∧ Inv X pins τ H' s1 ∧ ∀ s'', Back v s1 s'' → C y H' → kap (.send .none) s''
end
theorem thnS {M : Model} {A A1 : Around} {α : Type} {m : Sem α} {Q : α → Shared → Prop} {Q' : α → Shared → Prop} {E : Value → Shared → Prop} {s : Shared} (h : wpAny M A m Q (fun _ _ => False) s) (hQ : ∀ a s', Q a s' → Q' a s') : wpAny M A m Q' E s := wpAny_mono h hQ fun _ _ z => False.elim z
theorem gen_loop {X : Cx} {A1 : Around} {elt tg iter : Expr} {ifs : List Expr} {scope : Scope} {gpos : Pos} {it : Addr} {s4 : Shared} {H0 : Hp} {cenv : PySem.Env} {fp : List Addr} {J : It} {tn : Nat → Heap → Prop} {g : TG} {tt : TT} {te : TE} {vs : List Nat} {σ : L2.St}
    {W : Nat → Nat → List V → Hp → Prop} {Done : List V → Hp → Prop} {Z C : V → Hp → Prop} {PR : List V → List (Addr × Obj) → Prop} {Back : Value → Shared → Shared → Prop} {N0 : Nat}
    (hc : X.calm = true) (hco : cenv.scope.isCoroutine = false)
    (T : Turn X.prog X.w X.K tg J fp it tn)
    (pg : PG (genCx X A1 (.GeneratorExp elt [⟨tg, iter, ifs, 0⟩] scope gpos) it s4 H0 cenv fp) tg g)
    (pt : PTs (genCx X A1 (.GeneratorExp elt [⟨tg, iter, ifs, 0⟩] scope gpos) it s4 H0 cenv fp) ifs tt)
    (pe : PE (genCx X A1 (.GeneratorExp elt [⟨tg, iter, ifs, 0⟩] scope gpos) it s4 H0 cenv fp) elt te)
    (L : Lp g tt te vs σ J W Done Z C)
    (hPR : ∀ ys pins, PR ys pins → ∀ p ∈ pins, ∀ b ∈ fp, p.1 ≠ b)
    (hBack : ∀ ys y v s1 s2 H' pins, PR ys pins → RelV y v → Inv (genCx X A1 (.GeneratorExp elt [⟨tg, iter, ifs, 0⟩] scope gpos) it s4 H0 cenv fp) pins (wipe σ vs) H' s1 → Back v s1 s2 →
      ∃ pins', PR (ys ++ [y]) pins' ∧ Inv (genCx X A1 (.GeneratorExp elt [⟨tg, iter, ifs, 0⟩] scope gpos) it s4 H0 cenv fp) pins' (wipe σ vs) H' s2 ∧ ∀ b ∈ fp, ∀ o, s1.heap.get? b = some o → s2.heap.get? b = some o) :
    ∀ (m n i : Nat) (ys : List V) (s₀ s : Shared) (H : Hp) (pins : List (Addr × Obj)), m ≤ n → n + ys.length = N0 → W i m ys H → PR ys pins → Inv (genCx X A1 (.GeneratorExp elt [⟨tg, iter, ifs, 0⟩] scope gpos) it s4 H0 cenv fp) pins (wipe σ vs) H s → tn i s.heap → (∀ b ∈ fp, H b = none) →
      Seg (model X.prog X.w) A1 (fun n s₀ r s₁ => r = .ok .next ∧ genEnd PR (genCx X A1 (.GeneratorExp elt [⟨tg, iter, ifs, 0⟩] scope gpos) it s4 H0 cenv fp) (wipe σ vs) N0 Done n s₀ s₁) (genY PR Back (genCx X A1 (.GeneratorExp elt [⟨tg, iter, ifs, 0⟩] scope gpos) it s4 H0 cenv fp) (wipe σ vs) N0 Z C) n s₀
        (.compLoop (.GeneratorExp elt [⟨tg, iter, ifs, 0⟩] scope gpos) 0 (.ref it) .none cenv) ((model X.prog X.w).den (.compLoop (.GeneratorExp elt [⟨tg, iter, ifs, 0⟩] scope gpos) 0 (.ref it) .none cenv)) [] s := by
  intro m
  induction m using Nat.strongRecOn with
  | ind m ih =>
    intro n i ys s₀ s H pins hmn hN0 w0 hpr I st nf
    have stat : ∀ {pins' : List (Addr × Obj)} {σ' : L2.St} {H' : Hp} {s' : Shared}, Inv (genCx X A1 (.GeneratorExp elt [⟨tg, iter, ifs, 0⟩] scope gpos) it s4 H0 cenv fp) pins' σ' H' s' → (∀ p ∈ pins', ∀ b ∈ fp, p.1 ≠ b) → (∀ b ∈ fp, H' b = none) → ∀ b ∈ fp, FpOk (genCx X A1 (.GeneratorExp elt [⟨tg, iter, ifs, 0⟩] scope gpos) it s4 H0 cenv fp) pins' H' b := fun {pins' σ' H' s'} I' hp hn b hb =>
      ⟨hn b hb, (I'.ok.exf b hb).1, I'.ok.exfs b hb, .inl hb, fun x c e => (I'.ok.exf b hb).2 x c e, fun p hp' => hp p (by simpa using hp') b hb⟩
    show Seg _ A1 _ _ _ s₀ _ ((compTurn (.GeneratorExp elt [⟨tg, iter, ifs, 0⟩] scope gpos) 0 (.ref it) .none cenv).onRaise (leaving cenv)) [] s
    rw [compTurn_gen, Sem.onRaise_eq_wrap]
    refine seg_bind_wrap (wpAny_standAt ?_)
    rcases L.turn i m ys H w0 with ⟨stop, done⟩ | ⟨go, m1, Nx, hNx, step⟩
    · have td := T.done (genCx X A1 (.GeneratorExp elt [⟨tg, iter, ifs, 0⟩] scope gpos) it s4 H0 cenv fp) rfl rfl rfl hc i pins s _ H (fun _ _ => False) I (stat I (hPR ys pins hpr) nf) st stop
      refine seg_bind_wrap (thnS (A1 := A1) td fun r s6 ⟨hr, I6⟩ => ?_)
      subst hr
      exact seg_end (.ok .next) ⟨rfl, ys, H, pins, hN0, hpr, I6, done⟩
    · have ti := T.item (genCx X A1 (.GeneratorExp elt [⟨tg, iter, ifs, 0⟩] scope gpos) it s4 H0 cenv fp) rfl rfl rfl hc i pins s _ H (fun _ _ => False) I (stat I (hPR ys pins hpr) nf) st go
      refine seg_bind_wrap (thnS (A1 := A1) ti fun r s6 ⟨u, hr, h6⟩ => ?_)
      subst hr
      refine seg_bind_wrap (thnS (A1 := A1) h6 fun _ s7 ⟨x, H7, I7, r7, y7, st7, n7⟩ => ?_)
      have I7' := I7.pinned (stat I7 (hPR ys pins hpr) n7) (T.obj _ _ st7)
      refine seg_bind_wrap (thnS (A1 := A1) (pg.run _ s7 _ H7 x u _ I7' r7 (step x H7 y7)) fun _ s8 ⟨σ8, H8, I8, hw8, q8⟩ => ?_)
      refine seg_bind_wrap (thnS (A1 := A1) (pt.run _ s8 σ8 H8 _ I8 q8) fun b s9 ⟨H9, I9, q9⟩ => ?_)
      -- the turn's end
      have hl : (wipe σ vs).length = σ8.length := by rw [← hw8, wipe_length]
      have fin : ∀ {s' : Shared} {H' : Hp}, Inv (genCx X A1 (.GeneratorExp elt [⟨tg, iter, ifs, 0⟩] scope gpos) it s4 H0 cenv fp) (pins ++ pinsAt fp s7.heap) σ8 H' s' → Inv (genCx X A1 (.GeneratorExp elt [⟨tg, iter, ifs, 0⟩] scope gpos) it s4 H0 cenv fp) pins (wipe σ vs) H' s' ∧ tn (i + 1) s'.heap ∧ ∀ b ∈ fp, H' b = none := fun {s' H'} I' => by
        have pin' : ∀ b ∈ fp, ∀ o, s7.heap.get? b = some o → s'.heap.get? b = some o ∧ H' b = none := fun b hb o e =>
          let z := I'.pin (b, o) (List.mem_append_right _ (List.mem_append_right _ (mem_pinsAt hb e)))
          ⟨z.1, z.2.1⟩
        refine ⟨I'.unpinned.weak hl (fun j v e => ?_), T.keep _ _ _ st7 fun b hb o e => (pin' b hb o e).1, fun b hb => ?_⟩
        · rw [← hw8] at e
          exact (wipe_some e).1
        · obtain ⟨o, e, _⟩ := T.obj _ _ st7 b hb
          exact (pin' b hb o e).2
      cases b with
      | false =>
        simp only [Bool.false_eq_true, if_false] at q9 ⊢
        obtain ⟨m', hm, w'⟩ := hNx ys H9 q9
        obtain ⟨a1, a2, a3⟩ := fin I9
        exact seg_again rfl (ih m' hm n (i + 1) ys s₀ s9 H9 pins (by omega) hN0 w' hpr a1 a2 a3)
      | true =>
        simp only [if_true] at q9 ⊢
        have hy : ∀ v, yieldOut cenv v = yieldValue v := fun v => by simp only [yieldOut, hco, Bool.false_eq_true, if_false]
        simp only [hy]
        rw [Sem.bind_eq_wrap', Sem.bind_eq_wrap', Sem.wrap_wrap, Sem.wrap_wrap]
        refine seg_wrap (thnS (A1 := A1) (pe.run _ s9 σ8 H9 _ I9 q9) fun z s10 ⟨yv, H10, I10, r10, hZ, hC⟩ => ?_)
        obtain ⟨a1, a2, a3⟩ := fin I10
        obtain ⟨n', rfl⟩ : ∃ n', n = n' + 1 := ⟨n - 1, by omega⟩
        refine seg_at (seg_yield rfl rfl rfl ⟨ys, yv, H10, pins, by omega, r10, hZ, hpr, a1, fun s'' hb hcc => ?_⟩)
        obtain ⟨m', hm, w'⟩ := hNx _ H10 (hC hcc)
        obtain ⟨pins', p1, p2, p3⟩ := hBack ys yv z s10 s'' H10 pins hpr r10 a1 hb
        exact seg_again rfl (ih m' hm n' (i + 1) (ys ++ [yv]) s'' s'' H10 pins' (by omega) (by rw [List.length_append]; simp; omega) w' p1 p2 (T.keep _ _ _ a2 p3) a3)
end Gn
end
section
set_option Elab.async false
set_option linter.all false
set_option maxRecDepth 100000
set_option maxHeartbeats 1000000
namespace Gn
open PySem PySem.Spec PyProof.Rows L2
abbrev gObj (env : PySem.Env) (g tk : Nat) : Obj := { cls := .type "generator", data := .fields #[.int g 0, .str "<genexpr>" (tk + 1), .str (env.qual ++ "<genexpr>") (tk + 1 + 1)] }
structure GSc (scope : Scope) : Prop where
  co : scope.isCoroutine = false
  cell : ∀ y ∈ scope.names, y.2 ≠ .cell
  dot : scope.names.lookup (".0" : Str) = some NameKind.local
section
variable {X : Cx} {pins : List (Addr × Obj)} {σ : L2.St} {H : Hp} {s : Shared}
theorem gen_eval {elt tg iter : Expr} {ifs : List Expr} {scope : Scope} {gpos : Pos} {wi : TI} {c P : Addr} {Q' : Value → Shared → Prop} {k : Nat} {own : List (Str × Nat)} {Kp : It → Hp → Prop}
    (hr : Room k X.A) (TB : GxR.TabB X.base X.mg c P) (hcode : X.env.code = .ref c) (S : GSc scope) (ok : BlkOk X.N X.env.scope scope own) (I : Inv X pins σ H s) (hi : PI X tg iter wi) (hs : ∀ v, genFold iter X.env v = pure v)
    (h : wi σ H fun J H1 => GxR.TabG H1 P ∧ ∀ H2, GxR.Tabbed P H1 H2 → Kp J H2)
    (hQ : ∀ (it : Addr) (fp : List Addr) (tn : Nat → Heap → Prop) (J : It) (H2 : Hp) (s4 : Shared) (code : Value) (h' : Heap) (m : Str → Option Value), Inv X pins σ H2 s4 → Turn X.prog X.w X.K tg J fp it tn → tn 0 s4.heap → (∀ b ∈ fp, FpOk X pins H2 b ∧ b < s4.heap.objs.size) → Kp J H2 →
      h'.Ns s4.heap.objs.size m → (∀ b o, s4.heap.get? b = some o → h'.get? b = some o) → h'.objs.size = s4.heap.objs.size + 1 →
      Q' (.ref h'.objs.size) { s4 with
        gens := s4.gens.push (.fresh (.compStart (.GeneratorExp elt [⟨tg, iter, ifs, 0⟩] scope gpos) 0 (.ref it) .none (genEnv scope (cloFrom X.env.cells scope.names []) s4.heap.objs.size code builtinsNs X.env))),
        toks := s4.toks + 1 + 1 + 1, heap := h'.push (gObj X.env s4.gens.size s4.toks) }) :
    wpAny (model X.prog X.w) X.A (eval (.GeneratorExp elt [⟨tg, iter, ifs, 0⟩] scope gpos) X.env) Q' X.xe s := by
  have hfree : ∀ y ∈ scope.names, y.2 = .free → ∃ c, X.env.cells.lookup y.1 = some c := fun y hy e => by
    rcases ok.free y hy e with k | k
    · exact I.ok.has _ (.inl k)
    · exact I.ok.has _ (.inr k)
  refine wpAny_GeneratorExp_make S.co (closure_ok hfree) S.cell S.dot ok.kind hr.depth ?_ hs
  refine thn (hi.run pins s σ H _ I h) fun xv s1 hx => thn hx fun itv s2 h2 => ?_
  obtain ⟨it, fp, tn, J, H1, e, I2, T, st2, f2, ⟨ps, hP, ht⟩, q⟩ := h2
  subst e
  refine ⟨I2.nolimit, ?_⟩
  have hPs : s2.heap.get? P = some { cls := .none, data := .fields ps } := I2.hok P _ hP
  have cd : PySem.W.CodeHd s2.heap c P := TB.code.keeps fun b u e => I2.bk b u e
  have nP : ∀ b ∈ fp, b ≠ P := fun b hb z => by
    have := (f2 b hb).1
    rw [z, hP] at this; cases this
  -- behind the code's look
  have cont : ∀ (code : Value) (s3 : Shared) (H2 : Hp), Inv X pins σ H2 s3 → GxR.Tabbed P H1 H2 → (∀ b ∈ fp, ∀ o, s2.heap.get? b = some o → s3.heap.get? b = some o) →
      wpAny (model X.prog X.w) X.A (builtinsFor X.env.globals X.env.builtins) (fun bi s₄ =>
        ∀ h', h'.Ns s₄.heap.objs.size (fun y => if y = ".0" then some (.ref it) else none) → Heap.SameBut s₄.heap.objs.size (s₄.heap.push { cls := .type "frame", data := .dict #[] }) h' →
          Q' (.ref h'.objs.size) { s₄ with
            gens := s₄.gens.push (.fresh (.compStart (.GeneratorExp elt [⟨tg, iter, ifs, 0⟩] scope gpos) 0 (.ref it) .none (genEnv scope (cloFrom X.env.cells scope.names []) s₄.heap.objs.size code bi X.env))),
            toks := s₄.toks + 1 + 1 + 1,
            heap := h'.push { cls := .type "generator", data := .fields #[.int s₄.gens.size 0, .str "<genexpr>" (s₄.toks + 1), .str (X.env.qual ++ "<genexpr>") (s₄.toks + 1 + 1)] } }) X.xe s3 := by
    intro code s3 H2 I3 tab keep
    obtain ⟨bm, ob, e1, e2, e3, e4, e5, e6, e7, e8⟩ := TB.bm
    refine wpAny_builtinsFor (m := X.mg) (by rw [I3.ok.glob]; exact I3.mod.glob.keeps I3.bk) e1 e2 (I3.bk _ _ e5) e6 e7 e8 ?_
    intro h' hn' hs'
    have keep' : ∀ b o, s3.heap.get? b = some o → h'.get? b = some o := fun b o e => hs'.extBut b o (Nat.ne_of_lt (Heap.lt_size e)) (Heap.get?_push_of_some _ e)
    have hsz : h'.objs.size = s3.heap.objs.size + 1 := by rw [hs'.1, Heap.size_push]
    refine hQ it fp tn J H2 s3 code h' _ I3 T (T.keep _ _ _ st2 keep) (fun b hb => ?_) (q H2 tab) hn' keep' hsz
    obtain ⟨o, eo, _⟩ := T.obj _ _ st2 b hb
    refine ⟨⟨?_, (f2 b hb).2⟩, Heap.lt_size (keep b hb o eo)⟩
    rw [tab.2 b (nP b hb)]
    exact (f2 b hb).1
  cases hf : codeAmong gpos ps.toList with
  | none =>
    refine wpAny_genexprCodeX hcode (cd.code hPs ht) (cd.tab hPs) hf fun c' h' tk hx hge hlt hco' _ htab' _ => ?_
    obtain ⟨o1, vs1, f1, tf, fl, tg', inF, tx, tt, op, _, _, _, _, _, _, _, _, _, htr, _⟩ := hco'
    have J2 := GxR.inv_tab (more := #[rawInt gpos.line, rawInt gpos.col, .ref c']) (h' := h') (g' := s2.gens) (d' := s2.drawn) (t' := tk) I2 hP (fun b o hb e => hx b o hb e) htab'.2 I2.bare
    exact cont _ { s2 with heap := h', toks := tk } _ J2 ⟨⟨_, upd_same, htr⟩, fun b hb => upd_ne hb⟩ fun b hb o e => hx b o (nP b hb) e
  | some cv =>
    refine wpAny_genexprCode_hit hcode (cd.code hPs ht) hf ?_
    exact cont cv s2 H1 I2 ⟨⟨ps, hP, ht⟩, fun _ _ => rfl⟩ fun b hb o e => e
end
theorem gen_begin {X : Cx} {A1 : Around} {elt tg iter : Expr} {ifs : List Expr} {scope : Scope} {gpos : Pos} {it : Addr} {cenv : PySem.Env} {J : It} {fp : List Addr} {tn : Nat → Heap → Prop} {R : GenEnd} {Y : Protocol} {n : Nat} {s₀ s : Shared}
    (T : Turn X.prog X.w X.K tg J fp it tn) (st : tn 0 s.heap)
    (loop : Seg (model X.prog X.w) A1 R Y n s₀ (.compLoop (.GeneratorExp elt [⟨tg, iter, ifs, 0⟩] scope gpos) 0 (.ref it) .none cenv) ((model X.prog X.w).den (.compLoop (.GeneratorExp elt [⟨tg, iter, ifs, 0⟩] scope gpos) 0 (.ref it) .none cenv)) [] s) :
    Seg (model X.prog X.w) A1 R Y n s₀ (.compStart (.GeneratorExp elt [⟨tg, iter, ifs, 0⟩] scope gpos) 0 (.ref it) .none cenv) ((model X.prog X.w).den (.compStart (.GeneratorExp elt [⟨tg, iter, ifs, 0⟩] scope gpos) 0 (.ref it) .none cenv)) [] s := by
  show Seg _ A1 _ _ _ s₀ _ ((compStart (.GeneratorExp elt [⟨tg, iter, ifs, 0⟩] scope gpos) 0 (.ref it) .none cenv).onRaise (leaving cenv)) [] s
  unfold compStart
  rw [Sem.onRaise_eq_wrap]
  show Seg _ A1 _ _ _ s₀ _ ((ask >>= _).wrap _ _ _ _) [] s
  refine seg_bind_wrap (wpAny_askSetting ?_)
  split
  · exact seg_again rfl loop
  · first
      | exact seg_bind_wrap (wpAny_rule (seg_bind_wrap (wpAny_standAt (seg_bind_wrap (T.self _ 0 s _ _ st (seg_again rfl loop))))))
      | (refine seg_bind_wrap (wpAny_rule ?_); show Seg _ A1 _ _ _ s₀ _ ((standAt iter.pos >>= _).wrap _ _ _ _) [] s; exact seg_bind_wrap (wpAny_standAt (seg_bind_wrap (T.self _ 0 s _ _ st (seg_again rfl loop)))))
section
variable {prog : Program} {w : World} {A : Around} {a : Addr} {g : Nat} {P : Nat → Shared → Shared → Prop} {Y : Protocol} {Rc : Result → Shared → Prop}
theorem all_loop (hh : A.handled = none) (hroom : A.depth < recursionLimit)
    (hP : ∀ n s₀ s₁, P n s₀ s₁ → ∀ h', (∀ b o, s₁.heap.get? b = some o → h'.get? b = some o) → Rc (.ok (.ret (.bool true))) { s₁.setGen g .finished with heap := h' })
    (hY : ∀ n s₀ v s₁ kap, Y n s₀ v s₁ kap → s₁.heap.IsGen a g ∧ s₁.heap.NoLimit ∧ ∃ c, v = .bool c ∧ (c = false → ∀ gs', gs'.bare = true → Rc (.ok (.ret (.bool false))) (s₁.setGen g gs')) ∧ (c = true → ∀ gs', gs'.bare = true → kap (.send .none) ((s₁.setGen g gs').setGen g .running))) :
    ∀ (n : Nat) (s : Shared) (gs : GenState), s.heap.IsGen a g → s.heap.NoLimit → s.gens[g]? = some gs → gs.Goes (model prog w) A.in1.in1 (fun n s₀ r s₁ => r = .ok .next ∧ P n s₀ s₁) Y n (.send .none) (s.setGen g .running) →
      codeAny (model prog w) A (.builtin "all.loop" ⟨[.ref a], []⟩) Rc s := by
  intro n
  induction n with
  | zero =>
    intro s gs hg hl hgs hgo
    have hlt : g + 1 ≤ s.gens.size := (Array.getElem?_eq_some_iff.mp hgs).1
    refine codeAny_builtin F.entry_all_loop ?_
    rw [Around.under_plainId F.plain_all_loop _]
    show wpAny _ A.in1 (pyNext (.ref a) >>= _) _ _ s
    refine wpAny_bind (GenW.wpAny_gsz hlt ?_)
    refine wpAny_pyNext_genexpQ (A := A.in1) hh hl hroom hg hgs hgo (fun v s₁ gs' hb hv hsz => ?_) (fun s₁ hp h' hk hsz => ?_)
    · obtain ⟨y1, y2, c, rfl, y3, y4⟩ := hY _ _ _ _ _ hv
      refine wpAny_bind (wpAny_holding (wpAny_truthy_bool ?_))
      refine wpAny_bind (wpAny_letGo ?_)
      cases c with
      | true => exact False.elim (y4 rfl gs' hb)
      | false =>
        simp only [Bool.false_eq_true, if_false]
        exact wpAny_bind (wpAny_rule (wpAny_pure (y3 rfl gs' hb)))
    · exact wpAny_bind (wpAny_rule (wpAny_pure (hP _ _ _ hp h' hk)))
  | succ n ih =>
    intro s gs hg hl hgs hgo
    have hlt : g + 1 ≤ s.gens.size := (Array.getElem?_eq_some_iff.mp hgs).1
    refine codeAny_builtin F.entry_all_loop ?_
    rw [Around.under_plainId F.plain_all_loop _]
    show wpAny _ A.in1 (pyNext (.ref a) >>= _) _ _ s
    refine wpAny_bind (GenW.wpAny_gsz hlt ?_)
    refine wpAny_pyNext_genexpQ (A := A.in1) hh hl hroom hg hgs hgo (fun v s₁ gs' hb hv hsz => ?_) (fun s₁ hp h' hk hsz => ?_)
    · obtain ⟨y1, y2, c, rfl, y3, y4⟩ := hY _ _ _ _ _ hv
      refine wpAny_bind (wpAny_holding (wpAny_truthy_bool ?_))
      refine wpAny_bind (wpAny_letGo ?_)
      cases c with
      | true =>
        simp only [if_true]
        refine wpAny_pure ⟨plainId_quiet F.plain_all_loop _, ih _ gs' y1 y2 ?_ (y4 rfl gs' hb)⟩
        rw [GenW.setGen_size] at hsz
        simp [Shared.setGen, show g < s₁.gens.size from hsz]
      | false =>
        simp only [Bool.false_eq_true, if_false]
        exact wpAny_bind (wpAny_rule (wpAny_pure (y3 rfl gs' hb)))
    · exact wpAny_bind (wpAny_rule (wpAny_pure (hP _ _ _ hp h' hk)))
end
end Gn
end
section
set_option Elab.async false
set_option linter.all false
set_option maxRecDepth 100000
set_option maxHeartbeats 1000000
namespace Gn
open PySem PySem.Spec PyProof.Rows L2
def tAllG (P : Addr) (yes : Bool) (wi : TI) (g : TG) (tt : TT) (te : TE) (vs : List Nat) : TE := fun σ H Q => wi σ H fun J H1 => GxR.TabG H1 P ∧ ∀ H2, GxR.Tabbed P H1 H2 → ∃ W : Nat → Nat → Hp → Prop, (∃ m, W 0 m H2) ∧ ∀ i m H, W i m H →
  (J.stop i H ∧ Q (.bl yes) H) ∨ (J.go i H ∧ 1 ≤ m ∧ ∃ Nx : Hp → Prop, (∀ H', Nx H' → ∃ m', m' < m ∧ W (i + 1) m' H') ∧ ∀ x H', J.yld i H x H' → g x (wipe σ vs) H' fun σ2 H2 => wipe σ2 vs = wipe σ vs ∧ tt σ2 H2 fun b H3 =>
    if b = true then te σ2 H3 fun y H4 => (∃ c, y = .bl c ∧ (c = !yes → Q (.bl (!yes)) H4)) ∧ (y = .bl yes → Nx H4) else Nx H3)
theorem Inv.same {X : Cx} {pins : List (Addr × Obj)} {σ : L2.St} {H : Hp} {s s' : Shared} (I : Inv X pins σ H s) (ho : s'.os = s.os) (hb : AllBare s'.gens) (hh : s'.heap = s.heap) : Inv X pins σ H s' :=
  ⟨I.ok, ho.trans I.os, hb, by rw [hh]; exact I.base, by rw [hh]; exact I.loc, by rw [hh]; exact I.cell, I.free, I.freeC, by rw [hh]; exact I.pin, by rw [hh]; exact I.hok, I.len⟩
abbrev GCx (X : Cx) (elt tg iter : Expr) (ifs : List Expr) (scope : Scope) (gpos : Pos) (A1 : Around) (it : Addr) (s : Shared) (H : Hp) (C : Addr) (code : Value) (fp : List Addr) : Cx :=
  genCx X A1 (.GeneratorExp elt [⟨tg, iter, ifs, 0⟩] scope gpos) it s H (genEnv scope (cloFrom X.env.cells scope.names []) C code builtinsNs X.env) fp
section
variable {X : Cx} {elt tg iter : Expr} {ifs : List Expr} {scope : Scope} {gpos p pos : Pos} {own : List (Str × Nat)} {wi : TI} {g : TG} {tt : TT} {te : TE} {c P : Addr} {k : Nat}
theorem all_ready {pins : List (Addr × Obj)} {σ : L2.St} {Q : VK} {yes : Bool} {it : Addr} {fp : List Addr} {tn : Nat → Heap → Prop} {J : It} {H2 : Hp} {s4 : Shared} {code : Value} {h' : Heap} {m : Str → Option Value} {W : Nat → Nat → Hp → Prop} {m0 : Nat}
    (hr : Room k X.A) (hc : X.calm = true) (hN : X.N.Nodup) (S : GSc scope) (ok : BlkOk X.N X.env.scope scope own)
    (hg : ∀ (A1 : Around) (it : Addr) (s : Shared) (H : Hp) (C : Addr) (code : Value) (fp : List Addr), PG (GCx X elt tg iter ifs scope gpos A1 it s H C code fp) tg g)
    (ht : ∀ (A1 : Around) (it : Addr) (s : Shared) (H : Hp) (C : Addr) (code : Value) (fp : List Addr), Ar X A1 → PTs (GCx X elt tg iter ifs scope gpos A1 it s H C code fp) ifs tt)
    (he : ∀ (A1 : Around) (it : Addr) (s : Shared) (H : Hp) (C : Addr) (code : Value) (fp : List Addr), Ar X A1 → PE (GCx X elt tg iter ifs scope gpos A1 it s H C code fp) elt te)
    (I4 : Inv X pins σ H2 s4) (T : Turn X.prog X.w X.K tg J fp it tn) (st4 : tn 0 s4.heap) (f4 : ∀ b ∈ fp, FpOk X pins H2 b ∧ b < s4.heap.objs.size) (hn' : h'.Ns s4.heap.objs.size m) (keep' : ∀ b o, s4.heap.get? b = some o → h'.get? b = some o) (hsz : h'.objs.size = s4.heap.objs.size + 1) (w0 : W 0 m0 H2)
    (turn : ∀ i m H, W i m H → (J.stop i H ∧ Q (.bl yes) H) ∨ (J.go i H ∧ 1 ≤ m ∧ ∃ Nx : Hp → Prop, (∀ H', Nx H' → ∃ m', m' < m ∧ W (i + 1) m' H') ∧ ∀ x H', J.yld i H x H' → g x (wipe σ (own.map (·.2))) H' fun σ2 H2 => wipe σ2 (own.map (·.2)) = wipe σ (own.map (·.2)) ∧ tt σ2 H2 fun b H3 =>
      if b = true then te σ2 H3 fun y H4 => (∃ c, y = .bl c ∧ (c = !yes → Q (.bl (!yes)) H4)) ∧ (y = .bl yes → Nx H4) else Nx H3)) :
    ∃ (Pf : Nat → Shared → Shared → Prop) (Y : Protocol),
      (∀ n s₀ s₁, Pf n s₀ s₁ → ∀ h'', (∀ b o, s₁.heap.get? b = some o → h''.get? b = some o) → EP X pins σ Q (.bool yes) { s₁.setGen s4.gens.size .finished with heap := h'' }) ∧
      (∀ n s₀ v s₁ kap, Y n s₀ v s₁ kap → s₁.heap.IsGen h'.objs.size s4.gens.size ∧ s₁.heap.NoLimit ∧ ∃ c, v = .bool c ∧ (c = !yes → ∀ gs', gs'.bare = true → EP X pins σ Q (.bool (!yes)) (s₁.setGen s4.gens.size gs')) ∧ (c = yes → ∀ gs', gs'.bare = true → kap (.send .none) ((s₁.setGen s4.gens.size gs').setGen s4.gens.size .running))) ∧
      ∃ n, (GenState.fresh (.compStart (.GeneratorExp elt [⟨tg, iter, ifs, 0⟩] scope gpos) 0 (.ref it) .none (genEnv scope (cloFrom X.env.cells scope.names []) s4.heap.objs.size code builtinsNs X.env))).Goes (model X.prog X.w) X.A.in1.in1 (fun n s₀ r s₁ => r = .ok .next ∧ Pf n s₀ s₁) Y n (.send .none)
        (Shared.setGen { s4 with
          gens := s4.gens.push (.fresh (.compStart (.GeneratorExp elt [⟨tg, iter, ifs, 0⟩] scope gpos) 0 (.ref it) .none (genEnv scope (cloFrom X.env.cells scope.names []) s4.heap.objs.size code builtinsNs X.env))),
          toks := s4.toks + 1 + 1 + 1, heap := h'.push (gObj X.env s4.gens.size s4.toks) } s4.gens.size .running) := by
  let ob := gObj X.env s4.gens.size s4.toks
  let PR : List V → List (Addr × Obj) → Prop := fun _ pins => pins = [(h'.objs.size, ob)]
  let Back : Value → Shared → Shared → Prop := fun _ s1 s2 => s2.os = s1.os ∧ s2.heap = s1.heap ∧ AllBare s2.gens
  let Xg := GCx X elt tg iter ifs scope gpos X.A.in1.in1 it s4 H2 s4.heap.objs.size code fp
  have keep5 : ∀ b o, s4.heap.get? b = some o → (h'.push ob).get? b = some o := fun b o e => Heap.get?_push_of_some _ (keep' b o e)
  have nfs : h'.objs.size ∉ frs X.stack := fun hb => by
    rcases List.mem_cons.mp (I4.stkSub _ hb) with z | z
    · have := I4.lt
      rw [← z, hsz] at this
      exact absurd this (Nat.not_lt.mpr (Nat.le_succ _))
    · exact I4.nofs (by rw [hsz]; exact Nat.le_succ _) z
  have bareF : AllBare (Shared.setGen { s4 with
          gens := s4.gens.push (.fresh (.compStart (.GeneratorExp elt [⟨tg, iter, ifs, 0⟩] scope gpos) 0 (.ref it) .none (genEnv scope (cloFrom X.env.cells scope.names []) s4.heap.objs.size code builtinsNs X.env))),
          toks := s4.toks + 1 + 1 + 1, heap := h'.push ob } s4.gens.size .running).gens := allBare_setGen (I4.bare.push rfl) rfl
  have I5 := gen_start (A1 := X.A.in1.in1) (G1 := elt) (G2 := elt) (cl := [⟨tg, iter, ifs, 0⟩]) (sc0 := scope) (gpos := gpos) (it := it) (fp := fp) (code := code) (h5 := h'.push ob) (tk := s4.toks + 1 + 1 + 1) (pins' := [(h'.objs.size, ob)]) I4 ok hN S.cell f4 hr.hd rfl keep5 (hn'.push _) bareF (fun p hp => by
    rw [List.mem_singleton.mp hp]
    refine ⟨Heap.get?_push_size _ rfl, I4.hok.fresh (by rw [hsz]; exact Nat.le_succ _), by show h'.objs.size ≠ s4.heap.objs.size; rw [hsz]; exact Nat.succ_ne_self _, nfs, fun v z => by cases z⟩)
  have out : ∀ {pins' : List (Addr × Obj)} {H' : Hp} {s1 s2 : Shared}, Inv Xg pins' (wipe σ (own.map (·.2))) H' s1 → s2.os = s1.os → AllBare s2.gens → (∀ b o, s1.heap.get? b = some o → s2.heap.get? b = some o) → Inv X pins σ H' s2 := fun {pins' H' s1 s2} I6 ho hb hk =>
    I4.call' (ch := fp) (ho.trans I6.os) (I6.base.trans (Un.kept hk)) (I6.hok.kept hk) hb fun b hb => ⟨(f4 b hb).1.2.2.2.1, (f4 b hb).1.2.1, (f4 b hb).1.2.2.2.2.1, (f4 b hb).1.2.2.2.2.2⟩
  refine ⟨genEnd PR Xg (wipe σ (own.map (·.2))) m0 (fun _ H => Q (.bl yes) H), genY PR Back Xg (wipe σ (own.map (·.2))) m0 (fun y H => ∃ c, y = .bl c ∧ (c = !yes → Q (.bl (!yes)) H)) (fun y H => y = .bl yes), fun n s₀ s₁ hp h'' hk => ?_, fun n s₀ v s₁ kap hy => ?_, m0, rfl, ?_⟩
  · obtain ⟨ys, H', pins', _, hpr, I6, q⟩ := hp
    exact ⟨.bl yes, H', out I6 rfl (allBare_setGen I6.bare rfl) hk, rfl, q⟩
  · obtain ⟨ys, y, H', pins', _, rv, ⟨cc, rfl, z⟩, hpr, I6, cont⟩ := hy
    obtain rfl : v = Value.bool cc := rv
    have hpr : pins' = [(h'.objs.size, ob)] := hpr
    subst hpr
    have pin := I6.pin (h'.objs.size, ob) (by simp)
    refine ⟨⟨_, _, _, pin.1, rfl, rfl, rfl⟩, I6.nolimit, cc, rfl, fun e gs' hb => ?_, fun e gs' hb => ?_⟩
    · subst e
      exact ⟨.bl (!yes), H', out I6 rfl (allBare_setGen I6.bare hb) (fun _ _ e => e), rfl, z rfl⟩
    · subst e
      exact cont _ ⟨rfl, rfl, allBare_setGen (s := s₁.setGen s4.gens.size gs') (allBare_setGen I6.bare hb) rfl⟩ rfl
  · refine gen_begin T (T.keep _ _ _ st4 fun b hb o e => keep5 b o e) ?_
    refine gen_loop (W := fun i m _ H => W i m H) (PR := PR) (Back := Back) (N0 := m0) hc S.co T (hg _ _ _ _ _ _ _) (ht _ _ _ _ _ _ _ Ar.in2) (he _ _ _ _ _ _ _ Ar.in2) ⟨fun i m ys H w => ?_⟩ (fun ys pins' hpr p hp b hb => ?_) (fun ys y v s1 s2 H' pins' hpr rv I6 bk => ?_) m0 m0 0 [] _ _ H2 [(h'.objs.size, ob)] (Nat.le_refl _) (by simp) w0 rfl I5 (T.keep _ _ _ st4 fun b hb o e => keep5 b o e) (fun b hb => (f4 b hb).1.1)
    · rcases turn i m H w with q | ⟨q1, q2, Nx, q3, q4⟩
      · exact .inl q
      · refine .inr ⟨q1, q2, fun _ H => Nx H, fun ys' H' n => q3 H' n, fun x H' yy => ?_⟩
        exact q4 x H' yy
    · have hpr : pins' = [(h'.objs.size, ob)] := hpr
      rw [hpr] at hp
      rw [List.mem_singleton.mp hp]
      have := (f4 b hb).2
      show h'.objs.size ≠ b
      exact Nat.ne_of_gt (by rw [hsz]; exact Nat.lt_succ_of_lt this)
    · obtain ⟨b1, b2, b3⟩ := bk
      exact ⟨pins', hpr, Inv.same I6 b1 b3 b2, fun b hb o e => by rw [b2]; exact e⟩
variable (hr : Room k X.A) (hc : X.calm = true) (hN : X.N.Nodup) (TB : GxR.TabB X.base X.mg c P) (hcode : X.env.code = .ref c) (S : GSc scope) (ok : BlkOk X.N X.env.scope scope own) (hi : PI X tg iter wi)
    (hg : ∀ (A1 : Around) (it : Addr) (s : Shared) (H : Hp) (C : Addr) (code : Value) (fp : List Addr), PG (GCx X elt tg iter ifs scope gpos A1 it s H C code fp) tg g)
    (ht : ∀ (A1 : Around) (it : Addr) (s : Shared) (H : Hp) (C : Addr) (code : Value) (fp : List Addr), Ar X A1 → PTs (GCx X elt tg iter ifs scope gpos A1 it s H C code fp) ifs tt)
    (he : ∀ (A1 : Around) (it : Addr) (s : Shared) (H : Hp) (C : Addr) (code : Value) (fp : List Addr), Ar X A1 → PE (GCx X elt tg iter ifs scope gpos A1 it s H C code fp) elt te)
include hr hc hN TB hcode S ok hi hg ht he in
theorem pe_allG (hgl : Gl X "all") (hm : X.mg "all" = none) (hb : bootBuiltins "all" = some (.builtin "all")) (hs : ∀ v, genFold iter X.env v = pure v := by intro _; rfl)
    (hst : starEach [.GeneratorExp elt [⟨tg, iter, ifs, 0⟩] scope gpos] X.env = (false, eval (.GeneratorExp elt [⟨tg, iter, ifs, 0⟩] scope gpos) X.env) :: starEach [] X.env := by rfl) :
    PE X (.Call (.Name "all" p) [.GeneratorExp elt [⟨tg, iter, ifs, 0⟩] scope gpos] [] pos) (tAllG P true wi g tt te (own.map (·.2))) := by
  refine ⟨fun pins s σ H Q I h => ?_⟩
  refine wpAny_Call_Name_kw (ld_blt I hgl hm hb ?_)
  refine PyProof.Rows.callWith_builtin1 ?_ hst (by rfl)
  rw [hst]
  show wpAny _ _ (spliced ((false, eval (.GeneratorExp elt [⟨tg, iter, ifs, 0⟩] scope gpos) X.env) :: backTo pos (starEach [] X.env))) _ _ s
  refine Calls.spliced_cons (gen_eval hr TB hcode S ok I hi hs h fun it fp tn J H2 s4 code h' m I4 T st4 f4 q hn' keep' hsz => ?_)
  obtain ⟨W, ⟨m0, w0⟩, turn⟩ := q
  obtain ⟨Pf, Y, hP, hY, n, go⟩ := all_ready hr hc hN S ok hg ht he I4 T st4 f4 hn' keep' hsz w0 turn
  refine Calls.spliced_nil ?_
  have isg : (h'.push (gObj X.env s4.gens.size s4.toks)).IsGen h'.objs.size s4.gens.size := ⟨_, _, _, Heap.get?_push_size _ rfl, rfl, rfl, rfl⟩
  refine call_function_tree F.kind_all F.plain_all F.entry_all (F.args_all1 _) ?_
  unfold Builtin.«all»
  refine wpAny_bind (m := oneArg "all" _) (wpAny_pure ?_)
  refine wpAny_bind (wpAny_pyIter_gen isg ?_)
  refine wpAny_pure ⟨plainId_quiet F.plain_all_loop _, all_loop (P := Pf) (Y := Y) hr.hd hr.depth (fun n s₀ s₁ q => hP n s₀ s₁ q) (fun n s₀ v s₁ kap q => hY n s₀ v s₁ kap q) n _ _ isg (I4.nolimit.keeps fun b o e => Heap.get?_push_of_some _ (keep' b o e)) (Array.getElem?_push_size ..) go⟩
end
end Gn
end
section
set_option Elab.async false
set_option linter.all false
set_option maxRecDepth 100000
set_option maxHeartbeats 1000000
namespace Gn
open PySem PySem.Spec PyProof.Rows L2
section
variable {P : Program} {w : World} {outer : List PySem.Env} {H : Hp} {sc s : Shared} {ex : List Addr} {Q : List V → Hp → Prop} {A : Around} {a : Addr} {g : Nat} {c : Code} {E : Value → Shared → Prop}
def Wake (P : Program) (w : World) (A1 : Around) (outer : List PySem.Env) (H : Hp) (sc : Shared) (ex : List Addr) (Q : List V → Hp → Prop) (a : Addr) (g : Nat) (c : Code) (s : Shared) : Prop := ∀ (S : Addr) (s2 : Shared), s.heap.objs.size ≤ S → (∀ b o, s.heap.get? b = some o → s2.heap.get? b = some o) → (∃ c, s2.heap.get? S = some (lstObj #[] c)) → s2.os = s.os → AllBare s2.gens →
  Seg (model P w) A1 (REnd P w outer H sc ex S a g Q E0) (YItem sc S a g) sizeLine s2 c ((model P w).den c) [] s2
theorem collectG {Qc : List Value → Shared → Prop} (hh : A.handled = none) (hd : A.depth < recursionLimit) (ha : a < s.heap.objs.size) (hg : s.heap.IsGen a g) (hl : s.heap.NoLimit) (hgs : s.gens[g]? = some (.fresh c)) (hb : AllBare s.gens)
    (wake : Wake P w A.in1.in1 outer H sc ex Q a g c s)
    (hQ : ∀ S s' acc c H' ys, s.heap.objs.size ≤ S → s'.heap.get? S = some (lstObj acc c) → Vals ys acc.toList → ys.length ≤ sizeLine → s'.os = sc.os → AllBare s'.gens → Un (frs outer) ex H H' sc.heap s'.heap → HOk P w H' s'.heap → H' S = none → Q ys H' → Qc acc.toList s') :
    wpAny (model P w) A (collect (.ref a)) Qc E s := by
  have hSa : s.heap.objs.size ≠ a := Nat.ne_of_gt ha
  have hcl : cStatics < s.heap.objs.size := let ⟨_, hn, _⟩ := hl; hn.lt
  have hSc : s.heap.objs.size ≠ cStatics := Nat.ne_of_gt hcl
  unfold collect
  refine wpAny_bind (wpAny_runValue (codeAny_builtin F.entry_proto_collect ?_))
  rw [Around.under_plainId F.plain_proto_collect _]
  show wpAny _ A.in1 (newList [] >>= fun l => again (.builtin "list.__iadd__" ⟨[l, .ref a], []⟩)) _ _ s
  refine wpAny_bind (wpAny_newObj_type ?_)
  refine wpAny_pure ⟨plainId_quiet F.plain_list_iadd _, codeAny_builtin F.entry_list_iadd ?_⟩
  rw [Around.under_plainId F.plain_list_iadd _]
  show wpAny _ A.in1 (Builtin.List.listExtendWith (.ref s.heap.objs.size) (.ref a) (.ref s.heap.objs.size)) _ _ _
  unfold Builtin.List.listExtendWith
  have up : ∀ (h : Heap) (f : Obj → Obj), (∀ b o, s.heap.get? b = some o → h.get? b = some o) → ∀ b o, s.heap.get? b = some o → (h.update s.heap.objs.size f).get? b = some o := fun h f q b o e =>
    (Heap.get?_update_other _ _ (Ne.symm (Nat.ne_of_lt (Heap.lt_size e)))).trans (q b o e)
  have k1 : ∀ b o, s.heap.get? b = some o → (s.heap.push { cls := .type "list", data := .seq ([] : List Value).toArray }).get? b = some o := fun b o e => Heap.get?_push_of_some _ e
  have gty : ∀ {h : Heap}, (∀ b o, s.heap.get? b = some o → h.get? b = some o) → h.IsGen a g := fun {h} q => hg.keeps q
  refine wpAny_bind (wpAny_typeOf (Heap.IsGen.typeIs (s := { s with heap := _ }) (gty k1)) ?_)
  have h1 : Builtin.List.listSameRef (.ref s.heap.objs.size) (.ref a) = false := by simp [Builtin.List.listSameRef, hSa]
  have h2 : (Value.type "generator" == Value.type "list") = false := by decide
  have h3 : (Value.type "generator" == Value.type "tuple") = false := by decide
  simp only [h1, h2, h3, Bool.or_false, Bool.false_eq_true, if_false]
  refine wpAny_bind (wpAny_pyIter_gen (s := { s with heap := _ }) (gty k1) ?_)
  refine wpAny_bind (wpAny_holding ?_)
  unfold Builtin.List.listLengthHint
  refine wpAny_bind (wpAny_specialOf (Heap.IsGen.typeIs (s := { s with heap := _ }) (gty k1)) F.gen_no_len ?_)
  show wpAny _ A.in1 (specialOf (Value.ref a) (Str.ofString "__length_hint__") >>= _) _ _ _
  refine wpAny_bind (wpAny_specialOf (Heap.IsGen.typeIs (s := { s with heap := _ }) (gty k1)) F.gen_no_hint ?_)
  refine wpAny_pure ?_
  show wpAny _ A.in1 (rule "list.extend.makes-room" >>= fun _ => Builtin.List.listTouch (.ref s.heap.objs.size) >>= fun _ =>
    again (.builtin "list.extend.loop" ⟨[.ref s.heap.objs.size, .ref a, .ref s.heap.objs.size], []⟩)) _ _ _
  refine wpAny_bind (wpAny_rule ?_)
  have hS₁ : (s.heap.push { cls := .type "list", data := .seq ([] : List Value).toArray }).get? s.heap.objs.size = some { cls := .type "list", data := .seq ([] : List Value).toArray } := Heap.get?_push_size _ rfl
  refine wpAny_bind ?_
  show wpAny _ A.in1 (updateSeq s.heap.objs.size (·.push .none) >>= fun _ => updateSeq s.heap.objs.size (·.pop)) _ _ _
  refine wpAny_bind (wpAny_updateSeq hS₁ rfl ?_)
  have hS₂ := Heap.get?_update_self (Obj.mapSeq (·.push Value.none)) hS₁ rfl
  refine wpAny_updateSeq hS₂ rfl ?_
  have hS₃ := Heap.get?_update_self (Obj.mapSeq (·.pop)) hS₂ rfl
  have k4 := up _ (Obj.mapSeq (·.pop)) (up _ (Obj.mapSeq (·.push Value.none)) k1)
  refine wpAny_pure ⟨plainId_quiet F.plain_extend_loop _, ?_⟩
  refine drain (P := P) (w := w) (outer := outer) (H := H) (sc := sc) (ex := ex) (Q := Q) (EX := E0) (A := A) (g := g) hh hd hSa hSc
    (fun s' acc c H' ys q1 q2 q3 q4 q5 q6 q7 q8 q9 => ?_) (fun e s' hc => ?_) sizeLine _ (gty k4) (hl.keeps k4) ⟨_, hgs, rfl, ?_⟩
  · show wpAny _ A (load s.heap.objs.size >>= _) _ _ s'
    refine wpAny_bind (wpAny_load q1 ?_)
    exact wpAny_pure (hQ _ s' acc c H' ys (Nat.le_refl _) q1 q2 q3 q4 q5 q6 q7 q8 q9)
  · obtain ⟨_, _, _, _, _, _, _, _, _, _, _, _, z⟩ := hc
    exact z.elim
  · exact wake _ _ (Nat.le_refl _) k4 ⟨_, hS₃⟩ rfl (allBare_setGen (s := { s with heap := _ }) hb rfl)
end
end Gn
end
section
set_option Elab.async false
set_option linter.all false
set_option maxRecDepth 100000
set_option maxHeartbeats 1000000
namespace Gn
open PySem PySem.Spec PyProof.Rows L2
def tTupG (P : Addr) (wi : TI) (g : TG) (tt : TT) (te : TE) (vs : List Nat) : TE := fun σ H Q => wi σ H fun J H1 => GxR.TabG H1 P ∧ ∀ H2, GxR.Tabbed P H1 H2 → ∃ W : Nat → Nat → List V → Hp → Prop, (∃ m, m ≤ sizeLine ∧ W 0 m [] H2) ∧ ∀ i m ys H, W i m ys H →
  (J.stop i H ∧ ∀ q, H q = none → Q (.ref q) (upd H q (.tup ys))) ∨ (J.go i H ∧ 1 ≤ m ∧ ∃ Nx : List V → Hp → Prop, (∀ ys' H', Nx ys' H' → ∃ m', m' < m ∧ W (i + 1) m' ys' H') ∧ ∀ x H', J.yld i H x H' → g x (wipe σ vs) H' fun σ2 H2 => wipe σ2 vs = wipe σ vs ∧ tt σ2 H2 fun b H3 =>
    if b = true then te σ2 H3 fun y H4 => True ∧ (True → Nx (ys ++ [y]) H4) else Nx ys H3)
section
variable {P : Program} {w : World} {outer : List PySem.Env} {H : Hp} {sc s : Shared} {ex : List Addr} {Q : List V → Hp → Prop} {A : Around} {a : Addr} {g : Nat} {c : Code} {E : Value → Shared → Prop}
theorem code_tuple_newG {Q₁ : Value → Shared → Prop} (hh : A.handled = none) (hd : A.depth < recursionLimit) (ha : a < s.heap.objs.size) (hg : s.heap.IsGen a g) (hl : s.heap.NoLimit) (hgs : s.gens[g]? = some (.fresh c)) (hb : AllBare s.gens)
    (wake : Wake P w A.in1.in1.in1 outer H sc ex Q a g c s)
    (h : ∀ (s' : Shared) (acc : Array Value) (H' : Hp) (ys : List V), Vals ys acc.toList → ys.length ≤ sizeLine → s'.os = sc.os → AllBare s'.gens → Un (frs outer) ex H H' sc.heap s'.heap → HOk P w H' s'.heap → Q ys H' → Q₁ (.ref s'.heap.objs.size) { s' with heap := s'.heap.push { cls := .type "tuple", data := .seq acc } }) :
    codeAny (model P w) A (.call (.builtin "tuple.__new__") ⟨[.type "tuple", .ref a], []⟩) (wants Q₁ E) s := by
  refine codeAny_of_tree ?_
  show wpAny _ A.in1 (do checkBuiltinCall "tuple.__new__" ⟨[.type "tuple", .ref a], []⟩; again (.builtin "tuple.__new__" ⟨[.type "tuple", .ref a], []⟩)) _ _ s
  refine wpAny_bind (wpAny_of_eq (F.newCall_tuple_1 _) (wpAny_pure ⟨plainId_quiet F.plain_tuple_new _, codeAny_builtin F.entry_tuple_new ?_⟩))
  rw [Around.under_plainId F.plain_tuple_new _]
  have hsub := sub_tuple_self
  have hinit := init_tuple_lookup
  have hmh := madeHere_tuple
  have hTI := Heap.IsGen.typeIs (s := s) hg
  wp_walk using wpAny_typeOf hTI, collectG (A := A.in1) hh hd ha hg hl hgs hb wake
  intro S s' acc c' H' ys q0 q1 q2 q3 q4 q5 q6 q7 q8 q9
  show wpAny _ _ (Builtin.Tuple.tupleExact acc.toList.toArray >>= fun v => ret v) _ _ _
  unfold Builtin.Tuple.tupleExact
  refine wpAny_bind (wpAny_newObj_type ?_ (by show acc.toList.toArray.size ≤ sizeLine; rw [List.size_toArray, ← q2.length]; exact q3))
  refine wpAny_pure ?_
  have e : acc.toList.toArray = acc := by simp
  rw [e]
  exact h s' acc H' ys q2 q3 q4 q5 q6 q7 q9
theorem call_tupleG {Q' : Value → Shared → Prop} (hh : A.handled = none) (hd : A.depth < recursionLimit) (ha : a < s.heap.objs.size) (hg : s.heap.IsGen a g) (hl : s.heap.NoLimit) (hgs : s.gens[g]? = some (.fresh c)) (hb : AllBare s.gens)
    (wake : Wake P w A.in1.in1.in1.in1 outer H sc ex Q a g c s)
    (h : ∀ (s' : Shared) (acc : Array Value) (H' : Hp) (ys : List V), Vals ys acc.toList → ys.length ≤ sizeLine → s'.os = sc.os → AllBare s'.gens → Un (frs outer) ex H H' sc.heap s'.heap → HOk P w H' s'.heap → Q ys H' → Q' (.ref s'.heap.objs.size) { s' with heap := s'.heap.push { cls := .type "tuple", data := .seq acc } }) :
    wpAny (model P w) A (call (.type "tuple") [.ref a]) Q' E s := by
  refine callType_codes (Q₁ := fun obj s₁ => s₁.TypeIs obj "tuple" ∧ Q' obj s₁) F.called_tuple (F.typeCall_tuple_1 _) F.entry_object_init
    (code_tuple_newG (A := A.in1) hh hd ha hg hl hgs hb wake fun s' acc H' ys q1 q2 q3 q4 q5 q6 q7 => ⟨⟨_, Heap.get?_push_size _ rfl, rfl⟩, h s' acc H' ys q1 q2 q3 q4 q5 q6 q7⟩) fun obj s₁ h₁ => ?_
  exact ⟨h₁.1, F.args_object_init_2 obj _, object_init_meets F.called_tuple.init.lookup F.called_tuple.made (by decide) P w A.in1 _ s₁ ⟨h₁.1, rfl, h₁.2⟩⟩
end
section
variable {X : Cx} {elt tg iter : Expr} {ifs : List Expr} {scope : Scope} {gpos p pos : Pos} {own : List (Str × Nat)} {wi : TI} {g : TG} {tt : TT} {te : TE} {c P : Addr} {k : Nat}
theorem tup_ready {pins : List (Addr × Obj)} {σ : L2.St} {cont : List V → Hp → Prop} {it : Addr} {fp : List Addr} {tn : Nat → Heap → Prop} {J : It} {H2 : Hp} {s4 : Shared} {code : Value} {h' : Heap} {m : Str → Option Value} {W : Nat → Nat → List V → Hp → Prop} {m0 : Nat}
    (hr : Room k X.A) (hc : X.calm = true) (hN : X.N.Nodup) (S : GSc scope) (ok : BlkOk X.N X.env.scope scope own)
    (hg : ∀ (A1 : Around) (it : Addr) (s : Shared) (H : Hp) (C : Addr) (code : Value) (fp : List Addr), PG (GCx X elt tg iter ifs scope gpos A1 it s H C code fp) tg g)
    (ht : ∀ (A1 : Around) (it : Addr) (s : Shared) (H : Hp) (C : Addr) (code : Value) (fp : List Addr), Ar X A1 → PTs (GCx X elt tg iter ifs scope gpos A1 it s H C code fp) ifs tt)
    (he : ∀ (A1 : Around) (it : Addr) (s : Shared) (H : Hp) (C : Addr) (code : Value) (fp : List Addr), Ar X A1 → PE (GCx X elt tg iter ifs scope gpos A1 it s H C code fp) elt te)
    (I4 : Inv X pins σ H2 s4) (T : Turn X.prog X.w X.K tg J fp it tn) (st4 : tn 0 s4.heap) (f4 : ∀ b ∈ fp, FpOk X pins H2 b ∧ b < s4.heap.objs.size) (hn' : h'.Ns s4.heap.objs.size m) (keep' : ∀ b o, s4.heap.get? b = some o → h'.get? b = some o) (hsz : h'.objs.size = s4.heap.objs.size + 1) (hm0 : m0 ≤ sizeLine) (w0 : W 0 m0 [] H2)
    (L : Lp g tt te (own.map (·.2)) σ J W cont (fun _ _ => True) (fun _ _ => True)) :
    Wake X.prog X.w X.A.in1.in1.in1.in1 X.stack H2 s4 fp cont h'.objs.size s4.gens.size (.compStart (.GeneratorExp elt [⟨tg, iter, ifs, 0⟩] scope gpos) 0 (.ref it) .none (genEnv scope (cloFrom X.env.cells scope.names []) s4.heap.objs.size code builtinsNs X.env))
      { s4 with
        gens := s4.gens.push (.fresh (.compStart (.GeneratorExp elt [⟨tg, iter, ifs, 0⟩] scope gpos) 0 (.ref it) .none (genEnv scope (cloFrom X.env.cells scope.names []) s4.heap.objs.size code builtinsNs X.env))),
        toks := s4.toks + 1 + 1 + 1, heap := h'.push (gObj X.env s4.gens.size s4.toks) } := by
  intro Sa s2 hS keep2 hSl hos hbare
  obtain ⟨cS, hSl⟩ := hSl
  let ob := gObj X.env s4.gens.size s4.toks
  have hS1 : h'.objs.size < Sa := Nat.lt_of_lt_of_le (by rw [Heap.size_push]; exact Nat.lt_succ_self _) hS
  have hS4 : s4.heap.objs.size < Sa := Nat.lt_trans (by rw [hsz]; exact Nat.lt_succ_self _) hS1
  let PR : List V → List (Addr × Obj) → Prop := fun ys pins => ∃ acc c, Vals ys acc.toList ∧ pins = [(Sa, lstObj acc c), (h'.objs.size, ob)]
  let Xg := GCx X elt tg iter ifs scope gpos X.A.in1.in1.in1.in1 it s4 H2 s4.heap.objs.size code fp
  have keep5 : ∀ b o, s4.heap.get? b = some o → s2.heap.get? b = some o := fun b o e => keep2 b o (Heap.get?_push_of_some _ (keep' b o e))
  have nfsG : ∀ b, s4.heap.objs.size ≤ b → b ∉ frs X.stack := fun b hb hm => by
    rcases List.mem_cons.mp (I4.stkSub _ hm) with z | z
    · have := I4.lt
      rw [← z] at this
      exact absurd this (Nat.not_lt.mpr hb)
    · exact I4.nofs hb z
  obtain ⟨h2, g2, d2, t2, o2⟩ := s2
  have ho2 : o2 = s4.os := hos
  subst ho2
  have I5 : Inv Xg [(Sa, lstObj #[] cS), (h'.objs.size, ob)] (wipe σ (own.map (·.2))) H2 { s4 with heap := h2, gens := g2, toks := t2, drawn := d2 } := by
    have := gen_start (A1 := X.A.in1.in1.in1.in1) (G1 := elt) (G2 := elt) (cl := [⟨tg, iter, ifs, 0⟩]) (sc0 := scope) (gpos := gpos) (it := it) (fp := fp) (code := code) (h5 := h2) (tk := t2) (gens' := g2) (m := m) (pins' := [(Sa, lstObj #[] cS), (h'.objs.size, ob)]) I4 ok hN S.cell f4 hr.hd rfl keep5 (Heap.Ns.keeps (hn'.push _) keep2) hbare (fun p hp => by
      rcases List.mem_cons.mp hp with z | z
      · rw [z]
        exact ⟨hSl, I4.hok.fresh (Nat.le_of_lt hS4), Nat.ne_of_gt hS4, nfsG _ (Nat.le_of_lt hS4), fun v z => by cases z⟩
      · rw [List.mem_singleton.mp z]
        exact ⟨keep2 _ _ (Heap.get?_push_size _ rfl), I4.hok.fresh (by rw [hsz]; exact Nat.le_succ _), by show h'.objs.size ≠ s4.heap.objs.size; rw [hsz]; exact Nat.succ_ne_self _, nfsG _ (by rw [hsz]; exact Nat.le_succ _), fun v z => by cases z⟩)
    exact Inv.same this rfl hbare rfl
  have apart : Apart Xg Sa := ⟨Nat.le_of_lt hS4, Nat.ne_of_gt hS4, fun x c e z => by
    have := (clo_mem I4 ok (PySem.mem_of_lookup e)).2
    rw [z] at this
    exact absurd (Nat.lt_trans this hS4) (Nat.lt_irrefl _)⟩
  have st5 : tn 0 h2 := T.keep _ _ _ st4 fun b hb o e => keep5 b o e
  refine seg_imp (R := fun n s₀ r s₁ => r = .ok .next ∧ genEnd PR Xg (wipe σ (own.map (·.2))) sizeLine cont n s₀ s₁) (Y := genY PR (fun v s1 s2 => Slept Sa v s1 s2) Xg (wipe σ (own.map (·.2))) sizeLine (fun _ _ => True) (fun _ _ => True)) (fun n s₀ r s1 hR => ?_) (fun n s₀ v s1 kap kap' hk hY => ?_) sizeLine ?_
  · obtain ⟨hr', ys, H', pins', hn0, ⟨acc, c', rv, rfl⟩, I6, q⟩ := hR
    have pS := I6.pin (Sa, lstObj acc c') (by simp)
    exact .inl ⟨.inr hr', H', ys, acc, c', I6.os, I6.bare, I6.base, I6.hok, pS.2.1, pS.1, rv, by omega, q⟩
  · obtain ⟨ys, y, H', pins', hn0, rv, _, ⟨acc, c', rvs, rfl⟩, I6, cont'⟩ := hY
    have pS := I6.pin (Sa, lstObj acc c') (by simp)
    have pG := I6.pin (h'.objs.size, ob) (by simp)
    refine ⟨I6.os, I6.bare, I6.nolimit, ⟨_, _, _, pG.1, rfl, rfl, rfl⟩, ⟨acc, c', pS.1, ?_⟩, fun s' hs' => hk _ _ (cont' s' hs' trivial)⟩
    have e1 : ys.length = acc.toList.length := rvs.length
    have e2 : acc.toList.length = acc.size := Array.length_toList
    rw [← e2, ← e1]
    exact hn0
  · refine gen_begin T st5 ?_
    refine gen_loop (PR := PR) (Back := fun v s1 s2 => Slept Sa v s1 s2) (N0 := sizeLine) hc S.co T (hg _ _ _ _ _ _ _) (ht _ _ _ _ _ _ _ Ar.in4) (he _ _ _ _ _ _ _ Ar.in4) L (fun ys pins' hpr p hp b hb => ?_) (fun ys y v s1 s2 H' pins' hpr rv I6 bk => ?_) m0 sizeLine 0 [] _ _ H2 [(Sa, lstObj #[] cS), (h'.objs.size, ob)] hm0 (by simp) w0 ⟨#[], cS, .nil, rfl⟩ I5 st5 (fun b hb => (f4 b hb).1.1)
    · obtain ⟨acc, c', _, rfl⟩ := hpr
      have lt := (f4 b hb).2
      rcases List.mem_cons.mp hp with z | z
      · rw [z]; exact Nat.ne_of_gt (Nat.lt_trans lt hS4)
      · rw [List.mem_singleton.mp z]
        show h'.objs.size ≠ b
        exact Nat.ne_of_gt (by rw [hsz]; exact Nat.lt_succ_of_lt lt)
    · obtain ⟨acc, c', rvs, rfl⟩ := hpr
      have gi : GI Xg Sa [(h'.objs.size, ob)] ys (wipe σ (own.map (·.2))) H' s1 := ⟨acc, c', rvs, I6⟩
      obtain ⟨acc', c'', rvs', I7⟩ := gi.woken (fun p hp => absurd (show p ∈ ([] : List (Addr × Obj)) from hp) (by simp)) (fun p hp => by rw [List.mem_singleton.mp hp]; exact Nat.ne_of_lt hS1) apart rv bk
      exact ⟨_, ⟨acc', c'', rvs', rfl⟩, I7, fun b hb o e => bk.keep b o (Nat.ne_of_lt (Nat.lt_trans (f4 b hb).2 hS4)) e⟩
theorem pe_tupG (hr : Room k X.A) (hc : X.calm = true) (hN : X.N.Nodup) (TB : GxR.TabB X.base X.mg c P) (hcode : X.env.code = .ref c) (S : GSc scope) (ok : BlkOk X.N X.env.scope scope own) (hi : PI X tg iter wi)
    (hg : ∀ (A1 : Around) (it : Addr) (s : Shared) (H : Hp) (C : Addr) (code : Value) (fp : List Addr), PG (GCx X elt tg iter ifs scope gpos A1 it s H C code fp) tg g)
    (ht : ∀ (A1 : Around) (it : Addr) (s : Shared) (H : Hp) (C : Addr) (code : Value) (fp : List Addr), Ar X A1 → PTs (GCx X elt tg iter ifs scope gpos A1 it s H C code fp) ifs tt)
    (he : ∀ (A1 : Around) (it : Addr) (s : Shared) (H : Hp) (C : Addr) (code : Value) (fp : List Addr), Ar X A1 → PE (GCx X elt tg iter ifs scope gpos A1 it s H C code fp) elt te)
    (hgl : Gl X "tuple") (hm : X.mg "tuple" = none) (hs : ∀ v, genFold iter X.env v = pure v := by intro _; rfl)
    (hst : starEach [.GeneratorExp elt [⟨tg, iter, ifs, 0⟩] scope gpos] X.env = (false, eval (.GeneratorExp elt [⟨tg, iter, ifs, 0⟩] scope gpos) X.env) :: starEach [] X.env := by rfl) :
    PE X (.Call (.Name "tuple" p) [.GeneratorExp elt [⟨tg, iter, ifs, 0⟩] scope gpos] [] pos) (tTupG P wi g tt te (own.map (·.2))) := by
  refine ⟨fun pins s σ H Q I h => ?_⟩
  refine wpAny_Call_Name_kw (ld_blt I hgl hm PyProof.Rows.boot_tuple ?_)
  refine PyProof.Rows.callWith_type1 ?_ hst (by rfl)
  rw [hst]
  show wpAny _ _ (spliced ((false, eval (.GeneratorExp elt [⟨tg, iter, ifs, 0⟩] scope gpos) X.env) :: backTo pos (starEach [] X.env))) _ _ s
  refine Calls.spliced_cons (gen_eval hr TB hcode S ok I hi hs h fun it fp tn J H2 s4 code h' m I4 T st4 f4 q hn' keep' hsz => ?_)
  obtain ⟨W, ⟨m0, hm0, w0⟩, turn⟩ := q
  have wake := tup_ready (code := code) (cont := fun ys H => ∀ q, H q = none → Q (.ref q) (upd H q (.tup ys))) hr hc hN S ok hg ht he I4 T st4 f4 hn' keep' hsz hm0 w0 ⟨turn⟩
  refine Calls.spliced_nil ?_
  have isg : (h'.push (gObj X.env s4.gens.size s4.toks)).IsGen h'.objs.size s4.gens.size := ⟨_, _, _, Heap.get?_push_size _ rfl, rfl, rfl, rfl⟩
  refine call_tupleG hr.hd hr.depth (by rw [Heap.size_push]; exact Nat.lt_succ_self _) isg (I4.nolimit.keeps fun b o e => Heap.get?_push_of_some _ (keep' b o e)) (Array.getElem?_push_size ..) (I4.bare.push rfl) wake fun s' acc H' ys q1 q2 q3 q4 q5 q6 q7 => ?_
  have I6 : Inv X pins σ H' s' := I4.call' (ch := fp) q3 q5 q6 q4 fun b hb => ⟨(f4 b hb).1.2.2.2.1, (f4 b hb).1.2.1, (f4 b hb).1.2.2.2.2.1, (f4 b hb).1.2.2.2.2.2⟩
  have JL := I6.laid (a := s'.heap.objs.size) (o := .tup ys) (t' := s'.toks) (h' := s'.heap.push { cls := .type "tuple", data := .seq acc }) (fun b u q => Heap.get?_push_of_some _ q) (Nat.le_refl _)
    ⟨q2, acc.toList, q1, ⟨_, Heap.get?_push_size _ rfl, rfl, 0, by simp⟩⟩
  exact ⟨.ref s'.heap.objs.size, _, JL, rfl, q7 _ (I6.hok.fresh (Nat.le_refl _))⟩
end
end Gn
end
section
set_option Elab.async false
set_option linter.all false
set_option maxRecDepth 100000
set_option maxHeartbeats 2000000
namespace Pw
open PySem PySem.Spec PyProof.Rows L2
open Classical in
noncomputable def allL (yes : Bool) (it : Itm) (xs : List D) (t : Gx) (c : Tx) (f : Ex) (ρ : Env) : List D → Mem → Option (Bool × Mem)
  | [], m => if itemsAt it m = some xs then some (yes, m) else none
  | d :: ds, m => if itemsAt it m = some xs then (t d ρ).bind fun ρ1 => (c ρ1 m).bind fun p => if p.1 = true then (f ρ1 p.2).bind fun q => match q.1 with
      | .v (.bl b) => if b = yes then allL yes it xs t c f ρ ds q.2 else some (!yes, q.2)
      | _ => none
      else allL yes it xs t c f ρ ds p.2
    else none
noncomputable def eAll (yes : Bool) (src : Ix) (t : Gx) (c : Tx) (f : Ex) (vs : List Nat) : Ex := fun ρ m => (src ρ m).bind fun p => (itemsAt p.1 p.2).bind fun xs => (allL yes p.1 xs t c f (wipeD ρ vs) xs p.2).bind fun q => some (.v (.bl q.1), q.2)
theorem tabbed_eq {P : Addr} {H H' : Hp} (h : GxR.Tabbed P H H') : ∃ ps', H' = upd H P (.tbl ps') ∧ TriplesOk ps'.toList := by
  obtain ⟨⟨ps', e', tr'⟩, oth⟩ := h
  refine ⟨ps', funext fun b => ?_, tr'⟩
  by_cases hb : b = P
  · rw [hb, upd_same, e']
  · rw [upd_ne hb, oth b hb]
theorem all_go {K : FRG} {tb : List Addr} {P : Addr} {yes : Bool} {src : Ix} {g : TG} {t : Gx} {c : Tx} {f : Ex} {vs : List Nat} {σ : L2.St} {H : Hp} {Q : VK} (hP : InTb K tb P) (ht : TgS K tb g t) (hw : TgW g vs) (h : T K tb (eAll yes src t c f vs) σ H Q) :
    Gn.tAllG P yes (Ti K tb src) g (Tt K tb c) (T K tb f) vs σ H Q := by
  obtain ⟨φ, ψ, ρ, m, d, mF, R, E, e, k⟩ := h
  obtain ⟨⟨it, m1⟩, e1, e⟩ := bnd e
  obtain ⟨xs, e2, e⟩ := bnd e
  obtain ⟨⟨bF, m9⟩, e3, e⟩ := bnd e
  cases e
  refine ⟨φ, ψ, ρ, m, it, m1, R, E, e1, fun φ1 H1 J P1 R1 IR => ⟨R1.tab P hP.1, fun H2' tab => ?_⟩⟩
  obtain ⟨ps, hps, _⟩ := R1.tab P hP.1
  obtain ⟨ps', rfl, tr'⟩ := tabbed_eq tab
  have Pt : Post φ1 ψ H1 φ1 ψ (upd H1 P (.tbl ps')) := Post.tbl hps
  have Rt := R1.tbl (ps' := ps') hps tr' hP.2
  let Z : Nat → Hp → Prop := fun i H2 => ∃ φ2 m2, Post φ1 ψ H1 φ2 ψ H2 ∧ Rel K tb φ2 ψ H2 m2 ∧ allL yes it xs t c f (wipeD ρ vs) (xs.drop i) m2 = some (bF, m9)
  refine ⟨fun i n H2 => n = xs.length - i ∧ i ≤ xs.length ∧ Z i H2, ⟨xs.length, by simp, Nat.zero_le _, φ1, m1, Pt, Rt, by simpa using e3⟩, ?_⟩
  rintro i n H2 ⟨rfl, hi2, φ2, m2, P2, R2, ef⟩
  by_cases hlt : i < xs.length
  · rw [List.drop_eq_getElem_cons hlt] at ef
    unfold allL at ef
    split at ef
    · rename_i hx
      obtain ⟨ρ3, e3', ef⟩ := bnd ef
      obtain ⟨⟨b4, m4⟩, e4, ef⟩ := bnd ef
      obtain ⟨hgo, hy⟩ := (IR φ2 ψ H2 m2 xs P2 R2 hx).1 i xs[i] (List.getElem?_eq_getElem hlt)
      refine .inr ⟨hgo, by omega, fun H' => i + 1 ≤ xs.length ∧ Z (i + 1) H', fun H' q => ⟨xs.length - (i + 1), by omega, rfl, q⟩, fun x H3 y => ?_⟩
      obtain ⟨P3, R3, V3, same⟩ := hy x H3 y
      have E3 : RE K φ2 ψ H3 (wipeD ρ vs) (wipe σ vs) := (E.mono (P1.trans (P2.trans P3)) R).wipe vs
      have st := ht φ2 ψ H3 m2 (wipeD ρ vs) (wipe σ vs) _ x ρ3 (fun σ3 H3' => Tt K tb c σ3 H3' fun b H4 => if b = true then T K tb f σ3 H4 fun y H5 => (∃ c, y = .bl c ∧ (c = !yes → Q (.bl (!yes)) H5)) ∧ (y = .bl yes → (fun H' => i + 1 ≤ xs.length ∧ Z (i + 1) H') H5) else (fun H' => i + 1 ≤ xs.length ∧ Z (i + 1) H') H4) R3 E3 V3 e3' fun σ3 E3' => ?_
      · have st2 := hw _ _ _ _ st
        simp only [wipe_wipe] at st2
        exact st2
      · refine ⟨φ2, ψ, ρ3, m2, b4, m4, R3, E3', e4, fun φ4 H4 P4 R4 => ?_⟩
        have P14 := P2.trans (P3.trans P4)
        cases b4 with
        | false => exact iteF ⟨hlt, φ4, m4, P14, R4, ef⟩
        | true =>
          obtain ⟨⟨w5, m5⟩, e5, ef⟩ := bnd (show (f ρ3 m4).bind _ = _ from ef)
          refine iteT ⟨φ4, ψ, ρ3, m4, w5, m5, R4, E3'.mono P4 R3, e5, fun φ5 ψ5 H5 v P5 R5 V5 => ?_⟩
          cases w5 with
          | v d =>
            cases d with
            | bl b =>
              have ef' : (if b = yes then allL yes it xs t c f (wipeD ρ vs) (xs.drop (i + 1)) m5 else some (!yes, m5)) = some (bF, m9) := ef
              obtain ⟨rfl, V5⟩ := V5
              cases V5
              refine ⟨⟨b, rfl, fun hb => ?_⟩, fun hb => ?_⟩
              · rw [if_neg (by rw [hb]; cases yes <;> decide)] at ef'
                cases ef'
                exact k φ5 _ H5 _ (P1.trans (P14.trans P5)) R5 ⟨rfl, .bl _⟩
              · have hb : b = yes := V.bl.inj hb
                rw [if_pos hb] at ef'
                exact ⟨hlt, φ5, m5, P14.trans P5, R5, ef'⟩
            | _ => cases ef
          | _ => cases ef
    · cases ef
  · rw [List.drop_of_length_le (by omega)] at ef
    unfold allL at ef
    split at ef
    · rename_i hx
      cases ef
      exact .inl ⟨(IR φ2 ψ H2 _ xs P2 R2 hx).2 i (by omega), k φ2 ψ H2 _ (P1.trans P2) R2 ⟨rfl, .bl _⟩⟩
    · cases ef
noncomputable def eTupG (src : Ix) (t : Gx) (c : Tx) (f : Ex) (vs : List Nat) : Ex := fun ρ m => (src ρ m).bind fun p => (itemsAt p.1 p.2).bind fun xs => if xs.length ≤ 1000000 then (lcL p.1 xs t c f (wipeD ρ vs) xs [] p.2).bind fun q => some (.v (.tup q.1), q.2) else none
theorem tup_go {K : FRG} {tb : List Addr} {P : Addr} {src : Ix} {g : TG} {t : Gx} {c : Tx} {f : Ex} {vs : List Nat} {σ : L2.St} {H : Hp} {Q : VK} (hP : InTb K tb P) (ht : TgS K tb g t) (hw : TgW g vs) (h : T K tb (eTupG src t c f vs) σ H Q) :
    Gn.tTupG P (Ti K tb src) g (Tt K tb c) (T K tb f) vs σ H Q := by
  obtain ⟨φ, ψ, ρ, m, d, mF, R, E, e, k⟩ := h
  obtain ⟨⟨it, m1⟩, e1, e⟩ := bnd e
  obtain ⟨xs, e2, e⟩ := bnd e
  split at e
  rotate_left
  · cases e
  rename_i hlen
  obtain ⟨⟨accF, m9⟩, e3, e⟩ := bnd e
  cases e
  refine ⟨φ, ψ, ρ, m, it, m1, R, E, e1, fun φ1 H1 J P1 R1 IR => ⟨R1.tab P hP.1, fun H2' tab => ?_⟩⟩
  obtain ⟨ps, hps, _⟩ := R1.tab P hP.1
  obtain ⟨ps', rfl, tr'⟩ := tabbed_eq tab
  have Pt : Post φ1 ψ H1 φ1 ψ (upd H1 P (.tbl ps')) := Post.tbl hps
  have Rt := R1.tbl (ps' := ps') hps tr' hP.2
  let Z : Nat → List V → Hp → Prop := fun i ys H2 => ∃ φ2 m2 acc, Post φ1 ψ H1 φ2 ψ H2 ∧ Rel K tb φ2 ψ H2 m2 ∧ Reps K φ2 ψ H2 acc ys ∧ lcL it xs t c f (wipeD ρ vs) (xs.drop i) acc m2 = some (accF, m9)
  refine ⟨fun i n ys H2 => n = xs.length - i ∧ i ≤ xs.length ∧ Z i ys H2, ⟨xs.length, small hlen, by simp, Nat.zero_le _, φ1, m1, [], Pt, Rt, .nil, by simpa using e3⟩, ?_⟩
  rintro i n ys H2 ⟨rfl, hi2, φ2, m2, acc, P2, R2, rA, ef⟩
  by_cases hlt : i < xs.length
  · rw [List.drop_eq_getElem_cons hlt] at ef
    unfold lcL at ef
    split at ef
    · rename_i hx
      obtain ⟨ρ3, e3', ef⟩ := bnd ef
      obtain ⟨⟨b4, m4⟩, e4, ef⟩ := bnd ef
      obtain ⟨hgo, hy⟩ := (IR φ2 ψ H2 m2 xs P2 R2 hx).1 i xs[i] (List.getElem?_eq_getElem hlt)
      refine .inr ⟨hgo, by omega, fun ys' H' => i + 1 ≤ xs.length ∧ Z (i + 1) ys' H', fun ys' H' q => ⟨xs.length - (i + 1), by omega, rfl, q⟩, fun x H3 y => ?_⟩
      obtain ⟨P3, R3, V3, same⟩ := hy x H3 y
      have rA3 := rA.mono P3 R2
      have E3 : RE K φ2 ψ H3 (wipeD ρ vs) (wipe σ vs) := (E.mono (P1.trans (P2.trans P3)) R).wipe vs
      have st := ht φ2 ψ H3 m2 (wipeD ρ vs) (wipe σ vs) _ x ρ3 (fun σ3 H3' => Tt K tb c σ3 H3' fun b H4 => if b = true then T K tb f σ3 H4 fun y H5 => True ∧ (True → (fun ys' H' => i + 1 ≤ xs.length ∧ Z (i + 1) ys' H') (ys ++ [y]) H5) else (fun ys' H' => i + 1 ≤ xs.length ∧ Z (i + 1) ys' H') ys H4) R3 E3 V3 e3' fun σ3 E3' => ?_
      · have st2 := hw _ _ _ _ st
        simp only [wipe_wipe] at st2
        exact st2
      · refine ⟨φ2, ψ, ρ3, m2, b4, m4, R3, E3', e4, fun φ4 H4 P4 R4 => ?_⟩
        have P14 := P2.trans (P3.trans P4)
        have rA4 := rA3.mono P4 R3
        cases b4 with
        | false => exact iteF ⟨hlt, φ4, m4, acc, P14, R4, rA4, ef⟩
        | true =>
          obtain ⟨⟨w5, m5⟩, e5, ef⟩ := bnd ef
          obtain ⟨y5, ev, ef⟩ := bnd ef
          split at ef
          · rename_i hl
            refine iteT ⟨φ4, ψ, ρ3, m4, w5, m5, R4, E3'.mono P4 R3, e5, fun φ5 ψ5 H5 v P5 R5 V5 => ⟨trivial, fun _ => ?_⟩⟩
            have R5' := V5.rel R5
            have P5' := V5.post P5
            exact ⟨hlt, φ5, m5, acc ++ [y5], P14.trans P5', R5', (rA4.mono P5' R4).snoc (vl_rep (V5.s R5) ev), ef⟩
          · cases ef
    · cases ef
  · rw [List.drop_of_length_le (by omega)] at ef
    unfold lcL at ef
    split at ef
    · rename_i hx
      cases ef
      refine .inl ⟨(IR φ2 ψ H2 _ xs P2 R2 hx).2 i (by omega), fun q hq => ?_⟩
      exact Go.tup (fun φ3 ψ3 H3 v P3 R3 V3 => k φ3 ψ3 H3 v (P1.trans (P2.trans P3)) R3 V3) R2 rA hq
    · cases ef
section
variable {X : Cx} {tb : List Addr} {elt tg iter : Expr} {ifs : List Expr} {scope : Scope} {gpos p pos : Pos} {own : List (Str × Nat)} {src : Ix} {g : TG} {t : Gx} {c : Tx} {f : Ex} {cd P : Addr} {k : Nat}
  (hr : Room (k + 1) X.A) (hgd : X.A.guards = some []) (hc : X.calm = true) (hN : X.N.Nodup) (TB : GxR.TabB X.base X.mg cd P) (hP : InTb X.K tb P) (hcode : X.env.code = .ref cd) (S : Gn.GSc scope) (htg : TgS X.K tb g t) (hw : TgW g (own.map (·.2))) (hi : PI X tg iter (Ti X.K tb src)) (ok : BlkOk X.N X.env.scope scope own)
  (hg : ∀ (A1 : Around) (it : Addr) (s : Shared) (H : Hp) (C : Addr) (code : Value) (fp : List Addr), PG (Gn.GCx X elt tg iter ifs scope gpos A1 it s H C code fp) tg g)
  (ht : ∀ (A1 : Around) (it : Addr) (s : Shared) (H : Hp) (C : Addr) (code : Value) (fp : List Addr), (Gn.GCx X elt tg iter ifs scope gpos A1 it s H C code fp).A.guards = some [] → Room k (Gn.GCx X elt tg iter ifs scope gpos A1 it s H C code fp).A → PTs (Gn.GCx X elt tg iter ifs scope gpos A1 it s H C code fp) ifs (Tt X.K tb c))
  (he : ∀ (A1 : Around) (it : Addr) (s : Shared) (H : Hp) (C : Addr) (code : Value) (fp : List Addr), (Gn.GCx X elt tg iter ifs scope gpos A1 it s H C code fp).A.guards = some [] → Room k (Gn.GCx X elt tg iter ifs scope gpos A1 it s H C code fp).A → PE (Gn.GCx X elt tg iter ifs scope gpos A1 it s H C code fp) elt (T X.K tb f))
include hr hgd hc hN TB hP hcode S htg hw hi ok hg ht he in
theorem ex_allG (hgl : Gl X "all") (hm : X.mg "all" = none) (hb : bootBuiltins "all" = some (.builtin "all")) (hs : ∀ v, genFold iter X.env v = pure v := by intro _; rfl)
    (hst : starEach [.GeneratorExp elt [⟨tg, iter, ifs, 0⟩] scope gpos] X.env = (false, eval (.GeneratorExp elt [⟨tg, iter, ifs, 0⟩] scope gpos) X.env) :: starEach [] X.env := by rfl) :
    PE X (.Call (.Name "all" p) [.GeneratorExp elt [⟨tg, iter, ifs, 0⟩] scope gpos] [] pos) (T X.K tb (eAll true src t c f (own.map (·.2)))) :=
  pe_mono (Gn.pe_allG hr hc hN TB hcode S ok hi hg (fun A1 it s H C code fp a => ht A1 it s H C code fp (a.guards hgd) (a.room hr)) (fun A1 it s H C code fp a => he A1 it s H C code fp (a.guards hgd) (a.room hr)) hgl hm hb hs hst) fun _ _ _ h => all_go hP htg hw h
include hr hgd hc hN TB hP hcode S htg hw hi ok hg ht he in
theorem ex_tupG (hgl : Gl X "tuple") (hm : X.mg "tuple" = none) (hs : ∀ v, genFold iter X.env v = pure v := by intro _; rfl)
    (hst : starEach [.GeneratorExp elt [⟨tg, iter, ifs, 0⟩] scope gpos] X.env = (false, eval (.GeneratorExp elt [⟨tg, iter, ifs, 0⟩] scope gpos) X.env) :: starEach [] X.env := by rfl) :
    PE X (.Call (.Name "tuple" p) [.GeneratorExp elt [⟨tg, iter, ifs, 0⟩] scope gpos] [] pos) (T X.K tb (eTupG src t c f (own.map (·.2)))) :=
  pe_mono (Gn.pe_tupG hr hc hN TB hcode S ok hi hg (fun A1 it s H C code fp a => ht A1 it s H C code fp (a.guards hgd) (a.room hr)) (fun A1 it s H C code fp a => he A1 it s H C code fp (a.guards hgd) (a.room hr)) hgl hm hs hst) fun _ _ _ h => tup_go hP htg hw h
end
end Pw
end
section
set_option Elab.async false
set_option linter.all false
set_option maxRecDepth 100000
set_option maxHeartbeats 2000000
namespace Pw
open PySem PySem.Spec PyProof.Rows L2 Pv
section
variable {X : Cx} {tb : List Addr}
def GlI (mg : Str → Option Value) (x : Str) (i : Int) : Prop := ∃ u, mg x = some u ∧ RelV (.int i) u
theorem ex_glob {x : Str} {i : Int} {pos : Pos} (hg : Gl X x) (hm : GlI X.mg x i) (hd : (x == ("__debug__" : Str)) = false := by decide) : PE X (.Name x pos) (T X.K tb (eC (.int i))) := by
  obtain ⟨u, h1, h2⟩ := hm
  exact pe_mono (pe_glob hg h1 h2 hd) fun σ H Q ⟨φ, ψ, ρ, m, w, m', R, E, e, k⟩ => by
    cases e
    exact Go.val k R (.int i)
end
end Pw
end
section
set_option Elab.async false
set_option linter.all false
set_option maxRecDepth 100000
set_option maxHeartbeats 2000000
namespace Pv
open PySem PySem.Spec PyProof.Rows L2
end Pv
end
section
set_option Elab.async false
set_option linter.all false
set_option maxRecDepth 100000
set_option maxHeartbeats 2000000
namespace Pw
open PySem PySem.Spec PyProof.Rows L2 Pv
section
variable {X : Cx} {tb : List Addr}
end
end Pw
end
section
set_option Elab.async false
set_option linter.all false
set_option maxRecDepth 100000
set_option maxHeartbeats 2000000
namespace Pw
open PySem PySem.Spec PyProof.Rows L2 Pv
def tyS : D → Option String
  | .non => some "NoneType"
  | .bl _ => some "bool"
  | .int _ => some "int"
  | .str _ => some "str"
  | .tup _ => some "tuple"
  | .tx _ => some "tuple"
  | .fl _ => some "list"
  | .lst _ => some "list"
  | .dk _ => some "dict"
  | .dt _ => some "dict"
  | .rl _ _ => some "list"
inductive Ty where
  | int | bool | str | tuple | list | dict
def Ty.name : Ty → String
  | .int => "int"
  | .bool => "bool"
  | .str => "str"
  | .tuple => "tuple"
  | .list => "list"
  | .dict => "dict"
def isD : Ty → D → Bool
  | .int, .bl _ => true
  | .int, .int _ => true
  | .bool, .bl _ => true
  | .str, .str _ => true
  | .tuple, .tup _ => true
  | .tuple, .tx _ => true
  | .list, .fl _ => true
  | .list, .lst _ => true
  | .list, .rl _ _ => true
  | .dict, .dk _ => true
  | .dict, .dt _ => true
  | _, _ => false
theorem kit_is (t : Ty) (d : D) {a : String} (h : tyS d = some a) : kitB a t.name = some (isD t d) := by
  cases t <;> cases d <;> (cases h; first | (refine (?_ : kitB _ _ = some true); decide +kernel) | (refine (?_ : kitB _ _ = some false); decide +kernel))
section
variable {X : Cx} {tb : List Addr}
theorem tyx_tup {K : FRG} {H : Hp} {a : Addr} {vs : List V} (h : SqT K H a vs) : TyX K H (.ref a) (.type "tuple") := by
  rcases h with (h | ⟨o, h⟩) | ⟨o, its, n, h1, h2, _⟩
  · exact .base (.tup h)
  · exact .fTuple h
  · exact .kTuple h1 h2
theorem tyx_fz {K : FRG} {H : Hp} {a : Addr} {vs : List V} (h : Fz K H a vs) : TyX K H (.ref a) (.type "list") := by
  rcases h with ⟨o, h⟩ | ⟨o, its, n, h1, h2, _⟩
  · exact .base (.frz h)
  · exact .kList h1 h2
theorem tyx_rep {K : FRG} {φ ψ : List Addr} {H : Hp} {d : D} {v : V} (h : Rep K φ ψ H d v) : ∃ a, tyS d = some a ∧ TyX K H v (.type a) := by
  cases h with
  | non => exact ⟨_, rfl, .base .non⟩
  | bl b => exact ⟨_, rfl, .base (.bl b)⟩
  | int i => exact ⟨_, rfl, .base (.int i)⟩
  | str x => exact ⟨_, rfl, .base (.str x)⟩
  | tup h _ => exact ⟨_, rfl, tyx_tup h.1⟩
  | tx h _ => exact ⟨_, rfl, tyx_tup h.sq⟩
  | fl h _ => exact ⟨_, rfl, tyx_fz h⟩
  | lst _ _ h _ => exact ⟨_, rfl, .base (.lst h)⟩
  | dk _ _ h _ _ => exact ⟨_, rfl, by rcases h with h | ⟨o, h⟩ <;> first | exact .base (.dK h) | exact .fDict h⟩
  | dt _ _ h _ _ => exact ⟨_, rfl, .base (.dT h)⟩
theorem tyx_c {K : FRG} {φ ψ : List Addr} {H : Hp} {d : D} {v : V} (h : RepC K φ ψ H d v) : ∃ a, tyS d = some a ∧ TyX K H v (.type a) := by
  rcases h with h | ⟨a, mo, rfl, rfl, q⟩
  · exact tyx_rep h
  · cases mo with
    | lst ds => obtain ⟨vs, q1, _⟩ := q; exact ⟨_, rfl, .base (.lst q1)⟩
    | dk kvs => obtain ⟨vs, q1, _⟩ := q; exact ⟨_, rfl, .base (.dK q1)⟩
    | dt kvs => obtain ⟨vs, q1, _⟩ := q; exact ⟨_, rfl, .base (.dT q1)⟩
    | rl b k => exact ⟨_, rfl, .base (.lst q.1)⟩
def eIs (t : Ty) (a : Ex) : Ex := fun ρ m => (a ρ m).bind fun p => (gt p.1 p.2).bind fun d => some (.v (.bl (isD t d)), p.2)
theorem ex_isi (t : Ty) {e : Expr} {fa : Ex} {x : Str} {p q pos : Pos} (hg : Gl X "isinstance") (hm : X.mg "isinstance" = none) (hgT : Gl X x) (hmT : X.mg x = none) (hvT : bootBuiltins x = some (.type t.name)) (ha : PE X e (T X.K tb fa)) (hn : x ≠ "__name__" := by decide) (hd : (x == ("__debug__" : Str)) = false := by decide)
    (h1 : starEach [e, .Name x q] X.env = (false, eval e X.env) :: starEach [.Name x q] X.env := by rfl) (h2 : starEach [.Name x q] X.env = (false, eval (.Name x q) X.env) :: starEach [] X.env := by rfl) (hpl : (backTo pos (starEach [.Name x q] X.env)).any (·.1) = false := by rfl) :
    PE X (.Call (.Name "isinstance" p) [e, .Name x q] [] pos) (T X.K tb (eIs t fa)) := by
  refine pe_mono (pe_callB call_isi hg hm PyProof.Rows.boot_isinstance (pa_cons ha (pa_cons (pe_bltn (v := .ty t.name) hgT hmT hvT rfl hn hd) pa_nil h2) h1) (by decide) (by decide) h1 hpl) fun σ H Q ⟨φ, ψ, ρ, m, w, m', R, E, e, k⟩ => ?_
  obtain ⟨⟨w1, m1⟩, e1, e⟩ := bnd e
  obtain ⟨d, eg, e⟩ := bnd e
  cases e
  refine ⟨φ, ψ, ρ, m, w1, _, R, E, e1, fun φ1 ψ1 H1 v P1 R1 V1 => ?_⟩
  have R1' := V1.rel R1
  obtain ⟨a, ea, ty⟩ := tyx_c (gt_c R1' (V1.s R1) eg)
  exact ⟨v, .ty t.name, .type a, .type t.name, _, rfl, .ty _, ty, kit_ty (kit_is t d ea), k φ1 ψ H1 _ (V1.post P1) R1' ⟨rfl, .bl _⟩⟩
end
end Pw
end
section
set_option Elab.async false
set_option linter.all false
set_option maxRecDepth 100000
set_option maxHeartbeats 2000000
namespace Pw
open PySem PySem.Spec PyProof.Rows L2 Pv
end Pw
end
section
set_option Elab.async false
set_option linter.all false
set_option maxRecDepth 100000
set_option maxHeartbeats 2000000
namespace Pw
open PySem PySem.Spec PyProof.Rows L2 Pv
section
variable {X : Cx} {tb : List Addr}
def isLA : W → Mem → Bool := fun w m => match gt w m with
  | some d => (itmL d).isSome
  | none => false
theorem isLA_ty {K : FRG} {φ ψ : List Addr} {H : Hp} {m : Mem} {w : W} {v : V} (R : Rel K tb φ ψ H m) (h : RepS K φ ψ H w v) (e : isLA w m = true) : tyV K "list" v H := by
  unfold isLA at e
  split at e
  · rename_i d hd
    obtain ⟨ds, hi⟩ := Option.isSome_iff_exists.mp e
    obtain ⟨l, vs, rfl, q, _⟩ := itmL_sq (gt_c R h hd) hi
    exact .inl ⟨rfl, _, q⟩
  · cases e
def idxD : W → List W → Mem → Option (W × Mem) := fun w ws m => match ws with
  | [a] => (gt w m).bind fun d => (itmL d).bind fun ds => (allI ds).bind fun is => (gt a m).bind fun x => match x with
    | .int i => (is.findIdx? fun j => j == i).bind fun k => some (.v (.int (k : Int)), m)
    | _ => none
  | _ => none
theorem idx_s : MtS X.K tb (rIndex X.K) idxD := fun φ ψ H m x vs w ws w' m' Q R h hs e k => by
  unfold idxD at e
  split at e
  · obtain ⟨d, e1, e⟩ := bnd e
    obtain ⟨ds, e2, e⟩ := bnd e
    obtain ⟨is, e3, e⟩ := bnd e
    obtain ⟨y, e4, e⟩ := bnd e
    split at e
    · rename_i i
      obtain ⟨j, e5, e⟩ := bnd e
      cases e
      cases hs with
      | cons ha r =>
        cases r
        obtain ⟨l, us, rfl, q, rs⟩ := itmL_sq (gt_c R h e1) e2
        obtain rfl := allI_rep rs e3
        have hv := (gt_c R ha e4).int
        subst hv
        obtain ⟨hj, hji, hjn⟩ := List.findIdx?_eq_some_iff_getElem.mp e5
        refine ⟨l, _, _, j, .int is[j], rfl, rfl, q, rfl, List.all_eq_true.mpr fun z hz => ?_, by rw [List.getElem?_map, List.getElem?_eq_getElem hj]; rfl, hji, fun n z hn hz => ?_, Go.val k R (.int _)⟩
        · obtain ⟨n, _, rfl⟩ := List.mem_map.mp hz; rfl
        · have hn' : n < is.length := by omega
          rw [List.getElem?_map, List.getElem?_eq_getElem hn'] at hz
          cases hz
          have := hjn n hn
          simpa [eqV] using this
    · cases e
  · cases e
theorem ex_index {o a : Expr} {fo : Ex} {f : Ax} {apos cpos : Pos} {es : List Expr} (ho : PE X o (T X.K tb fo)) (ha : PA X (a :: es) (Ta X.K tb f))
    (hbase : attributeBase o "index" X.env (eval o X.env) = eval o X.env := by rfl)
    (hfew : ((backTo cpos (starEach (a :: es) X.env)).all (fun x => !x.1) && (backToKw cpos (keywordEach [] X.env)).all (fun x => x.1.isSome)
      && decide ((a :: es).length + ([] : List Keyword).length + (if ([] : List Keyword).isEmpty then 0 else 1) < 30)) = true := by rfl)
    (hline : (apos.endLine == cpos.line) = true := by rfl) (hst : starEach (a :: es) X.env = (false, eval a X.env) :: starEach es X.env := by rfl) (hplain : (backTo cpos (starEach es X.env)).any (·.1) = false := by rfl) :
    PE X (.Call (.Attribute o "index" apos) (a :: es) [] cpos) (T X.K tb (eMt isLA idxD fo f)) :=
  ex_mt (fun φ ψ H m d v R h e => isLA_ty R h e) idx_s PySem.F.plainAttrs_list PySem.F.slot_list_index PySem.F.type_list_index mt_index ho ha hbase hfew hline hst hplain
end
end Pw
end
section
set_option Elab.async false
set_option linter.all false
set_option maxRecDepth 100000
set_option maxHeartbeats 2000000
namespace Pw
open PySem PySem.Spec PyProof.Rows L2 Pv
section
variable {X : Cx} {tb : List Addr}
end
end Pw
end
section
set_option Elab.async false
set_option linter.all false
set_option maxRecDepth 100000
set_option maxHeartbeats 2000000
namespace Pw
open PySem PySem.Spec PyProof.Rows L2 Pv
section
variable {X : Cx} {K : FRG} {tb : List Addr} {pos : Pos}
theorem Reps.erase {φ ψ : List Addr} {H : Hp} : ∀ {ds : List D} {vs : List V} (k : Nat), Reps K φ ψ H ds vs → Reps K φ ψ H (ds.eraseIdx k) (vs.eraseIdx k)
  | _, _, _, .nil => .nil
  | _, _, 0, .cons _ r => r
  | _, _, k + 1, .cons h r => .cons h (Reps.erase k r)
def sFail : Sx := fun _ _ => none
theorem bs_fail {st : Stmt} : PS X st (Ts X.K tb sFail) := ⟨fun pins s σ H D I ⟨φ, ψ, ρ, m, o, ρ', m', R, E, e, k⟩ => nomatch e⟩
end
end Pw
end
section
set_option Elab.async false
set_option linter.all false
set_option maxRecDepth 100000
set_option maxHeartbeats 2000000
namespace Pv
open PySem PySem.Spec PyProof.Rows L2
end Pv
end
section
set_option Elab.async false
set_option linter.all false
set_option maxRecDepth 100000
set_option maxHeartbeats 2000000
namespace Pw
open PySem PySem.Spec PyProof.Rows L2 Pv
end Pw
end
section
set_option Elab.async false
set_option linter.all false
set_option maxRecDepth 100000
set_option maxHeartbeats 2000000
namespace Pw
open PySem PySem.Spec PyProof.Rows L2 Pv
def gTL (gs : List Gx) : Gx := fun d ρ => match d with
  | .tup ds => gL gs ds ρ
  | .lst ds => gL gs ds ρ
  | .fl ds => gL gs ds ρ
  | _ => none
abbrev gTorL (K : FRG) (n : Nat) (gs : TGs) : TG := fun v σ H Q => gTup K n gs v σ H Q ∨ gUnl K n gs v σ H Q
theorem tg_tl {K : FRG} {tb : List Addr} {gs : TGs} {ts : List Gx} {n : Nat} (hn : ts.length = n) (h : TgsS K tb gs ts) : TgS K tb (gTorL K n gs) (gTL ts) := fun φ ψ H m ρ σ d v ρ' Q R E V e k => by
  cases V with
  | tup hq r => exact .inl ⟨_, _, rfl, hq.1, by rw [← r.length, gL_len e]; exact hn, h φ ψ H m ρ σ _ _ ρ' Q R E r e k⟩
  | fl hq r => exact .inr ⟨_, _, rfl, hq.sq, by rw [← r.length, gL_len e]; exact hn, h φ ψ H m ρ σ _ _ ρ' Q R E r e k⟩
  | lst h1 h2 hq r => exact .inr ⟨_, _, rfl, SqL.of hq, by rw [← r.length, gL_len e]; exact hn, h φ ψ H m ρ σ _ _ ρ' Q R E r e k⟩
  | _ => cases e
theorem pg_tl {X : Cx} {pos : Pos} {es : List Expr} {k : Nat} {t : TGs} {n : Nat} (hc : X.calm = true) (h : PGs X es t)
    (hn : (assignEach es X.env).length = n := by rfl) (hst : (assignEach es X.env).findIdx? (·.1) = none := by rfl) : PG X (.Tuple es k pos) (gTorL X.K n t) :=
  ⟨fun pins s σ H v u Q I r hw => hw.elim (fun hw => (pg_tup hc h hn hst).run pins s σ H v u Q I r hw) fun hw => (pg_unl hc h hn hst).run pins s σ H v u Q I r hw⟩
end Pw
end
section
set_option Elab.async false
set_option linter.all false
set_option maxRecDepth 100000
set_option maxHeartbeats 2000000
namespace Pw
open PySem PySem.Spec PyProof.Rows L2 Pv
section
variable {X : Cx} {K : FRG} {tb : List Addr} {pos : Pos}
def strD : List D → Option W
  | [.int i] => if i.natAbs.log2 < 1900 then some (.v (.str (toString i))) else none
  | _ => none
theorem str_s : CallS K tb (fun xs H Q => ∃ i, xs = [V.int i] ∧ i.natAbs.log2 < 1920 ∧ Q (.str (toString i)) H) strD := fun φ ψ H m vs ds w Q R r e k => by
  unfold strD at e
  split at e
  · split at e
    · rename_i i hi
      cases e
      cases r with
      | cons h r =>
        cases r
        exact ⟨i, by rw [h.int], by omega, Go.val k R (.str _)⟩
    · cases e
  · cases e
def allS : List D → Option (List Str)
  | [] => some []
  | .str x :: ds => (allS ds).bind fun xs => some (x :: xs)
  | _ => none
theorem allS_rep {φ ψ : List Addr} {H : Hp} : ∀ {ds : List D} {vs : List V} {xs : List Str}, Reps K φ ψ H ds vs → allS ds = some xs → vs = xs.map V.str
  | [], _, _, .nil, e => by cases e; rfl
  | .str x :: ds, _, _, .cons h r, e => by
    rw [allS] at e
    obtain ⟨ys, e1, e⟩ := bnd e
    cases e
    cases h
    rw [allS_rep r e1]; rfl
  | .non :: _, _, _, _, e => by simp [allS] at e
  | .bl _ :: _, _, _, _, e => by simp [allS] at e
  | .int _ :: _, _, _, _, e => by simp [allS] at e
  | .tup _ :: _, _, _, _, e => by simp [allS] at e
  | .fl _ :: _, _, _, _, e => by simp [allS] at e
  | .lst _ :: _, _, _, _, e => by simp [allS] at e
  | .dk _ :: _, _, _, _, e => by simp [allS] at e
  | .dt _ :: _, _, _, _, e => by simp [allS] at e
  | .rl _ _ :: _, _, _, _, e => by simp [allS] at e
def isStr : W → Mem → Bool
  | .v (.str _), _ => true
  | _, _ => false
theorem isStr_ty {φ ψ : List Addr} {H : Hp} {m : Mem} {w : W} {v : V} (R : Rel K tb φ ψ H m) (h : RepS K φ ψ H w v) (e : isStr w m = true) : tyV K "str" v H := by
  unfold isStr at e
  split at e
  · cases h; rfl
  · cases e
def joinD : W → List W → Mem → Option (W × Mem) := fun w ws m => match w, ws with
  | .v (.str a), [b] => (gt b m).bind fun d => (itmD d).bind fun ds => (allS ds).bind fun ys => if (ys.map (·.length)).sum + ys.length * a.length ≤ 16000000 then some (.v (.str (Txt.join a ys)), m) else none
  | _, _ => none
theorem join_s : MtS K tb (fun x xs H Q => ∃ a p, ∃ ys : List Str, x = V.str a ∧ xs = [V.ref p] ∧ (SqL K H p (ys.map V.str) ∨ SqT K H p (ys.map V.str)) ∧
    (ys.map (·.length)).sum + ys.length * a.length ≤ 16777216 ∧ Q (.str (Txt.join a ys)) H) joinD := fun φ ψ H m x vs w ws w' m' Q R hx r e k => by
  unfold joinD at e
  split at e
  · obtain ⟨d, e1, e⟩ := bnd e
    obtain ⟨ds, e2, e⟩ := bnd e
    obtain ⟨ys, e3, e⟩ := bnd e
    split at e
    · rename_i hl
      cases e
      cases hx
      cases r with
      | cons h r =>
        cases r
        obtain ⟨l, us, rfl, hq, rs⟩ := itm_sq (gt_c R h e1) e2
        obtain rfl := allS_rep rs e3
        exact ⟨_, l, ys, rfl, rfl, hq, by omega, Go.val k R (.str _)⟩
    · cases e
  · cases e
theorem ex_join {o a : Expr} {fo : Ex} {f : Ax} {apos cpos : Pos} {es : List Expr} (ho : PE X o (T X.K tb fo)) (ha : PA X (a :: es) (Ta X.K tb f))
    (hbase : attributeBase o "join" X.env (eval o X.env) = eval o X.env := by rfl)
    (hfew : ((backTo cpos (starEach (a :: es) X.env)).all (fun x => !x.1) && (backToKw cpos (keywordEach [] X.env)).all (fun x => x.1.isSome)
      && decide ((a :: es).length + ([] : List Keyword).length + (if ([] : List Keyword).isEmpty then 0 else 1) < 30)) = true := by rfl)
    (hline : (apos.endLine == cpos.line) = true := by rfl) (hst : starEach (a :: es) X.env = (false, eval a X.env) :: starEach es X.env := by rfl) (hplain : (backTo cpos (starEach es X.env)).any (·.1) = false := by rfl) :
    PE X (.Call (.Attribute o "join" apos) (a :: es) [] cpos) (T X.K tb (eMt isStr joinD fo f)) :=
  ex_mt (fun φ ψ H m d v R h e => isStr_ty R h e) join_s PySem.F.plainAttrs_str PySem.F.slot_str_join PySem.F.type_str_join mt_join ho ha hbase hfew hline hst hplain
def GlS (mg : Str → Option Value) (x : Str) (y : Str) : Prop := ∃ u, mg x = some u ∧ RelV (.str y) u
theorem ex_globS {x y : Str} {pos : Pos} (hg : Gl X x) (hm : GlS X.mg x y) (hd : (x == ("__debug__" : Str)) = false := by decide) : PE X (.Name x pos) (T X.K tb (eC (.str y))) := by
  obtain ⟨u, h1, h2⟩ := hm
  exact pe_mono (pe_glob hg h1 h2 hd) fun σ H Q ⟨φ, ψ, ρ, m, w, m', R, E, e, k⟩ => by
    cases e
    exact Go.val k R (.str y)
theorem reps_strs {φ ψ : List Addr} {H : Hp} : ∀ ys : List Str, Reps K φ ψ H (ys.map D.str) (ys.map V.str)
  | [] => .nil
  | y :: ys => .cons (.str y) (reps_strs ys)
theorem kyV_strs : ∀ ys : List Str, kyV (ys.map V.str) = false
  | [] => rfl
  | [_] => rfl
  | _ :: _ :: _ => rfl
def GlT (K : FRG) (mg : Str → Option Value) (x : Str) (ys : List Str) : Prop := ∃ (a : Addr) (o : Obj) (its : Array Value) (n : Nat), mg x = some (.ref a) ∧ K.lookup a = some o ∧ o.cls = .type "tuple" ∧ o.data = .seq its n ∧ its.size ≤ 1000000 ∧ Vals (ys.map V.str) its.toList
theorem ex_globT {x : Str} {ys : List Str} {pos : Pos} (hg : Gl X x) (hm : GlT X.K X.mg x ys) (hd : (x == ("__debug__" : Str)) = false := by decide) : PE X (.Name x pos) (T X.K tb (eC (.tup (ys.map .str)))) := by
  obtain ⟨a, o, its, n, h1, h2, h3, h4, h5, h6⟩ := hm
  exact pe_mono (pe_glob hg h1 (v := .ref a) rfl hd) fun σ H Q ⟨φ, ψ, ρ, m, w, m', R, E, e, k⟩ => by
    cases e
    exact Go.val k R (.tup (SqN.no (.inr ⟨o, its, n, h2, h3, h4, small h5, h6⟩) (kyV_strs ys)) (reps_strs ys))
end
end Pw
end
section
set_option Elab.async false
set_option linter.all false
set_option maxRecDepth 100000
set_option maxHeartbeats 2000000
namespace Pv
open PySem PySem.Spec PyProof.Rows L2
def iLex : List Int → List Int → Bool
  | [], [] => false
  | [], _ :: _ => true
  | _ :: _, [] => false
  | x :: xs, y :: ys => if x = y then iLex xs ys else decide (x < y)
end Pv
end
section
set_option Elab.async false
set_option linter.all false
set_option maxRecDepth 100000
set_option maxHeartbeats 400000
namespace Pv
open PySem PySem.Spec PyProof.Rows L2
abbrev PK := List Int × Int
theorem iLex_irr : ∀ xs : List Int, iLex xs xs = false
  | [] => rfl
  | x :: xs => by simp [iLex, iLex_irr xs]
theorem iLex_tot : ∀ xs ys : List Int, iLex xs ys = false → iLex ys xs = false → xs = ys
  | [], [], _, _ => rfl
  | [], y :: ys, h, _ => by simp [iLex] at h
  | x :: xs, [], _, h => by simp [iLex] at h
  | x :: xs, y :: ys, h1, h2 => by
    unfold iLex at h1 h2
    by_cases e : x = y
    · subst e
      rw [if_pos rfl] at h1 h2
      rw [iLex_tot xs ys h1 h2]
    · rw [if_neg e] at h1
      rw [if_neg (Ne.symm e)] at h2
      have := of_decide_eq_false h1
      have := of_decide_eq_false h2
      omega
theorem iLex_tr : ∀ xs ys zs : List Int, iLex xs ys = true → iLex ys zs = true → iLex xs zs = true
  | [], ys, [], _, h => by cases ys <;> simp [iLex] at h
  | [], ys, z :: zs, _, _ => rfl
  | x :: xs, [], zs, h, _ => by simp [iLex] at h
  | x :: xs, y :: ys, [], _, h => by simp [iLex] at h
  | x :: xs, y :: ys, z :: zs, h1, h2 => by
    unfold iLex at h1 h2 ⊢
    by_cases e1 : x = y
    · subst e1
      rw [if_pos rfl] at h1
      by_cases e2 : x = z
      · subst e2
        rw [if_pos rfl] at h2 ⊢
        exact iLex_tr xs ys zs h1 h2
      · rw [if_neg e2] at h2 ⊢
        exact h2
    · rw [if_neg e1] at h1
      have a := of_decide_eq_true h1
      by_cases e2 : y = z
      · subst e2
        rw [if_neg e1]
        exact h1
      · rw [if_neg e2] at h2
        have b := of_decide_eq_true h2
        rw [if_neg (by omega)]
        exact decide_eq_true (by omega)
theorem iLex_asym {a b : List Int} (h : iLex a b = true) : iLex b a = false := by
  cases z : iLex b a with
  | false => rfl
  | true => have := iLex_tr _ _ _ h z; rw [iLex_irr] at this; cases this
def PrAt (P : Program) (w : World) (h : Heap) (v : Value) (k : PK) : Prop := ∃ p c t its, v = .ref p ∧ IsTup h p #[.ref c, .int k.2 t] ∧ IsTup h c (List.toArray its) ∧ IntsAre its k.1 ∧ IsM P w h (k.1.map Sum.inl) c
section
variable {P : Program} {w : World}
theorem isM_at {h h' : Heap} {k : KT'} {b : Addr} (x : IsM P w h k b) (hk : ∀ o, h.get? b = some o → h'.get? b = some o) : IsM P w h' k b := by
  obtain ⟨o, its, n, e, r⟩ := x
  exact ⟨o, its, n, hk o e, r⟩
theorem PrAt.keep {h h' : Heap} {v : Value} {k : PK} (x : PrAt P w h v k) {a : Addr} {o : Obj} (ho : h.get? a = some o) (hc : o.cls = .type "list") (hk : ∀ b u, b ≠ a → h.get? b = some u → h'.get? b = some u) : PrAt P w h' v k := by
  obtain ⟨p, c, t, its, rfl, a1, a2, a3, a4⟩ := x
  have ne : ∀ {q : Addr} {y : Array Value}, IsTup h q y → q ≠ a := fun {q y} hq z => by
    obtain ⟨o', e, c', _⟩ := hq
    rw [z, ho] at e
    cases e
    rw [hc] at c'
    exact absurd c' (by decide)
  have kt : ∀ {q : Addr} {y : Array Value}, IsTup h q y → IsTup h' q y := fun {q y} hq => by
    have n := ne hq
    obtain ⟨o', e, r⟩ := hq
    exact ⟨o', hk q o' n e, r⟩
  refine ⟨p, c, t, its, rfl, kt a1, kt a2, a3, ?_⟩
  have n := ne a2
  exact isM_at a4 fun o' e => hk c o' n e
end
end Pv
end
section
set_option Elab.async false
set_option linter.all false
set_option maxRecDepth 100000
set_option maxHeartbeats 2000000
namespace Pw
open PySem PySem.Spec PyProof.Rows L2 Pv
section
variable {X : Cx} {tb : List Addr} {pos : Pos}
def noStr (ds : List D) : Bool := ds.all fun d => match d with | .str _ => false | _ => true
@[simp] theorem noStr_nat {l : List Nat} : noStr (l.map fun i : Nat => D.int i) = true := by simp [noStr]
@[simp] theorem noStr_comp {α : Type} {g : α → Nat} {l : List α} : noStr (l.map ((fun i : Nat => D.int i) ∘ g)) = true := by simp [noStr]
@[simp] theorem noStr_int {l : List Int} : noStr (l.map D.int) = true := by simp [noStr]
@[simp] theorem noStr_compI {α : Type} {g : α → Int} {l : List α} : noStr (l.map (D.int ∘ g)) = true := by simp [noStr]
end
end Pw
end
section
set_option Elab.async false
set_option linter.all false
set_option maxRecDepth 100000
set_option maxHeartbeats 2000000
namespace Pv
open PySem PySem.Spec PyProof.Rows L2
end Pv
end
section
set_option Elab.async false
set_option linter.all false
set_option maxRecDepth 100000
set_option maxHeartbeats 2000000
namespace Pw
open PySem PySem.Spec PyProof.Rows L2 Pv
section
variable {X : Cx} {tb : List Addr}
end
end Pw
namespace Pw
theorem lt0 {u c : Nat} (h : u + 100 < c) : u < c := by omega
end Pw
end
section
set_option Elab.async false
set_option linter.all false
set_option maxRecDepth 100000
set_option maxHeartbeats 2000000
namespace Pw
open PySem PySem.Spec PyProof.Rows L2 Pv
end Pw
end
section
set_option Elab.async false
set_option linter.all false
set_option maxRecDepth 100000
set_option maxHeartbeats 2000000
namespace Pw
open PySem PySem.Spec PyProof.Rows L2 Pv
end Pw
end
section
set_option Elab.async false
set_option linter.all false
set_option maxRecDepth 100000
set_option maxHeartbeats 2000000
namespace Pw
open PySem PySem.Spec PyProof.Rows L2 Pv
end Pw
end
section
set_option Elab.async false
set_option linter.all false
set_option maxRecDepth 100000
set_option maxHeartbeats 2000000
namespace Pv
open PySem PySem.Spec PyProof.Rows L2
end Pv
end
section
set_option Elab.async false
set_option linter.all false
set_option maxRecDepth 100000
set_option maxHeartbeats 2000000
namespace Pw
open PySem PySem.Spec PyProof.Rows L2 Pv
section
variable {X : Cx} {K : FRG} {tb : List Addr}
theorem Go.tx {φ ψ : List Addr} {H : Hp} {m : Mem} {Q : VK} {ds : List D} {vs : List V} {p : Addr} {o : Obj} (k : Go K tb φ ψ H m (.v (.tx ds)) Q) (R : Rel K tb φ ψ H m) (h : Reps K φ ψ H ds vs) (hp : H p = none) (hd : o.dict = none) (hn : ∀ x, V.str x ∉ vs) : Q (.ref p) (upd H p (.frz o (.tup vs))) :=
  k φ ψ _ _ (Post.lay hp) (R.lay hp) ⟨rfl, .tx ⟨o, upd_same, hd, hn⟩ (h.mono (Post.lay hp) R)⟩
end
end Pw
end
section
set_option Elab.async false
set_option linter.all false
set_option maxRecDepth 100000
set_option maxHeartbeats 2000000
namespace Pw
open PySem PySem.Spec PyProof.Rows L2 Pv
end Pw
end
section
set_option Elab.async false
set_option linter.all false
set_option maxRecDepth 100000
set_option maxHeartbeats 2000000
namespace Pw
open PySem PySem.Spec PyProof.Rows L2 Pv
end Pw
end
section
set_option Elab.async false
set_option linter.all false
set_option maxRecDepth 100000
set_option maxHeartbeats 4000000
namespace Pw
open PySem PySem.Spec PyProof.Rows L2
theorem tabIn_none {K : FRG} {x : Str} (h : PySem.W.nsIn K mainGlobals x = some none) : PySem.W.tabIn K x = none := by
  unfold PySem.W.tabIn
  rw [h]
theorem notL_of {K : FRG} {P : Addr} (h1 : PySem.W.tabIn K "by_nearness" = none ∨ ∃ c R, PySem.W.tabIn K "by_nearness" = some (c, R) ∧ P ≠ R) (h2 : PySem.W.tabIn K "to_join" = none ∨ ∃ c R, PySem.W.tabIn K "to_join" = some (c, R) ∧ P ≠ R) : NotL K P := by
  intro x hx c e
  rcases List.mem_cons.mp hx with z | z
  · subst z
    rcases h1 with z | ⟨c', R, z, n⟩
    · rw [z] at e; cases e
    · rw [z] at e; cases e; exact n rfl
  · obtain rfl := List.mem_singleton.mp z
    rcases h2 with z | ⟨c', R, z, n⟩
    · rw [z] at e; cases e
    · rw [z] at e; cases e; exact n rfl
def nearLt (ts : List Int) (x y : Int) : Bool :=
  let tx := ts.getD x.toNat 0
  let ty := ts.getD y.toNat 0
  if tx = -1 then (if ty = -1 then decide (x < y) else false) else if ty = -1 then true else decide (tx < ty ∨ (tx = ty ∧ x < y))
theorem lin_near (ts : List Int) : Pv.Lin (nearLt ts) where
  irr x := by unfold nearLt; simp
  tr x y z h1 h2 := by
    unfold nearLt at *
    dsimp only at *
    split at h1 <;> split at h1 <;> simp_all <;> omega
  tot x y h1 h2 := by
    unfold nearLt at *
    dsimp only at *
    split at h1 <;> split at h1 <;> simp_all <;> omega
end Pw
end
section
set_option Elab.async false
set_option linter.all false
set_option maxRecDepth 100000
set_option maxHeartbeats 4000000
namespace Pw
open PySem PySem.Spec PyProof.Rows L2
end Pw
end
section
set_option Elab.async false
set_option linter.all false
set_option maxRecDepth 100000
set_option maxHeartbeats 4000000
namespace Pw
open PySem PySem.Spec PyProof.Rows L2
end Pw
end
section
set_option Elab.async false
set_option linter.all false
set_option maxRecDepth 100000
set_option maxHeartbeats 4000000
namespace Pw
open PySem PySem.Spec PyProof.Rows L2
end Pw
end
section
set_option Elab.async false
set_option linter.all false
set_option maxRecDepth 100000
set_option maxHeartbeats 2000000
namespace Pw
open PySem PySem.Spec PyProof.Rows L2 Pv
section
variable {K : FRG} {tb : List Addr}
theorem RepC.tx {φ ψ : List Addr} {H : Hp} {ds : List D} {v : V} (h : RepC K φ ψ H (.tx ds) v) : ∃ a vs, v = .ref a ∧ Tz H a vs ∧ Reps K φ ψ H ds vs := by
  rcases h with h | ⟨a, mo, rfl, e, q⟩
  · cases h with
    | tx h r => exact ⟨_, _, rfl, h, r⟩
  · cases mo <;> cases e
end
end Pw
end
section
set_option Elab.async false
set_option linter.all false
set_option maxRecDepth 100000
set_option maxHeartbeats 4000000
namespace Pw
open PySem PySem.Spec PyProof.Rows L2
end Pw
end
section
set_option Elab.async false
set_option linter.all false
set_option maxRecDepth 100000
set_option maxHeartbeats 4000000
namespace Pw
open PySem PySem.Spec PyProof.Rows L2 Pv
theorem runF_none {np nn : Nat} {ws : List W} {m : Mem} {r : W × Mem} (h : runF np nn (fun _ _ => none) ws m = some r) : False := by
  unfold runF at h
  split at h
  · cases h
  · cases h
theorem fnG_none {P : Program} {w : World} {K : FRG} {mg : Str → Option Value} {base : Heap} {tb : List Addr} {k nn : Nat} {f : Addr} {fd : FuncData} {ps : List Str} : FnG P w K mg base k f fd ps (spF K tb ps.length (runF ps.length nn fun _ _ => none)) :=
  ⟨fun vs H Q E q => (by
    obtain ⟨φ, ψ, ws, m, d, m', R, r, hl, e, go⟩ := q
    exact (runF_none e).elim), fun A outer s H args us vs Q E _ _ _ _ _ q => (by
    obtain ⟨φ, ψ, ws, m, d, m', R, r, hl, e, go⟩ := q
    exact (runF_none e).elim)⟩
def allBl : List D → Option (List Bool)
  | [] => some []
  | .bl b :: ds => (allBl ds).bind fun bs => some (b :: bs)
  | _ :: _ => none
def allBD : List D → Option W
  | [x] => (itmL x).bind fun ds => (allBl ds).bind fun bs => some (.v (.bl (bs.all id)))
  | _ => none
theorem allBl_rep {K : FRG} {φ ψ : List Addr} {H : Hp} : ∀ {ds : List D} {vs : List V} {bs : List Bool}, Reps K φ ψ H ds vs → allBl ds = some bs → vs = bs.map V.bl
  | [], _, _, .nil, e => by cases e; rfl
  | d :: ds, _, bs, .cons h t, e => by
    unfold allBl at e
    split at e
    · rename_i z; cases z
    · rename_i b ds' z
      cases z
      obtain ⟨bs', e1, e⟩ := bnd e
      cases e
      cases h
      rw [allBl_rep t e1]; rfl
    · cases e
theorem allB_s {K : FRG} {tb : List Addr} : CallS K tb (rAll K) allBD := fun φ ψ H m vs ds w Q R r e k => by
  unfold allBD at e
  split at e
  rotate_left
  · cases e
  obtain ⟨xs, e1, e⟩ := bnd e
  obtain ⟨bs, e2, e⟩ := bnd e
  cases e
  cases r with
  | cons h r =>
    cases r
    obtain ⟨l, us, rfl, hq, q⟩ := itmL_sq h e1
    obtain rfl := allBl_rep q e2
    exact ⟨l, bs, rfl, hq, Go.val k R (.bl _)⟩
section
variable {X : Cx} {tb : List Addr}
def eIs2 (t u : Ty) (a : Ex) : Ex := fun ρ m => (a ρ m).bind fun p => (gt p.1 p.2).bind fun d => some (.v (.bl (isD t d || isD u d)), p.2)
theorem ex_isi2 (t u : Ty) {e : Expr} {fa : Ex} {x y : Str} {kk : Nat} {p q q2 tpos pos : Pos} (hg : Gl X "isinstance") (hm : X.mg "isinstance" = none) (hgT : Gl X x) (hmT : X.mg x = none) (hvT : bootBuiltins x = some (.type t.name)) (hgU : Gl X y) (hmU : X.mg y = none) (hvU : bootBuiltins y = some (.type u.name)) (ha : PE X e (T X.K tb fa)) (hn : x ≠ "__name__" := by decide) (hd : (x == ("__debug__" : Str)) = false := by decide) (hn2 : y ≠ "__name__" := by decide) (hd2 : (y == ("__debug__" : Str)) = false := by decide)
    (h1 : starEach [e, .Tuple [.Name x q, .Name y q2] kk tpos] X.env = (false, eval e X.env) :: starEach [.Tuple [.Name x q, .Name y q2] kk tpos] X.env := by rfl) (h2 : starEach [.Tuple [.Name x q, .Name y q2] kk tpos] X.env = (false, eval (.Tuple [.Name x q, .Name y q2] kk tpos) X.env) :: starEach [] X.env := by rfl) (hpl : (backTo pos (starEach [.Tuple [.Name x q, .Name y q2] kk tpos] X.env)).any (·.1) = false := by rfl)
    (h3 : starEach [.Name x q, .Name y q2] X.env = (false, eval (.Name x q) X.env) :: starEach [.Name y q2] X.env := by rfl) (h4 : starEach [.Name y q2] X.env = (false, eval (.Name y q2) X.env) :: starEach [] X.env := by rfl) :
    PE X (.Call (.Name "isinstance" p) [e, .Tuple [.Name x q, .Name y q2] kk tpos] [] pos) (T X.K tb (eIs2 t u fa)) := by
  have tp := pe_tup (pos := tpos) (x1 := kk) (pa_cons (pe_bltn (pos := q) (v := .ty t.name) hgT hmT hvT rfl hn hd) (pa_cons (pe_bltn (pos := q2) (v := .ty u.name) hgU hmU hvU rfl hn2 hd2) pa_nil h4) h3)
  refine pe_mono (pe_callB call_isiT hg hm PyProof.Rows.boot_isinstance (pa_cons ha (pa_cons tp pa_nil h2) h1) (by decide) (by decide) h1 hpl) fun σ H Q ⟨φ, ψ, ρ, m, w, m', R, E, e, k⟩ => ?_
  obtain ⟨⟨w1, m1⟩, e1, e⟩ := bnd e
  obtain ⟨d, eg, e⟩ := bnd e
  cases e
  refine ⟨φ, ψ, ρ, m, w1, _, R, E, e1, fun φ1 ψ1 H1 v P1 R1 V1 => ?_⟩
  have R1' := V1.rel R1
  refine ⟨by show 2 ≤ sizeLine; rw [sizeLine_eq]; omega, fun p hp => ?_⟩
  have Pl : Post φ1 ψ H1 φ1 ψ _ := Post.lay (o := .tup [.ty t.name, .ty u.name]) hp
  have Rl := R1'.lay (o := .tup [.ty t.name, .ty u.name]) hp
  obtain ⟨a, ea, ty⟩ := tyx_c (gt_c Rl ((V1.s R1).mono Pl R1') eg)
  refine ⟨v, p, [.ty t.name, .ty u.name], .type a, [.type t.name, .type u.name], _, rfl, upd_same, .cons (.ty _) (.cons (.ty _) .nil), ty, ?_, k φ1 ψ _ _ ((V1.post P1).trans Pl) Rl ⟨rfl, .bl _⟩⟩
  have k1 := kit_ty (K := X.K) (kit_is t d ea)
  have k2 := kit_ty (K := X.K) (kit_is u d ea)
  cases hb : isD t d with
  | true => rw [hb] at k1; exact kitAny_cons k1 (fun z => nomatch z) (fun _ => rfl)
  | false =>
    rw [hb] at k1
    refine kitAny_cons k1 (fun _ => ?_) (fun z => nomatch z)
    rw [Bool.false_or]
    cases hc : isD u d with
    | true => rw [hc] at k2; exact kitAny_cons k2 (fun z => nomatch z) (fun _ => rfl)
    | false => rw [hc] at k2; exact kitAny_cons k2 (fun _ => kitAny_nil) (fun z => nomatch z)
end
end Pw
end
section
set_option Elab.async false
set_option linter.all false
set_option maxRecDepth 100000
set_option maxHeartbeats 4000000
namespace Pw
open PySem PySem.Spec PyProof.Rows L2
end Pw
end
section
set_option Elab.async false
set_option linter.all false
set_option maxRecDepth 100000
set_option maxHeartbeats 2000000
namespace Pw
open PySem PySem.Spec PyProof.Rows L2
end Pw
end
section
set_option Elab.async false
set_option linter.all false
set_option maxRecDepth 100000
set_option maxHeartbeats 2000000
namespace Pw
open PySem PySem.Spec PyProof.Rows L2
end Pw
end
section
set_option Elab.async false
set_option linter.all false
set_option maxRecDepth 100000
set_option maxHeartbeats 1000000
namespace Pw
open PySem PySem.Spec PyProof.Rows L2
end Pw
end
section
set_option Elab.async false
set_option linter.all false
set_option maxRecDepth 100000
set_option maxHeartbeats 1000000
namespace Pw
open PySem PySem.Spec PyProof.Rows L2
end Pw
end
section
set_option Elab.async false
set_option linter.all false
set_option maxRecDepth 100000
set_option maxHeartbeats 2000000
namespace Pv
open PySem PySem.Spec PyProof.Rows L2
end Pv
end
section
set_option Elab.async false
set_option linter.all false
set_option maxRecDepth 100000
set_option maxHeartbeats 2000000
namespace Pw
open PySem PySem.Spec PyProof.Rows L2 Pv
end Pw
end
section
set_option Elab.async false
set_option linter.all false
set_option maxRecDepth 100000
set_option maxHeartbeats 1000000
namespace Pw
open PySem PySem.Spec PyProof.Rows L2 Pv
end Pw
end
section
set_option Elab.async false
set_option linter.all false
set_option maxRecDepth 100000
set_option maxHeartbeats 1000000
namespace Pw
open PySem PySem.Spec PyProof.Rows L2
end Pw
end
section
set_option Elab.async false
set_option linter.all false
set_option maxRecDepth 100000
set_option maxHeartbeats 2000000
namespace Pw
open PySem PySem.Spec PyProof.Rows L2 Pv
end Pw
end
section
set_option Elab.async false
set_option linter.all false
set_option maxRecDepth 100000
set_option maxHeartbeats 4000000
namespace Pw
open PySem PySem.Spec PyProof.Rows L2 Pv
end Pw
end
section
set_option Elab.async false
set_option linter.all false
set_option maxRecDepth 100000
set_option maxHeartbeats 2000000
namespace Pv
open PySem PySem.Spec PyProof.Rows L2
end Pv
end
section
set_option Elab.async false
set_option linter.all false
set_option maxRecDepth 100000
set_option maxHeartbeats 2000000
namespace Pw
open PySem PySem.Spec PyProof.Rows L2 Pv
end Pw
end
section
set_option Elab.async false
set_option linter.all false
set_option maxRecDepth 100000
set_option maxHeartbeats 2000000
namespace Pw
open PySem PySem.Spec PyProof.Rows L2 Pv
end Pw
end
section
set_option Elab.async false
set_option linter.all false
set_option maxRecDepth 100000
set_option maxHeartbeats 4000000
namespace Pw
open PySem PySem.Spec PyProof.Rows L2 Pv
end Pw
end
section
set_option Elab.async false
set_option linter.all false
set_option maxRecDepth 100000
set_option maxHeartbeats 4000000
namespace Pw
open PySem PySem.Spec PyProof.Rows L2 Pv
section
variable {X : Cx} {K : FRG} {tb : List Addr}
def splitD : W → List W → Mem → Option (W × Mem) := fun w ws m => match w, ws with
  | .v (.str a), [.v (.str b)] => if (b.length == 0) = false ∧ a.length ≤ 100000 then some (.f (.lst ((Txt.split a b).map .str)), m) else none
  | _, _ => none
theorem split_s : MtS K tb (fun x xs H Q => ∃ a b, x = V.str a ∧ xs = [V.str b] ∧ (b.length == 0) = false ∧ a.length + 2 ≤ sizeLine ∧ rNewStrs (Txt.split a b) H Q) splitD := fun φ ψ H m x vs w ws w' m' Q R hx r e k => by
  unfold splitD at e
  split at e
  · split at e
    · rename_i a b hl
      cases e
      cases hx
      cases r with
      | cons h r =>
        cases r
        cases h
        refine ⟨a, b, rfl, rfl, hl.1, small (by have := hl.2; omega), fun p hp => Go.lst k R (reps_strs _) hp⟩
    · cases e
  · cases e
theorem ex_split {o a : Expr} {fo : Ex} {f : Ax} {apos cpos : Pos} {es : List Expr} (ho : PE X o (T X.K tb fo)) (ha : PA X (a :: es) (Ta X.K tb f))
    (hbase : attributeBase o "split" X.env (eval o X.env) = eval o X.env := by rfl)
    (hfew : ((backTo cpos (starEach (a :: es) X.env)).all (fun x => !x.1) && (backToKw cpos (keywordEach [] X.env)).all (fun x => x.1.isSome)
      && decide ((a :: es).length + ([] : List Keyword).length + (if ([] : List Keyword).isEmpty then 0 else 1) < 30)) = true := by rfl)
    (hline : (apos.endLine == cpos.line) = true := by rfl) (hst : starEach (a :: es) X.env = (false, eval a X.env) :: starEach es X.env := by rfl) (hplain : (backTo cpos (starEach es X.env)).any (·.1) = false := by rfl) :
    PE X (.Call (.Attribute o "split" apos) (a :: es) [] cpos) (T X.K tb (eMt isStr splitD fo f)) :=
  ex_mt (fun φ ψ H m d v R h e => isStr_ty R h e) split_s PySem.F.plainAttrs_str PySem.F.slot_str_split PySem.F.type_str_split mt_split ho ha hbase hfew hline hst hplain
def intSD : List D → Option W
  | [.str a] => if a.length ≤ 640 then (PySem.intText? a).bind fun n => some (.v (.int n)) else none
  | xs => intD xs
theorem intS_s : CallS K tb (fun xs H Q => ((∃ i, xs = [V.int i] ∧ Q (.int i) H) ∨ ∃ k, xs = [V.bl k] ∧ Q (.int (if k then 1 else 0)) H) ∨ ∃ a n, xs = [V.str a] ∧ PySem.intText? a = some n ∧ a.length ≤ 640 ∧ Q (.int n) H) intSD := fun φ ψ H m vs ds w Q R r e k => by
  unfold intSD at e
  split at e
  · rename_i a
    split at e
    · rename_i hl
      obtain ⟨n, e1, e⟩ := bnd e
      cases e
      cases r with
      | cons h1 r => cases r; rw [h1.str]; exact .inr ⟨_, n, rfl, e1, hl, Go.val k R (.int _)⟩
    · cases e
  · exact .inl (int_s φ ψ H m vs ds w Q R r e k)
theorem call_intS : CallR X (.type "int") (fun xs H Q => ((∃ i, xs = [V.int i] ∧ Q (.int i) H) ∨ ∃ k, xs = [V.bl k] ∧ Q (.int (if k then 1 else 0)) H) ∨ ∃ a n, xs = [V.str a] ∧ PySem.intText? a = some n ∧ a.length ≤ 640 ∧ Q (.int n) H) := fun pins s σ H xs us Q I r h => by
  rcases h with h | h
  · exact call_int1 pins s σ H xs us Q I r h
  · exact call_int_str pins s σ H xs us Q I r h
def ixSD : D → D → Option W
  | .str z, .int i => if z.length ≤ 1000000 then (atI z.cps.toList i).bind fun c => some (.v (.str ⟨#[c]⟩)) else none
  | _, _ => none
theorem ixS_s : OpS K tb rIxS ixSD := fun φ ψ H m x y dx dy w Q R hx hy e k => by
  unfold ixSD at e
  split at e
  · split at e
    · rename_i hl
      obtain ⟨c, e1, e⟩ := bnd e
      cases e
      rw [hx.str, hy.int]
      exact ⟨_, _, c, rfl, rfl, Nat.le_trans hl (small (by decide)), e1, Go.val k R (.str _)⟩
    · cases e
  · cases e
theorem ex_ixS {a b : Expr} {fa fb : Ex} {pos : Pos} (ha : PE X a (T X.K tb fa)) (hb : PE X b (T X.K tb fb)) (hs : PlainIx b := by exact fun _ _ => rfl) : PE X (.Subscript a b pos) (T X.K tb (eOp ixSD fa fb)) :=
  pe_mono (pe_ix ix_str ha hb hs) fun _ _ _ h => op_go ixS_s h
def sgD (z : Str) : List D := z.cps.toList.map fun c => .str ⟨#[c]⟩
def iSgn (a : Ex) : Ix := fun ρ m => (a ρ m).bind fun p => match p.1 with
  | .v (.str z) => some (.seq (sgD z), p.2)
  | _ => none
theorem itr_s {φ ψ : List Addr} {H : Hp} (z : Str) : ItR K tb φ ψ H (Its z) (.seq (sgD z)) := fun φ2 ψ2 H2 m2 xs P2 R2 ex => by
  cases ex
  have hl : (sgD z).length = z.cps.size := by simp [sgD]
  refine ⟨fun i d hd => ?_, fun i hi => by rw [hl] at hi; exact hi⟩
  have hi : i < z.cps.size := by rw [← hl]; exact (List.getElem?_eq_some_iff.mp hd).1
  refine ⟨hi, fun x H3 hy => ?_⟩
  obtain ⟨rfl, c, hc, rfl⟩ := hy
  have e : (sgD z)[i]? = some (.str ⟨#[c]⟩) := by
    unfold sgD
    rw [List.getElem?_map, Array.getElem?_toList, hc]; rfl
  rw [e] at hd
  cases hd
  exact ⟨.refl, R2, .str _, fun _ _ z => z⟩
theorem ix_sgn {tg a : Expr} {fa : Ex} (ha : PE X a (T X.K tb fa)) : PI X tg a (Ti X.K tb (iSgn fa)) := by
  refine pi_mono (pi_str ha) fun σ H Q ⟨φ, ψ, ρ, m, it, m', R, E, e, k⟩ => ?_
  obtain ⟨⟨w1, m1⟩, e1, e⟩ := bnd e
  split at e
  · rename_i z hw
    cases e
    have hw' : w1 = .v (.str z) := hw
    subst hw'
    refine ⟨φ, ψ, ρ, m, _, m1, R, E, e1, fun φ1 ψ1 H1 v P1 R1 V1 => ?_⟩
    obtain ⟨rfl, hr⟩ := V1
    cases hr
    exact ⟨z, rfl, k φ1 H1 _ P1 R1 (itr_s z)⟩
  · cases e
def leSD : D → D → Option W
  | .str i, .str j => some (.v (.bl (!decide (j.cps.toList < i.cps.toList))))
  | _, _ => none
theorem leS_s : OpS K tb (fun x y H Q => ∃ i j, x = V.str i ∧ y = V.str j ∧ Q (.bl (!decide (j.cps.toList < i.cps.toList))) H) leSD := fun φ ψ H m x y dx dy w Q R hx hy e k => by
  unfold leSD at e
  split at e
  · cases e
    rw [hx.str, hy.str]
    exact ⟨_, _, rfl, rfl, Go.val k R (.bl _)⟩
  · cases e
def GlT0 (K : FRG) (mg : Str → Option Value) (x : Str) (ys : List Str) : Prop := ∃ (a : Addr) (o : Obj) (its : Array Value) (n : Nat), mg x = some (.ref a) ∧ K.lookup a = some o ∧ o.cls = .type "tuple" ∧ o.data = .seq its n ∧ its.size ≤ 1000000 ∧ Vals (ys.map V.str) its.toList ∧ o.dict = none
theorem GlT0.glT {mg : Str → Option Value} {x : Str} {ys : List Str} (h : GlT0 K mg x ys) : GlT K mg x ys := by
  obtain ⟨a, o, its, n, h1, h2, h3, h4, h5, h6, h7⟩ := h
  exact ⟨a, o, its, n, h1, h2, h3, h4, h5, h6⟩
def eGix (ys : List Str) (f : Ax) : Ex := fun ρ m => (f ρ m).bind fun p => match p.1 with
  | [.v (.str z)] => (ys.findIdx? fun y => y == z).bind fun k => some (.v (.int (k : Int)), p.2)
  | _ => none
theorem ex_gix {x : Str} {ys : List Str} {a : Expr} {f : Ax} {apos cpos q : Pos} {es : List Expr} (hg : Gl X x) (hm : GlT0 X.K X.mg x ys) (ha : PA X (a :: es) (Ta X.K tb f)) (hd : (x == ("__debug__" : Str)) = false := by decide)
    (hbase : attributeBase (.Name x q) "index" X.env (eval (.Name x q) X.env) = eval (.Name x q) X.env := by rfl)
    (hfew : ((backTo cpos (starEach (a :: es) X.env)).all (fun x => !x.1) && (backToKw cpos (keywordEach [] X.env)).all (fun x => x.1.isSome)
      && decide ((a :: es).length + ([] : List Keyword).length + (if ([] : List Keyword).isEmpty then 0 else 1) < 30)) = true := by rfl)
    (hline : (apos.endLine == cpos.line) = true := by rfl) (hst : starEach (a :: es) X.env = (false, eval a X.env) :: starEach es X.env := by rfl) (hplain : (backTo cpos (starEach es X.env)).any (·.1) = false := by rfl) :
    PE X (.Call (.Attribute (.Name x q) "index" apos) (a :: es) [] cpos) (T X.K tb (eGix ys f)) := by
  obtain ⟨ad, o, its, n, h1, h2, h3, h4, h5, h6, h7⟩ := hm
  refine pe_mono (pe_bm PySem.F.plainAttrs_tuple PySem.F.slot_tuple_index PySem.F.type_tuple_index mt_tup_index (pe_glob hg h1 (v := .ref ad) rfl hd) ha hbase hfew hline hst hplain) fun σ H Q ⟨φ, ψ, ρ, m, w, m', R, E, e, k⟩ => ?_
  obtain ⟨⟨ws, m2⟩, e2, e⟩ := bnd e
  refine ⟨.inr (.inl ⟨rfl, o, h2, h3, h7⟩), φ, ψ, ρ, m, ws, m2, R, E, e2, fun φ2 H2 vs P2 R2 V2 => ?_⟩
  split at e
  · rename_i z hw
    obtain ⟨j, e5, e⟩ := bnd e
    cases e
    have hw' : ws = [.v (.str z)] := hw
    subst hw'
    cases V2 with
    | cons hv r =>
      cases r
      cases hv
      obtain ⟨hj, hji, hjn⟩ := List.findIdx?_eq_some_iff_getElem.mp e5
      refine ⟨ad, ys, z, j, rfl, rfl, .inr ⟨o, its, n, h2, h3, h4, small h5, h6⟩, by rw [List.getElem?_eq_getElem hj, beq_iff_eq.mp hji], fun i hi hy => ?_, Go.val (fun φ3 ψ3 H3 v P3 R3 V3 => k φ3 ψ3 H3 v (P2.trans P3) R3 V3) R2 (.int _)⟩
      have h := hjn i hi
      rw [List.getElem?_eq_getElem (by omega)] at hy
      exact h (beq_iff_eq.mpr (Option.some.inj hy))
  · cases e
end
end Pw
end
section
set_option Elab.async false
set_option linter.all false
set_option maxRecDepth 100000
set_option maxHeartbeats 4000000
namespace Pw
open PySem PySem.Spec PyProof.Rows L2 Pv
def rLtP (K : FRG) : R2 := fun x y H Q => ∃ dx dy, Dp K H x dx ∧ Dp K H y dy ∧ PySem.W.alike dx dy = true ∧ dx ≠ .none ∧ PyData.depth dx ≤ 30 ∧ Q (.bl (PySem.W.dataLt dx dy)) H
theorem op_ltP {X : Cx} (hu : X.A.units + 64 < cLine) : OpR X (compareOp .Lt) (rLtP X.K) := by
  intro pins s σ H x y v u Q I rx ry h
  obtain ⟨dx, dy, h1, h2, ha, hn, hd, q⟩ := h
  obtain ⟨as, r1⟩ := Dp.reads I dx x v h1 rx
  obtain ⟨bs, r2⟩ := Dp.reads I dy y u h2 ry
  refine PySem.W.lt_data r1 r2 ha hn ?_ ⟨.bl (PySem.W.dataLt dx dy), H, I, rfl, q⟩
  have := Nat.min_le_left dx.depth dy.depth
  omega
open Classical in
noncomputable def ltPD : D → D → Option W := fun x y => (pyD x).bind fun dx => (pyD y).bind fun dy => if PySem.W.alike dx dy = true ∧ dx ≠ .none ∧ PyData.depth dx ≤ 30 then some (.v (.bl (PySem.W.dataLt dx dy))) else none
theorem ltP_s {K : FRG} {tb : List Addr} : OpS K tb (rLtP K) ltPD := fun φ ψ H m x y dx dy w Q R hx hy e k => by
  unfold ltPD at e
  obtain ⟨px, e1, e⟩ := bnd e
  obtain ⟨py, e2, e⟩ := bnd e
  split at e
  · rename_i hc
    cases e
    exact ⟨px, py, hx.dp e1, hy.dp e2, hc.1, hc.2.1, hc.2.2, Go.val k R (.bl _)⟩
  · cases e
def lenSD : List D → Option W
  | [.str z] => if z.length ≤ 1000000 then some (.v (.int z.length)) else none
  | _ => none
theorem lenS_s {K : FRG} {tb : List Addr} : CallS K tb (fun xs H Q => ∃ z, xs = [V.str z] ∧ z.length ≤ sizeLine ∧ Q (.int z.length) H) lenSD := fun φ ψ H m vs ds w Q R r e k => by
  unfold lenSD at e
  split at e
  · split at e
    · rename_i hl
      cases e
      cases r with
      | cons h1 r => cases r; rw [h1.str]; exact ⟨_, rfl, small hl, Go.val k R (.int _)⟩
    · cases e
  · cases e
end Pw
end
section
set_option Elab.async false
set_option linter.all false
set_option maxRecDepth 100000
set_option maxHeartbeats 4000000
namespace K92
open PySem PySem.Spec PyProof.Rows L2 Pw
def topS (i : Nat) : Stmt := PySem.Challenge.pw_thronewalk_k92_texts_read.main.body.getD i (.Pass ⟨0, 0, 0, 0⟩)
abbrev s_name : Stmt := topS 66
abbrev N_name : List Str := ["_law_who"]
abbrev P_name : List Str := ["_law_who"]
theorem sc_name : FnScope N_name P_name (defScope s_name) := ⟨rfl, rfl, rfl, by decide +kernel, rfl, by decide +kernel, by decide +kernel⟩
abbrev s_news_words : Stmt := topS 69
abbrev N_news_words : List Str := ["_law_news_here"]
abbrev P_news_words : List Str := ["_law_news_here"]
theorem sc_news_words : FnScope N_news_words P_news_words (defScope s_news_words) := ⟨rfl, rfl, rfl, by decide +kernel, rfl, by decide +kernel, by decide +kernel⟩
abbrev s_text : Stmt := topS 67
abbrev N_text : List Str := ["_law_rows_here", "_law_row_here"]
abbrev P_text : List Str := ["_law_rows_here"]
theorem sc_text : FnScope N_text P_text (defScope s_text) := ⟨rfl, rfl, rfl, by decide +kernel, rfl, by decide +kernel, by decide +kernel⟩
abbrev s_l_book_text : Stmt := topS 70
abbrev N_l_book_text : List Str := ["_law_book_here", "_law_news_here"]
abbrev P_l_book_text : List Str := ["_law_book_here"]
theorem sc_l_book_text : FnScope N_l_book_text P_l_book_text (defScope s_l_book_text) := ⟨rfl, rfl, rfl, by decide +kernel, rfl, by decide +kernel, by decide +kernel⟩
abbrev s_l_house_text : Stmt := topS 68
abbrev N_l_house_text : List Str := ["_law_house_here", "_law_rows_here", "_law_day_here", "_law_father", "_law_mother", "_law_man", "_law_wed"]
abbrev P_l_house_text : List Str := ["_law_house_here"]
theorem sc_l_house_text : FnScope N_l_house_text P_l_house_text (defScope s_l_house_text) := ⟨rfl, rfl, rfl, by decide +kernel, rfl, by decide +kernel, by decide +kernel⟩
abbrev s_is_plain : Stmt := topS 64
abbrev N_is_plain : List Str := ["_law_thing", "_law_part"]
abbrev P_is_plain : List Str := ["_law_thing"]
theorem sc_is_plain : FnScope N_is_plain P_is_plain (defScope s_is_plain) := ⟨rfl, rfl, rfl, by decide +kernel, rfl, by decide +kernel, by decide +kernel⟩
abbrev s_rows_text : Stmt := topS 71
abbrev N_rows_text : List Str := ["_law_rows_here", "_law_founder", "_law_men", "_law_wed", "_law_way"]
abbrev P_rows_text : List Str := ["_law_rows_here"]
theorem sc_rows_text : FnScope N_rows_text P_rows_text (defScope s_rows_text) := ⟨rfl, rfl, rfl, by decide +kernel, rfl, by decide +kernel, by decide +kernel⟩
abbrev s_who_word : Stmt := topS 41
abbrev N_who_word : List Str := ["who"]
abbrev P_who_word : List Str := ["who"]
theorem sc_who_word : FnScope N_who_word P_who_word (defScope s_who_word) := ⟨rfl, rfl, rfl, by decide +kernel, rfl, by decide +kernel, by decide +kernel⟩
abbrev s_news_line : Stmt := topS 39
abbrev N_news_line : List Str := ["news", "words", "word", "day", "who", "other"]
abbrev P_news_line : List Str := ["news"]
theorem sc_news_line : FnScope N_news_line P_news_line (defScope s_news_line) := ⟨rfl, rfl, rfl, by decide +kernel, rfl, by decide +kernel, by decide +kernel⟩
abbrev s_text_of : Stmt := topS 37
abbrev N_text_of : List Str := ["lines", "line"]
abbrev P_text_of : List Str := ["lines"]
theorem sc_text_of : FnScope N_text_of P_text_of (defScope s_text_of) := ⟨rfl, rfl, rfl, by decide +kernel, rfl, by decide +kernel, by decide +kernel⟩
abbrev s_book_text : Stmt := topS 35
abbrev N_book_text : List Str := ["book", "news"]
abbrev P_book_text : List Str := ["book"]
theorem sc_book_text : FnScope N_book_text P_book_text (defScope s_book_text) := ⟨rfl, rfl, rfl, by decide +kernel, rfl, by decide +kernel, by decide +kernel⟩
abbrev s_folk_line : Stmt := topS 38
abbrev N_folk_line : List Str := ["folk", "day", "father", "mother", "man", "wed"]
abbrev P_folk_line : List Str := ["folk"]
theorem sc_folk_line : FnScope N_folk_line P_folk_line (defScope s_folk_line) := ⟨rfl, rfl, rfl, by decide +kernel, rfl, by decide +kernel, by decide +kernel⟩
abbrev s_house_text : Stmt := topS 34
abbrev N_house_text : List Str := ["house", "folk"]
abbrev P_house_text : List Str := ["house"]
theorem sc_house_text : FnScope N_house_text P_house_text (defScope s_house_text) := ⟨rfl, rfl, rfl, by decide +kernel, rfl, by decide +kernel, by decide +kernel⟩
abbrev s_day_of : Stmt := topS 15
abbrev N_day_of : List Str := ["house", "who"]
abbrev P_day_of : List Str := ["house", "who"]
theorem sc_day_of : FnScope N_day_of P_day_of (defScope s_day_of) := ⟨rfl, rfl, rfl, by decide +kernel, rfl, by decide +kernel, by decide +kernel⟩
abbrev s_is_number : Stmt := topS 4
abbrev N_is_number : List Str := ["thing"]
abbrev P_is_number : List Str := ["thing"]
theorem sc_is_number : FnScope N_is_number P_is_number (defScope s_is_number) := ⟨rfl, rfl, rfl, by decide +kernel, rfl, by decide +kernel, by decide +kernel⟩
abbrev s_is_folk_of : Stmt := topS 14
abbrev N_is_folk_of : List Str := ["house", "thing"]
abbrev P_is_folk_of : List Str := ["house", "thing"]
theorem sc_is_folk_of : FnScope N_is_folk_of P_is_folk_of (defScope s_is_folk_of) := ⟨rfl, rfl, rfl, by decide +kernel, rfl, by decide +kernel, by decide +kernel⟩
abbrev s_is_tuple_of : Stmt := topS 5
abbrev N_is_tuple_of : List Str := ["thing", "many"]
abbrev P_is_tuple_of : List Str := ["thing", "many"]
theorem sc_is_tuple_of : FnScope N_is_tuple_of P_is_tuple_of (defScope s_is_tuple_of) := ⟨rfl, rfl, rfl, by decide +kernel, rfl, by decide +kernel, by decide +kernel⟩
abbrev s_is_man : Stmt := topS 16
abbrev N_is_man : List Str := ["house", "who"]
abbrev P_is_man : List Str := ["house", "who"]
theorem sc_is_man : FnScope N_is_man P_is_man (defScope s_is_man) := ⟨rfl, rfl, rfl, by decide +kernel, rfl, by decide +kernel, by decide +kernel⟩
abbrev s_may_await : Stmt := topS 22
abbrev N_may_await : List Str := ["house", "day", "who", "other"]
abbrev P_may_await : List Str := ["house", "day", "who", "other"]
theorem sc_may_await : FnScope N_may_await P_may_await (defScope s_may_await) := ⟨rfl, rfl, rfl, by decide +kernel, rfl, by decide +kernel, by decide +kernel⟩
abbrev s_is_news : Stmt := topS 21
abbrev N_is_news : List Str := ["house", "thing", "word", "day", "who", "other"]
abbrev P_is_news : List Str := ["house", "thing"]
theorem sc_is_news : FnScope N_is_news P_is_news (defScope s_is_news) := ⟨rfl, rfl, rfl, by decide +kernel, rfl, by decide +kernel, by decide +kernel⟩
abbrev s_is_rising : Stmt := topS 6
abbrev N_is_rising : List Str := ["things", "at"]
abbrev P_is_rising : List Str := ["things"]
theorem sc_is_rising : FnScope N_is_rising P_is_rising (defScope s_is_rising) := ⟨rfl, rfl, rfl, by decide +kernel, rfl, by decide +kernel, by decide +kernel⟩
abbrev s_is_book : Stmt := topS 20
abbrev N_is_book : List Str := ["house", "thing", "news"]
abbrev P_is_book : List Str := ["house", "thing"]
theorem sc_is_book : FnScope N_is_book P_is_book (defScope s_is_book) := ⟨rfl, rfl, rfl, by decide +kernel, rfl, by decide +kernel, by decide +kernel⟩
abbrev s_lines_of : Stmt := topS 47
abbrev N_lines_of : List Str := ["thing", "lines", "line"]
abbrev P_lines_of : List Str := ["thing"]
theorem sc_lines_of : FnScope N_lines_of P_lines_of (defScope s_lines_of) := ⟨rfl, rfl, rfl, by decide +kernel, rfl, by decide +kernel, by decide +kernel⟩
abbrev s_is_written_number : Stmt := topS 51
abbrev N_is_written_number : List Str := ["word", "sign"]
abbrev P_is_written_number : List Str := ["word"]
theorem sc_is_written_number : FnScope N_is_written_number P_is_written_number (defScope s_is_written_number) := ⟨rfl, rfl, rfl, by decide +kernel, rfl, by decide +kernel, by decide +kernel⟩
abbrev s_is_written_who : Stmt := topS 52
abbrev N_is_written_who : List Str := ["word"]
abbrev P_is_written_who : List Str := ["word"]
theorem sc_is_written_who : FnScope N_is_written_who P_is_written_who (defScope s_is_written_who) := ⟨rfl, rfl, rfl, by decide +kernel, rfl, by decide +kernel, by decide +kernel⟩
abbrev s_number_of : Stmt := topS 53
abbrev N_number_of : List Str := ["word"]
abbrev P_number_of : List Str := ["word"]
theorem sc_number_of : FnScope N_number_of P_number_of (defScope s_number_of) := ⟨rfl, rfl, rfl, by decide +kernel, rfl, by decide +kernel, by decide +kernel⟩
abbrev s_who_of : Stmt := topS 54
abbrev N_who_of : List Str := ["word"]
abbrev P_who_of : List Str := ["word"]
theorem sc_who_of : FnScope N_who_of P_who_of (defScope s_who_of) := ⟨rfl, rfl, rfl, by decide +kernel, rfl, by decide +kernel, by decide +kernel⟩
abbrev s_news_of : Stmt := topS 49
abbrev N_news_of : List Str := ["words", "other"]
abbrev P_news_of : List Str := ["words"]
theorem sc_news_of : FnScope N_news_of P_news_of (defScope s_news_of) := ⟨rfl, rfl, rfl, by decide +kernel, rfl, by decide +kernel, by decide +kernel⟩
abbrev s_read_book : Stmt := topS 45
abbrev N_read_book : List Str := ["house", "thing", "book", "words"]
abbrev P_read_book : List Str := ["house", "thing"]
theorem sc_read_book : FnScope N_read_book P_read_book (defScope s_read_book) := ⟨rfl, rfl, rfl, by decide +kernel, rfl, by decide +kernel, by decide +kernel⟩
abbrev s_folk_of : Stmt := topS 48
abbrev N_folk_of : List Str := ["words"]
abbrev P_folk_of : List Str := ["words"]
theorem sc_folk_of : FnScope N_folk_of P_folk_of (defScope s_folk_of) := ⟨rfl, rfl, rfl, by decide +kernel, rfl, by decide +kernel, by decide +kernel⟩
abbrev s_parent_fits : Stmt := topS 13
abbrev N_parent_fits : List Str := ["house", "who", "parent", "man"]
abbrev P_parent_fits : List Str := ["house", "who", "parent", "man"]
theorem sc_parent_fits : FnScope N_parent_fits P_parent_fits (defScope s_parent_fits) := ⟨rfl, rfl, rfl, by decide +kernel, rfl, by decide +kernel, by decide +kernel⟩
abbrev s_fits_in : Stmt := topS 12
abbrev N_fits_in : List Str := ["house", "who"]
abbrev P_fits_in : List Str := ["house", "who"]
theorem sc_fits_in : FnScope N_fits_in P_fits_in (defScope s_fits_in) := ⟨rfl, rfl, rfl, by decide +kernel, rfl, by decide +kernel, by decide +kernel⟩
abbrev s_has_folk_form : Stmt := topS 11
abbrev N_has_folk_form : List Str := ["thing", "day", "father", "mother", "man", "wed", "part"]
abbrev P_has_folk_form : List Str := ["thing"]
theorem sc_has_folk_form : FnScope N_has_folk_form P_has_folk_form (defScope s_has_folk_form) := ⟨rfl, rfl, rfl, by decide +kernel, rfl, by decide +kernel, by decide +kernel⟩
abbrev s_is_house : Stmt := topS 10
abbrev N_is_house : List Str := ["thing", "who", "folk"]
abbrev P_is_house : List Str := ["thing"]
theorem sc_is_house : FnScope N_is_house P_is_house (defScope s_is_house) := ⟨rfl, rfl, rfl, by decide +kernel, rfl, by decide +kernel, by decide +kernel⟩
abbrev s_read_house : Stmt := topS 44
abbrev N_read_house : List Str := ["thing", "house", "words"]
abbrev P_read_house : List Str := ["thing"]
theorem sc_read_house : FnScope N_read_house P_read_house (defScope s_read_house) := ⟨rfl, rfl, rfl, by decide +kernel, rfl, by decide +kernel, by decide +kernel⟩
abbrev s_is_row : Stmt := topS 28
abbrev N_is_row : List Str := ["house", "thing", "founder", "men", "wed", "way"]
abbrev P_is_row : List Str := ["house", "thing"]
theorem sc_is_row : FnScope N_is_row P_is_row (defScope s_is_row) := ⟨rfl, rfl, rfl, by decide +kernel, rfl, by decide +kernel, by decide +kernel⟩
abbrev s_is_rule : Stmt := topS 27
abbrev N_is_rule : List Str := ["house", "thing", "begins", "row"]
abbrev P_is_rule : List Str := ["house", "thing"]
theorem sc_is_rule : FnScope N_is_rule P_is_rule (defScope s_is_rule) := ⟨rfl, rfl, rfl, by decide +kernel, rfl, by decide +kernel, by decide +kernel⟩
abbrev s_row_of : Stmt := topS 50
abbrev N_row_of : List Str := ["words"]
abbrev P_row_of : List Str := ["words"]
theorem sc_row_of : FnScope N_row_of P_row_of (defScope s_row_of) := ⟨rfl, rfl, rfl, by decide +kernel, rfl, by decide +kernel, by decide +kernel⟩
abbrev s_read_rule : Stmt := topS 46
abbrev N_read_rule : List Str := ["house", "thing", "rule", "words"]
abbrev P_read_rule : List Str := ["house", "thing"]
theorem sc_read_rule : FnScope N_read_rule P_read_rule (defScope s_read_rule) := ⟨rfl, rfl, rfl, by decide +kernel, rfl, by decide +kernel, by decide +kernel⟩
abbrev s_row_line : Stmt := topS 40
abbrev N_row_line : List Str := ["row", "founder", "men", "wed", "way"]
abbrev P_row_line : List Str := ["row"]
theorem sc_row_line : FnScope N_row_line P_row_line (defScope s_row_line) := ⟨rfl, rfl, rfl, by decide +kernel, rfl, by decide +kernel, by decide +kernel⟩
abbrev s_rule_text : Stmt := topS 36
abbrev N_rule_text : List Str := ["rule", "row"]
abbrev P_rule_text : List Str := ["rule"]
theorem sc_rule_text : FnScope N_rule_text P_rule_text (defScope s_rule_text) := ⟨rfl, rfl, rfl, by decide +kernel, rfl, by decide +kernel, by decide +kernel⟩
abbrev s_right : Stmt := topS 72
abbrev N_right : List Str := ["_law_house_here", "_law_book_here", "_law_rules", "_law_found", "_law_told", "_law_rows_here"]
abbrev P_right : List Str := ["_law_house_here", "_law_book_here", "_law_rules"]
theorem sc_right : FnScope N_right P_right (defScope s_right) := ⟨rfl, rfl, rfl, by decide +kernel, rfl, by decide +kernel, by decide +kernel⟩
abbrev s_take : Stmt := topS 56
abbrev N_take : List Str := ["_law_state", "_law_below", "_law_cell", "_law_found"]
abbrev P_take : List Str := ["_law_state", "_law_below"]
theorem sc_take : FnScope N_take P_take (defScope s_take) := ⟨rfl, rfl, rfl, by decide +kernel, rfl, by decide +kernel, by decide +kernel⟩
abbrev s_row : Stmt := topS 61
abbrev N_row : List Str := ["_law_state", "_law_house_here", "_law_founder", "_law_men"]
abbrev P_row : List Str := ["_law_state", "_law_house_here"]
theorem sc_row : FnScope N_row P_row (defScope s_row) := ⟨rfl, rfl, rfl, by decide +kernel, rfl, by decide +kernel, by decide +kernel⟩
abbrev s_rows : Stmt := topS 63
abbrev N_rows : List Str := ["_law_state", "_law_house_here", "_law_rows_here", "_law_late", "_law_at", "_law_k", "_law_row_here"]
abbrev P_rows : List Str := ["_law_state", "_law_house_here"]
theorem sc_rows : FnScope N_rows P_rows (defScope s_rows) := ⟨rfl, rfl, rfl, by decide +kernel, rfl, by decide +kernel, by decide +kernel⟩
abbrev s_news : Stmt := topS 59
abbrev N_news : List Str := ["_law_state", "_law_house_here", "_law_word", "_law_who", "_law_near", "_law_day_here", "_law_others", "_law_k"]
abbrev P_news : List Str := ["_law_state", "_law_house_here"]
theorem sc_news : FnScope N_news P_news (defScope s_news) := ⟨rfl, rfl, rfl, by decide +kernel, rfl, by decide +kernel, by decide +kernel⟩
abbrev s_book : Stmt := topS 60
abbrev N_book : List Str := ["_law_state", "_law_house_here", "_law_most", "_law_k"]
abbrev P_book : List Str := ["_law_state", "_law_house_here", "_law_most"]
theorem sc_book : FnScope N_book P_book (defScope s_book) := ⟨rfl, rfl, rfl, by decide +kernel, rfl, by decide +kernel, by decide +kernel⟩
abbrev s_day : Stmt := topS 62
abbrev N_day : List Str := ["_law_state", "_law_house_here", "_law_near"]
abbrev P_day : List Str := ["_law_state", "_law_house_here"]
theorem sc_day : FnScope N_day P_day (defScope s_day) := ⟨rfl, rfl, rfl, by decide +kernel, rfl, by decide +kernel, by decide +kernel⟩
abbrev s_parent : Stmt := topS 57
abbrev N_parent : List Str := ["_law_state", "_law_folk", "_law_day_here", "_law_man", "_law_some_here", "_law_k"]
abbrev P_parent : List Str := ["_law_state", "_law_folk", "_law_day_here", "_law_man"]
theorem sc_parent : FnScope N_parent P_parent (defScope s_parent) := ⟨rfl, rfl, rfl, by decide +kernel, rfl, by decide +kernel, by decide +kernel⟩
abbrev s_house : Stmt := topS 58
abbrev N_house : List Str := ["_law_state", "_law_most", "_law_many", "_law_day_here", "_law_folk", "_law_k", "_law_father", "_law_mother", "_law_man"]
abbrev P_house : List Str := ["_law_state", "_law_most"]
theorem sc_house : FnScope N_house P_house (defScope s_house) := ⟨rfl, rfl, rfl, by decide +kernel, rfl, by decide +kernel, by decide +kernel⟩
abbrev s_some : Stmt := topS 65
abbrev N_some : List Str := ["_law_state", "_law_few", "_law_great", "_law_house_here", "_law_book_here"]
abbrev P_some : List Str := ["_law_state", "_law_few"]
theorem sc_some : FnScope N_some P_some (defScope s_some) := ⟨rfl, rfl, rfl, by decide +kernel, rfl, by decide +kernel, by decide +kernel⟩
abbrev s_law : Stmt := topS 73
abbrev N_law : List Str := ["_law_script", "_law_state", "_law_some_here", "_law_turn", "_law_k", "_law_house_here", "_law_book_here", "_law_day_here"]
abbrev P_law : List Str := ["_law_script"]
theorem sc_law : FnScope N_law P_law (defScope s_law) := ⟨rfl, rfl, rfl, by decide +kernel, rfl, by decide +kernel, by decide +kernel⟩
structure Ctx (K : FRG) (mg : Str → Option Value) (tb : List Addr) where
  f_name : Addr
  fd_name : FuncData
  cd_name : Value
  F_name : FunC K "_law_name" "_law_name" s_name f_name fd_name cd_name
  b_name : Binds K fd_name P_name []
  g_name : mg "_law_name" = some (.ref f_name)
  f_news_words : Addr
  fd_news_words : FuncData
  cd_news_words : Value
  F_news_words : FunC K "_law_news_words" "_law_news_words" s_news_words f_news_words fd_news_words cd_news_words
  b_news_words : Binds K fd_news_words P_news_words []
  g_news_words : mg "_law_news_words" = some (.ref f_news_words)
  f_text : Addr
  fd_text : FuncData
  cd_text : Value
  F_text : FunC K "_law_text" "_law_text" s_text f_text fd_text cd_text
  b_text : Binds K fd_text P_text []
  g_text : mg "_law_text" = some (.ref f_text)
  f_l_book_text : Addr
  fd_l_book_text : FuncData
  cd_l_book_text : Value
  F_l_book_text : FunC K "_law_book_text" "_law_book_text" s_l_book_text f_l_book_text fd_l_book_text cd_l_book_text
  b_l_book_text : Binds K fd_l_book_text P_l_book_text []
  g_l_book_text : mg "_law_book_text" = some (.ref f_l_book_text)
  f_l_house_text : Addr
  fd_l_house_text : FuncData
  cd_l_house_text : Value
  F_l_house_text : FunC K "_law_house_text" "_law_house_text" s_l_house_text f_l_house_text fd_l_house_text cd_l_house_text
  b_l_house_text : Binds K fd_l_house_text P_l_house_text []
  g_l_house_text : mg "_law_house_text" = some (.ref f_l_house_text)
  f_is_plain : Addr
  fd_is_plain : FuncData
  cd_is_plain : Value
  F_is_plain : FunC K "_law_is_plain" "_law_is_plain" s_is_plain f_is_plain fd_is_plain cd_is_plain
  b_is_plain : Binds K fd_is_plain P_is_plain []
  g_is_plain : mg "_law_is_plain" = some (.ref f_is_plain)
  f_rows_text : Addr
  fd_rows_text : FuncData
  cd_rows_text : Value
  F_rows_text : FunC K "_law_rows_text" "_law_rows_text" s_rows_text f_rows_text fd_rows_text cd_rows_text
  b_rows_text : Binds K fd_rows_text P_rows_text []
  g_rows_text : mg "_law_rows_text" = some (.ref f_rows_text)
  f_who_word : Addr
  fd_who_word : FuncData
  cd_who_word : Value
  F_who_word : FunC K "who_word" "who_word" s_who_word f_who_word fd_who_word cd_who_word
  b_who_word : Binds K fd_who_word P_who_word []
  g_who_word : mg "who_word" = some (.ref f_who_word)
  f_news_line : Addr
  fd_news_line : FuncData
  cd_news_line : Value
  F_news_line : FunC K "news_line" "news_line" s_news_line f_news_line fd_news_line cd_news_line
  b_news_line : Binds K fd_news_line P_news_line []
  g_news_line : mg "news_line" = some (.ref f_news_line)
  f_text_of : Addr
  fd_text_of : FuncData
  cd_text_of : Value
  F_text_of : FunC K "text_of" "text_of" s_text_of f_text_of fd_text_of cd_text_of
  b_text_of : Binds K fd_text_of P_text_of []
  g_text_of : mg "text_of" = some (.ref f_text_of)
  f_book_text : Addr
  fd_book_text : FuncData
  cd_book_text : Value
  F_book_text : FunC K "book_text" "book_text" s_book_text f_book_text fd_book_text cd_book_text
  b_book_text : Binds K fd_book_text P_book_text []
  g_book_text : mg "book_text" = some (.ref f_book_text)
  f_folk_line : Addr
  fd_folk_line : FuncData
  cd_folk_line : Value
  F_folk_line : FunC K "folk_line" "folk_line" s_folk_line f_folk_line fd_folk_line cd_folk_line
  b_folk_line : Binds K fd_folk_line P_folk_line []
  g_folk_line : mg "folk_line" = some (.ref f_folk_line)
  f_house_text : Addr
  fd_house_text : FuncData
  cd_house_text : Value
  F_house_text : FunC K "house_text" "house_text" s_house_text f_house_text fd_house_text cd_house_text
  b_house_text : Binds K fd_house_text P_house_text []
  g_house_text : mg "house_text" = some (.ref f_house_text)
  f_day_of : Addr
  fd_day_of : FuncData
  cd_day_of : Value
  F_day_of : FunC K "day_of" "day_of" s_day_of f_day_of fd_day_of cd_day_of
  b_day_of : Binds K fd_day_of P_day_of []
  g_day_of : mg "day_of" = some (.ref f_day_of)
  f_is_number : Addr
  fd_is_number : FuncData
  cd_is_number : Value
  F_is_number : FunC K "is_number" "is_number" s_is_number f_is_number fd_is_number cd_is_number
  b_is_number : Binds K fd_is_number P_is_number []
  g_is_number : mg "is_number" = some (.ref f_is_number)
  f_is_folk_of : Addr
  fd_is_folk_of : FuncData
  cd_is_folk_of : Value
  F_is_folk_of : FunC K "is_folk_of" "is_folk_of" s_is_folk_of f_is_folk_of fd_is_folk_of cd_is_folk_of
  b_is_folk_of : Binds K fd_is_folk_of P_is_folk_of []
  g_is_folk_of : mg "is_folk_of" = some (.ref f_is_folk_of)
  f_is_tuple_of : Addr
  fd_is_tuple_of : FuncData
  cd_is_tuple_of : Value
  F_is_tuple_of : FunC K "is_tuple_of" "is_tuple_of" s_is_tuple_of f_is_tuple_of fd_is_tuple_of cd_is_tuple_of
  b_is_tuple_of : Binds K fd_is_tuple_of P_is_tuple_of []
  g_is_tuple_of : mg "is_tuple_of" = some (.ref f_is_tuple_of)
  f_is_man : Addr
  fd_is_man : FuncData
  cd_is_man : Value
  F_is_man : FunC K "is_man" "is_man" s_is_man f_is_man fd_is_man cd_is_man
  b_is_man : Binds K fd_is_man P_is_man []
  g_is_man : mg "is_man" = some (.ref f_is_man)
  f_may_await : Addr
  fd_may_await : FuncData
  cd_may_await : Value
  F_may_await : FunC K "may_await" "may_await" s_may_await f_may_await fd_may_await cd_may_await
  b_may_await : Binds K fd_may_await P_may_await []
  g_may_await : mg "may_await" = some (.ref f_may_await)
  f_is_news : Addr
  fd_is_news : FuncData
  cd_is_news : Value
  F_is_news : FunC K "is_news" "is_news" s_is_news f_is_news fd_is_news cd_is_news
  b_is_news : Binds K fd_is_news P_is_news []
  g_is_news : mg "is_news" = some (.ref f_is_news)
  f_is_rising : Addr
  fd_is_rising : FuncData
  cd_is_rising : Value
  F_is_rising : FunC K "is_rising" "is_rising" s_is_rising f_is_rising fd_is_rising cd_is_rising
  b_is_rising : Binds K fd_is_rising P_is_rising []
  g_is_rising : mg "is_rising" = some (.ref f_is_rising)
  co_is_rising : Addr
  tb_is_rising : Addr
  c_is_rising : cd_is_rising = .ref co_is_rising
  m_is_rising : InTb K tb tb_is_rising
  f_is_book : Addr
  fd_is_book : FuncData
  cd_is_book : Value
  F_is_book : FunC K "is_book" "is_book" s_is_book f_is_book fd_is_book cd_is_book
  b_is_book : Binds K fd_is_book P_is_book []
  g_is_book : mg "is_book" = some (.ref f_is_book)
  co_is_book : Addr
  tb_is_book : Addr
  c_is_book : cd_is_book = .ref co_is_book
  m_is_book : InTb K tb tb_is_book
  f_lines_of : Addr
  fd_lines_of : FuncData
  cd_lines_of : Value
  F_lines_of : FunC K "lines_of" "lines_of" s_lines_of f_lines_of fd_lines_of cd_lines_of
  b_lines_of : Binds K fd_lines_of P_lines_of []
  g_lines_of : mg "lines_of" = some (.ref f_lines_of)
  f_is_written_number : Addr
  fd_is_written_number : FuncData
  cd_is_written_number : Value
  F_is_written_number : FunC K "is_written_number" "is_written_number" s_is_written_number f_is_written_number fd_is_written_number cd_is_written_number
  b_is_written_number : Binds K fd_is_written_number P_is_written_number []
  g_is_written_number : mg "is_written_number" = some (.ref f_is_written_number)
  co_is_written_number : Addr
  tb_is_written_number : Addr
  c_is_written_number : cd_is_written_number = .ref co_is_written_number
  m_is_written_number : InTb K tb tb_is_written_number
  f_is_written_who : Addr
  fd_is_written_who : FuncData
  cd_is_written_who : Value
  F_is_written_who : FunC K "is_written_who" "is_written_who" s_is_written_who f_is_written_who fd_is_written_who cd_is_written_who
  b_is_written_who : Binds K fd_is_written_who P_is_written_who []
  g_is_written_who : mg "is_written_who" = some (.ref f_is_written_who)
  f_number_of : Addr
  fd_number_of : FuncData
  cd_number_of : Value
  F_number_of : FunC K "number_of" "number_of" s_number_of f_number_of fd_number_of cd_number_of
  b_number_of : Binds K fd_number_of P_number_of []
  g_number_of : mg "number_of" = some (.ref f_number_of)
  f_who_of : Addr
  fd_who_of : FuncData
  cd_who_of : Value
  F_who_of : FunC K "who_of" "who_of" s_who_of f_who_of fd_who_of cd_who_of
  b_who_of : Binds K fd_who_of P_who_of []
  g_who_of : mg "who_of" = some (.ref f_who_of)
  f_news_of : Addr
  fd_news_of : FuncData
  cd_news_of : Value
  F_news_of : FunC K "news_of" "news_of" s_news_of f_news_of fd_news_of cd_news_of
  b_news_of : Binds K fd_news_of P_news_of []
  g_news_of : mg "news_of" = some (.ref f_news_of)
  f_read_book : Addr
  fd_read_book : FuncData
  cd_read_book : Value
  F_read_book : FunC K "read_book" "read_book" s_read_book f_read_book fd_read_book cd_read_book
  b_read_book : Binds K fd_read_book P_read_book []
  g_read_book : mg "read_book" = some (.ref f_read_book)
  co_read_book : Addr
  tb_read_book : Addr
  c_read_book : cd_read_book = .ref co_read_book
  m_read_book : InTb K tb tb_read_book
  f_folk_of : Addr
  fd_folk_of : FuncData
  cd_folk_of : Value
  F_folk_of : FunC K "folk_of" "folk_of" s_folk_of f_folk_of fd_folk_of cd_folk_of
  b_folk_of : Binds K fd_folk_of P_folk_of []
  g_folk_of : mg "folk_of" = some (.ref f_folk_of)
  f_parent_fits : Addr
  fd_parent_fits : FuncData
  cd_parent_fits : Value
  F_parent_fits : FunC K "parent_fits" "parent_fits" s_parent_fits f_parent_fits fd_parent_fits cd_parent_fits
  b_parent_fits : Binds K fd_parent_fits P_parent_fits []
  g_parent_fits : mg "parent_fits" = some (.ref f_parent_fits)
  f_fits_in : Addr
  fd_fits_in : FuncData
  cd_fits_in : Value
  F_fits_in : FunC K "fits_in" "fits_in" s_fits_in f_fits_in fd_fits_in cd_fits_in
  b_fits_in : Binds K fd_fits_in P_fits_in []
  g_fits_in : mg "fits_in" = some (.ref f_fits_in)
  f_has_folk_form : Addr
  fd_has_folk_form : FuncData
  cd_has_folk_form : Value
  F_has_folk_form : FunC K "has_folk_form" "has_folk_form" s_has_folk_form f_has_folk_form fd_has_folk_form cd_has_folk_form
  b_has_folk_form : Binds K fd_has_folk_form P_has_folk_form []
  g_has_folk_form : mg "has_folk_form" = some (.ref f_has_folk_form)
  co_has_folk_form : Addr
  tb_has_folk_form : Addr
  c_has_folk_form : cd_has_folk_form = .ref co_has_folk_form
  m_has_folk_form : InTb K tb tb_has_folk_form
  f_is_house : Addr
  fd_is_house : FuncData
  cd_is_house : Value
  F_is_house : FunC K "is_house" "is_house" s_is_house f_is_house fd_is_house cd_is_house
  b_is_house : Binds K fd_is_house P_is_house []
  g_is_house : mg "is_house" = some (.ref f_is_house)
  co_is_house : Addr
  tb_is_house : Addr
  c_is_house : cd_is_house = .ref co_is_house
  m_is_house : InTb K tb tb_is_house
  f_read_house : Addr
  fd_read_house : FuncData
  cd_read_house : Value
  F_read_house : FunC K "read_house" "read_house" s_read_house f_read_house fd_read_house cd_read_house
  b_read_house : Binds K fd_read_house P_read_house []
  g_read_house : mg "read_house" = some (.ref f_read_house)
  co_read_house : Addr
  tb_read_house : Addr
  c_read_house : cd_read_house = .ref co_read_house
  m_read_house : InTb K tb tb_read_house
  f_is_row : Addr
  fd_is_row : FuncData
  cd_is_row : Value
  F_is_row : FunC K "is_row" "is_row" s_is_row f_is_row fd_is_row cd_is_row
  b_is_row : Binds K fd_is_row P_is_row []
  g_is_row : mg "is_row" = some (.ref f_is_row)
  f_is_rule : Addr
  fd_is_rule : FuncData
  cd_is_rule : Value
  F_is_rule : FunC K "is_rule" "is_rule" s_is_rule f_is_rule fd_is_rule cd_is_rule
  b_is_rule : Binds K fd_is_rule P_is_rule []
  g_is_rule : mg "is_rule" = some (.ref f_is_rule)
  co_is_rule : Addr
  tb_is_rule : Addr
  c_is_rule : cd_is_rule = .ref co_is_rule
  m_is_rule : InTb K tb tb_is_rule
  f_row_of : Addr
  fd_row_of : FuncData
  cd_row_of : Value
  F_row_of : FunC K "row_of" "row_of" s_row_of f_row_of fd_row_of cd_row_of
  b_row_of : Binds K fd_row_of P_row_of []
  g_row_of : mg "row_of" = some (.ref f_row_of)
  f_read_rule : Addr
  fd_read_rule : FuncData
  cd_read_rule : Value
  F_read_rule : FunC K "read_rule" "read_rule" s_read_rule f_read_rule fd_read_rule cd_read_rule
  b_read_rule : Binds K fd_read_rule P_read_rule []
  g_read_rule : mg "read_rule" = some (.ref f_read_rule)
  co_read_rule : Addr
  tb_read_rule : Addr
  c_read_rule : cd_read_rule = .ref co_read_rule
  m_read_rule : InTb K tb tb_read_rule
  f_row_line : Addr
  fd_row_line : FuncData
  cd_row_line : Value
  F_row_line : FunC K "row_line" "row_line" s_row_line f_row_line fd_row_line cd_row_line
  b_row_line : Binds K fd_row_line P_row_line []
  g_row_line : mg "row_line" = some (.ref f_row_line)
  f_rule_text : Addr
  fd_rule_text : FuncData
  cd_rule_text : Value
  F_rule_text : FunC K "rule_text" "rule_text" s_rule_text f_rule_text fd_rule_text cd_rule_text
  b_rule_text : Binds K fd_rule_text P_rule_text []
  g_rule_text : mg "rule_text" = some (.ref f_rule_text)
  f_right : Addr
  fd_right : FuncData
  cd_right : Value
  F_right : FunC K "_law_right" "_law_right" s_right f_right fd_right cd_right
  b_right : Binds K fd_right P_right []
  g_right : mg "_law_right" = some (.ref f_right)
  f_take : Addr
  fd_take : FuncData
  cd_take : Value
  F_take : FunC K "_law_take" "_law_take" s_take f_take fd_take cd_take
  b_take : Binds K fd_take P_take []
  g_take : mg "_law_take" = some (.ref f_take)
  f_row : Addr
  fd_row : FuncData
  cd_row : Value
  F_row : FunC K "_law_row" "_law_row" s_row f_row fd_row cd_row
  b_row : Binds K fd_row P_row []
  g_row : mg "_law_row" = some (.ref f_row)
  f_rows : Addr
  fd_rows : FuncData
  cd_rows : Value
  F_rows : FunC K "_law_rows" "_law_rows" s_rows f_rows fd_rows cd_rows
  b_rows : Binds K fd_rows P_rows []
  g_rows : mg "_law_rows" = some (.ref f_rows)
  f_news : Addr
  fd_news : FuncData
  cd_news : Value
  F_news : FunC K "_law_news" "_law_news" s_news f_news fd_news cd_news
  b_news : Binds K fd_news P_news []
  g_news : mg "_law_news" = some (.ref f_news)
  f_book : Addr
  fd_book : FuncData
  cd_book : Value
  F_book : FunC K "_law_book" "_law_book" s_book f_book fd_book cd_book
  b_book : Binds K fd_book P_book []
  g_book : mg "_law_book" = some (.ref f_book)
  f_day : Addr
  fd_day : FuncData
  cd_day : Value
  F_day : FunC K "_law_day" "_law_day" s_day f_day fd_day cd_day
  b_day : Binds K fd_day P_day []
  g_day : mg "_law_day" = some (.ref f_day)
  f_parent : Addr
  fd_parent : FuncData
  cd_parent : Value
  F_parent : FunC K "_law_parent" "_law_parent" s_parent f_parent fd_parent cd_parent
  b_parent : Binds K fd_parent P_parent []
  g_parent : mg "_law_parent" = some (.ref f_parent)
  f_house : Addr
  fd_house : FuncData
  cd_house : Value
  F_house : FunC K "_law_house" "_law_house" s_house f_house fd_house cd_house
  b_house : Binds K fd_house P_house []
  g_house : mg "_law_house" = some (.ref f_house)
  f_some : Addr
  fd_some : FuncData
  cd_some : Value
  F_some : FunC K "_law_some" "_law_some" s_some f_some fd_some cd_some
  b_some : Binds K fd_some P_some []
  g_some : mg "_law_some" = some (.ref f_some)
  f_law : Addr
  fd_law : FuncData
  cd_law : Value
  F_law : FunC K "law" "law" s_law f_law fd_law cd_law
  b_law : Binds K fd_law P_law []
  g_law : mg "law" = some (.ref f_law)
  z_all : mg "all" = none
  z_bool : mg "bool" = none
  z_int : mg "int" = none
  z_isinstance : mg "isinstance" = none
  z_len : mg "len" = none
  z_max : mg "max" = none
  z_min : mg "min" = none
  z_range : mg "range" = none
  z_set : mg "set" = none
  z_sorted : mg "sorted" = none
  z_str : mg "str" = none
  z_tuple : mg "tuple" = none
  v_BIRTHS : GlT0 K mg "BIRTHS" ["unwed", "wed"]
  v_COUNTED : GlT0 K mg "COUNTED" ["all", "wed"]
  v_LAST_DAY : GlI mg "LAST_DAY" 99999
  v_MEN : GlT0 K mg "MEN" ["alike", "first", "only"]
  v_MOST_FIGURES : GlI mg "MOST_FIGURES" 5
  v_MOST_FOLK : GlI mg "MOST_FOLK" 60
  v_MOST_NEWS : GlI mg "MOST_NEWS" 60
  v_MOST_ROWS : GlI mg "MOST_ROWS" 3
  v_NOBODY : GlS mg "NOBODY" "-"
  v_SEXES : GlT0 K mg "SEXES" ["woman", "man"]
  v_WAYS : GlT0 K mg "WAYS" ["lines", "age", "near"]
  v_WORDS : GlT0 K mg "WORDS" ["dies", "leaves", "cuts", "returns", "awaits"]
noncomputable def B_name : Sx := (sRet (eOp ixD (eLst (aCons (eCB strD (aCons (eVar 0) aNil)) (aCons (eC (.str "-")) aNil))) (eCB intD (aCons (eOp (eqD false) (eVar 0) (eUn negD (eC (.int 1)))) aNil))))
noncomputable abbrev F_name : Fx := runF P_name.length N_name.length B_name
noncomputable def B_news_words : Sx := (sRet (eOp addD (eLst (aCons (eOp ixD (eVar 0) (eC (.int 0))) (aCons (eCB strD (aCons (eOp ixD (eVar 0) (eC (.int 1))) aNil)) (aCons (eCB strD (aCons (eOp ixD (eVar 0) (eC (.int 2))) aNil)) aNil)))) (eOp mulD (eLst (aCons (eCall F_name (aCons (eOp ixD (eVar 0) (eC (.int 3))) aNil)) aNil)) (eCB intD (aCons (eOp (eqD false) (eOp ixD (eVar 0) (eC (.int 0))) (eC (.str "awaits"))) aNil)))))
noncomputable abbrev F_news_words : Fx := runF P_news_words.length N_news_words.length B_news_words
noncomputable def E_text_1 : Ex := eLc (iSeq (eVar 0)) (gN 1) tYes' (eOp addD (eMt isStr joinD (eC (.str " ")) (aCons (eVar 1) aNil)) (eC (.str "\n"))) [1]
noncomputable def B_text : Sx := (sRet (eMt isStr joinD (eC (.str "")) (aCons E_text_1 aNil)))
noncomputable abbrev F_text : Fx := runF P_text.length N_text.length B_text
noncomputable def E_l_book_text_1 : Ex := eLc (iSeq (eVar 0)) (gN 1) tYes' (eCall F_news_words (aCons (eVar 1) aNil)) [1]
noncomputable def B_l_book_text : Sx := (sRet (eCall F_text (aCons E_l_book_text_1 aNil)))
noncomputable abbrev F_l_book_text : Fx := runF P_l_book_text.length N_l_book_text.length B_l_book_text
noncomputable def L_l_house_text_1 : Sx := (sDrop (eMt isLst appD (eVar 1) (aCons (eLst (aCons (eCB strD (aCons (eVar 2) aNil)) (aCons (eCall F_name (aCons (eVar 3) aNil)) (aCons (eCall F_name (aCons (eVar 4) aNil)) (aCons (eOp ixD (eLst (aCons (eC (.str "woman")) (aCons (eC (.str "man")) aNil))) (eVar 5)) (aCons (eOp ixD (eLst (aCons (eC (.str "unwed")) (aCons (eC (.str "wed")) aNil))) (eVar 6)) aNil)))))) aNil)))
noncomputable def B_l_house_text : Sx := (sSeq (sSet 1 (eOwn (eLst aNil))) (sSeq (sFor (iSeq (eVar 0)) (gT [gN 2, gN 3, gN 4, gN 5, gN 6]) L_l_house_text_1 [2, 3, 4, 5, 6]) (sRet (eCall F_text (aCons (eVar 1) aNil)))))
noncomputable abbrev F_l_house_text : Fx := runF P_l_house_text.length N_l_house_text.length B_l_house_text
noncomputable abbrev F_is_plain_r0 : Fx := runF P_is_plain.length N_is_plain.length fun _ _ => none
noncomputable def E_is_plain_1_r1 : Ex := eLc (iSeq (eVar 0)) (gN 1) tYes' (eCall F_is_plain_r0 (aCons (eVar 1) aNil)) [1]
noncomputable def B_is_plain_r1 : Sx := (sSeq (sIf (tTru (eIs .tuple (eVar 0))) (sRet (eCB allBD (aCons E_is_plain_1_r1 aNil))) sNil) (sRet (eAnd (eIs2 .int .str (eVar 0)) (eNot (eIs .bool (eVar 0))))))
noncomputable abbrev F_is_plain_r1 : Fx := runF P_is_plain.length N_is_plain.length B_is_plain_r1
noncomputable def E_is_plain_1_r2 : Ex := eLc (iSeq (eVar 0)) (gN 1) tYes' (eCall F_is_plain_r1 (aCons (eVar 1) aNil)) [1]
noncomputable def B_is_plain_r2 : Sx := (sSeq (sIf (tTru (eIs .tuple (eVar 0))) (sRet (eCB allBD (aCons E_is_plain_1_r2 aNil))) sNil) (sRet (eAnd (eIs2 .int .str (eVar 0)) (eNot (eIs .bool (eVar 0))))))
noncomputable abbrev F_is_plain_r2 : Fx := runF P_is_plain.length N_is_plain.length B_is_plain_r2
noncomputable def E_is_plain_1_r3 : Ex := eLc (iSeq (eVar 0)) (gN 1) tYes' (eCall F_is_plain_r2 (aCons (eVar 1) aNil)) [1]
noncomputable def B_is_plain_r3 : Sx := (sSeq (sIf (tTru (eIs .tuple (eVar 0))) (sRet (eCB allBD (aCons E_is_plain_1_r3 aNil))) sNil) (sRet (eAnd (eIs2 .int .str (eVar 0)) (eNot (eIs .bool (eVar 0))))))
noncomputable abbrev F_is_plain_r3 : Fx := runF P_is_plain.length N_is_plain.length B_is_plain_r3
noncomputable def E_is_plain_1_r4 : Ex := eLc (iSeq (eVar 0)) (gN 1) tYes' (eCall F_is_plain_r3 (aCons (eVar 1) aNil)) [1]
noncomputable def B_is_plain_r4 : Sx := (sSeq (sIf (tTru (eIs .tuple (eVar 0))) (sRet (eCB allBD (aCons E_is_plain_1_r4 aNil))) sNil) (sRet (eAnd (eIs2 .int .str (eVar 0)) (eNot (eIs .bool (eVar 0))))))
noncomputable abbrev F_is_plain_r4 : Fx := runF P_is_plain.length N_is_plain.length B_is_plain_r4
noncomputable abbrev F_is_plain : Fx := F_is_plain_r4
noncomputable def E_rows_text_1 : Ex := eLc (iSeq (eVar 0)) (gT [gN 1, gN 2, gN 3, gN 4]) tYes' (eLst (aCons (eCB strD (aCons (eVar 1) aNil)) (aCons (eVar 2) (aCons (eOp ixD (eLst (aCons (eC (.str "all")) (aCons (eC (.str "wed")) aNil))) (eVar 3)) (aCons (eVar 4) aNil))))) [1, 2, 3, 4]
noncomputable def B_rows_text : Sx := (sRet (eCall F_text (aCons E_rows_text_1 aNil)))
noncomputable abbrev F_rows_text : Fx := runF P_rows_text.length N_rows_text.length B_rows_text
noncomputable def B_who_word : Sx := (sRet (eIf (tVal (eOp (eqD false) (eVar 0) (eUn negD (eC (.int 1))))) (eC (.str "-")) (eCB strD (aCons (eVar 0) aNil))))
noncomputable abbrev F_who_word : Fx := runF P_who_word.length N_who_word.length B_who_word
noncomputable def B_news_line : Sx := (sSeq (sAsg (gT [gN 2, gN 3, gN 4, gN 5]) (eVar 0)) (sSeq (sSet 1 (eOwn (eLst (aCons (eVar 2) (aCons (eCB strD (aCons (eVar 3) aNil)) (aCons (eCB strD (aCons (eVar 4) aNil)) aNil)))))) (sSeq (sIf (tVal (eOp (eqD false) (eVar 2) (eC (.str "awaits")))) (sDrop (eMt isLst appD (eVar 1) (aCons (eCall F_who_word (aCons (eVar 5) aNil)) aNil))) sNil) (sRet (eMt isStr joinD (eC (.str " ")) (aCons (eVar 1) aNil))))))
noncomputable abbrev F_news_line : Fx := runF P_news_line.length N_news_line.length B_news_line
noncomputable def E_text_of_1 : Ex := eLc (iSeq (eVar 0)) (gN 1) tYes' (eOp addD (eVar 1) (eC (.str "\n"))) [1]
noncomputable def B_text_of : Sx := (sRet (eMt isStr joinD (eC (.str "")) (aCons E_text_of_1 aNil)))
noncomputable abbrev F_text_of : Fx := runF P_text_of.length N_text_of.length B_text_of
noncomputable def E_book_text_1 : Ex := eLc (iSeq (eVar 0)) (gN 1) tYes' (eCall F_news_line (aCons (eVar 1) aNil)) [1]
noncomputable def B_book_text : Sx := (sRet (eCall F_text_of (aCons E_book_text_1 aNil)))
noncomputable abbrev F_book_text : Fx := runF P_book_text.length N_book_text.length B_book_text
noncomputable def B_folk_line : Sx := (sSeq (sAsg (gT [gN 1, gN 2, gN 3, gN 4, gN 5]) (eVar 0)) (sRet (eMt isStr joinD (eC (.str " ")) (aCons (eLst (aCons (eCB strD (aCons (eVar 1) aNil)) (aCons (eCall F_who_word (aCons (eVar 2) aNil)) (aCons (eCall F_who_word (aCons (eVar 3) aNil)) (aCons (eOp ixD (eC (.tup ((["woman", "man"] : List Str).map .str))) (eVar 4)) (aCons (eOp ixD (eC (.tup ((["unwed", "wed"] : List Str).map .str))) (eVar 5)) aNil)))))) aNil))))
noncomputable abbrev F_folk_line : Fx := runF P_folk_line.length N_folk_line.length B_folk_line
noncomputable def E_house_text_1 : Ex := eLc (iSeq (eVar 0)) (gN 1) tYes' (eCall F_folk_line (aCons (eVar 1) aNil)) [1]
noncomputable def B_house_text : Sx := (sRet (eCall F_text_of (aCons E_house_text_1 aNil)))
noncomputable abbrev F_house_text : Fx := runF P_house_text.length N_house_text.length B_house_text
noncomputable def B_day_of : Sx := (sRet (eOp ixD (eOp ixD (eVar 0) (eVar 1)) (eC (.int 0))))
noncomputable abbrev F_day_of : Fx := runF P_day_of.length N_day_of.length B_day_of
noncomputable def B_is_number : Sx := (sRet (eAnd (eIs .int (eVar 0)) (eNot (eIs .bool (eVar 0)))))
noncomputable abbrev F_is_number : Fx := runF P_is_number.length N_is_number.length B_is_number
noncomputable def B_is_folk_of : Sx := (sRet (eAnd (eCall F_is_number (aCons (eVar 1) aNil)) (eChain (cmpD leI) (cmpD ltI) (eC (.int 0)) (eVar 1) (eCB lenD (aCons (eVar 0) aNil)))))
noncomputable abbrev F_is_folk_of : Fx := runF P_is_folk_of.length N_is_folk_of.length B_is_folk_of
noncomputable def B_is_tuple_of : Sx := (sRet (eAnd (eIs .tuple (eVar 0)) (eOp (eqD false) (eCB lenD (aCons (eVar 0) aNil)) (eVar 1))))
noncomputable abbrev F_is_tuple_of : Fx := runF P_is_tuple_of.length N_is_tuple_of.length B_is_tuple_of
noncomputable def B_is_man : Sx := (sRet (eOp (eqD false) (eOp ixD (eOp ixD (eVar 0) (eVar 1)) (eC (.int 3))) (eC (.int 1))))
noncomputable abbrev F_is_man : Fx := runF P_is_man.length N_is_man.length B_is_man
noncomputable def B_may_await : Sx := (sSeq (sIf (tOr' (tTru (eCall F_is_man (aCons (eVar 0) (aCons (eVar 2) aNil)))) (tVal (eOp (eqD false) (eVar 1) (eCall F_day_of (aCons (eVar 0) (aCons (eVar 2) aNil)))))) (sRet (eC (.bl false))) sNil) (sSeq (sIf (tVal (eOp (eqD false) (eVar 3) (eUn negD (eC (.int 1))))) (sRet (eC (.bl true))) sNil) (sRet (eAnd (eCall F_is_folk_of (aCons (eVar 0) (aCons (eVar 3) aNil))) (eAnd (eCall F_is_man (aCons (eVar 0) (aCons (eVar 3) aNil))) (eOp (cmpD ltI) (eCall F_day_of (aCons (eVar 0) (aCons (eVar 3) aNil))) (eVar 1)))))))
noncomputable abbrev F_may_await : Fx := runF P_may_await.length N_may_await.length B_may_await
noncomputable def B_is_news : Sx := (sSeq (sIf (tNot' (tTru (eCall F_is_tuple_of (aCons (eVar 1) (aCons (eC (.int 4)) aNil))))) (sRet (eC (.bl false))) sNil) (sSeq (sAsg (gT [gN 2, gN 3, gN 4, gN 5]) (eVar 1)) (sSeq (sIf (tOr' (tVal (eOp (inD true) (eVar 2) (eC (.tup ((["dies", "leaves", "cuts", "returns", "awaits"] : List Str).map .str))))) (tOr' (tNot' (tTru (eCall F_is_folk_of (aCons (eVar 0) (aCons (eVar 4) aNil))))) (tNot' (tTru (eCall F_is_number (aCons (eVar 3) aNil)))))) (sRet (eC (.bl false))) sNil) (sSeq (sIf (tNot' (tVal (eChain (cmpD leI) (cmpD leI) (eCall F_day_of (aCons (eVar 0) (aCons (eVar 4) aNil))) (eVar 3) (eC (.int 99999))))) (sRet (eC (.bl false))) sNil) (sSeq (sIf (tVal (eOp (eqD false) (eVar 2) (eC (.str "awaits")))) (sRet (eCall F_may_await (aCons (eVar 0) (aCons (eVar 3) (aCons (eVar 4) (aCons (eVar 5) aNil)))))) sNil) (sRet (eOp (eqD false) (eVar 5) (eUn negD (eC (.int 1))))))))))
noncomputable abbrev F_is_news : Fx := runF P_is_news.length N_is_news.length B_is_news
noncomputable def E_is_rising_1 : Ex := eAll true (iRngA (aCons (eOp subD (eCB lenD (aCons (eVar 0) aNil)) (eC (.int 1))) aNil)) (gN 1) tYes' (eOp ltPD (eOp ixD (eVar 0) (eVar 1)) (eOp ixD (eVar 0) (eOp addD (eVar 1) (eC (.int 1))))) [1]
noncomputable def B_is_rising : Sx := (sRet E_is_rising_1)
noncomputable abbrev F_is_rising : Fx := runF P_is_rising.length N_is_rising.length B_is_rising
noncomputable def E_is_book_1 : Ex := eAll true (iSeq (eVar 1)) (gN 2) tYes' (eCall F_is_news (aCons (eVar 0) (aCons (eVar 2) aNil))) [2]
noncomputable def B_is_book : Sx := (sSeq (sIf (tOr' (tNot' (tTru (eIs .tuple (eVar 1)))) (tVal (eOp (cmpD gtI) (eCB lenD (aCons (eVar 1) aNil)) (eC (.int 60))))) (sRet (eC (.bl false))) sNil) (sRet (eAnd E_is_book_1 (eCall F_is_rising (aCons (eVar 1) aNil)))))
noncomputable abbrev F_is_book : Fx := runF P_is_book.length N_is_book.length B_is_book
noncomputable def E_lines_of_1 : Ex := eLc (iSeq (eVar 1)) (gN 2) tYes' (eMt isStr splitD (eVar 2) (aCons (eC (.str " ")) aNil)) [2]
noncomputable def B_lines_of : Sx := (sSeq (sIf (tNot' (tTru (eIs .str (eVar 0)))) sFail sNil) (sSeq (sSet 1 (eOwn (eMt isStr splitD (eVar 0) (aCons (eC (.str "\n")) aNil)))) (sSeq (sIf (tVal (eOp (eqD true) (eMt0 isLst popD (eVar 1)) (eC (.str "")))) sFail sNil) (sRet E_lines_of_1))))
noncomputable abbrev F_lines_of : Fx := runF P_lines_of.length N_lines_of.length B_lines_of
noncomputable def E_is_written_number_1 : Ex := eAll true (iSgn (eVar 0)) (gN 1) tYes' (eChain leSD leSD (eC (.str "0")) (eVar 1) (eC (.str "9"))) [1]
noncomputable def B_is_written_number : Sx := (sSeq (sIf (tOr' (tVal (eOp (eqD false) (eVar 0) (eC (.str "")))) (tNot' (tTru E_is_written_number_1))) (sRet (eC (.bl false))) sNil) (sRet (eOr (eOp (eqD false) (eVar 0) (eC (.str "0"))) (eOp (eqD true) (eOp ixSD (eVar 0) (eC (.int 0))) (eC (.str "0"))))))
noncomputable abbrev F_is_written_number : Fx := runF P_is_written_number.length N_is_written_number.length B_is_written_number
noncomputable def B_is_written_who : Sx := (sRet (eOr (eOp (eqD false) (eVar 0) (eC (.str "-"))) (eCall F_is_written_number (aCons (eVar 0) aNil))))
noncomputable abbrev F_is_written_who : Fx := runF P_is_written_who.length N_is_written_who.length B_is_written_who
noncomputable def B_number_of : Sx := (sRet (eIf (tVal (eOp (cmpD leI) (eCB lenSD (aCons (eVar 0) aNil)) (eC (.int 5)))) (eCB intSD (aCons (eVar 0) aNil)) (eOp addD (eC (.int 99999)) (eC (.int 1)))))
noncomputable abbrev F_number_of : Fx := runF P_number_of.length N_number_of.length B_number_of
noncomputable def B_who_of : Sx := (sRet (eIf (tVal (eOp (eqD false) (eVar 0) (eC (.str "-")))) (eUn negD (eC (.int 1))) (eCall F_number_of (aCons (eVar 0) aNil))))
noncomputable abbrev F_who_of : Fx := runF P_who_of.length N_who_of.length B_who_of
noncomputable def B_news_of : Sx := (sSeq (sIf (tOr' (tVal (eOp (inD true) (eOp ixD (eVar 0) (eC (.int 0))) (eC (.tup ((["dies", "leaves", "cuts", "returns", "awaits"] : List Str).map .str))))) (tVal (eOp (eqD true) (eCB lenD (aCons (eVar 0) aNil)) (eIf (tVal (eOp (eqD false) (eOp ixD (eVar 0) (eC (.int 0))) (eC (.str "awaits")))) (eC (.int 4)) (eC (.int 3)))))) (sRet (eTup aNil)) sNil) (sSeq (sIf (tOr' (tNot' (tTru (eCall F_is_written_number (aCons (eOp ixD (eVar 0) (eC (.int 1))) aNil)))) (tNot' (tTru (eCall F_is_written_number (aCons (eOp ixD (eVar 0) (eC (.int 2))) aNil))))) (sRet (eTup aNil)) sNil) (sSeq (sSet 1 (eIf (tVal (eOp (eqD false) (eCB lenD (aCons (eVar 0) aNil)) (eC (.int 4)))) (eOp ixD (eVar 0) (eC (.int 3))) (eC (.str "-")))) (sSeq (sIf (tNot' (tTru (eCall F_is_written_who (aCons (eVar 1) aNil)))) (sRet (eTup aNil)) sNil) (sRet (eTup (aCons (eOp ixD (eVar 0) (eC (.int 0))) (aCons (eCall F_number_of (aCons (eOp ixD (eVar 0) (eC (.int 1))) aNil)) (aCons (eCall F_number_of (aCons (eOp ixD (eVar 0) (eC (.int 2))) aNil)) (aCons (eCall F_who_of (aCons (eVar 1) aNil)) aNil))))))))))
noncomputable abbrev F_news_of : Fx := runF P_news_of.length N_news_of.length B_news_of
noncomputable def E_read_book_1 : Ex := eTupG (iSeq (eCall F_lines_of (aCons (eVar 1) aNil))) (gN 3) tYes' (eCall F_news_of (aCons (eVar 3) aNil)) [3]
noncomputable def B_read_book : Sx := (sSeq (sSet 2 E_read_book_1) (sSeq (sIf (tNot' (tTru (eCall F_is_book (aCons (eVar 0) (aCons (eVar 2) aNil))))) sFail sNil) (sRet (eVar 2))))
noncomputable abbrev F_read_book : Fx := runF P_read_book.length N_read_book.length B_read_book
noncomputable def B_folk_of : Sx := (sSeq (sIf (tOr' (tVal (eOp (eqD true) (eCB lenD (aCons (eVar 0) aNil)) (eC (.int 5)))) (tNot' (tTru (eCall F_is_written_number (aCons (eOp ixD (eVar 0) (eC (.int 0))) aNil))))) (sRet (eTup aNil)) sNil) (sSeq (sIf (tOr' (tNot' (tTru (eCall F_is_written_who (aCons (eOp ixD (eVar 0) (eC (.int 1))) aNil)))) (tNot' (tTru (eCall F_is_written_who (aCons (eOp ixD (eVar 0) (eC (.int 2))) aNil))))) (sRet (eTup aNil)) sNil) (sSeq (sIf (tOr' (tVal (eOp (inD true) (eOp ixD (eVar 0) (eC (.int 3))) (eC (.tup ((["woman", "man"] : List Str).map .str))))) (tVal (eOp (inD true) (eOp ixD (eVar 0) (eC (.int 4))) (eC (.tup ((["unwed", "wed"] : List Str).map .str)))))) (sRet (eTup aNil)) sNil) (sRet (eTup (aCons (eCall F_number_of (aCons (eOp ixD (eVar 0) (eC (.int 0))) aNil)) (aCons (eCall F_who_of (aCons (eOp ixD (eVar 0) (eC (.int 1))) aNil)) (aCons (eCall F_who_of (aCons (eOp ixD (eVar 0) (eC (.int 2))) aNil)) (aCons (eGix ["woman", "man"] (aCons (eOp ixD (eVar 0) (eC (.int 3))) aNil)) (aCons (eGix ["unwed", "wed"] (aCons (eOp ixD (eVar 0) (eC (.int 4))) aNil)) aNil))))))))))
noncomputable abbrev F_folk_of : Fx := runF P_folk_of.length N_folk_of.length B_folk_of
noncomputable def B_parent_fits : Sx := (sSeq (sIf (tVal (eOp (eqD false) (eVar 2) (eUn negD (eC (.int 1))))) (sRet (eC (.bl true))) sNil) (sSeq (sIf (tNot' (tVal (eChain (cmpD leI) (cmpD ltI) (eC (.int 0)) (eVar 2) (eCB lenD (aCons (eVar 0) aNil))))) (sRet (eC (.bl false))) sNil) (sRet (eAnd (eOp (eqD false) (eCall F_is_man (aCons (eVar 0) (aCons (eVar 2) aNil))) (eVar 3)) (eOp (cmpD ltI) (eCall F_day_of (aCons (eVar 0) (aCons (eVar 2) aNil))) (eCall F_day_of (aCons (eVar 0) (aCons (eVar 1) aNil))))))))
noncomputable abbrev F_parent_fits : Fx := runF P_parent_fits.length N_parent_fits.length B_parent_fits
noncomputable def B_fits_in : Sx := (sSeq (sIf (tAnd' (tVal (eOp (cmpD gtI) (eVar 1) (eC (.int 0)))) (tVal (eOp (cmpD ltI) (eCall F_day_of (aCons (eVar 0) (aCons (eVar 1) aNil))) (eCall F_day_of (aCons (eVar 0) (aCons (eOp subD (eVar 1) (eC (.int 1))) aNil)))))) (sRet (eC (.bl false))) sNil) (sRet (eAnd (eCall F_parent_fits (aCons (eVar 0) (aCons (eVar 1) (aCons (eOp ixD (eOp ixD (eVar 0) (eVar 1)) (eC (.int 1))) (aCons (eC (.bl true)) aNil))))) (eCall F_parent_fits (aCons (eVar 0) (aCons (eVar 1) (aCons (eOp ixD (eOp ixD (eVar 0) (eVar 1)) (eC (.int 2))) (aCons (eC (.bl false)) aNil))))))))
noncomputable abbrev F_fits_in : Fx := runF P_fits_in.length N_fits_in.length B_fits_in
noncomputable def E_has_folk_form_1 : Ex := eAll true (iSeq (eVar 0)) (gN 6) tYes' (eCall F_is_number (aCons (eVar 6) aNil)) [6]
noncomputable def B_has_folk_form : Sx := (sSeq (sIf (tOr' (tNot' (tTru (eCall F_is_tuple_of (aCons (eVar 0) (aCons (eC (.int 5)) aNil))))) (tNot' (tTru E_has_folk_form_1))) (sRet (eC (.bl false))) sNil) (sSeq (sAsg (gT [gN 1, gN 2, gN 3, gN 4, gN 5]) (eVar 0)) (sRet (eAnd (eChain (cmpD leI) (cmpD leI) (eC (.int 0)) (eVar 1) (eC (.int 99999))) (eAnd (eOp (inD false) (eVar 4) (eTup (aCons (eC (.int 0)) (aCons (eC (.int 1)) aNil)))) (eOp (inD false) (eVar 5) (eTup (aCons (eC (.int 0)) (aCons (eC (.int 1)) aNil)))))))))
noncomputable abbrev F_has_folk_form : Fx := runF P_has_folk_form.length N_has_folk_form.length B_has_folk_form
noncomputable def E_is_house_1 : Ex := eAll true (iRngA (aCons (eCB lenD (aCons (eVar 0) aNil)) aNil)) (gN 1) tYes' (eCall F_fits_in (aCons (eVar 0) (aCons (eVar 1) aNil))) [1]
noncomputable def E_is_house_2 : Ex := eAll true (iSeq (eVar 0)) (gN 2) tYes' (eCall F_has_folk_form (aCons (eVar 2) aNil)) [2]
noncomputable def B_is_house : Sx := (sSeq (sIf (tOr' (tNot' (tTru (eIs .tuple (eVar 0)))) (tNot' (tVal (eChain (cmpD leI) (cmpD leI) (eC (.int 1)) (eCB lenD (aCons (eVar 0) aNil)) (eC (.int 60)))))) (sRet (eC (.bl false))) sNil) (sSeq (sIf (tNot' (tTru E_is_house_2)) (sRet (eC (.bl false))) sNil) (sRet E_is_house_1)))
noncomputable abbrev F_is_house : Fx := runF P_is_house.length N_is_house.length B_is_house
noncomputable def E_read_house_1 : Ex := eTupG (iSeq (eCall F_lines_of (aCons (eVar 0) aNil))) (gN 2) tYes' (eCall F_folk_of (aCons (eVar 2) aNil)) [2]
noncomputable def B_read_house : Sx := (sSeq (sSet 1 E_read_house_1) (sSeq (sIf (tNot' (tTru (eCall F_is_house (aCons (eVar 1) aNil)))) sFail sNil) (sRet (eVar 1))))
noncomputable abbrev F_read_house : Fx := runF P_read_house.length N_read_house.length B_read_house
noncomputable def B_is_row : Sx := (sSeq (sIf (tNot' (tTru (eCall F_is_tuple_of (aCons (eVar 1) (aCons (eC (.int 4)) aNil))))) (sRet (eC (.bl false))) sNil) (sSeq (sAsg (gT [gN 2, gN 3, gN 4, gN 5]) (eVar 1)) (sSeq (sIf (tOr' (tNot' (tTru (eCall F_is_folk_of (aCons (eVar 0) (aCons (eVar 2) aNil))))) (tNot' (tTru (eCall F_is_number (aCons (eVar 4) aNil))))) (sRet (eC (.bl false))) sNil) (sRet (eAnd (eOp (inD false) (eVar 3) (eC (.tup ((["alike", "first", "only"] : List Str).map .str)))) (eAnd (eOp (inD false) (eVar 4) (eTup (aCons (eC (.int 0)) (aCons (eC (.int 1)) aNil)))) (eOp (inD false) (eVar 5) (eC (.tup ((["lines", "age", "near"] : List Str).map .str))))))))))
noncomputable abbrev F_is_row : Fx := runF P_is_row.length N_is_row.length B_is_row
noncomputable def E_is_rule_1 : Ex := eAll true (iSeq (eVar 1)) (gN 3) tYes' (eOp (cmpD leI) (eCall F_day_of (aCons (eVar 0) (aCons (eOp ixD (eVar 3) (eC (.int 0))) aNil))) (eVar 2)) [3]
noncomputable def E_is_rule_2 : Ex := eAll true (iSeq (eVar 1)) (gN 3) tYes' (eCall F_is_row (aCons (eVar 0) (aCons (eVar 3) aNil))) [3]
noncomputable def B_is_rule : Sx := (sSeq (sIf (tOr' (tNot' (tTru (eIs .tuple (eVar 1)))) (tNot' (tVal (eChain (cmpD leI) (cmpD leI) (eC (.int 1)) (eCB lenD (aCons (eVar 1) aNil)) (eC (.int 3)))))) (sRet (eC (.bl false))) sNil) (sSeq (sIf (tNot' (tTru E_is_rule_2)) (sRet (eC (.bl false))) sNil) (sSeq (sSet 2 (eCall F_day_of (aCons (eVar 0) (aCons (eOp ixD (eOp ixD (eVar 1) (eC (.int 0))) (eC (.int 0))) aNil)))) (sRet E_is_rule_1))))
noncomputable abbrev F_is_rule : Fx := runF P_is_rule.length N_is_rule.length B_is_rule
noncomputable def B_row_of : Sx := (sSeq (sIf (tOr' (tVal (eOp (eqD true) (eCB lenD (aCons (eVar 0) aNil)) (eC (.int 4)))) (tOr' (tNot' (tTru (eCall F_is_written_number (aCons (eOp ixD (eVar 0) (eC (.int 0))) aNil)))) (tVal (eOp (inD true) (eOp ixD (eVar 0) (eC (.int 2))) (eC (.tup ((["all", "wed"] : List Str).map .str))))))) (sRet (eTup aNil)) sNil) (sRet (eTup (aCons (eCall F_number_of (aCons (eOp ixD (eVar 0) (eC (.int 0))) aNil)) (aCons (eOp ixD (eVar 0) (eC (.int 1))) (aCons (eGix ["all", "wed"] (aCons (eOp ixD (eVar 0) (eC (.int 2))) aNil)) (aCons (eOp ixD (eVar 0) (eC (.int 3))) aNil)))))))
noncomputable abbrev F_row_of : Fx := runF P_row_of.length N_row_of.length B_row_of
noncomputable def E_read_rule_1 : Ex := eTupG (iSeq (eCall F_lines_of (aCons (eVar 1) aNil))) (gN 3) tYes' (eCall F_row_of (aCons (eVar 3) aNil)) [3]
noncomputable def B_read_rule : Sx := (sSeq (sSet 2 E_read_rule_1) (sSeq (sIf (tNot' (tTru (eCall F_is_rule (aCons (eVar 0) (aCons (eVar 2) aNil))))) sFail sNil) (sRet (eVar 2))))
noncomputable abbrev F_read_rule : Fx := runF P_read_rule.length N_read_rule.length B_read_rule
noncomputable def B_row_line : Sx := (sSeq (sAsg (gT [gN 1, gN 2, gN 3, gN 4]) (eVar 0)) (sRet (eMt isStr joinD (eC (.str " ")) (aCons (eLst (aCons (eCB strD (aCons (eVar 1) aNil)) (aCons (eVar 2) (aCons (eOp ixD (eC (.tup ((["all", "wed"] : List Str).map .str))) (eVar 3)) (aCons (eVar 4) aNil))))) aNil))))
noncomputable abbrev F_row_line : Fx := runF P_row_line.length N_row_line.length B_row_line
noncomputable def E_rule_text_1 : Ex := eLc (iSeq (eVar 0)) (gN 1) tYes' (eCall F_row_line (aCons (eVar 1) aNil)) [1]
noncomputable def B_rule_text : Sx := (sRet (eCall F_text_of (aCons E_rule_text_1 aNil)))
noncomputable abbrev F_rule_text : Fx := runF P_rule_text.length N_rule_text.length B_rule_text
noncomputable def L_right_1 : Sx := (sSeq (sSet 4 (eCall F_read_rule (aCons (eVar 0) (aCons (eCall F_rows_text (aCons (eVar 5) aNil)) aNil)))) (sIf (tOr' (tVal (eOp (eqD true) (eVar 4) (eVar 5))) (tOr' (tNot' (tTru (eCall F_is_plain (aCons (eVar 4) aNil)))) (tVal (eOp (eqD true) (eCall F_read_rule (aCons (eVar 0) (aCons (eCall F_rule_text (aCons (eVar 5) aNil)) aNil))) (eVar 5))))) (sRet (eC (.bl false))) sNil))
noncomputable def B_right : Sx := (sSeq (sSet 3 (eCall F_read_house (aCons (eCall F_l_house_text (aCons (eVar 0) aNil)) aNil))) (sSeq (sIf (tOr' (tVal (eOp (eqD true) (eVar 3) (eVar 0))) (tOr' (tNot' (tTru (eCall F_is_plain (aCons (eVar 3) aNil)))) (tVal (eOp (eqD true) (eCall F_read_house (aCons (eCall F_house_text (aCons (eVar 0) aNil)) aNil)) (eVar 0))))) (sRet (eC (.bl false))) sNil) (sSeq (sSet 4 (eCall F_read_book (aCons (eVar 0) (aCons (eCall F_l_book_text (aCons (eVar 1) aNil)) aNil)))) (sSeq (sIf (tOr' (tVal (eOp (eqD true) (eVar 4) (eVar 1))) (tOr' (tNot' (tTru (eCall F_is_plain (aCons (eVar 4) aNil)))) (tVal (eOp (eqD true) (eCall F_read_book (aCons (eVar 0) (aCons (eCall F_book_text (aCons (eVar 1) aNil)) aNil))) (eVar 1))))) (sRet (eC (.bl false))) sNil) (sSeq (sFor (iSeq (eVar 2)) (gN 5) L_right_1 [4, 5]) (sRet (eOp (eqD false) (eCall F_read_book (aCons (eVar 0) (aCons (eC (.str "")) aNil))) (eTup aNil))))))))
noncomputable abbrev F_right : Fx := runF P_right.length N_right.length B_right
noncomputable def B_take : Sx := (sSeq (sFog [3] (sIf (tVal (eOp (cmpD gtI) (eOp ixD (eVar 0) (eC (.int 2))) (eC (.int 0)))) (sSeq (sSet 3 (eOp modD (eOp ixD (eVar 0) (eC (.int 2))) (eVar 1))) (sSeq (sPut (eVar 0) (eC (.int 2)) (eOp divD (eOp ixD (eVar 0) (eC (.int 2))) (eVar 1))) (sRet (eVar 3)))) sNil)) (sSeq (sSet 2 (eC (.int 0))) (sSeq (sIf (tVal (eOp (cmpD ltI) (eOp ixD (eVar 0) (eC (.int 1))) (eCB lenD (aCons (eOp ixD (eVar 0) (eC (.int 0))) aNil)))) (sSet 2 (eOp ixD (eOp ixD (eVar 0) (eC (.int 0))) (eOp ixD (eVar 0) (eC (.int 1))))) sNil) (sSeq (sPut (eVar 0) (eC (.int 1)) (eOp addD (eOp ixD (eVar 0) (eC (.int 1))) (eC (.int 1)))) (sSeq (sIf (tVal (eOp (cmpD geI) (eVar 2) (eOp powD (eC (.int 10)) (eC (.int 18))))) (sSeq (sPut (eVar 0) (eC (.int 2)) (eOp divD (eVar 2) (eVar 1))) (sRet (eOp modD (eVar 2) (eVar 1)))) sNil) (sSeq (sPut (eVar 0) (eC (.int 3)) (eOp modD (eOp addD (eOp addD (eOp mulD (eOp ixD (eVar 0) (eC (.int 3))) (eC (.int 48271))) (eOp modD (eVar 2) (eC (.int 2147483629)))) (eOp mulD (eC (.int 7)) (eOp ixD (eVar 0) (eC (.int 1))))) (eC (.int 2147483647)))) (sRet (eOp modD (eOp divD (eOp modD (eOp powD (eOp ixD (eVar 0) (eC (.int 3))) (eC (.int 3))) (eC (.int 2147483629))) (eC (.int 64))) (eVar 1)))))))))
noncomputable abbrev F_take : Fx := runF P_take.length N_take.length B_take
noncomputable def B_row : Sx := (sSeq (sSet 2 (eOp mulD (eCall F_take (aCons (eVar 0) (aCons (eCB lenD (aCons (eVar 1) aNil)) aNil))) (eCB intD (aCons (eOp (eqD false) (eCall F_take (aCons (eVar 0) (aCons (eC (.int 3)) aNil))) (eC (.int 0))) aNil)))) (sSeq (sSet 3 (eOp ixD (eLst (aCons (eC (.str "alike")) (aCons (eC (.str "first")) (aCons (eC (.str "first")) (aCons (eC (.str "only")) aNil))))) (eCall F_take (aCons (eVar 0) (aCons (eC (.int 4)) aNil))))) (sRet (eTup (aCons (eVar 2) (aCons (eVar 3) (aCons (eCB intD (aCons (eOp (eqD false) (eCall F_take (aCons (eVar 0) (aCons (eC (.int 3)) aNil))) (eC (.int 0))) aNil)) (aCons (eOp ixD (eLst (aCons (eC (.str "lines")) (aCons (eC (.str "lines")) (aCons (eC (.str "age")) (aCons (eC (.str "near")) aNil))))) (eCall F_take (aCons (eVar 0) (aCons (eC (.int 4)) aNil)))) aNil))))))))
noncomputable abbrev F_row : Fx := runF P_row.length N_row.length B_row
noncomputable def E_rows_1 : Ex := eLc (iSeq (eVar 2)) (gN 6) tYes' (eOp ixD (eOp ixD (eVar 1) (eOp ixD (eVar 6) (eC (.int 0)))) (eC (.int 0))) [6]
noncomputable def E_rows_2 : Ex := eLc (iSeq (eVar 2)) (gN 6) tYes' (eOp ixD (eOp ixD (eVar 1) (eOp ixD (eVar 6) (eC (.int 0)))) (eC (.int 0))) [6]
noncomputable def E_rows_3 : Ex := eLc (iRngA (aCons (eOp addD (eC (.int 1)) (eCall F_take (aCons (eVar 0) (aCons (eC (.int 3)) aNil)))) aNil)) (gN 5) tYes' (eCall F_row (aCons (eVar 0) (aCons (eVar 1) aNil))) [5]
noncomputable def B_rows : Sx := (sSeq (sSet 2 E_rows_3) (sSeq (sSet 3 (eCB (topD maxI) (aCons E_rows_2 aNil))) (sSeq (sSet 4 (eMt isLA idxD E_rows_1 (aCons (eVar 3) aNil))) (sRet (eCB tupleD (aCons (eOp addD (eSlc (eVar 2) (oSome (eVar 4)) oNone) (eSlc (eVar 2) oNone (oSome (eVar 4)))) aNil))))))
noncomputable abbrev F_rows : Fx := runF P_rows.length N_rows.length B_rows
noncomputable def E_news_1 : Ex := eLc (iRngA (aCons (eCB lenD (aCons (eVar 1) aNil)) aNil)) (gN 7) (tAnd' (tVal (eOp (eqD false) (eOp ixD (eOp ixD (eVar 1) (eVar 7)) (eC (.int 3))) (eC (.int 1)))) (tVal (eOp (cmpD ltI) (eOp ixD (eOp ixD (eVar 1) (eVar 7)) (eC (.int 0))) (eVar 5)))) (eVar 7) [7]
noncomputable def B_news : Sx := (sSeq (sSet 2 (eOp ixD (eLst (aCons (eC (.str "dies")) (aCons (eC (.str "leaves")) (aCons (eC (.str "cuts")) (aCons (eC (.str "returns")) (aCons (eC (.str "awaits")) (aCons (eC (.str "cuts")) aNil))))))) (eCall F_take (aCons (eVar 0) (aCons (eC (.int 6)) aNil))))) (sSeq (sSet 3 (eCall F_take (aCons (eVar 0) (aCons (eCB lenD (aCons (eVar 1) aNil)) aNil)))) (sSeq (sSet 4 (eOp subD (eOp addD (eOp ixD (eOp ixD (eVar 1) (eCall F_take (aCons (eVar 0) (aCons (eCB lenD (aCons (eVar 1) aNil)) aNil)))) (eC (.int 0))) (eCall F_take (aCons (eVar 0) (aCons (eC (.int 3)) aNil)))) (eC (.int 1)))) (sSeq (sSet 5 (eCB (two maxI) (aCons (eOp ixD (eOp ixD (eVar 1) (eVar 3)) (eC (.int 0))) (aCons (eVar 4) aNil)))) (sSeq (sFog [6] (sIf (tAnd' (tVal (eOp (eqD false) (eVar 2) (eC (.str "awaits")))) (tVal (eOp (eqD false) (eOp ixD (eOp ixD (eVar 1) (eVar 3)) (eC (.int 3))) (eC (.int 0))))) (sSeq (sSet 5 (eCB (two maxI) (aCons (eOp addD (eOp ixD (eOp ixD (eVar 1) (eVar 3)) (eC (.int 0))) (eC (.int 1))) (aCons (eVar 4) aNil)))) (sSeq (sSet 6 (eOp addD (eLst (aCons (eUn negD (eC (.int 1))) aNil)) E_news_1)) (sRet (eTup (aCons (eVar 2) (aCons (eVar 5) (aCons (eVar 3) (aCons (eOp ixD (eVar 6) (eCall F_take (aCons (eVar 0) (aCons (eCB lenD (aCons (eVar 6) aNil)) aNil)))) aNil)))))))) sNil)) (sRet (eTup (aCons (eOp ixD (eLst (aCons (eVar 2) (aCons (eC (.str "leaves")) aNil))) (eCB intD (aCons (eOp (eqD false) (eVar 2) (eC (.str "awaits"))) aNil))) (aCons (eVar 5) (aCons (eVar 3) (aCons (eUn negD (eC (.int 1))) aNil)))))))))))
noncomputable abbrev F_news : Fx := runF P_news.length N_news.length B_news
noncomputable def E_book_1 : Ex := eLc (iRngA (aCons (eCall F_take (aCons (eVar 0) (aCons (eOp addD (eVar 2) (eC (.int 1))) aNil))) aNil)) (gN 3) tYes' (eCall F_news (aCons (eVar 0) (aCons (eVar 1) aNil))) [3]
noncomputable def B_book : Sx := (sRet (eCB tupleD (aCons (eCB sortSetD (aCons E_book_1 aNil)) aNil)))
noncomputable abbrev F_book : Fx := runF P_book.length N_book.length B_book
noncomputable def B_day : Sx := (sSeq (sSet 2 (eOp ixD (eOp ixD (eVar 1) (eCall F_take (aCons (eVar 0) (aCons (eCB lenD (aCons (eVar 1) aNil)) aNil)))) (eC (.int 0)))) (sRet (eCB (two minI) (aCons (eC (.int 99998)) (aCons (eOp ixD (eLst (aCons (eVar 2) (aCons (eOp addD (eVar 2) (eC (.int 1))) (aCons (eOp addD (eOp ixD (eOp ixD (eVar 1) (eUn negD (eC (.int 1)))) (eC (.int 0))) (eC (.int 400))) (aCons (eOp ixD (eOp ixD (eVar 1) (eUn negD (eC (.int 1)))) (eC (.int 0))) aNil))))) (eCall F_take (aCons (eVar 0) (aCons (eC (.int 4)) aNil)))) aNil)))))
noncomputable abbrev F_day : Fx := runF P_day.length N_day.length B_day
noncomputable def E_parent_1 : Ex := eLc (iRngA (aCons (eCB lenD (aCons (eVar 1) aNil)) aNil)) (gN 5) (tAnd' (tVal (eOp (eqD false) (eOp ixD (eOp ixD (eVar 1) (eVar 5)) (eC (.int 3))) (eVar 3))) (tVal (eOp (cmpD ltI) (eOp ixD (eOp ixD (eVar 1) (eVar 5)) (eC (.int 0))) (eVar 2)))) (eVar 5) [5]
noncomputable def B_parent : Sx := (sSeq (sSet 4 E_parent_1) (sSeq (sIf (tOr' (tVal (eOp (eqD false) (eVar 4) (eLst aNil))) (tVal (eOp (eqD false) (eCall F_take (aCons (eVar 0) (aCons (eC (.int 5)) aNil))) (eC (.int 0))))) (sRet (eUn negD (eC (.int 1)))) sNil) (sSeq (sIf (tVal (eOp (eqD false) (eCall F_take (aCons (eVar 0) (aCons (eC (.int 2)) aNil))) (eC (.int 0)))) (sSet 4 (eSlc (eVar 4) (oSome (eUn negD (eC (.int 3)))) oNone)) sNil) (sRet (eOp ixD (eVar 4) (eCall F_take (aCons (eVar 0) (aCons (eCB lenD (aCons (eVar 4) aNil)) aNil))))))))
noncomputable abbrev F_parent : Fx := runF P_parent.length N_parent.length B_parent
noncomputable def L_house_1 : Sx := (sSeq (sSet 3 (eCB (two minI) (aCons (eC (.int 99990)) (aCons (eOp addD (eVar 3) (eOp ixD (eLst (aCons (eC (.int 1)) (aCons (eC (.int 0)) (aCons (eC (.int 1)) (aCons (eC (.int 30)) (aCons (eC (.int 299)) (aCons (eC (.int 300)) (aCons (eC (.int 301)) (aCons (eC (.int 6570)) (aCons (eC (.int 2)) (aCons (eC (.int 1)) aNil))))))))))) (eCall F_take (aCons (eVar 0) (aCons (eC (.int 10)) aNil))))) aNil)))) (sSeq (sSet 6 (eCall F_parent (aCons (eVar 0) (aCons (eVar 4) (aCons (eVar 3) (aCons (eC (.int 1)) aNil)))))) (sSeq (sSet 7 (eCall F_parent (aCons (eVar 0) (aCons (eVar 4) (aCons (eVar 3) (aCons (eC (.int 0)) aNil)))))) (sSeq (sSet 8 (eCall F_take (aCons (eVar 0) (aCons (eC (.int 2)) aNil)))) (sDrop (eMt isLst appD (eVar 4) (aCons (eTup (aCons (eVar 3) (aCons (eVar 6) (aCons (eVar 7) (aCons (eVar 8) (aCons (eCB intD (aCons (eOp (cmpD gtI) (eCall F_take (aCons (eVar 0) (aCons (eC (.int 5)) aNil))) (eC (.int 0))) aNil)) aNil)))))) aNil)))))))
noncomputable def B_house : Sx := (sSeq (sSet 2 (eOp addD (eC (.int 1)) (eCall F_take (aCons (eVar 0) (aCons (eVar 1) aNil))))) (sSeq (sSet 3 (eOp ixD (eLst (aCons (eC (.int 0)) (aCons (eC (.int 7)) (aCons (eC (.int 30000)) aNil)))) (eCall F_take (aCons (eVar 0) (aCons (eC (.int 3)) aNil))))) (sSeq (sSet 4 (eOwn (eLst aNil))) (sSeq (sFor (iRngA (aCons (eVar 2) aNil)) (gN 5) L_house_1 [5, 6, 7, 8]) (sRet (eCB tupleD (aCons (eVar 4) aNil)))))))
noncomputable abbrev F_house : Fx := runF P_house.length N_house.length B_house
noncomputable def B_some : Sx := (sSeq (sSet 2 (eOp (eqD false) (eCall F_take (aCons (eVar 0) (aCons (eC (.int 8)) aNil))) (eC (.int 0)))) (sSeq (sSet 3 (eCall F_house (aCons (eVar 0) (aCons (eOp ixD (eLst (aCons (eVar 1) (aCons (eC (.int 60)) aNil))) (eCB intD (aCons (eVar 2) aNil))) aNil)))) (sSeq (sSet 4 (eCall F_book (aCons (eVar 0) (aCons (eVar 3) (aCons (eOp ixD (eLst (aCons (eC (.int 8)) (aCons (eC (.int 40)) aNil))) (eCB intD (aCons (eVar 2) aNil))) aNil))))) (sRet (eLst (aCons (eVar 3) (aCons (eVar 4) (aCons (eCall F_day (aCons (eVar 0) (aCons (eVar 3) aNil))) aNil))))))))
noncomputable abbrev F_some : Fx := runF P_some.length N_some.length B_some
noncomputable def L_law_1 : Sx := (sIf (tNot' (tTru (eCall F_right (aCons (eOp ixD (eOp ixD (eVar 2) (eVar 4)) (eC (.int 0))) (aCons (eOp ixD (eOp ixD (eVar 2) (eVar 4)) (eC (.int 1))) (aCons (eOp ixD (eOp ixD (eVar 2) (eVar 4)) (eC (.int 2))) aNil)))))) (sRet (eC (.bl false))) sNil)
noncomputable def E_law_1 : Ex := eLc (iRngA (aCons (eC (.int 3)) aNil)) (gN 4) tYes' (eCall F_rows (aCons (eVar 1) (aCons (eVar 5) aNil))) [4]
noncomputable def L_law_2 : Sx := (sSeq (sAsg (gTL [gN 5, gN 6, gN 7]) (eCall F_some (aCons (eVar 1) (aCons (eC (.int 16)) aNil)))) (sDrop (eMt isLst appD (eVar 2) (aCons (eLst (aCons (eVar 5) (aCons (eVar 6) (aCons E_law_1 aNil)))) aNil))))
noncomputable def B_law : Sx := (sSeq (sSet 1 (eOwn (eLst (aCons (eVar 0) (aCons (eC (.int 0)) (aCons (eC (.int 0)) (aCons (eC (.int 92)) aNil))))))) (sSeq (sSet 2 (eOwn (eLst aNil))) (sSeq (sFor (iRngA (aCons (eC (.int 2)) aNil)) (gN 3) L_law_2 [3, 5, 6, 7]) (sSeq (sFor (iSeq (eTup (aCons (eC (.int 0)) (aCons (eC (.int 1)) (aCons (eC (.int 0)) aNil))))) (gN 4) L_law_1 [4]) (sRet (eC (.bl true)))))))
noncomputable abbrev F_law : Fx := runF P_law.length N_law.length B_law
section
variable {P : Program} {w : World} {K : FRG} {mg : Str → Option Value} {base : Heap} {tb : List Addr}
theorem ok_name (C : Ctx K mg tb) (TB_is_rising : GxR.TabB base mg C.co_is_rising C.tb_is_rising) (TB_is_book : GxR.TabB base mg C.co_is_book C.tb_is_book) (TB_is_written_number : GxR.TabB base mg C.co_is_written_number C.tb_is_written_number) (TB_read_book : GxR.TabB base mg C.co_read_book C.tb_read_book) (TB_has_folk_form : GxR.TabB base mg C.co_has_folk_form C.tb_has_folk_form) (TB_is_house : GxR.TabB base mg C.co_is_house C.tb_is_house) (TB_read_house : GxR.TabB base mg C.co_read_house C.tb_read_house) (TB_is_rule : GxR.TabB base mg C.co_is_rule C.tb_is_rule) (TB_read_rule : GxR.TabB base mg C.co_read_rule C.tb_read_rule) : FnG P w K mg base 1 C.f_name C.fd_name P_name (spF K tb P_name.length F_name) := by
  refine okG (k := 0) C.F_name sc_name fun A outer s H E hgd hr => ?_
  exact (bs_one (bs_ret (ex_ix (ex_lst (ax_cons (ex_callTy str_s call_str_int (by rfl) C.z_str (by decide +kernel) (ax_cons (ex_var 0) ax_nil)) (ax_cons ex_str ax_nil))) (ex_callTy int_s call_int1 (by rfl) C.z_int (by decide +kernel) (ax_cons (ex_cmp (op_eqA hr.units) eq_s (ex_var 0) (ex_un un_neg neg_s ex_int) (nomark _)) ax_nil)))))
theorem ok_news_words (C : Ctx K mg tb) (TB_is_rising : GxR.TabB base mg C.co_is_rising C.tb_is_rising) (TB_is_book : GxR.TabB base mg C.co_is_book C.tb_is_book) (TB_is_written_number : GxR.TabB base mg C.co_is_written_number C.tb_is_written_number) (TB_read_book : GxR.TabB base mg C.co_read_book C.tb_read_book) (TB_has_folk_form : GxR.TabB base mg C.co_has_folk_form C.tb_has_folk_form) (TB_is_house : GxR.TabB base mg C.co_is_house C.tb_is_house) (TB_read_house : GxR.TabB base mg C.co_read_house C.tb_read_house) (TB_is_rule : GxR.TabB base mg C.co_is_rule C.tb_is_rule) (TB_read_rule : GxR.TabB base mg C.co_read_rule C.tb_read_rule) : FnG P w K mg base 2 C.f_news_words C.fd_news_words P_news_words (spF K tb P_news_words.length F_news_words) := by
  have G_name : FnG P w K mg base 1 C.f_name C.fd_name P_name (spF K tb P_name.length F_name) := ok_name C TB_is_rising TB_is_book TB_is_written_number TB_read_book TB_has_folk_form TB_is_house TB_read_house TB_is_rule TB_read_rule
  refine okG (k := 1) C.F_news_words sc_news_words fun A outer s H E hgd hr => ?_
  exact (bs_one (bs_ret (ex_op op_addA add_s (ex_lst (ax_cons (ex_ix (ex_var 0) ex_int) (ax_cons (ex_callTy str_s call_str_int (by rfl) C.z_str (by decide +kernel) (ax_cons (ex_ix (ex_var 0) ex_int) ax_nil)) (ax_cons (ex_callTy str_s call_str_int (by rfl) C.z_str (by decide +kernel) (ax_cons (ex_ix (ex_var 0) ex_int) ax_nil)) ax_nil)))) (ex_op op_mulA mul_s (ex_lst (ax_cons (ex_callG (fun _ _ _ h => runF_len h) G_name hgd (hr.mono (by decide)) (by rfl) C.g_name C.F_name.kp C.b_name (ax_cons (ex_ix (ex_var 0) ex_int) ax_nil)) ax_nil)) (ex_callTy int_s call_int1 (by rfl) C.z_int (by decide +kernel) (ax_cons (ex_cmp (op_eqA hr.units) eq_s (ex_ix (ex_var 0) ex_int) ex_str (nomark _)) ax_nil))))))
theorem ok_text (C : Ctx K mg tb) (TB_is_rising : GxR.TabB base mg C.co_is_rising C.tb_is_rising) (TB_is_book : GxR.TabB base mg C.co_is_book C.tb_is_book) (TB_is_written_number : GxR.TabB base mg C.co_is_written_number C.tb_is_written_number) (TB_read_book : GxR.TabB base mg C.co_read_book C.tb_read_book) (TB_has_folk_form : GxR.TabB base mg C.co_has_folk_form C.tb_has_folk_form) (TB_is_house : GxR.TabB base mg C.co_is_house C.tb_is_house) (TB_read_house : GxR.TabB base mg C.co_read_house C.tb_read_house) (TB_is_rule : GxR.TabB base mg C.co_is_rule C.tb_is_rule) (TB_read_rule : GxR.TabB base mg C.co_read_rule C.tb_read_rule) : FnG P w K mg base 1 C.f_text C.fd_text P_text (spF K tb P_text.length F_text) := by
  refine okG (k := 0) C.F_text sc_text fun A outer s H E hgd hr => ?_
  exact (bs_one (bs_ret (ex_join ex_str (ax_cons (ex_lc (own := [("_law_row_here", 1)]) rfl sc_text.nd (tg_name 1) (tw_name 1 (by decide)) (ix_seq' (ex_var 0)) (blkOk_by (own := [("_law_row_here", 1)]) (N := N_text) (sc := defScope s_text) (by decide +kernel)) (fun _ _ _ _ _ => (pg_name (i := 1) sc_text.nd rfl (by first | exact Or.inl rfl | exact Or.inr rfl))) (fun _ _ _ _ _ => ts_nil) (fun _ _ _ _ _ => (ex_op op_addA add_s (ex_join ex_str (ax_cons (ex_var 1) ax_nil)) ex_str))) ax_nil))))
theorem ok_l_book_text (C : Ctx K mg tb) (TB_is_rising : GxR.TabB base mg C.co_is_rising C.tb_is_rising) (TB_is_book : GxR.TabB base mg C.co_is_book C.tb_is_book) (TB_is_written_number : GxR.TabB base mg C.co_is_written_number C.tb_is_written_number) (TB_read_book : GxR.TabB base mg C.co_read_book C.tb_read_book) (TB_has_folk_form : GxR.TabB base mg C.co_has_folk_form C.tb_has_folk_form) (TB_is_house : GxR.TabB base mg C.co_is_house C.tb_is_house) (TB_read_house : GxR.TabB base mg C.co_read_house C.tb_read_house) (TB_is_rule : GxR.TabB base mg C.co_is_rule C.tb_is_rule) (TB_read_rule : GxR.TabB base mg C.co_read_rule C.tb_read_rule) : FnG P w K mg base 3 C.f_l_book_text C.fd_l_book_text P_l_book_text (spF K tb P_l_book_text.length F_l_book_text) := by
  have G_news_words : FnG P w K mg base 2 C.f_news_words C.fd_news_words P_news_words (spF K tb P_news_words.length F_news_words) := ok_news_words C TB_is_rising TB_is_book TB_is_written_number TB_read_book TB_has_folk_form TB_is_house TB_read_house TB_is_rule TB_read_rule
  have G_text : FnG P w K mg base 1 C.f_text C.fd_text P_text (spF K tb P_text.length F_text) := ok_text C TB_is_rising TB_is_book TB_is_written_number TB_read_book TB_has_folk_form TB_is_house TB_read_house TB_is_rule TB_read_rule
  refine okG (k := 2) C.F_l_book_text sc_l_book_text fun A outer s H E hgd hr => ?_
  exact (bs_one (bs_ret (ex_callG (fun _ _ _ h => runF_len h) G_text hgd (hr.mono (by decide)) (by rfl) C.g_text C.F_text.kp C.b_text (ax_cons (ex_lc (own := [("_law_news_here", 1)]) rfl sc_l_book_text.nd (tg_name 1) (tw_name 1 (by decide)) (ix_seq' (ex_var 0)) (blkOk_by (own := [("_law_news_here", 1)]) (N := N_l_book_text) (sc := defScope s_l_book_text) (by decide +kernel)) (fun _ _ _ _ _ => (pg_name (i := 1) sc_l_book_text.nd rfl (by first | exact Or.inl rfl | exact Or.inr rfl))) (fun _ _ _ _ _ => ts_nil) (fun _ _ _ _ _ => (ex_callG (fun _ _ _ h => runF_len h) G_news_words hgd (hr.mono (by decide)) (by rfl) C.g_news_words C.F_news_words.kp C.b_news_words (ax_cons (ex_var 1) ax_nil)))) ax_nil))))
theorem ok_l_house_text (C : Ctx K mg tb) (TB_is_rising : GxR.TabB base mg C.co_is_rising C.tb_is_rising) (TB_is_book : GxR.TabB base mg C.co_is_book C.tb_is_book) (TB_is_written_number : GxR.TabB base mg C.co_is_written_number C.tb_is_written_number) (TB_read_book : GxR.TabB base mg C.co_read_book C.tb_read_book) (TB_has_folk_form : GxR.TabB base mg C.co_has_folk_form C.tb_has_folk_form) (TB_is_house : GxR.TabB base mg C.co_is_house C.tb_is_house) (TB_read_house : GxR.TabB base mg C.co_read_house C.tb_read_house) (TB_is_rule : GxR.TabB base mg C.co_is_rule C.tb_is_rule) (TB_read_rule : GxR.TabB base mg C.co_read_rule C.tb_read_rule) : FnG P w K mg base 2 C.f_l_house_text C.fd_l_house_text P_l_house_text (spF K tb P_l_house_text.length F_l_house_text) := by
  have G_name : FnG P w K mg base 1 C.f_name C.fd_name P_name (spF K tb P_name.length F_name) := ok_name C TB_is_rising TB_is_book TB_is_written_number TB_read_book TB_has_folk_form TB_is_house TB_read_house TB_is_rule TB_read_rule
  have G_text : FnG P w K mg base 1 C.f_text C.fd_text P_text (spF K tb P_text.length F_text) := ok_text C TB_is_rising TB_is_book TB_is_written_number TB_read_book TB_has_folk_form TB_is_house TB_read_house TB_is_rule TB_read_rule
  refine okG (k := 1) C.F_l_house_text sc_l_house_text fun A outer s H E hgd hr => ?_
  exact (bs_cons (bs_set 1 sc_l_house_text.nd (ex_own (ex_lst ax_nil)))
      (bs_cons (bs_for (dd := [2, 3, 4, 5, 6]) rfl (tg_tup rfl (tgs_cons (tg_name 2) (tgs_cons (tg_name 3) (tgs_cons (tg_name 4) (tgs_cons (tg_name 5) (tgs_cons (tg_name 6) tgs_nil)))))) PassesOwn.never (ix_seq' (ex_var 0)) (pg_tup rfl (pgs_cons (pg_name (i := 2) sc_l_house_text.nd rfl (by first | exact Or.inl rfl | exact Or.inr rfl)) (pgs_cons (pg_name (i := 3) sc_l_house_text.nd rfl (by first | exact Or.inl rfl | exact Or.inr rfl)) (pgs_cons (pg_name (i := 4) sc_l_house_text.nd rfl (by first | exact Or.inl rfl | exact Or.inr rfl)) (pgs_cons (pg_name (i := 5) sc_l_house_text.nd rfl (by first | exact Or.inl rfl | exact Or.inr rfl)) (pgs_cons (pg_name (i := 6) sc_l_house_text.nd rfl (by first | exact Or.inl rfl | exact Or.inr rfl)) pgs_nil)))))) (bs_one (bs_drop (ex_append (ex_var 1) (ax_cons (ex_lst (ax_cons (ex_callTy str_s call_str_int (by rfl) C.z_str (by decide +kernel) (ax_cons (ex_var 2) ax_nil)) (ax_cons (ex_callG (fun _ _ _ h => runF_len h) G_name hgd (hr.mono (by decide)) (by rfl) C.g_name C.F_name.kp C.b_name (ax_cons (ex_var 3) ax_nil)) (ax_cons (ex_callG (fun _ _ _ h => runF_len h) G_name hgd (hr.mono (by decide)) (by rfl) C.g_name C.F_name.kp C.b_name (ax_cons (ex_var 4) ax_nil)) (ax_cons (ex_ix (ex_lst (ax_cons ex_str (ax_cons ex_str ax_nil))) (ex_var 5)) (ax_cons (ex_ix (ex_lst (ax_cons ex_str (ax_cons ex_str ax_nil))) (ex_var 6)) ax_nil)))))) ax_nil)))))
      (bs_one (bs_ret (ex_callG (fun _ _ _ h => runF_len h) G_text hgd (hr.mono (by decide)) (by rfl) C.g_text C.F_text.kp C.b_text (ax_cons (ex_var 1) ax_nil))))))
theorem ok_is_plain_r0 (C : Ctx K mg tb) (TB_is_rising : GxR.TabB base mg C.co_is_rising C.tb_is_rising) (TB_is_book : GxR.TabB base mg C.co_is_book C.tb_is_book) (TB_is_written_number : GxR.TabB base mg C.co_is_written_number C.tb_is_written_number) (TB_read_book : GxR.TabB base mg C.co_read_book C.tb_read_book) (TB_has_folk_form : GxR.TabB base mg C.co_has_folk_form C.tb_has_folk_form) (TB_is_house : GxR.TabB base mg C.co_is_house C.tb_is_house) (TB_read_house : GxR.TabB base mg C.co_read_house C.tb_read_house) (TB_is_rule : GxR.TabB base mg C.co_is_rule C.tb_is_rule) (TB_read_rule : GxR.TabB base mg C.co_read_rule C.tb_read_rule) : FnG P w K mg base 0 C.f_is_plain C.fd_is_plain P_is_plain (spF K tb P_is_plain.length F_is_plain_r0) := fnG_none
theorem ok_is_plain_r1 (C : Ctx K mg tb) (TB_is_rising : GxR.TabB base mg C.co_is_rising C.tb_is_rising) (TB_is_book : GxR.TabB base mg C.co_is_book C.tb_is_book) (TB_is_written_number : GxR.TabB base mg C.co_is_written_number C.tb_is_written_number) (TB_read_book : GxR.TabB base mg C.co_read_book C.tb_read_book) (TB_has_folk_form : GxR.TabB base mg C.co_has_folk_form C.tb_has_folk_form) (TB_is_house : GxR.TabB base mg C.co_is_house C.tb_is_house) (TB_read_house : GxR.TabB base mg C.co_read_house C.tb_read_house) (TB_is_rule : GxR.TabB base mg C.co_is_rule C.tb_is_rule) (TB_read_rule : GxR.TabB base mg C.co_read_rule C.tb_read_rule) : FnG P w K mg base 1 C.f_is_plain C.fd_is_plain P_is_plain (spF K tb P_is_plain.length F_is_plain_r1) := by
  have G_is_plain : FnG P w K mg base 0 C.f_is_plain C.fd_is_plain P_is_plain (spF K tb P_is_plain.length F_is_plain_r0) := ok_is_plain_r0 C TB_is_rising TB_is_book TB_is_written_number TB_read_book TB_has_folk_form TB_is_house TB_read_house TB_is_rule TB_read_rule
  refine okG (k := 0) C.F_is_plain sc_is_plain fun A outer s H E hgd hr => ?_
  exact (bs_cons (bs_if (tx_tru (ex_isi .tuple (by rfl) C.z_isinstance (by rfl) C.z_tuple (by decide +kernel) (ex_var 0))) (bs_one (bs_ret (ex_callB allB_s (cr_all rfl) (by rfl) C.z_all (by decide +kernel) (ax_cons (ex_lc (own := [("_law_part", 1)]) rfl sc_is_plain.nd (tg_name 1) (tw_name 1 (by decide)) (ix_seq' (ex_var 0)) (blkOk_by (own := [("_law_part", 1)]) (N := N_is_plain) (sc := defScope s_is_plain) (by decide +kernel)) (fun _ _ _ _ _ => (pg_name (i := 1) sc_is_plain.nd rfl (by first | exact Or.inl rfl | exact Or.inr rfl))) (fun _ _ _ _ _ => ts_nil) (fun _ _ _ _ _ => (ex_callG (fun _ _ _ h => runF_len h) G_is_plain hgd (hr.mono (by decide)) (by rfl) C.g_is_plain C.F_is_plain.kp C.b_is_plain (ax_cons (ex_var 1) ax_nil)))) ax_nil)))) bs_nil)
      (bs_one (bs_ret (ex_and (ex_isi2 .int .str (by rfl) C.z_isinstance (by rfl) C.z_int (by decide +kernel) (by rfl) C.z_str (by decide +kernel) (ex_var 0)) (ex_one (ex_not (ex_isi .bool (by rfl) C.z_isinstance (by rfl) C.z_bool (by decide +kernel) (ex_var 0))))))))
theorem ok_is_plain_r2 (C : Ctx K mg tb) (TB_is_rising : GxR.TabB base mg C.co_is_rising C.tb_is_rising) (TB_is_book : GxR.TabB base mg C.co_is_book C.tb_is_book) (TB_is_written_number : GxR.TabB base mg C.co_is_written_number C.tb_is_written_number) (TB_read_book : GxR.TabB base mg C.co_read_book C.tb_read_book) (TB_has_folk_form : GxR.TabB base mg C.co_has_folk_form C.tb_has_folk_form) (TB_is_house : GxR.TabB base mg C.co_is_house C.tb_is_house) (TB_read_house : GxR.TabB base mg C.co_read_house C.tb_read_house) (TB_is_rule : GxR.TabB base mg C.co_is_rule C.tb_is_rule) (TB_read_rule : GxR.TabB base mg C.co_read_rule C.tb_read_rule) : FnG P w K mg base 2 C.f_is_plain C.fd_is_plain P_is_plain (spF K tb P_is_plain.length F_is_plain_r2) := by
  have G_is_plain : FnG P w K mg base 1 C.f_is_plain C.fd_is_plain P_is_plain (spF K tb P_is_plain.length F_is_plain_r1) := ok_is_plain_r1 C TB_is_rising TB_is_book TB_is_written_number TB_read_book TB_has_folk_form TB_is_house TB_read_house TB_is_rule TB_read_rule
  refine okG (k := 1) C.F_is_plain sc_is_plain fun A outer s H E hgd hr => ?_
  exact (bs_cons (bs_if (tx_tru (ex_isi .tuple (by rfl) C.z_isinstance (by rfl) C.z_tuple (by decide +kernel) (ex_var 0))) (bs_one (bs_ret (ex_callB allB_s (cr_all rfl) (by rfl) C.z_all (by decide +kernel) (ax_cons (ex_lc (own := [("_law_part", 1)]) rfl sc_is_plain.nd (tg_name 1) (tw_name 1 (by decide)) (ix_seq' (ex_var 0)) (blkOk_by (own := [("_law_part", 1)]) (N := N_is_plain) (sc := defScope s_is_plain) (by decide +kernel)) (fun _ _ _ _ _ => (pg_name (i := 1) sc_is_plain.nd rfl (by first | exact Or.inl rfl | exact Or.inr rfl))) (fun _ _ _ _ _ => ts_nil) (fun _ _ _ _ _ => (ex_callG (fun _ _ _ h => runF_len h) G_is_plain hgd (hr.mono (by decide)) (by rfl) C.g_is_plain C.F_is_plain.kp C.b_is_plain (ax_cons (ex_var 1) ax_nil)))) ax_nil)))) bs_nil)
      (bs_one (bs_ret (ex_and (ex_isi2 .int .str (by rfl) C.z_isinstance (by rfl) C.z_int (by decide +kernel) (by rfl) C.z_str (by decide +kernel) (ex_var 0)) (ex_one (ex_not (ex_isi .bool (by rfl) C.z_isinstance (by rfl) C.z_bool (by decide +kernel) (ex_var 0))))))))
theorem ok_is_plain_r3 (C : Ctx K mg tb) (TB_is_rising : GxR.TabB base mg C.co_is_rising C.tb_is_rising) (TB_is_book : GxR.TabB base mg C.co_is_book C.tb_is_book) (TB_is_written_number : GxR.TabB base mg C.co_is_written_number C.tb_is_written_number) (TB_read_book : GxR.TabB base mg C.co_read_book C.tb_read_book) (TB_has_folk_form : GxR.TabB base mg C.co_has_folk_form C.tb_has_folk_form) (TB_is_house : GxR.TabB base mg C.co_is_house C.tb_is_house) (TB_read_house : GxR.TabB base mg C.co_read_house C.tb_read_house) (TB_is_rule : GxR.TabB base mg C.co_is_rule C.tb_is_rule) (TB_read_rule : GxR.TabB base mg C.co_read_rule C.tb_read_rule) : FnG P w K mg base 3 C.f_is_plain C.fd_is_plain P_is_plain (spF K tb P_is_plain.length F_is_plain_r3) := by
  have G_is_plain : FnG P w K mg base 2 C.f_is_plain C.fd_is_plain P_is_plain (spF K tb P_is_plain.length F_is_plain_r2) := ok_is_plain_r2 C TB_is_rising TB_is_book TB_is_written_number TB_read_book TB_has_folk_form TB_is_house TB_read_house TB_is_rule TB_read_rule
  refine okG (k := 2) C.F_is_plain sc_is_plain fun A outer s H E hgd hr => ?_
  exact (bs_cons (bs_if (tx_tru (ex_isi .tuple (by rfl) C.z_isinstance (by rfl) C.z_tuple (by decide +kernel) (ex_var 0))) (bs_one (bs_ret (ex_callB allB_s (cr_all rfl) (by rfl) C.z_all (by decide +kernel) (ax_cons (ex_lc (own := [("_law_part", 1)]) rfl sc_is_plain.nd (tg_name 1) (tw_name 1 (by decide)) (ix_seq' (ex_var 0)) (blkOk_by (own := [("_law_part", 1)]) (N := N_is_plain) (sc := defScope s_is_plain) (by decide +kernel)) (fun _ _ _ _ _ => (pg_name (i := 1) sc_is_plain.nd rfl (by first | exact Or.inl rfl | exact Or.inr rfl))) (fun _ _ _ _ _ => ts_nil) (fun _ _ _ _ _ => (ex_callG (fun _ _ _ h => runF_len h) G_is_plain hgd (hr.mono (by decide)) (by rfl) C.g_is_plain C.F_is_plain.kp C.b_is_plain (ax_cons (ex_var 1) ax_nil)))) ax_nil)))) bs_nil)
      (bs_one (bs_ret (ex_and (ex_isi2 .int .str (by rfl) C.z_isinstance (by rfl) C.z_int (by decide +kernel) (by rfl) C.z_str (by decide +kernel) (ex_var 0)) (ex_one (ex_not (ex_isi .bool (by rfl) C.z_isinstance (by rfl) C.z_bool (by decide +kernel) (ex_var 0))))))))
theorem ok_is_plain_r4 (C : Ctx K mg tb) (TB_is_rising : GxR.TabB base mg C.co_is_rising C.tb_is_rising) (TB_is_book : GxR.TabB base mg C.co_is_book C.tb_is_book) (TB_is_written_number : GxR.TabB base mg C.co_is_written_number C.tb_is_written_number) (TB_read_book : GxR.TabB base mg C.co_read_book C.tb_read_book) (TB_has_folk_form : GxR.TabB base mg C.co_has_folk_form C.tb_has_folk_form) (TB_is_house : GxR.TabB base mg C.co_is_house C.tb_is_house) (TB_read_house : GxR.TabB base mg C.co_read_house C.tb_read_house) (TB_is_rule : GxR.TabB base mg C.co_is_rule C.tb_is_rule) (TB_read_rule : GxR.TabB base mg C.co_read_rule C.tb_read_rule) : FnG P w K mg base 4 C.f_is_plain C.fd_is_plain P_is_plain (spF K tb P_is_plain.length F_is_plain_r4) := by
  have G_is_plain : FnG P w K mg base 3 C.f_is_plain C.fd_is_plain P_is_plain (spF K tb P_is_plain.length F_is_plain_r3) := ok_is_plain_r3 C TB_is_rising TB_is_book TB_is_written_number TB_read_book TB_has_folk_form TB_is_house TB_read_house TB_is_rule TB_read_rule
  refine okG (k := 3) C.F_is_plain sc_is_plain fun A outer s H E hgd hr => ?_
  exact (bs_cons (bs_if (tx_tru (ex_isi .tuple (by rfl) C.z_isinstance (by rfl) C.z_tuple (by decide +kernel) (ex_var 0))) (bs_one (bs_ret (ex_callB allB_s (cr_all rfl) (by rfl) C.z_all (by decide +kernel) (ax_cons (ex_lc (own := [("_law_part", 1)]) rfl sc_is_plain.nd (tg_name 1) (tw_name 1 (by decide)) (ix_seq' (ex_var 0)) (blkOk_by (own := [("_law_part", 1)]) (N := N_is_plain) (sc := defScope s_is_plain) (by decide +kernel)) (fun _ _ _ _ _ => (pg_name (i := 1) sc_is_plain.nd rfl (by first | exact Or.inl rfl | exact Or.inr rfl))) (fun _ _ _ _ _ => ts_nil) (fun _ _ _ _ _ => (ex_callG (fun _ _ _ h => runF_len h) G_is_plain hgd (hr.mono (by decide)) (by rfl) C.g_is_plain C.F_is_plain.kp C.b_is_plain (ax_cons (ex_var 1) ax_nil)))) ax_nil)))) bs_nil)
      (bs_one (bs_ret (ex_and (ex_isi2 .int .str (by rfl) C.z_isinstance (by rfl) C.z_int (by decide +kernel) (by rfl) C.z_str (by decide +kernel) (ex_var 0)) (ex_one (ex_not (ex_isi .bool (by rfl) C.z_isinstance (by rfl) C.z_bool (by decide +kernel) (ex_var 0))))))))
theorem ok_is_plain (C : Ctx K mg tb) (TB_is_rising : GxR.TabB base mg C.co_is_rising C.tb_is_rising) (TB_is_book : GxR.TabB base mg C.co_is_book C.tb_is_book) (TB_is_written_number : GxR.TabB base mg C.co_is_written_number C.tb_is_written_number) (TB_read_book : GxR.TabB base mg C.co_read_book C.tb_read_book) (TB_has_folk_form : GxR.TabB base mg C.co_has_folk_form C.tb_has_folk_form) (TB_is_house : GxR.TabB base mg C.co_is_house C.tb_is_house) (TB_read_house : GxR.TabB base mg C.co_read_house C.tb_read_house) (TB_is_rule : GxR.TabB base mg C.co_is_rule C.tb_is_rule) (TB_read_rule : GxR.TabB base mg C.co_read_rule C.tb_read_rule) : FnG P w K mg base 4 C.f_is_plain C.fd_is_plain P_is_plain (spF K tb P_is_plain.length F_is_plain) := ok_is_plain_r4 C TB_is_rising TB_is_book TB_is_written_number TB_read_book TB_has_folk_form TB_is_house TB_read_house TB_is_rule TB_read_rule
theorem ok_rows_text (C : Ctx K mg tb) (TB_is_rising : GxR.TabB base mg C.co_is_rising C.tb_is_rising) (TB_is_book : GxR.TabB base mg C.co_is_book C.tb_is_book) (TB_is_written_number : GxR.TabB base mg C.co_is_written_number C.tb_is_written_number) (TB_read_book : GxR.TabB base mg C.co_read_book C.tb_read_book) (TB_has_folk_form : GxR.TabB base mg C.co_has_folk_form C.tb_has_folk_form) (TB_is_house : GxR.TabB base mg C.co_is_house C.tb_is_house) (TB_read_house : GxR.TabB base mg C.co_read_house C.tb_read_house) (TB_is_rule : GxR.TabB base mg C.co_is_rule C.tb_is_rule) (TB_read_rule : GxR.TabB base mg C.co_read_rule C.tb_read_rule) : FnG P w K mg base 2 C.f_rows_text C.fd_rows_text P_rows_text (spF K tb P_rows_text.length F_rows_text) := by
  have G_text : FnG P w K mg base 1 C.f_text C.fd_text P_text (spF K tb P_text.length F_text) := ok_text C TB_is_rising TB_is_book TB_is_written_number TB_read_book TB_has_folk_form TB_is_house TB_read_house TB_is_rule TB_read_rule
  refine okG (k := 1) C.F_rows_text sc_rows_text fun A outer s H E hgd hr => ?_
  exact (bs_one (bs_ret (ex_callG (fun _ _ _ h => runF_len h) G_text hgd (hr.mono (by decide)) (by rfl) C.g_text C.F_text.kp C.b_text (ax_cons (ex_lc (own := [("_law_founder", 1), ("_law_men", 2), ("_law_wed", 3), ("_law_way", 4)]) rfl sc_rows_text.nd (tg_tup rfl (tgs_cons (tg_name 1) (tgs_cons (tg_name 2) (tgs_cons (tg_name 3) (tgs_cons (tg_name 4) tgs_nil))))) (tw_tup (tws_cons (i := 1) (by decide) (tws_cons (i := 2) (by decide) (tws_cons (i := 3) (by decide) (tws_cons (i := 4) (by decide) tws_nil))))) (ix_seq' (ex_var 0)) (blkOk_by (own := [("_law_founder", 1), ("_law_men", 2), ("_law_wed", 3), ("_law_way", 4)]) (N := N_rows_text) (sc := defScope s_rows_text) (by decide +kernel)) (fun _ _ _ _ _ => (pg_tup rfl (pgs_cons (pg_name (i := 1) sc_rows_text.nd rfl (by first | exact Or.inl rfl | exact Or.inr rfl)) (pgs_cons (pg_name (i := 2) sc_rows_text.nd rfl (by first | exact Or.inl rfl | exact Or.inr rfl)) (pgs_cons (pg_name (i := 3) sc_rows_text.nd rfl (by first | exact Or.inl rfl | exact Or.inr rfl)) (pgs_cons (pg_name (i := 4) sc_rows_text.nd rfl (by first | exact Or.inl rfl | exact Or.inr rfl)) pgs_nil)))))) (fun _ _ _ _ _ => ts_nil) (fun _ _ _ _ _ => (ex_lst (ax_cons (ex_callTy str_s call_str_int (by rfl) C.z_str (by decide +kernel) (ax_cons (ex_var 1) ax_nil)) (ax_cons (ex_var 2) (ax_cons (ex_ix (ex_lst (ax_cons ex_str (ax_cons ex_str ax_nil))) (ex_var 3)) (ax_cons (ex_var 4) ax_nil))))))) ax_nil))))
theorem ok_who_word (C : Ctx K mg tb) (TB_is_rising : GxR.TabB base mg C.co_is_rising C.tb_is_rising) (TB_is_book : GxR.TabB base mg C.co_is_book C.tb_is_book) (TB_is_written_number : GxR.TabB base mg C.co_is_written_number C.tb_is_written_number) (TB_read_book : GxR.TabB base mg C.co_read_book C.tb_read_book) (TB_has_folk_form : GxR.TabB base mg C.co_has_folk_form C.tb_has_folk_form) (TB_is_house : GxR.TabB base mg C.co_is_house C.tb_is_house) (TB_read_house : GxR.TabB base mg C.co_read_house C.tb_read_house) (TB_is_rule : GxR.TabB base mg C.co_is_rule C.tb_is_rule) (TB_read_rule : GxR.TabB base mg C.co_read_rule C.tb_read_rule) : FnG P w K mg base 1 C.f_who_word C.fd_who_word P_who_word (spF K tb P_who_word.length F_who_word) := by
  refine okG (k := 0) C.F_who_word sc_who_word fun A outer s H E hgd hr => ?_
  exact (bs_one (bs_ret (ex_if (tx_cmp (op_eqA hr.units) eq_s (ex_var 0) (ex_un un_neg neg_s ex_int) (nomark _)) (ex_globS (by rfl) C.v_NOBODY) (ex_callTy str_s call_str_int (by rfl) C.z_str (by decide +kernel) (ax_cons (ex_var 0) ax_nil)))))
theorem ok_news_line (C : Ctx K mg tb) (TB_is_rising : GxR.TabB base mg C.co_is_rising C.tb_is_rising) (TB_is_book : GxR.TabB base mg C.co_is_book C.tb_is_book) (TB_is_written_number : GxR.TabB base mg C.co_is_written_number C.tb_is_written_number) (TB_read_book : GxR.TabB base mg C.co_read_book C.tb_read_book) (TB_has_folk_form : GxR.TabB base mg C.co_has_folk_form C.tb_has_folk_form) (TB_is_house : GxR.TabB base mg C.co_is_house C.tb_is_house) (TB_read_house : GxR.TabB base mg C.co_read_house C.tb_read_house) (TB_is_rule : GxR.TabB base mg C.co_is_rule C.tb_is_rule) (TB_read_rule : GxR.TabB base mg C.co_read_rule C.tb_read_rule) : FnG P w K mg base 2 C.f_news_line C.fd_news_line P_news_line (spF K tb P_news_line.length F_news_line) := by
  have G_who_word : FnG P w K mg base 1 C.f_who_word C.fd_who_word P_who_word (spF K tb P_who_word.length F_who_word) := ok_who_word C TB_is_rising TB_is_book TB_is_written_number TB_read_book TB_has_folk_form TB_is_house TB_read_house TB_is_rule TB_read_rule
  refine okG (k := 1) C.F_news_line sc_news_line fun A outer s H E hgd hr => ?_
  exact (bs_cons (bs_asg (tg_tup rfl (tgs_cons (tg_name 2) (tgs_cons (tg_name 3) (tgs_cons (tg_name 4) (tgs_cons (tg_name 5) tgs_nil))))) (ex_var 0) (pg_tup rfl (pgs_cons (pg_name (i := 2) sc_news_line.nd rfl (by first | exact Or.inl rfl | exact Or.inr rfl)) (pgs_cons (pg_name (i := 3) sc_news_line.nd rfl (by first | exact Or.inl rfl | exact Or.inr rfl)) (pgs_cons (pg_name (i := 4) sc_news_line.nd rfl (by first | exact Or.inl rfl | exact Or.inr rfl)) (pgs_cons (pg_name (i := 5) sc_news_line.nd rfl (by first | exact Or.inl rfl | exact Or.inr rfl)) pgs_nil))))))
      (bs_cons (bs_set 1 sc_news_line.nd (ex_own (ex_lst (ax_cons (ex_var 2) (ax_cons (ex_callTy str_s call_str_int (by rfl) C.z_str (by decide +kernel) (ax_cons (ex_var 3) ax_nil)) (ax_cons (ex_callTy str_s call_str_int (by rfl) C.z_str (by decide +kernel) (ax_cons (ex_var 4) ax_nil)) ax_nil))))))
      (bs_cons (bs_if (tx_cmp (op_eqA hr.units) eq_s (ex_var 2) ex_str (nomark _)) (bs_one (bs_drop (ex_append (ex_var 1) (ax_cons (ex_callG (fun _ _ _ h => runF_len h) G_who_word hgd (hr.mono (by decide)) (by rfl) C.g_who_word C.F_who_word.kp C.b_who_word (ax_cons (ex_var 5) ax_nil)) ax_nil)))) bs_nil)
      (bs_one (bs_ret (ex_join ex_str (ax_cons (ex_var 1) ax_nil)))))))
theorem ok_text_of (C : Ctx K mg tb) (TB_is_rising : GxR.TabB base mg C.co_is_rising C.tb_is_rising) (TB_is_book : GxR.TabB base mg C.co_is_book C.tb_is_book) (TB_is_written_number : GxR.TabB base mg C.co_is_written_number C.tb_is_written_number) (TB_read_book : GxR.TabB base mg C.co_read_book C.tb_read_book) (TB_has_folk_form : GxR.TabB base mg C.co_has_folk_form C.tb_has_folk_form) (TB_is_house : GxR.TabB base mg C.co_is_house C.tb_is_house) (TB_read_house : GxR.TabB base mg C.co_read_house C.tb_read_house) (TB_is_rule : GxR.TabB base mg C.co_is_rule C.tb_is_rule) (TB_read_rule : GxR.TabB base mg C.co_read_rule C.tb_read_rule) : FnG P w K mg base 1 C.f_text_of C.fd_text_of P_text_of (spF K tb P_text_of.length F_text_of) := by
  refine okG (k := 0) C.F_text_of sc_text_of fun A outer s H E hgd hr => ?_
  exact (bs_one (bs_ret (ex_join ex_str (ax_cons (ex_lc (own := [("line", 1)]) rfl sc_text_of.nd (tg_name 1) (tw_name 1 (by decide)) (ix_seq' (ex_var 0)) (blkOk_by (own := [("line", 1)]) (N := N_text_of) (sc := defScope s_text_of) (by decide +kernel)) (fun _ _ _ _ _ => (pg_name (i := 1) sc_text_of.nd rfl (by first | exact Or.inl rfl | exact Or.inr rfl))) (fun _ _ _ _ _ => ts_nil) (fun _ _ _ _ _ => (ex_op op_addA add_s (ex_var 1) ex_str))) ax_nil))))
theorem ok_book_text (C : Ctx K mg tb) (TB_is_rising : GxR.TabB base mg C.co_is_rising C.tb_is_rising) (TB_is_book : GxR.TabB base mg C.co_is_book C.tb_is_book) (TB_is_written_number : GxR.TabB base mg C.co_is_written_number C.tb_is_written_number) (TB_read_book : GxR.TabB base mg C.co_read_book C.tb_read_book) (TB_has_folk_form : GxR.TabB base mg C.co_has_folk_form C.tb_has_folk_form) (TB_is_house : GxR.TabB base mg C.co_is_house C.tb_is_house) (TB_read_house : GxR.TabB base mg C.co_read_house C.tb_read_house) (TB_is_rule : GxR.TabB base mg C.co_is_rule C.tb_is_rule) (TB_read_rule : GxR.TabB base mg C.co_read_rule C.tb_read_rule) : FnG P w K mg base 3 C.f_book_text C.fd_book_text P_book_text (spF K tb P_book_text.length F_book_text) := by
  have G_news_line : FnG P w K mg base 2 C.f_news_line C.fd_news_line P_news_line (spF K tb P_news_line.length F_news_line) := ok_news_line C TB_is_rising TB_is_book TB_is_written_number TB_read_book TB_has_folk_form TB_is_house TB_read_house TB_is_rule TB_read_rule
  have G_text_of : FnG P w K mg base 1 C.f_text_of C.fd_text_of P_text_of (spF K tb P_text_of.length F_text_of) := ok_text_of C TB_is_rising TB_is_book TB_is_written_number TB_read_book TB_has_folk_form TB_is_house TB_read_house TB_is_rule TB_read_rule
  refine okG (k := 2) C.F_book_text sc_book_text fun A outer s H E hgd hr => ?_
  exact (bs_one (bs_ret (ex_callG (fun _ _ _ h => runF_len h) G_text_of hgd (hr.mono (by decide)) (by rfl) C.g_text_of C.F_text_of.kp C.b_text_of (ax_cons (ex_lc (own := [("news", 1)]) rfl sc_book_text.nd (tg_name 1) (tw_name 1 (by decide)) (ix_seq' (ex_var 0)) (blkOk_by (own := [("news", 1)]) (N := N_book_text) (sc := defScope s_book_text) (by decide +kernel)) (fun _ _ _ _ _ => (pg_name (i := 1) sc_book_text.nd rfl (by first | exact Or.inl rfl | exact Or.inr rfl))) (fun _ _ _ _ _ => ts_nil) (fun _ _ _ _ _ => (ex_callG (fun _ _ _ h => runF_len h) G_news_line hgd (hr.mono (by decide)) (by rfl) C.g_news_line C.F_news_line.kp C.b_news_line (ax_cons (ex_var 1) ax_nil)))) ax_nil))))
theorem ok_folk_line (C : Ctx K mg tb) (TB_is_rising : GxR.TabB base mg C.co_is_rising C.tb_is_rising) (TB_is_book : GxR.TabB base mg C.co_is_book C.tb_is_book) (TB_is_written_number : GxR.TabB base mg C.co_is_written_number C.tb_is_written_number) (TB_read_book : GxR.TabB base mg C.co_read_book C.tb_read_book) (TB_has_folk_form : GxR.TabB base mg C.co_has_folk_form C.tb_has_folk_form) (TB_is_house : GxR.TabB base mg C.co_is_house C.tb_is_house) (TB_read_house : GxR.TabB base mg C.co_read_house C.tb_read_house) (TB_is_rule : GxR.TabB base mg C.co_is_rule C.tb_is_rule) (TB_read_rule : GxR.TabB base mg C.co_read_rule C.tb_read_rule) : FnG P w K mg base 2 C.f_folk_line C.fd_folk_line P_folk_line (spF K tb P_folk_line.length F_folk_line) := by
  have G_who_word : FnG P w K mg base 1 C.f_who_word C.fd_who_word P_who_word (spF K tb P_who_word.length F_who_word) := ok_who_word C TB_is_rising TB_is_book TB_is_written_number TB_read_book TB_has_folk_form TB_is_house TB_read_house TB_is_rule TB_read_rule
  refine okG (k := 1) C.F_folk_line sc_folk_line fun A outer s H E hgd hr => ?_
  exact (bs_cons (bs_asg (tg_tup rfl (tgs_cons (tg_name 1) (tgs_cons (tg_name 2) (tgs_cons (tg_name 3) (tgs_cons (tg_name 4) (tgs_cons (tg_name 5) tgs_nil)))))) (ex_var 0) (pg_tup rfl (pgs_cons (pg_name (i := 1) sc_folk_line.nd rfl (by first | exact Or.inl rfl | exact Or.inr rfl)) (pgs_cons (pg_name (i := 2) sc_folk_line.nd rfl (by first | exact Or.inl rfl | exact Or.inr rfl)) (pgs_cons (pg_name (i := 3) sc_folk_line.nd rfl (by first | exact Or.inl rfl | exact Or.inr rfl)) (pgs_cons (pg_name (i := 4) sc_folk_line.nd rfl (by first | exact Or.inl rfl | exact Or.inr rfl)) (pgs_cons (pg_name (i := 5) sc_folk_line.nd rfl (by first | exact Or.inl rfl | exact Or.inr rfl)) pgs_nil)))))))
      (bs_one (bs_ret (ex_join ex_str (ax_cons (ex_lst (ax_cons (ex_callTy str_s call_str_int (by rfl) C.z_str (by decide +kernel) (ax_cons (ex_var 1) ax_nil)) (ax_cons (ex_callG (fun _ _ _ h => runF_len h) G_who_word hgd (hr.mono (by decide)) (by rfl) C.g_who_word C.F_who_word.kp C.b_who_word (ax_cons (ex_var 2) ax_nil)) (ax_cons (ex_callG (fun _ _ _ h => runF_len h) G_who_word hgd (hr.mono (by decide)) (by rfl) C.g_who_word C.F_who_word.kp C.b_who_word (ax_cons (ex_var 3) ax_nil)) (ax_cons (ex_ix (ex_globT (by rfl) C.v_SEXES.glT) (ex_var 4)) (ax_cons (ex_ix (ex_globT (by rfl) C.v_BIRTHS.glT) (ex_var 5)) ax_nil)))))) ax_nil)))))
theorem ok_house_text (C : Ctx K mg tb) (TB_is_rising : GxR.TabB base mg C.co_is_rising C.tb_is_rising) (TB_is_book : GxR.TabB base mg C.co_is_book C.tb_is_book) (TB_is_written_number : GxR.TabB base mg C.co_is_written_number C.tb_is_written_number) (TB_read_book : GxR.TabB base mg C.co_read_book C.tb_read_book) (TB_has_folk_form : GxR.TabB base mg C.co_has_folk_form C.tb_has_folk_form) (TB_is_house : GxR.TabB base mg C.co_is_house C.tb_is_house) (TB_read_house : GxR.TabB base mg C.co_read_house C.tb_read_house) (TB_is_rule : GxR.TabB base mg C.co_is_rule C.tb_is_rule) (TB_read_rule : GxR.TabB base mg C.co_read_rule C.tb_read_rule) : FnG P w K mg base 3 C.f_house_text C.fd_house_text P_house_text (spF K tb P_house_text.length F_house_text) := by
  have G_folk_line : FnG P w K mg base 2 C.f_folk_line C.fd_folk_line P_folk_line (spF K tb P_folk_line.length F_folk_line) := ok_folk_line C TB_is_rising TB_is_book TB_is_written_number TB_read_book TB_has_folk_form TB_is_house TB_read_house TB_is_rule TB_read_rule
  have G_text_of : FnG P w K mg base 1 C.f_text_of C.fd_text_of P_text_of (spF K tb P_text_of.length F_text_of) := ok_text_of C TB_is_rising TB_is_book TB_is_written_number TB_read_book TB_has_folk_form TB_is_house TB_read_house TB_is_rule TB_read_rule
  refine okG (k := 2) C.F_house_text sc_house_text fun A outer s H E hgd hr => ?_
  exact (bs_one (bs_ret (ex_callG (fun _ _ _ h => runF_len h) G_text_of hgd (hr.mono (by decide)) (by rfl) C.g_text_of C.F_text_of.kp C.b_text_of (ax_cons (ex_lc (own := [("folk", 1)]) rfl sc_house_text.nd (tg_name 1) (tw_name 1 (by decide)) (ix_seq' (ex_var 0)) (blkOk_by (own := [("folk", 1)]) (N := N_house_text) (sc := defScope s_house_text) (by decide +kernel)) (fun _ _ _ _ _ => (pg_name (i := 1) sc_house_text.nd rfl (by first | exact Or.inl rfl | exact Or.inr rfl))) (fun _ _ _ _ _ => ts_nil) (fun _ _ _ _ _ => (ex_callG (fun _ _ _ h => runF_len h) G_folk_line hgd (hr.mono (by decide)) (by rfl) C.g_folk_line C.F_folk_line.kp C.b_folk_line (ax_cons (ex_var 1) ax_nil)))) ax_nil))))
theorem ok_day_of (C : Ctx K mg tb) (TB_is_rising : GxR.TabB base mg C.co_is_rising C.tb_is_rising) (TB_is_book : GxR.TabB base mg C.co_is_book C.tb_is_book) (TB_is_written_number : GxR.TabB base mg C.co_is_written_number C.tb_is_written_number) (TB_read_book : GxR.TabB base mg C.co_read_book C.tb_read_book) (TB_has_folk_form : GxR.TabB base mg C.co_has_folk_form C.tb_has_folk_form) (TB_is_house : GxR.TabB base mg C.co_is_house C.tb_is_house) (TB_read_house : GxR.TabB base mg C.co_read_house C.tb_read_house) (TB_is_rule : GxR.TabB base mg C.co_is_rule C.tb_is_rule) (TB_read_rule : GxR.TabB base mg C.co_read_rule C.tb_read_rule) : FnG P w K mg base 1 C.f_day_of C.fd_day_of P_day_of (spF K tb P_day_of.length F_day_of) := by
  refine okG (k := 0) C.F_day_of sc_day_of fun A outer s H E hgd hr => ?_
  exact (bs_one (bs_ret (ex_ix (ex_ix (ex_var 0) (ex_var 1)) ex_int)))
theorem ok_is_number (C : Ctx K mg tb) (TB_is_rising : GxR.TabB base mg C.co_is_rising C.tb_is_rising) (TB_is_book : GxR.TabB base mg C.co_is_book C.tb_is_book) (TB_is_written_number : GxR.TabB base mg C.co_is_written_number C.tb_is_written_number) (TB_read_book : GxR.TabB base mg C.co_read_book C.tb_read_book) (TB_has_folk_form : GxR.TabB base mg C.co_has_folk_form C.tb_has_folk_form) (TB_is_house : GxR.TabB base mg C.co_is_house C.tb_is_house) (TB_read_house : GxR.TabB base mg C.co_read_house C.tb_read_house) (TB_is_rule : GxR.TabB base mg C.co_is_rule C.tb_is_rule) (TB_read_rule : GxR.TabB base mg C.co_read_rule C.tb_read_rule) : FnG P w K mg base 1 C.f_is_number C.fd_is_number P_is_number (spF K tb P_is_number.length F_is_number) := by
  refine okG (k := 0) C.F_is_number sc_is_number fun A outer s H E hgd hr => ?_
  exact (bs_one (bs_ret (ex_and (ex_isi .int (by rfl) C.z_isinstance (by rfl) C.z_int (by decide +kernel) (ex_var 0)) (ex_one (ex_not (ex_isi .bool (by rfl) C.z_isinstance (by rfl) C.z_bool (by decide +kernel) (ex_var 0)))))))
theorem ok_is_folk_of (C : Ctx K mg tb) (TB_is_rising : GxR.TabB base mg C.co_is_rising C.tb_is_rising) (TB_is_book : GxR.TabB base mg C.co_is_book C.tb_is_book) (TB_is_written_number : GxR.TabB base mg C.co_is_written_number C.tb_is_written_number) (TB_read_book : GxR.TabB base mg C.co_read_book C.tb_read_book) (TB_has_folk_form : GxR.TabB base mg C.co_has_folk_form C.tb_has_folk_form) (TB_is_house : GxR.TabB base mg C.co_is_house C.tb_is_house) (TB_read_house : GxR.TabB base mg C.co_read_house C.tb_read_house) (TB_is_rule : GxR.TabB base mg C.co_is_rule C.tb_is_rule) (TB_read_rule : GxR.TabB base mg C.co_read_rule C.tb_read_rule) : FnG P w K mg base 2 C.f_is_folk_of C.fd_is_folk_of P_is_folk_of (spF K tb P_is_folk_of.length F_is_folk_of) := by
  have G_is_number : FnG P w K mg base 1 C.f_is_number C.fd_is_number P_is_number (spF K tb P_is_number.length F_is_number) := ok_is_number C TB_is_rising TB_is_book TB_is_written_number TB_read_book TB_has_folk_form TB_is_house TB_read_house TB_is_rule TB_read_rule
  refine okG (k := 1) C.F_is_folk_of sc_is_folk_of fun A outer s H E hgd hr => ?_
  exact (bs_one (bs_ret (ex_and (ex_callG (fun _ _ _ h => runF_len h) G_is_number hgd (hr.mono (by decide)) (by rfl) C.g_is_number C.F_is_number.kp C.b_is_number (ax_cons (ex_var 1) ax_nil)) (ex_one (ex_chain op_le op_lt le_s lt_s ex_int (ex_var 1) (ex_callB len_s cr_lenA (by rfl) C.z_len PySem.boot_len (ax_cons (ex_var 0) ax_nil)))))))
theorem ok_is_tuple_of (C : Ctx K mg tb) (TB_is_rising : GxR.TabB base mg C.co_is_rising C.tb_is_rising) (TB_is_book : GxR.TabB base mg C.co_is_book C.tb_is_book) (TB_is_written_number : GxR.TabB base mg C.co_is_written_number C.tb_is_written_number) (TB_read_book : GxR.TabB base mg C.co_read_book C.tb_read_book) (TB_has_folk_form : GxR.TabB base mg C.co_has_folk_form C.tb_has_folk_form) (TB_is_house : GxR.TabB base mg C.co_is_house C.tb_is_house) (TB_read_house : GxR.TabB base mg C.co_read_house C.tb_read_house) (TB_is_rule : GxR.TabB base mg C.co_is_rule C.tb_is_rule) (TB_read_rule : GxR.TabB base mg C.co_read_rule C.tb_read_rule) : FnG P w K mg base 1 C.f_is_tuple_of C.fd_is_tuple_of P_is_tuple_of (spF K tb P_is_tuple_of.length F_is_tuple_of) := by
  refine okG (k := 0) C.F_is_tuple_of sc_is_tuple_of fun A outer s H E hgd hr => ?_
  exact (bs_one (bs_ret (ex_and (ex_isi .tuple (by rfl) C.z_isinstance (by rfl) C.z_tuple (by decide +kernel) (ex_var 0)) (ex_one (ex_cmp (op_eqA hr.units) eq_s (ex_callB len_s cr_lenA (by rfl) C.z_len PySem.boot_len (ax_cons (ex_var 0) ax_nil)) (ex_var 1) (nomark _))))))
theorem ok_is_man (C : Ctx K mg tb) (TB_is_rising : GxR.TabB base mg C.co_is_rising C.tb_is_rising) (TB_is_book : GxR.TabB base mg C.co_is_book C.tb_is_book) (TB_is_written_number : GxR.TabB base mg C.co_is_written_number C.tb_is_written_number) (TB_read_book : GxR.TabB base mg C.co_read_book C.tb_read_book) (TB_has_folk_form : GxR.TabB base mg C.co_has_folk_form C.tb_has_folk_form) (TB_is_house : GxR.TabB base mg C.co_is_house C.tb_is_house) (TB_read_house : GxR.TabB base mg C.co_read_house C.tb_read_house) (TB_is_rule : GxR.TabB base mg C.co_is_rule C.tb_is_rule) (TB_read_rule : GxR.TabB base mg C.co_read_rule C.tb_read_rule) : FnG P w K mg base 1 C.f_is_man C.fd_is_man P_is_man (spF K tb P_is_man.length F_is_man) := by
  refine okG (k := 0) C.F_is_man sc_is_man fun A outer s H E hgd hr => ?_
  exact (bs_one (bs_ret (ex_cmp (op_eqA hr.units) eq_s (ex_ix (ex_ix (ex_var 0) (ex_var 1)) ex_int) ex_int (nomark _))))
theorem ok_may_await (C : Ctx K mg tb) (TB_is_rising : GxR.TabB base mg C.co_is_rising C.tb_is_rising) (TB_is_book : GxR.TabB base mg C.co_is_book C.tb_is_book) (TB_is_written_number : GxR.TabB base mg C.co_is_written_number C.tb_is_written_number) (TB_read_book : GxR.TabB base mg C.co_read_book C.tb_read_book) (TB_has_folk_form : GxR.TabB base mg C.co_has_folk_form C.tb_has_folk_form) (TB_is_house : GxR.TabB base mg C.co_is_house C.tb_is_house) (TB_read_house : GxR.TabB base mg C.co_read_house C.tb_read_house) (TB_is_rule : GxR.TabB base mg C.co_is_rule C.tb_is_rule) (TB_read_rule : GxR.TabB base mg C.co_read_rule C.tb_read_rule) : FnG P w K mg base 3 C.f_may_await C.fd_may_await P_may_await (spF K tb P_may_await.length F_may_await) := by
  have G_day_of : FnG P w K mg base 1 C.f_day_of C.fd_day_of P_day_of (spF K tb P_day_of.length F_day_of) := ok_day_of C TB_is_rising TB_is_book TB_is_written_number TB_read_book TB_has_folk_form TB_is_house TB_read_house TB_is_rule TB_read_rule
  have G_is_folk_of : FnG P w K mg base 2 C.f_is_folk_of C.fd_is_folk_of P_is_folk_of (spF K tb P_is_folk_of.length F_is_folk_of) := ok_is_folk_of C TB_is_rising TB_is_book TB_is_written_number TB_read_book TB_has_folk_form TB_is_house TB_read_house TB_is_rule TB_read_rule
  have G_is_man : FnG P w K mg base 1 C.f_is_man C.fd_is_man P_is_man (spF K tb P_is_man.length F_is_man) := ok_is_man C TB_is_rising TB_is_book TB_is_written_number TB_read_book TB_has_folk_form TB_is_house TB_read_house TB_is_rule TB_read_rule
  refine okG (k := 2) C.F_may_await sc_may_await fun A outer s H E hgd hr => ?_
  exact (bs_cons (bs_if (pwt (tw_or (tx_tru (ex_callG (fun _ _ _ h => runF_len h) G_is_man hgd (hr.mono (by decide)) (by rfl) C.g_is_man C.F_is_man.kp C.b_is_man (ax_cons (ex_var 0) (ax_cons (ex_var 2) ax_nil)))) (tw_or1 (tx_cmp (op_eqA hr.units) eq_s (ex_var 1) (ex_callG (fun _ _ _ h => runF_len h) G_day_of hgd (hr.mono (by decide)) (by rfl) C.g_day_of C.F_day_of.kp C.b_day_of (ax_cons (ex_var 0) (ax_cons (ex_var 2) ax_nil))) (nomark _))))) (bs_one (bs_ret ex_bl)) bs_nil)
      (bs_cons (bs_if (tx_cmp (op_eqA hr.units) eq_s (ex_var 3) (ex_un un_neg neg_s ex_int) (nomark _)) (bs_one (bs_ret ex_bl)) bs_nil)
      (bs_one (bs_ret (ex_and (ex_callG (fun _ _ _ h => runF_len h) G_is_folk_of hgd (hr.mono (by decide)) (by rfl) C.g_is_folk_of C.F_is_folk_of.kp C.b_is_folk_of (ax_cons (ex_var 0) (ax_cons (ex_var 3) ax_nil))) (ex_and (ex_callG (fun _ _ _ h => runF_len h) G_is_man hgd (hr.mono (by decide)) (by rfl) C.g_is_man C.F_is_man.kp C.b_is_man (ax_cons (ex_var 0) (ax_cons (ex_var 3) ax_nil))) (ex_one (ex_cmp op_lt lt_s (ex_callG (fun _ _ _ h => runF_len h) G_day_of hgd (hr.mono (by decide)) (by rfl) C.g_day_of C.F_day_of.kp C.b_day_of (ax_cons (ex_var 0) (ax_cons (ex_var 3) ax_nil))) (ex_var 1) (nomark _)))))))))
theorem ok_is_news (C : Ctx K mg tb) (TB_is_rising : GxR.TabB base mg C.co_is_rising C.tb_is_rising) (TB_is_book : GxR.TabB base mg C.co_is_book C.tb_is_book) (TB_is_written_number : GxR.TabB base mg C.co_is_written_number C.tb_is_written_number) (TB_read_book : GxR.TabB base mg C.co_read_book C.tb_read_book) (TB_has_folk_form : GxR.TabB base mg C.co_has_folk_form C.tb_has_folk_form) (TB_is_house : GxR.TabB base mg C.co_is_house C.tb_is_house) (TB_read_house : GxR.TabB base mg C.co_read_house C.tb_read_house) (TB_is_rule : GxR.TabB base mg C.co_is_rule C.tb_is_rule) (TB_read_rule : GxR.TabB base mg C.co_read_rule C.tb_read_rule) : FnG P w K mg base 4 C.f_is_news C.fd_is_news P_is_news (spF K tb P_is_news.length F_is_news) := by
  have G_day_of : FnG P w K mg base 1 C.f_day_of C.fd_day_of P_day_of (spF K tb P_day_of.length F_day_of) := ok_day_of C TB_is_rising TB_is_book TB_is_written_number TB_read_book TB_has_folk_form TB_is_house TB_read_house TB_is_rule TB_read_rule
  have G_is_folk_of : FnG P w K mg base 2 C.f_is_folk_of C.fd_is_folk_of P_is_folk_of (spF K tb P_is_folk_of.length F_is_folk_of) := ok_is_folk_of C TB_is_rising TB_is_book TB_is_written_number TB_read_book TB_has_folk_form TB_is_house TB_read_house TB_is_rule TB_read_rule
  have G_is_number : FnG P w K mg base 1 C.f_is_number C.fd_is_number P_is_number (spF K tb P_is_number.length F_is_number) := ok_is_number C TB_is_rising TB_is_book TB_is_written_number TB_read_book TB_has_folk_form TB_is_house TB_read_house TB_is_rule TB_read_rule
  have G_is_tuple_of : FnG P w K mg base 1 C.f_is_tuple_of C.fd_is_tuple_of P_is_tuple_of (spF K tb P_is_tuple_of.length F_is_tuple_of) := ok_is_tuple_of C TB_is_rising TB_is_book TB_is_written_number TB_read_book TB_has_folk_form TB_is_house TB_read_house TB_is_rule TB_read_rule
  have G_may_await : FnG P w K mg base 3 C.f_may_await C.fd_may_await P_may_await (spF K tb P_may_await.length F_may_await) := ok_may_await C TB_is_rising TB_is_book TB_is_written_number TB_read_book TB_has_folk_form TB_is_house TB_read_house TB_is_rule TB_read_rule
  refine okG (k := 3) C.F_is_news sc_is_news fun A outer s H E hgd hr => ?_
  exact (bs_cons (bs_if (tx_not (tx_tru (ex_callG (fun _ _ _ h => runF_len h) G_is_tuple_of hgd (hr.mono (by decide)) (by rfl) C.g_is_tuple_of C.F_is_tuple_of.kp C.b_is_tuple_of (ax_cons (ex_var 1) (ax_cons ex_int ax_nil))))) (bs_one (bs_ret ex_bl)) bs_nil)
      (bs_cons (bs_asg (tg_tup rfl (tgs_cons (tg_name 2) (tgs_cons (tg_name 3) (tgs_cons (tg_name 4) (tgs_cons (tg_name 5) tgs_nil))))) (ex_var 1) (pg_tup rfl (pgs_cons (pg_name (i := 2) sc_is_news.nd rfl (by first | exact Or.inl rfl | exact Or.inr rfl)) (pgs_cons (pg_name (i := 3) sc_is_news.nd rfl (by first | exact Or.inl rfl | exact Or.inr rfl)) (pgs_cons (pg_name (i := 4) sc_is_news.nd rfl (by first | exact Or.inl rfl | exact Or.inr rfl)) (pgs_cons (pg_name (i := 5) sc_is_news.nd rfl (by first | exact Or.inl rfl | exact Or.inr rfl)) pgs_nil))))))
      (bs_cons (bs_if (pwt (tw_or (tx_cmp op_notIn_seq in_s (ex_var 2) (ex_globT (by rfl) C.v_WORDS.glT) (by rfl)) (tw_or (tx_not (tx_tru (ex_callG (fun _ _ _ h => runF_len h) G_is_folk_of hgd (hr.mono (by decide)) (by rfl) C.g_is_folk_of C.F_is_folk_of.kp C.b_is_folk_of (ax_cons (ex_var 0) (ax_cons (ex_var 4) ax_nil))))) (tw_or1 (tx_not (tx_tru (ex_callG (fun _ _ _ h => runF_len h) G_is_number hgd (hr.mono (by decide)) (by rfl) C.g_is_number C.F_is_number.kp C.b_is_number (ax_cons (ex_var 3) ax_nil)))))))) (bs_one (bs_ret ex_bl)) bs_nil)
      (bs_cons (bs_if (tx_not (tx_chain op_le op_le le_s le_s (ex_callG (fun _ _ _ h => runF_len h) G_day_of hgd (hr.mono (by decide)) (by rfl) C.g_day_of C.F_day_of.kp C.b_day_of (ax_cons (ex_var 0) (ax_cons (ex_var 4) ax_nil))) (ex_var 3) (ex_glob (by rfl) C.v_LAST_DAY))) (bs_one (bs_ret ex_bl)) bs_nil)
      (bs_cons (bs_if (tx_cmp (op_eqA hr.units) eq_s (ex_var 2) ex_str (nomark _)) (bs_one (bs_ret (ex_callG (fun _ _ _ h => runF_len h) G_may_await hgd (hr.mono (by decide)) (by rfl) C.g_may_await C.F_may_await.kp C.b_may_await (ax_cons (ex_var 0) (ax_cons (ex_var 3) (ax_cons (ex_var 4) (ax_cons (ex_var 5) ax_nil))))))) bs_nil)
      (bs_one (bs_ret (ex_cmp (op_eqA hr.units) eq_s (ex_var 5) (ex_un un_neg neg_s ex_int) (nomark _)))))))))
theorem ok_is_rising (C : Ctx K mg tb) (TB_is_rising : GxR.TabB base mg C.co_is_rising C.tb_is_rising) (TB_is_book : GxR.TabB base mg C.co_is_book C.tb_is_book) (TB_is_written_number : GxR.TabB base mg C.co_is_written_number C.tb_is_written_number) (TB_read_book : GxR.TabB base mg C.co_read_book C.tb_read_book) (TB_has_folk_form : GxR.TabB base mg C.co_has_folk_form C.tb_has_folk_form) (TB_is_house : GxR.TabB base mg C.co_is_house C.tb_is_house) (TB_read_house : GxR.TabB base mg C.co_read_house C.tb_read_house) (TB_is_rule : GxR.TabB base mg C.co_is_rule C.tb_is_rule) (TB_read_rule : GxR.TabB base mg C.co_read_rule C.tb_read_rule) : FnG P w K mg base 2 C.f_is_rising C.fd_is_rising P_is_rising (spF K tb P_is_rising.length F_is_rising) := by
  refine okG (k := 1) C.F_is_rising sc_is_rising fun A outer s H E hgd hr => ?_
  exact (bs_one (bs_ret (ex_allG (own := [("at", 1)]) hr hgd rfl sc_is_rising.nd TB_is_rising C.m_is_rising (by first | exact C.c_is_rising | rfl) ⟨rfl, by decide +kernel, rfl⟩ (tg_name 1) (tw_name 1 (by decide)) (ix_rng1 (by rfl) C.z_range (ax_cons (ex_op op_sub sub_s (ex_callB len_s cr_lenA (by rfl) C.z_len PySem.boot_len (ax_cons (ex_var 0) ax_nil)) ex_int) ax_nil)) (blkOk_by (own := [("at", 1)]) (N := N_is_rising) (sc := defScope s_is_rising) (by decide +kernel)) (fun _ _ _ _ _ _ _ => (pg_name (i := 1) sc_is_rising.nd rfl (by first | exact Or.inl rfl | exact Or.inr rfl))) (fun _ _ _ _ _ _ _ hgd hr => ts_nil) (fun _ _ _ _ _ _ _ hgd hr => (ex_cmp (op_ltP hr.units) ltP_s (ex_ix (ex_var 0) (ex_var 1)) (ex_ix (ex_var 0) (ex_op op_addA add_s (ex_var 1) ex_int)) (nomark _))) (by rfl) C.z_all (by decide +kernel))))
theorem ok_is_book (C : Ctx K mg tb) (TB_is_rising : GxR.TabB base mg C.co_is_rising C.tb_is_rising) (TB_is_book : GxR.TabB base mg C.co_is_book C.tb_is_book) (TB_is_written_number : GxR.TabB base mg C.co_is_written_number C.tb_is_written_number) (TB_read_book : GxR.TabB base mg C.co_read_book C.tb_read_book) (TB_has_folk_form : GxR.TabB base mg C.co_has_folk_form C.tb_has_folk_form) (TB_is_house : GxR.TabB base mg C.co_is_house C.tb_is_house) (TB_read_house : GxR.TabB base mg C.co_read_house C.tb_read_house) (TB_is_rule : GxR.TabB base mg C.co_is_rule C.tb_is_rule) (TB_read_rule : GxR.TabB base mg C.co_read_rule C.tb_read_rule) : FnG P w K mg base 6 C.f_is_book C.fd_is_book P_is_book (spF K tb P_is_book.length F_is_book) := by
  have G_is_news : FnG P w K mg base 4 C.f_is_news C.fd_is_news P_is_news (spF K tb P_is_news.length F_is_news) := ok_is_news C TB_is_rising TB_is_book TB_is_written_number TB_read_book TB_has_folk_form TB_is_house TB_read_house TB_is_rule TB_read_rule
  have G_is_rising : FnG P w K mg base 2 C.f_is_rising C.fd_is_rising P_is_rising (spF K tb P_is_rising.length F_is_rising) := ok_is_rising C TB_is_rising TB_is_book TB_is_written_number TB_read_book TB_has_folk_form TB_is_house TB_read_house TB_is_rule TB_read_rule
  refine okG (k := 5) C.F_is_book sc_is_book fun A outer s H E hgd hr => ?_
  exact (bs_cons (bs_if (pwt (tw_or (tx_not (tx_tru (ex_isi .tuple (by rfl) C.z_isinstance (by rfl) C.z_tuple (by decide +kernel) (ex_var 1)))) (tw_or1 (tx_cmp op_gt gt_s (ex_callB len_s cr_lenA (by rfl) C.z_len PySem.boot_len (ax_cons (ex_var 1) ax_nil)) (ex_glob (by rfl) C.v_MOST_NEWS) (nomark _))))) (bs_one (bs_ret ex_bl)) bs_nil)
      (bs_one (bs_ret (ex_and (ex_allG (own := [("news", 2)]) hr hgd rfl sc_is_book.nd TB_is_book C.m_is_book (by first | exact C.c_is_book | rfl) ⟨rfl, by decide +kernel, rfl⟩ (tg_name 2) (tw_name 2 (by decide)) (ix_seq' (ex_var 1)) (blkOk_by (own := [("news", 2)]) (N := N_is_book) (sc := defScope s_is_book) (by decide +kernel)) (fun _ _ _ _ _ _ _ => (pg_name (i := 2) sc_is_book.nd rfl (by first | exact Or.inl rfl | exact Or.inr rfl))) (fun _ _ _ _ _ _ _ hgd hr => ts_nil) (fun _ _ _ _ _ _ _ hgd hr => (ex_callG (fun _ _ _ h => runF_len h) G_is_news hgd (hr.mono (by decide)) (by rfl) C.g_is_news C.F_is_news.kp C.b_is_news (ax_cons (ex_var 0) (ax_cons (ex_var 2) ax_nil)))) (by rfl) C.z_all (by decide +kernel)) (ex_one (ex_callG (fun _ _ _ h => runF_len h) G_is_rising hgd (hr.mono (by decide)) (by rfl) C.g_is_rising C.F_is_rising.kp C.b_is_rising (ax_cons (ex_var 1) ax_nil)))))))
theorem ok_lines_of (C : Ctx K mg tb) (TB_is_rising : GxR.TabB base mg C.co_is_rising C.tb_is_rising) (TB_is_book : GxR.TabB base mg C.co_is_book C.tb_is_book) (TB_is_written_number : GxR.TabB base mg C.co_is_written_number C.tb_is_written_number) (TB_read_book : GxR.TabB base mg C.co_read_book C.tb_read_book) (TB_has_folk_form : GxR.TabB base mg C.co_has_folk_form C.tb_has_folk_form) (TB_is_house : GxR.TabB base mg C.co_is_house C.tb_is_house) (TB_read_house : GxR.TabB base mg C.co_read_house C.tb_read_house) (TB_is_rule : GxR.TabB base mg C.co_is_rule C.tb_is_rule) (TB_read_rule : GxR.TabB base mg C.co_read_rule C.tb_read_rule) : FnG P w K mg base 1 C.f_lines_of C.fd_lines_of P_lines_of (spF K tb P_lines_of.length F_lines_of) := by
  refine okG (k := 0) C.F_lines_of sc_lines_of fun A outer s H E hgd hr => ?_
  exact (bs_cons (bs_if (tx_not (tx_tru (ex_isi .str (by rfl) C.z_isinstance (by rfl) C.z_str (by decide +kernel) (ex_var 0)))) (bs_one bs_fail) bs_nil)
      (bs_cons (bs_set 1 sc_lines_of.nd (ex_own (ex_split (ex_var 0) (ax_cons ex_str ax_nil))))
      (bs_cons (bs_if (tx_cmp (op_neA hr.units) ne_s (ex_pop (ex_var 1)) ex_str (nomark _)) (bs_one bs_fail) bs_nil)
      (bs_one (bs_ret (ex_lc (own := [("line", 2)]) rfl sc_lines_of.nd (tg_name 2) (tw_name 2 (by decide)) (ix_seq' (ex_var 1)) (blkOk_by (own := [("line", 2)]) (N := N_lines_of) (sc := defScope s_lines_of) (by decide +kernel)) (fun _ _ _ _ _ => (pg_name (i := 2) sc_lines_of.nd rfl (by first | exact Or.inl rfl | exact Or.inr rfl))) (fun _ _ _ _ _ => ts_nil) (fun _ _ _ _ _ => (ex_split (ex_var 2) (ax_cons ex_str ax_nil)))))))))
theorem ok_is_written_number (C : Ctx K mg tb) (TB_is_rising : GxR.TabB base mg C.co_is_rising C.tb_is_rising) (TB_is_book : GxR.TabB base mg C.co_is_book C.tb_is_book) (TB_is_written_number : GxR.TabB base mg C.co_is_written_number C.tb_is_written_number) (TB_read_book : GxR.TabB base mg C.co_read_book C.tb_read_book) (TB_has_folk_form : GxR.TabB base mg C.co_has_folk_form C.tb_has_folk_form) (TB_is_house : GxR.TabB base mg C.co_is_house C.tb_is_house) (TB_read_house : GxR.TabB base mg C.co_read_house C.tb_read_house) (TB_is_rule : GxR.TabB base mg C.co_is_rule C.tb_is_rule) (TB_read_rule : GxR.TabB base mg C.co_read_rule C.tb_read_rule) : FnG P w K mg base 2 C.f_is_written_number C.fd_is_written_number P_is_written_number (spF K tb P_is_written_number.length F_is_written_number) := by
  refine okG (k := 1) C.F_is_written_number sc_is_written_number fun A outer s H E hgd hr => ?_
  exact (bs_cons (bs_if (pwt (tw_or (tx_cmp (op_eqA hr.units) eq_s (ex_var 0) ex_str (nomark _)) (tw_or1 (tx_not (tx_tru (ex_allG (own := [("sign", 1)]) hr hgd rfl sc_is_written_number.nd TB_is_written_number C.m_is_written_number (by first | exact C.c_is_written_number | rfl) ⟨rfl, by decide +kernel, rfl⟩ (tg_name 1) (tw_name 1 (by decide)) (ix_sgn (ex_var 0)) (blkOk_by (own := [("sign", 1)]) (N := N_is_written_number) (sc := defScope s_is_written_number) (by decide +kernel)) (fun _ _ _ _ _ _ _ => (pg_name (i := 1) sc_is_written_number.nd rfl (by first | exact Or.inl rfl | exact Or.inr rfl))) (fun _ _ _ _ _ _ _ hgd hr => ts_nil) (fun _ _ _ _ _ _ _ hgd hr => (ex_chain op_le_str op_le_str leS_s leS_s ex_str (ex_var 1) ex_str)) (by rfl) C.z_all (by decide +kernel))))))) (bs_one (bs_ret ex_bl)) bs_nil)
      (bs_one (bs_ret (ex_or (ex_cmp (op_eqA hr.units) eq_s (ex_var 0) ex_str (nomark _)) (ex_one (ex_cmp (op_neA hr.units) ne_s (ex_ixS (ex_var 0) ex_int) ex_str (nomark _)))))))
theorem ok_is_written_who (C : Ctx K mg tb) (TB_is_rising : GxR.TabB base mg C.co_is_rising C.tb_is_rising) (TB_is_book : GxR.TabB base mg C.co_is_book C.tb_is_book) (TB_is_written_number : GxR.TabB base mg C.co_is_written_number C.tb_is_written_number) (TB_read_book : GxR.TabB base mg C.co_read_book C.tb_read_book) (TB_has_folk_form : GxR.TabB base mg C.co_has_folk_form C.tb_has_folk_form) (TB_is_house : GxR.TabB base mg C.co_is_house C.tb_is_house) (TB_read_house : GxR.TabB base mg C.co_read_house C.tb_read_house) (TB_is_rule : GxR.TabB base mg C.co_is_rule C.tb_is_rule) (TB_read_rule : GxR.TabB base mg C.co_read_rule C.tb_read_rule) : FnG P w K mg base 3 C.f_is_written_who C.fd_is_written_who P_is_written_who (spF K tb P_is_written_who.length F_is_written_who) := by
  have G_is_written_number : FnG P w K mg base 2 C.f_is_written_number C.fd_is_written_number P_is_written_number (spF K tb P_is_written_number.length F_is_written_number) := ok_is_written_number C TB_is_rising TB_is_book TB_is_written_number TB_read_book TB_has_folk_form TB_is_house TB_read_house TB_is_rule TB_read_rule
  refine okG (k := 2) C.F_is_written_who sc_is_written_who fun A outer s H E hgd hr => ?_
  exact (bs_one (bs_ret (ex_or (ex_cmp (op_eqA hr.units) eq_s (ex_var 0) (ex_globS (by rfl) C.v_NOBODY) (nomark _)) (ex_one (ex_callG (fun _ _ _ h => runF_len h) G_is_written_number hgd (hr.mono (by decide)) (by rfl) C.g_is_written_number C.F_is_written_number.kp C.b_is_written_number (ax_cons (ex_var 0) ax_nil))))))
theorem ok_number_of (C : Ctx K mg tb) (TB_is_rising : GxR.TabB base mg C.co_is_rising C.tb_is_rising) (TB_is_book : GxR.TabB base mg C.co_is_book C.tb_is_book) (TB_is_written_number : GxR.TabB base mg C.co_is_written_number C.tb_is_written_number) (TB_read_book : GxR.TabB base mg C.co_read_book C.tb_read_book) (TB_has_folk_form : GxR.TabB base mg C.co_has_folk_form C.tb_has_folk_form) (TB_is_house : GxR.TabB base mg C.co_is_house C.tb_is_house) (TB_read_house : GxR.TabB base mg C.co_read_house C.tb_read_house) (TB_is_rule : GxR.TabB base mg C.co_is_rule C.tb_is_rule) (TB_read_rule : GxR.TabB base mg C.co_read_rule C.tb_read_rule) : FnG P w K mg base 1 C.f_number_of C.fd_number_of P_number_of (spF K tb P_number_of.length F_number_of) := by
  refine okG (k := 0) C.F_number_of sc_number_of fun A outer s H E hgd hr => ?_
  exact (bs_one (bs_ret (ex_if (tx_cmp op_le le_s (ex_callB lenS_s call_len_str (by rfl) C.z_len PySem.boot_len (ax_cons (ex_var 0) ax_nil)) (ex_glob (by rfl) C.v_MOST_FIGURES) (nomark _)) (ex_callTy intS_s call_intS (by rfl) C.z_int (by decide +kernel) (ax_cons (ex_var 0) ax_nil)) (ex_op op_addA add_s (ex_glob (by rfl) C.v_LAST_DAY) ex_int))))
theorem ok_who_of (C : Ctx K mg tb) (TB_is_rising : GxR.TabB base mg C.co_is_rising C.tb_is_rising) (TB_is_book : GxR.TabB base mg C.co_is_book C.tb_is_book) (TB_is_written_number : GxR.TabB base mg C.co_is_written_number C.tb_is_written_number) (TB_read_book : GxR.TabB base mg C.co_read_book C.tb_read_book) (TB_has_folk_form : GxR.TabB base mg C.co_has_folk_form C.tb_has_folk_form) (TB_is_house : GxR.TabB base mg C.co_is_house C.tb_is_house) (TB_read_house : GxR.TabB base mg C.co_read_house C.tb_read_house) (TB_is_rule : GxR.TabB base mg C.co_is_rule C.tb_is_rule) (TB_read_rule : GxR.TabB base mg C.co_read_rule C.tb_read_rule) : FnG P w K mg base 2 C.f_who_of C.fd_who_of P_who_of (spF K tb P_who_of.length F_who_of) := by
  have G_number_of : FnG P w K mg base 1 C.f_number_of C.fd_number_of P_number_of (spF K tb P_number_of.length F_number_of) := ok_number_of C TB_is_rising TB_is_book TB_is_written_number TB_read_book TB_has_folk_form TB_is_house TB_read_house TB_is_rule TB_read_rule
  refine okG (k := 1) C.F_who_of sc_who_of fun A outer s H E hgd hr => ?_
  exact (bs_one (bs_ret (ex_if (tx_cmp (op_eqA hr.units) eq_s (ex_var 0) (ex_globS (by rfl) C.v_NOBODY) (nomark _)) (ex_un un_neg neg_s ex_int) (ex_callG (fun _ _ _ h => runF_len h) G_number_of hgd (hr.mono (by decide)) (by rfl) C.g_number_of C.F_number_of.kp C.b_number_of (ax_cons (ex_var 0) ax_nil)))))
theorem ok_news_of (C : Ctx K mg tb) (TB_is_rising : GxR.TabB base mg C.co_is_rising C.tb_is_rising) (TB_is_book : GxR.TabB base mg C.co_is_book C.tb_is_book) (TB_is_written_number : GxR.TabB base mg C.co_is_written_number C.tb_is_written_number) (TB_read_book : GxR.TabB base mg C.co_read_book C.tb_read_book) (TB_has_folk_form : GxR.TabB base mg C.co_has_folk_form C.tb_has_folk_form) (TB_is_house : GxR.TabB base mg C.co_is_house C.tb_is_house) (TB_read_house : GxR.TabB base mg C.co_read_house C.tb_read_house) (TB_is_rule : GxR.TabB base mg C.co_is_rule C.tb_is_rule) (TB_read_rule : GxR.TabB base mg C.co_read_rule C.tb_read_rule) : FnG P w K mg base 4 C.f_news_of C.fd_news_of P_news_of (spF K tb P_news_of.length F_news_of) := by
  have G_is_written_number : FnG P w K mg base 2 C.f_is_written_number C.fd_is_written_number P_is_written_number (spF K tb P_is_written_number.length F_is_written_number) := ok_is_written_number C TB_is_rising TB_is_book TB_is_written_number TB_read_book TB_has_folk_form TB_is_house TB_read_house TB_is_rule TB_read_rule
  have G_is_written_who : FnG P w K mg base 3 C.f_is_written_who C.fd_is_written_who P_is_written_who (spF K tb P_is_written_who.length F_is_written_who) := ok_is_written_who C TB_is_rising TB_is_book TB_is_written_number TB_read_book TB_has_folk_form TB_is_house TB_read_house TB_is_rule TB_read_rule
  have G_number_of : FnG P w K mg base 1 C.f_number_of C.fd_number_of P_number_of (spF K tb P_number_of.length F_number_of) := ok_number_of C TB_is_rising TB_is_book TB_is_written_number TB_read_book TB_has_folk_form TB_is_house TB_read_house TB_is_rule TB_read_rule
  have G_who_of : FnG P w K mg base 2 C.f_who_of C.fd_who_of P_who_of (spF K tb P_who_of.length F_who_of) := ok_who_of C TB_is_rising TB_is_book TB_is_written_number TB_read_book TB_has_folk_form TB_is_house TB_read_house TB_is_rule TB_read_rule
  refine okG (k := 3) C.F_news_of sc_news_of fun A outer s H E hgd hr => ?_
  exact (bs_cons (bs_if (pwt (tw_or (tx_cmp op_notIn_seq in_s (ex_ix (ex_var 0) ex_int) (ex_globT (by rfl) C.v_WORDS.glT) (by rfl)) (tw_or1 (tx_cmp (op_neA hr.units) ne_s (ex_callB len_s cr_lenA (by rfl) C.z_len PySem.boot_len (ax_cons (ex_var 0) ax_nil)) (ex_if (tx_cmp (op_eqA hr.units) eq_s (ex_ix (ex_var 0) ex_int) ex_str (nomark _)) ex_int ex_int) (nomark _))))) (bs_one (bs_ret (ex_tup ax_nil))) bs_nil)
      (bs_cons (bs_if (pwt (tw_or (tx_not (tx_tru (ex_callG (fun _ _ _ h => runF_len h) G_is_written_number hgd (hr.mono (by decide)) (by rfl) C.g_is_written_number C.F_is_written_number.kp C.b_is_written_number (ax_cons (ex_ix (ex_var 0) ex_int) ax_nil)))) (tw_or1 (tx_not (tx_tru (ex_callG (fun _ _ _ h => runF_len h) G_is_written_number hgd (hr.mono (by decide)) (by rfl) C.g_is_written_number C.F_is_written_number.kp C.b_is_written_number (ax_cons (ex_ix (ex_var 0) ex_int) ax_nil))))))) (bs_one (bs_ret (ex_tup ax_nil))) bs_nil)
      (bs_cons (bs_set 1 sc_news_of.nd (ex_if (tx_cmp (op_eqA hr.units) eq_s (ex_callB len_s cr_lenA (by rfl) C.z_len PySem.boot_len (ax_cons (ex_var 0) ax_nil)) ex_int (nomark _)) (ex_ix (ex_var 0) ex_int) (ex_globS (by rfl) C.v_NOBODY)))
      (bs_cons (bs_if (tx_not (tx_tru (ex_callG (fun _ _ _ h => runF_len h) G_is_written_who hgd (hr.mono (by decide)) (by rfl) C.g_is_written_who C.F_is_written_who.kp C.b_is_written_who (ax_cons (ex_var 1) ax_nil)))) (bs_one (bs_ret (ex_tup ax_nil))) bs_nil)
      (bs_one (bs_ret (ex_tup (ax_cons (ex_ix (ex_var 0) ex_int) (ax_cons (ex_callG (fun _ _ _ h => runF_len h) G_number_of hgd (hr.mono (by decide)) (by rfl) C.g_number_of C.F_number_of.kp C.b_number_of (ax_cons (ex_ix (ex_var 0) ex_int) ax_nil)) (ax_cons (ex_callG (fun _ _ _ h => runF_len h) G_number_of hgd (hr.mono (by decide)) (by rfl) C.g_number_of C.F_number_of.kp C.b_number_of (ax_cons (ex_ix (ex_var 0) ex_int) ax_nil)) (ax_cons (ex_callG (fun _ _ _ h => runF_len h) G_who_of hgd (hr.mono (by decide)) (by rfl) C.g_who_of C.F_who_of.kp C.b_who_of (ax_cons (ex_var 1) ax_nil)) ax_nil)))))))))))
theorem ok_read_book (C : Ctx K mg tb) (TB_is_rising : GxR.TabB base mg C.co_is_rising C.tb_is_rising) (TB_is_book : GxR.TabB base mg C.co_is_book C.tb_is_book) (TB_is_written_number : GxR.TabB base mg C.co_is_written_number C.tb_is_written_number) (TB_read_book : GxR.TabB base mg C.co_read_book C.tb_read_book) (TB_has_folk_form : GxR.TabB base mg C.co_has_folk_form C.tb_has_folk_form) (TB_is_house : GxR.TabB base mg C.co_is_house C.tb_is_house) (TB_read_house : GxR.TabB base mg C.co_read_house C.tb_read_house) (TB_is_rule : GxR.TabB base mg C.co_is_rule C.tb_is_rule) (TB_read_rule : GxR.TabB base mg C.co_read_rule C.tb_read_rule) : FnG P w K mg base 7 C.f_read_book C.fd_read_book P_read_book (spF K tb P_read_book.length F_read_book) := by
  have G_is_book : FnG P w K mg base 6 C.f_is_book C.fd_is_book P_is_book (spF K tb P_is_book.length F_is_book) := ok_is_book C TB_is_rising TB_is_book TB_is_written_number TB_read_book TB_has_folk_form TB_is_house TB_read_house TB_is_rule TB_read_rule
  have G_lines_of : FnG P w K mg base 1 C.f_lines_of C.fd_lines_of P_lines_of (spF K tb P_lines_of.length F_lines_of) := ok_lines_of C TB_is_rising TB_is_book TB_is_written_number TB_read_book TB_has_folk_form TB_is_house TB_read_house TB_is_rule TB_read_rule
  have G_news_of : FnG P w K mg base 4 C.f_news_of C.fd_news_of P_news_of (spF K tb P_news_of.length F_news_of) := ok_news_of C TB_is_rising TB_is_book TB_is_written_number TB_read_book TB_has_folk_form TB_is_house TB_read_house TB_is_rule TB_read_rule
  refine okG (k := 6) C.F_read_book sc_read_book fun A outer s H E hgd hr => ?_
  exact (bs_cons (bs_set 2 sc_read_book.nd (ex_tupG (own := [("words", 3)]) hr hgd rfl sc_read_book.nd TB_read_book C.m_read_book (by first | exact C.c_read_book | rfl) ⟨rfl, by decide +kernel, rfl⟩ (tg_name 3) (tw_name 3 (by decide)) (ix_seq' (ex_callG (fun _ _ _ h => runF_len h) G_lines_of hgd (hr.mono (by decide)) (by rfl) C.g_lines_of C.F_lines_of.kp C.b_lines_of (ax_cons (ex_var 1) ax_nil))) (blkOk_by (own := [("words", 3)]) (N := N_read_book) (sc := defScope s_read_book) (by decide +kernel)) (fun _ _ _ _ _ _ _ => (pg_name (i := 3) sc_read_book.nd rfl (by first | exact Or.inl rfl | exact Or.inr rfl))) (fun _ _ _ _ _ _ _ hgd hr => ts_nil) (fun _ _ _ _ _ _ _ hgd hr => (ex_callG (fun _ _ _ h => runF_len h) G_news_of hgd (hr.mono (by decide)) (by rfl) C.g_news_of C.F_news_of.kp C.b_news_of (ax_cons (ex_var 3) ax_nil))) (by rfl) C.z_tuple))
      (bs_cons (bs_if (tx_not (tx_tru (ex_callG (fun _ _ _ h => runF_len h) G_is_book hgd (hr.mono (by decide)) (by rfl) C.g_is_book C.F_is_book.kp C.b_is_book (ax_cons (ex_var 0) (ax_cons (ex_var 2) ax_nil))))) (bs_one bs_fail) bs_nil)
      (bs_one (bs_ret (ex_var 2)))))
theorem ok_folk_of (C : Ctx K mg tb) (TB_is_rising : GxR.TabB base mg C.co_is_rising C.tb_is_rising) (TB_is_book : GxR.TabB base mg C.co_is_book C.tb_is_book) (TB_is_written_number : GxR.TabB base mg C.co_is_written_number C.tb_is_written_number) (TB_read_book : GxR.TabB base mg C.co_read_book C.tb_read_book) (TB_has_folk_form : GxR.TabB base mg C.co_has_folk_form C.tb_has_folk_form) (TB_is_house : GxR.TabB base mg C.co_is_house C.tb_is_house) (TB_read_house : GxR.TabB base mg C.co_read_house C.tb_read_house) (TB_is_rule : GxR.TabB base mg C.co_is_rule C.tb_is_rule) (TB_read_rule : GxR.TabB base mg C.co_read_rule C.tb_read_rule) : FnG P w K mg base 4 C.f_folk_of C.fd_folk_of P_folk_of (spF K tb P_folk_of.length F_folk_of) := by
  have G_is_written_number : FnG P w K mg base 2 C.f_is_written_number C.fd_is_written_number P_is_written_number (spF K tb P_is_written_number.length F_is_written_number) := ok_is_written_number C TB_is_rising TB_is_book TB_is_written_number TB_read_book TB_has_folk_form TB_is_house TB_read_house TB_is_rule TB_read_rule
  have G_is_written_who : FnG P w K mg base 3 C.f_is_written_who C.fd_is_written_who P_is_written_who (spF K tb P_is_written_who.length F_is_written_who) := ok_is_written_who C TB_is_rising TB_is_book TB_is_written_number TB_read_book TB_has_folk_form TB_is_house TB_read_house TB_is_rule TB_read_rule
  have G_number_of : FnG P w K mg base 1 C.f_number_of C.fd_number_of P_number_of (spF K tb P_number_of.length F_number_of) := ok_number_of C TB_is_rising TB_is_book TB_is_written_number TB_read_book TB_has_folk_form TB_is_house TB_read_house TB_is_rule TB_read_rule
  have G_who_of : FnG P w K mg base 2 C.f_who_of C.fd_who_of P_who_of (spF K tb P_who_of.length F_who_of) := ok_who_of C TB_is_rising TB_is_book TB_is_written_number TB_read_book TB_has_folk_form TB_is_house TB_read_house TB_is_rule TB_read_rule
  refine okG (k := 3) C.F_folk_of sc_folk_of fun A outer s H E hgd hr => ?_
  exact (bs_cons (bs_if (pwt (tw_or (tx_cmp (op_neA hr.units) ne_s (ex_callB len_s cr_lenA (by rfl) C.z_len PySem.boot_len (ax_cons (ex_var 0) ax_nil)) ex_int (nomark _)) (tw_or1 (tx_not (tx_tru (ex_callG (fun _ _ _ h => runF_len h) G_is_written_number hgd (hr.mono (by decide)) (by rfl) C.g_is_written_number C.F_is_written_number.kp C.b_is_written_number (ax_cons (ex_ix (ex_var 0) ex_int) ax_nil))))))) (bs_one (bs_ret (ex_tup ax_nil))) bs_nil)
      (bs_cons (bs_if (pwt (tw_or (tx_not (tx_tru (ex_callG (fun _ _ _ h => runF_len h) G_is_written_who hgd (hr.mono (by decide)) (by rfl) C.g_is_written_who C.F_is_written_who.kp C.b_is_written_who (ax_cons (ex_ix (ex_var 0) ex_int) ax_nil)))) (tw_or1 (tx_not (tx_tru (ex_callG (fun _ _ _ h => runF_len h) G_is_written_who hgd (hr.mono (by decide)) (by rfl) C.g_is_written_who C.F_is_written_who.kp C.b_is_written_who (ax_cons (ex_ix (ex_var 0) ex_int) ax_nil))))))) (bs_one (bs_ret (ex_tup ax_nil))) bs_nil)
      (bs_cons (bs_if (pwt (tw_or (tx_cmp op_notIn_seq in_s (ex_ix (ex_var 0) ex_int) (ex_globT (by rfl) C.v_SEXES.glT) (by rfl)) (tw_or1 (tx_cmp op_notIn_seq in_s (ex_ix (ex_var 0) ex_int) (ex_globT (by rfl) C.v_BIRTHS.glT) (by rfl))))) (bs_one (bs_ret (ex_tup ax_nil))) bs_nil)
      (bs_one (bs_ret (ex_tup (ax_cons (ex_callG (fun _ _ _ h => runF_len h) G_number_of hgd (hr.mono (by decide)) (by rfl) C.g_number_of C.F_number_of.kp C.b_number_of (ax_cons (ex_ix (ex_var 0) ex_int) ax_nil)) (ax_cons (ex_callG (fun _ _ _ h => runF_len h) G_who_of hgd (hr.mono (by decide)) (by rfl) C.g_who_of C.F_who_of.kp C.b_who_of (ax_cons (ex_ix (ex_var 0) ex_int) ax_nil)) (ax_cons (ex_callG (fun _ _ _ h => runF_len h) G_who_of hgd (hr.mono (by decide)) (by rfl) C.g_who_of C.F_who_of.kp C.b_who_of (ax_cons (ex_ix (ex_var 0) ex_int) ax_nil)) (ax_cons (ex_gix (by rfl) C.v_SEXES (ax_cons (ex_ix (ex_var 0) ex_int) ax_nil)) (ax_cons (ex_gix (by rfl) C.v_BIRTHS (ax_cons (ex_ix (ex_var 0) ex_int) ax_nil)) ax_nil)))))))))))
theorem ok_parent_fits (C : Ctx K mg tb) (TB_is_rising : GxR.TabB base mg C.co_is_rising C.tb_is_rising) (TB_is_book : GxR.TabB base mg C.co_is_book C.tb_is_book) (TB_is_written_number : GxR.TabB base mg C.co_is_written_number C.tb_is_written_number) (TB_read_book : GxR.TabB base mg C.co_read_book C.tb_read_book) (TB_has_folk_form : GxR.TabB base mg C.co_has_folk_form C.tb_has_folk_form) (TB_is_house : GxR.TabB base mg C.co_is_house C.tb_is_house) (TB_read_house : GxR.TabB base mg C.co_read_house C.tb_read_house) (TB_is_rule : GxR.TabB base mg C.co_is_rule C.tb_is_rule) (TB_read_rule : GxR.TabB base mg C.co_read_rule C.tb_read_rule) : FnG P w K mg base 2 C.f_parent_fits C.fd_parent_fits P_parent_fits (spF K tb P_parent_fits.length F_parent_fits) := by
  have G_day_of : FnG P w K mg base 1 C.f_day_of C.fd_day_of P_day_of (spF K tb P_day_of.length F_day_of) := ok_day_of C TB_is_rising TB_is_book TB_is_written_number TB_read_book TB_has_folk_form TB_is_house TB_read_house TB_is_rule TB_read_rule
  have G_is_man : FnG P w K mg base 1 C.f_is_man C.fd_is_man P_is_man (spF K tb P_is_man.length F_is_man) := ok_is_man C TB_is_rising TB_is_book TB_is_written_number TB_read_book TB_has_folk_form TB_is_house TB_read_house TB_is_rule TB_read_rule
  refine okG (k := 1) C.F_parent_fits sc_parent_fits fun A outer s H E hgd hr => ?_
  exact (bs_cons (bs_if (tx_cmp (op_eqA hr.units) eq_s (ex_var 2) (ex_un un_neg neg_s ex_int) (nomark _)) (bs_one (bs_ret ex_bl)) bs_nil)
      (bs_cons (bs_if (tx_not (tx_chain op_le op_lt le_s lt_s ex_int (ex_var 2) (ex_callB len_s cr_lenA (by rfl) C.z_len PySem.boot_len (ax_cons (ex_var 0) ax_nil)))) (bs_one (bs_ret ex_bl)) bs_nil)
      (bs_one (bs_ret (ex_and (ex_cmp (op_eqA hr.units) eq_s (ex_callG (fun _ _ _ h => runF_len h) G_is_man hgd (hr.mono (by decide)) (by rfl) C.g_is_man C.F_is_man.kp C.b_is_man (ax_cons (ex_var 0) (ax_cons (ex_var 2) ax_nil))) (ex_var 3) (nomark _)) (ex_one (ex_cmp op_lt lt_s (ex_callG (fun _ _ _ h => runF_len h) G_day_of hgd (hr.mono (by decide)) (by rfl) C.g_day_of C.F_day_of.kp C.b_day_of (ax_cons (ex_var 0) (ax_cons (ex_var 2) ax_nil))) (ex_callG (fun _ _ _ h => runF_len h) G_day_of hgd (hr.mono (by decide)) (by rfl) C.g_day_of C.F_day_of.kp C.b_day_of (ax_cons (ex_var 0) (ax_cons (ex_var 1) ax_nil))) (nomark _))))))))
theorem ok_fits_in (C : Ctx K mg tb) (TB_is_rising : GxR.TabB base mg C.co_is_rising C.tb_is_rising) (TB_is_book : GxR.TabB base mg C.co_is_book C.tb_is_book) (TB_is_written_number : GxR.TabB base mg C.co_is_written_number C.tb_is_written_number) (TB_read_book : GxR.TabB base mg C.co_read_book C.tb_read_book) (TB_has_folk_form : GxR.TabB base mg C.co_has_folk_form C.tb_has_folk_form) (TB_is_house : GxR.TabB base mg C.co_is_house C.tb_is_house) (TB_read_house : GxR.TabB base mg C.co_read_house C.tb_read_house) (TB_is_rule : GxR.TabB base mg C.co_is_rule C.tb_is_rule) (TB_read_rule : GxR.TabB base mg C.co_read_rule C.tb_read_rule) : FnG P w K mg base 3 C.f_fits_in C.fd_fits_in P_fits_in (spF K tb P_fits_in.length F_fits_in) := by
  have G_day_of : FnG P w K mg base 1 C.f_day_of C.fd_day_of P_day_of (spF K tb P_day_of.length F_day_of) := ok_day_of C TB_is_rising TB_is_book TB_is_written_number TB_read_book TB_has_folk_form TB_is_house TB_read_house TB_is_rule TB_read_rule
  have G_parent_fits : FnG P w K mg base 2 C.f_parent_fits C.fd_parent_fits P_parent_fits (spF K tb P_parent_fits.length F_parent_fits) := ok_parent_fits C TB_is_rising TB_is_book TB_is_written_number TB_read_book TB_has_folk_form TB_is_house TB_read_house TB_is_rule TB_read_rule
  refine okG (k := 2) C.F_fits_in sc_fits_in fun A outer s H E hgd hr => ?_
  exact (bs_cons (bs_if (pwt (tw_and (tx_cmp op_gt gt_s (ex_var 1) ex_int (nomark _)) (tw_and1 (tx_cmp op_lt lt_s (ex_callG (fun _ _ _ h => runF_len h) G_day_of hgd (hr.mono (by decide)) (by rfl) C.g_day_of C.F_day_of.kp C.b_day_of (ax_cons (ex_var 0) (ax_cons (ex_var 1) ax_nil))) (ex_callG (fun _ _ _ h => runF_len h) G_day_of hgd (hr.mono (by decide)) (by rfl) C.g_day_of C.F_day_of.kp C.b_day_of (ax_cons (ex_var 0) (ax_cons (ex_op op_sub sub_s (ex_var 1) ex_int) ax_nil))) (nomark _))))) (bs_one (bs_ret ex_bl)) bs_nil)
      (bs_one (bs_ret (ex_and (ex_callG (fun _ _ _ h => runF_len h) G_parent_fits hgd (hr.mono (by decide)) (by rfl) C.g_parent_fits C.F_parent_fits.kp C.b_parent_fits (ax_cons (ex_var 0) (ax_cons (ex_var 1) (ax_cons (ex_ix (ex_ix (ex_var 0) (ex_var 1)) ex_int) (ax_cons ex_bl ax_nil))))) (ex_one (ex_callG (fun _ _ _ h => runF_len h) G_parent_fits hgd (hr.mono (by decide)) (by rfl) C.g_parent_fits C.F_parent_fits.kp C.b_parent_fits (ax_cons (ex_var 0) (ax_cons (ex_var 1) (ax_cons (ex_ix (ex_ix (ex_var 0) (ex_var 1)) ex_int) (ax_cons ex_bl ax_nil))))))))))
theorem ok_has_folk_form (C : Ctx K mg tb) (TB_is_rising : GxR.TabB base mg C.co_is_rising C.tb_is_rising) (TB_is_book : GxR.TabB base mg C.co_is_book C.tb_is_book) (TB_is_written_number : GxR.TabB base mg C.co_is_written_number C.tb_is_written_number) (TB_read_book : GxR.TabB base mg C.co_read_book C.tb_read_book) (TB_has_folk_form : GxR.TabB base mg C.co_has_folk_form C.tb_has_folk_form) (TB_is_house : GxR.TabB base mg C.co_is_house C.tb_is_house) (TB_read_house : GxR.TabB base mg C.co_read_house C.tb_read_house) (TB_is_rule : GxR.TabB base mg C.co_is_rule C.tb_is_rule) (TB_read_rule : GxR.TabB base mg C.co_read_rule C.tb_read_rule) : FnG P w K mg base 3 C.f_has_folk_form C.fd_has_folk_form P_has_folk_form (spF K tb P_has_folk_form.length F_has_folk_form) := by
  have G_is_number : FnG P w K mg base 1 C.f_is_number C.fd_is_number P_is_number (spF K tb P_is_number.length F_is_number) := ok_is_number C TB_is_rising TB_is_book TB_is_written_number TB_read_book TB_has_folk_form TB_is_house TB_read_house TB_is_rule TB_read_rule
  have G_is_tuple_of : FnG P w K mg base 1 C.f_is_tuple_of C.fd_is_tuple_of P_is_tuple_of (spF K tb P_is_tuple_of.length F_is_tuple_of) := ok_is_tuple_of C TB_is_rising TB_is_book TB_is_written_number TB_read_book TB_has_folk_form TB_is_house TB_read_house TB_is_rule TB_read_rule
  refine okG (k := 2) C.F_has_folk_form sc_has_folk_form fun A outer s H E hgd hr => ?_
  exact (bs_cons (bs_if (pwt (tw_or (tx_not (tx_tru (ex_callG (fun _ _ _ h => runF_len h) G_is_tuple_of hgd (hr.mono (by decide)) (by rfl) C.g_is_tuple_of C.F_is_tuple_of.kp C.b_is_tuple_of (ax_cons (ex_var 0) (ax_cons ex_int ax_nil))))) (tw_or1 (tx_not (tx_tru (ex_allG (own := [("part", 6)]) hr hgd rfl sc_has_folk_form.nd TB_has_folk_form C.m_has_folk_form (by first | exact C.c_has_folk_form | rfl) ⟨rfl, by decide +kernel, rfl⟩ (tg_name 6) (tw_name 6 (by decide)) (ix_seq' (ex_var 0)) (blkOk_by (own := [("part", 6)]) (N := N_has_folk_form) (sc := defScope s_has_folk_form) (by decide +kernel)) (fun _ _ _ _ _ _ _ => (pg_name (i := 6) sc_has_folk_form.nd rfl (by first | exact Or.inl rfl | exact Or.inr rfl))) (fun _ _ _ _ _ _ _ hgd hr => ts_nil) (fun _ _ _ _ _ _ _ hgd hr => (ex_callG (fun _ _ _ h => runF_len h) G_is_number hgd (hr.mono (by decide)) (by rfl) C.g_is_number C.F_is_number.kp C.b_is_number (ax_cons (ex_var 6) ax_nil))) (by rfl) C.z_all (by decide +kernel))))))) (bs_one (bs_ret ex_bl)) bs_nil)
      (bs_cons (bs_asg (tg_tup rfl (tgs_cons (tg_name 1) (tgs_cons (tg_name 2) (tgs_cons (tg_name 3) (tgs_cons (tg_name 4) (tgs_cons (tg_name 5) tgs_nil)))))) (ex_var 0) (pg_tup rfl (pgs_cons (pg_name (i := 1) sc_has_folk_form.nd rfl (by first | exact Or.inl rfl | exact Or.inr rfl)) (pgs_cons (pg_name (i := 2) sc_has_folk_form.nd rfl (by first | exact Or.inl rfl | exact Or.inr rfl)) (pgs_cons (pg_name (i := 3) sc_has_folk_form.nd rfl (by first | exact Or.inl rfl | exact Or.inr rfl)) (pgs_cons (pg_name (i := 4) sc_has_folk_form.nd rfl (by first | exact Or.inl rfl | exact Or.inr rfl)) (pgs_cons (pg_name (i := 5) sc_has_folk_form.nd rfl (by first | exact Or.inl rfl | exact Or.inr rfl)) pgs_nil)))))))
      (bs_one (bs_ret (ex_and (ex_chain op_le op_le le_s le_s ex_int (ex_var 1) (ex_glob (by rfl) C.v_LAST_DAY)) (ex_and (ex_cmp op_in_seq in_s (ex_var 4) (ex_tup (ax_cons ex_int (ax_cons ex_int ax_nil))) (by rfl)) (ex_one (ex_cmp op_in_seq in_s (ex_var 5) (ex_tup (ax_cons ex_int (ax_cons ex_int ax_nil))) (by rfl)))))))))
theorem ok_is_house (C : Ctx K mg tb) (TB_is_rising : GxR.TabB base mg C.co_is_rising C.tb_is_rising) (TB_is_book : GxR.TabB base mg C.co_is_book C.tb_is_book) (TB_is_written_number : GxR.TabB base mg C.co_is_written_number C.tb_is_written_number) (TB_read_book : GxR.TabB base mg C.co_read_book C.tb_read_book) (TB_has_folk_form : GxR.TabB base mg C.co_has_folk_form C.tb_has_folk_form) (TB_is_house : GxR.TabB base mg C.co_is_house C.tb_is_house) (TB_read_house : GxR.TabB base mg C.co_read_house C.tb_read_house) (TB_is_rule : GxR.TabB base mg C.co_is_rule C.tb_is_rule) (TB_read_rule : GxR.TabB base mg C.co_read_rule C.tb_read_rule) : FnG P w K mg base 5 C.f_is_house C.fd_is_house P_is_house (spF K tb P_is_house.length F_is_house) := by
  have G_fits_in : FnG P w K mg base 3 C.f_fits_in C.fd_fits_in P_fits_in (spF K tb P_fits_in.length F_fits_in) := ok_fits_in C TB_is_rising TB_is_book TB_is_written_number TB_read_book TB_has_folk_form TB_is_house TB_read_house TB_is_rule TB_read_rule
  have G_has_folk_form : FnG P w K mg base 3 C.f_has_folk_form C.fd_has_folk_form P_has_folk_form (spF K tb P_has_folk_form.length F_has_folk_form) := ok_has_folk_form C TB_is_rising TB_is_book TB_is_written_number TB_read_book TB_has_folk_form TB_is_house TB_read_house TB_is_rule TB_read_rule
  refine okG (k := 4) C.F_is_house sc_is_house fun A outer s H E hgd hr => ?_
  exact (bs_cons (bs_if (pwt (tw_or (tx_not (tx_tru (ex_isi .tuple (by rfl) C.z_isinstance (by rfl) C.z_tuple (by decide +kernel) (ex_var 0)))) (tw_or1 (tx_not (tx_chain op_le op_le le_s le_s ex_int (ex_callB len_s cr_lenA (by rfl) C.z_len PySem.boot_len (ax_cons (ex_var 0) ax_nil)) (ex_glob (by rfl) C.v_MOST_FOLK)))))) (bs_one (bs_ret ex_bl)) bs_nil)
      (bs_cons (bs_if (tx_not (tx_tru (ex_allG (own := [("folk", 2)]) hr hgd rfl sc_is_house.nd TB_is_house C.m_is_house (by first | exact C.c_is_house | rfl) ⟨rfl, by decide +kernel, rfl⟩ (tg_name 2) (tw_name 2 (by decide)) (ix_seq' (ex_var 0)) (blkOk_by (own := [("folk", 2)]) (N := N_is_house) (sc := defScope s_is_house) (by decide +kernel)) (fun _ _ _ _ _ _ _ => (pg_name (i := 2) sc_is_house.nd rfl (by first | exact Or.inl rfl | exact Or.inr rfl))) (fun _ _ _ _ _ _ _ hgd hr => ts_nil) (fun _ _ _ _ _ _ _ hgd hr => (ex_callG (fun _ _ _ h => runF_len h) G_has_folk_form hgd (hr.mono (by decide)) (by rfl) C.g_has_folk_form C.F_has_folk_form.kp C.b_has_folk_form (ax_cons (ex_var 2) ax_nil))) (by rfl) C.z_all (by decide +kernel)))) (bs_one (bs_ret ex_bl)) bs_nil)
      (bs_one (bs_ret (ex_allG (own := [("who", 1)]) hr hgd rfl sc_is_house.nd TB_is_house C.m_is_house (by first | exact C.c_is_house | rfl) ⟨rfl, by decide +kernel, rfl⟩ (tg_name 1) (tw_name 1 (by decide)) (ix_rng1 (by rfl) C.z_range (ax_cons (ex_callB len_s cr_lenA (by rfl) C.z_len PySem.boot_len (ax_cons (ex_var 0) ax_nil)) ax_nil)) (blkOk_by (own := [("who", 1)]) (N := N_is_house) (sc := defScope s_is_house) (by decide +kernel)) (fun _ _ _ _ _ _ _ => (pg_name (i := 1) sc_is_house.nd rfl (by first | exact Or.inl rfl | exact Or.inr rfl))) (fun _ _ _ _ _ _ _ hgd hr => ts_nil) (fun _ _ _ _ _ _ _ hgd hr => (ex_callG (fun _ _ _ h => runF_len h) G_fits_in hgd (hr.mono (by decide)) (by rfl) C.g_fits_in C.F_fits_in.kp C.b_fits_in (ax_cons (ex_var 0) (ax_cons (ex_var 1) ax_nil)))) (by rfl) C.z_all (by decide +kernel))))))
theorem ok_read_house (C : Ctx K mg tb) (TB_is_rising : GxR.TabB base mg C.co_is_rising C.tb_is_rising) (TB_is_book : GxR.TabB base mg C.co_is_book C.tb_is_book) (TB_is_written_number : GxR.TabB base mg C.co_is_written_number C.tb_is_written_number) (TB_read_book : GxR.TabB base mg C.co_read_book C.tb_read_book) (TB_has_folk_form : GxR.TabB base mg C.co_has_folk_form C.tb_has_folk_form) (TB_is_house : GxR.TabB base mg C.co_is_house C.tb_is_house) (TB_read_house : GxR.TabB base mg C.co_read_house C.tb_read_house) (TB_is_rule : GxR.TabB base mg C.co_is_rule C.tb_is_rule) (TB_read_rule : GxR.TabB base mg C.co_read_rule C.tb_read_rule) : FnG P w K mg base 6 C.f_read_house C.fd_read_house P_read_house (spF K tb P_read_house.length F_read_house) := by
  have G_folk_of : FnG P w K mg base 4 C.f_folk_of C.fd_folk_of P_folk_of (spF K tb P_folk_of.length F_folk_of) := ok_folk_of C TB_is_rising TB_is_book TB_is_written_number TB_read_book TB_has_folk_form TB_is_house TB_read_house TB_is_rule TB_read_rule
  have G_is_house : FnG P w K mg base 5 C.f_is_house C.fd_is_house P_is_house (spF K tb P_is_house.length F_is_house) := ok_is_house C TB_is_rising TB_is_book TB_is_written_number TB_read_book TB_has_folk_form TB_is_house TB_read_house TB_is_rule TB_read_rule
  have G_lines_of : FnG P w K mg base 1 C.f_lines_of C.fd_lines_of P_lines_of (spF K tb P_lines_of.length F_lines_of) := ok_lines_of C TB_is_rising TB_is_book TB_is_written_number TB_read_book TB_has_folk_form TB_is_house TB_read_house TB_is_rule TB_read_rule
  refine okG (k := 5) C.F_read_house sc_read_house fun A outer s H E hgd hr => ?_
  exact (bs_cons (bs_set 1 sc_read_house.nd (ex_tupG (own := [("words", 2)]) hr hgd rfl sc_read_house.nd TB_read_house C.m_read_house (by first | exact C.c_read_house | rfl) ⟨rfl, by decide +kernel, rfl⟩ (tg_name 2) (tw_name 2 (by decide)) (ix_seq' (ex_callG (fun _ _ _ h => runF_len h) G_lines_of hgd (hr.mono (by decide)) (by rfl) C.g_lines_of C.F_lines_of.kp C.b_lines_of (ax_cons (ex_var 0) ax_nil))) (blkOk_by (own := [("words", 2)]) (N := N_read_house) (sc := defScope s_read_house) (by decide +kernel)) (fun _ _ _ _ _ _ _ => (pg_name (i := 2) sc_read_house.nd rfl (by first | exact Or.inl rfl | exact Or.inr rfl))) (fun _ _ _ _ _ _ _ hgd hr => ts_nil) (fun _ _ _ _ _ _ _ hgd hr => (ex_callG (fun _ _ _ h => runF_len h) G_folk_of hgd (hr.mono (by decide)) (by rfl) C.g_folk_of C.F_folk_of.kp C.b_folk_of (ax_cons (ex_var 2) ax_nil))) (by rfl) C.z_tuple))
      (bs_cons (bs_if (tx_not (tx_tru (ex_callG (fun _ _ _ h => runF_len h) G_is_house hgd (hr.mono (by decide)) (by rfl) C.g_is_house C.F_is_house.kp C.b_is_house (ax_cons (ex_var 1) ax_nil)))) (bs_one bs_fail) bs_nil)
      (bs_one (bs_ret (ex_var 1)))))
theorem ok_is_row (C : Ctx K mg tb) (TB_is_rising : GxR.TabB base mg C.co_is_rising C.tb_is_rising) (TB_is_book : GxR.TabB base mg C.co_is_book C.tb_is_book) (TB_is_written_number : GxR.TabB base mg C.co_is_written_number C.tb_is_written_number) (TB_read_book : GxR.TabB base mg C.co_read_book C.tb_read_book) (TB_has_folk_form : GxR.TabB base mg C.co_has_folk_form C.tb_has_folk_form) (TB_is_house : GxR.TabB base mg C.co_is_house C.tb_is_house) (TB_read_house : GxR.TabB base mg C.co_read_house C.tb_read_house) (TB_is_rule : GxR.TabB base mg C.co_is_rule C.tb_is_rule) (TB_read_rule : GxR.TabB base mg C.co_read_rule C.tb_read_rule) : FnG P w K mg base 3 C.f_is_row C.fd_is_row P_is_row (spF K tb P_is_row.length F_is_row) := by
  have G_is_folk_of : FnG P w K mg base 2 C.f_is_folk_of C.fd_is_folk_of P_is_folk_of (spF K tb P_is_folk_of.length F_is_folk_of) := ok_is_folk_of C TB_is_rising TB_is_book TB_is_written_number TB_read_book TB_has_folk_form TB_is_house TB_read_house TB_is_rule TB_read_rule
  have G_is_number : FnG P w K mg base 1 C.f_is_number C.fd_is_number P_is_number (spF K tb P_is_number.length F_is_number) := ok_is_number C TB_is_rising TB_is_book TB_is_written_number TB_read_book TB_has_folk_form TB_is_house TB_read_house TB_is_rule TB_read_rule
  have G_is_tuple_of : FnG P w K mg base 1 C.f_is_tuple_of C.fd_is_tuple_of P_is_tuple_of (spF K tb P_is_tuple_of.length F_is_tuple_of) := ok_is_tuple_of C TB_is_rising TB_is_book TB_is_written_number TB_read_book TB_has_folk_form TB_is_house TB_read_house TB_is_rule TB_read_rule
  refine okG (k := 2) C.F_is_row sc_is_row fun A outer s H E hgd hr => ?_
  exact (bs_cons (bs_if (tx_not (tx_tru (ex_callG (fun _ _ _ h => runF_len h) G_is_tuple_of hgd (hr.mono (by decide)) (by rfl) C.g_is_tuple_of C.F_is_tuple_of.kp C.b_is_tuple_of (ax_cons (ex_var 1) (ax_cons ex_int ax_nil))))) (bs_one (bs_ret ex_bl)) bs_nil)
      (bs_cons (bs_asg (tg_tup rfl (tgs_cons (tg_name 2) (tgs_cons (tg_name 3) (tgs_cons (tg_name 4) (tgs_cons (tg_name 5) tgs_nil))))) (ex_var 1) (pg_tup rfl (pgs_cons (pg_name (i := 2) sc_is_row.nd rfl (by first | exact Or.inl rfl | exact Or.inr rfl)) (pgs_cons (pg_name (i := 3) sc_is_row.nd rfl (by first | exact Or.inl rfl | exact Or.inr rfl)) (pgs_cons (pg_name (i := 4) sc_is_row.nd rfl (by first | exact Or.inl rfl | exact Or.inr rfl)) (pgs_cons (pg_name (i := 5) sc_is_row.nd rfl (by first | exact Or.inl rfl | exact Or.inr rfl)) pgs_nil))))))
      (bs_cons (bs_if (pwt (tw_or (tx_not (tx_tru (ex_callG (fun _ _ _ h => runF_len h) G_is_folk_of hgd (hr.mono (by decide)) (by rfl) C.g_is_folk_of C.F_is_folk_of.kp C.b_is_folk_of (ax_cons (ex_var 0) (ax_cons (ex_var 2) ax_nil))))) (tw_or1 (tx_not (tx_tru (ex_callG (fun _ _ _ h => runF_len h) G_is_number hgd (hr.mono (by decide)) (by rfl) C.g_is_number C.F_is_number.kp C.b_is_number (ax_cons (ex_var 4) ax_nil))))))) (bs_one (bs_ret ex_bl)) bs_nil)
      (bs_one (bs_ret (ex_and (ex_cmp op_in_seq in_s (ex_var 3) (ex_globT (by rfl) C.v_MEN.glT) (by rfl)) (ex_and (ex_cmp op_in_seq in_s (ex_var 4) (ex_tup (ax_cons ex_int (ax_cons ex_int ax_nil))) (by rfl)) (ex_one (ex_cmp op_in_seq in_s (ex_var 5) (ex_globT (by rfl) C.v_WAYS.glT) (by rfl))))))))))
theorem ok_is_rule (C : Ctx K mg tb) (TB_is_rising : GxR.TabB base mg C.co_is_rising C.tb_is_rising) (TB_is_book : GxR.TabB base mg C.co_is_book C.tb_is_book) (TB_is_written_number : GxR.TabB base mg C.co_is_written_number C.tb_is_written_number) (TB_read_book : GxR.TabB base mg C.co_read_book C.tb_read_book) (TB_has_folk_form : GxR.TabB base mg C.co_has_folk_form C.tb_has_folk_form) (TB_is_house : GxR.TabB base mg C.co_is_house C.tb_is_house) (TB_read_house : GxR.TabB base mg C.co_read_house C.tb_read_house) (TB_is_rule : GxR.TabB base mg C.co_is_rule C.tb_is_rule) (TB_read_rule : GxR.TabB base mg C.co_read_rule C.tb_read_rule) : FnG P w K mg base 5 C.f_is_rule C.fd_is_rule P_is_rule (spF K tb P_is_rule.length F_is_rule) := by
  have G_day_of : FnG P w K mg base 1 C.f_day_of C.fd_day_of P_day_of (spF K tb P_day_of.length F_day_of) := ok_day_of C TB_is_rising TB_is_book TB_is_written_number TB_read_book TB_has_folk_form TB_is_house TB_read_house TB_is_rule TB_read_rule
  have G_is_row : FnG P w K mg base 3 C.f_is_row C.fd_is_row P_is_row (spF K tb P_is_row.length F_is_row) := ok_is_row C TB_is_rising TB_is_book TB_is_written_number TB_read_book TB_has_folk_form TB_is_house TB_read_house TB_is_rule TB_read_rule
  refine okG (k := 4) C.F_is_rule sc_is_rule fun A outer s H E hgd hr => ?_
  exact (bs_cons (bs_if (pwt (tw_or (tx_not (tx_tru (ex_isi .tuple (by rfl) C.z_isinstance (by rfl) C.z_tuple (by decide +kernel) (ex_var 1)))) (tw_or1 (tx_not (tx_chain op_le op_le le_s le_s ex_int (ex_callB len_s cr_lenA (by rfl) C.z_len PySem.boot_len (ax_cons (ex_var 1) ax_nil)) (ex_glob (by rfl) C.v_MOST_ROWS)))))) (bs_one (bs_ret ex_bl)) bs_nil)
      (bs_cons (bs_if (tx_not (tx_tru (ex_allG (own := [("row", 3)]) hr hgd rfl sc_is_rule.nd TB_is_rule C.m_is_rule (by first | exact C.c_is_rule | rfl) ⟨rfl, by decide +kernel, rfl⟩ (tg_name 3) (tw_name 3 (by decide)) (ix_seq' (ex_var 1)) (blkOk_by (own := [("row", 3)]) (N := N_is_rule) (sc := defScope s_is_rule) (by decide +kernel)) (fun _ _ _ _ _ _ _ => (pg_name (i := 3) sc_is_rule.nd rfl (by first | exact Or.inl rfl | exact Or.inr rfl))) (fun _ _ _ _ _ _ _ hgd hr => ts_nil) (fun _ _ _ _ _ _ _ hgd hr => (ex_callG (fun _ _ _ h => runF_len h) G_is_row hgd (hr.mono (by decide)) (by rfl) C.g_is_row C.F_is_row.kp C.b_is_row (ax_cons (ex_var 0) (ax_cons (ex_var 3) ax_nil)))) (by rfl) C.z_all (by decide +kernel)))) (bs_one (bs_ret ex_bl)) bs_nil)
      (bs_cons (bs_set 2 sc_is_rule.nd (ex_callG (fun _ _ _ h => runF_len h) G_day_of hgd (hr.mono (by decide)) (by rfl) C.g_day_of C.F_day_of.kp C.b_day_of (ax_cons (ex_var 0) (ax_cons (ex_ix (ex_ix (ex_var 1) ex_int) ex_int) ax_nil))))
      (bs_one (bs_ret (ex_allG (own := [("row", 3)]) hr hgd rfl sc_is_rule.nd TB_is_rule C.m_is_rule (by first | exact C.c_is_rule | rfl) ⟨rfl, by decide +kernel, rfl⟩ (tg_name 3) (tw_name 3 (by decide)) (ix_seq' (ex_var 1)) (blkOk_by (own := [("row", 3)]) (N := N_is_rule) (sc := defScope s_is_rule) (by decide +kernel)) (fun _ _ _ _ _ _ _ => (pg_name (i := 3) sc_is_rule.nd rfl (by first | exact Or.inl rfl | exact Or.inr rfl))) (fun _ _ _ _ _ _ _ hgd hr => ts_nil) (fun _ _ _ _ _ _ _ hgd hr => (ex_cmp op_le le_s (ex_callG (fun _ _ _ h => runF_len h) G_day_of hgd (hr.mono (by decide)) (by rfl) C.g_day_of C.F_day_of.kp C.b_day_of (ax_cons (ex_var 0) (ax_cons (ex_ix (ex_var 3) ex_int) ax_nil))) (ex_var 2) (nomark _))) (by rfl) C.z_all (by decide +kernel)))))))
theorem ok_row_of (C : Ctx K mg tb) (TB_is_rising : GxR.TabB base mg C.co_is_rising C.tb_is_rising) (TB_is_book : GxR.TabB base mg C.co_is_book C.tb_is_book) (TB_is_written_number : GxR.TabB base mg C.co_is_written_number C.tb_is_written_number) (TB_read_book : GxR.TabB base mg C.co_read_book C.tb_read_book) (TB_has_folk_form : GxR.TabB base mg C.co_has_folk_form C.tb_has_folk_form) (TB_is_house : GxR.TabB base mg C.co_is_house C.tb_is_house) (TB_read_house : GxR.TabB base mg C.co_read_house C.tb_read_house) (TB_is_rule : GxR.TabB base mg C.co_is_rule C.tb_is_rule) (TB_read_rule : GxR.TabB base mg C.co_read_rule C.tb_read_rule) : FnG P w K mg base 3 C.f_row_of C.fd_row_of P_row_of (spF K tb P_row_of.length F_row_of) := by
  have G_is_written_number : FnG P w K mg base 2 C.f_is_written_number C.fd_is_written_number P_is_written_number (spF K tb P_is_written_number.length F_is_written_number) := ok_is_written_number C TB_is_rising TB_is_book TB_is_written_number TB_read_book TB_has_folk_form TB_is_house TB_read_house TB_is_rule TB_read_rule
  have G_number_of : FnG P w K mg base 1 C.f_number_of C.fd_number_of P_number_of (spF K tb P_number_of.length F_number_of) := ok_number_of C TB_is_rising TB_is_book TB_is_written_number TB_read_book TB_has_folk_form TB_is_house TB_read_house TB_is_rule TB_read_rule
  refine okG (k := 2) C.F_row_of sc_row_of fun A outer s H E hgd hr => ?_
  exact (bs_cons (bs_if (pwt (tw_or (tx_cmp (op_neA hr.units) ne_s (ex_callB len_s cr_lenA (by rfl) C.z_len PySem.boot_len (ax_cons (ex_var 0) ax_nil)) ex_int (nomark _)) (tw_or (tx_not (tx_tru (ex_callG (fun _ _ _ h => runF_len h) G_is_written_number hgd (hr.mono (by decide)) (by rfl) C.g_is_written_number C.F_is_written_number.kp C.b_is_written_number (ax_cons (ex_ix (ex_var 0) ex_int) ax_nil)))) (tw_or1 (tx_cmp op_notIn_seq in_s (ex_ix (ex_var 0) ex_int) (ex_globT (by rfl) C.v_COUNTED.glT) (by rfl)))))) (bs_one (bs_ret (ex_tup ax_nil))) bs_nil)
      (bs_one (bs_ret (ex_tup (ax_cons (ex_callG (fun _ _ _ h => runF_len h) G_number_of hgd (hr.mono (by decide)) (by rfl) C.g_number_of C.F_number_of.kp C.b_number_of (ax_cons (ex_ix (ex_var 0) ex_int) ax_nil)) (ax_cons (ex_ix (ex_var 0) ex_int) (ax_cons (ex_gix (by rfl) C.v_COUNTED (ax_cons (ex_ix (ex_var 0) ex_int) ax_nil)) (ax_cons (ex_ix (ex_var 0) ex_int) ax_nil))))))))
theorem ok_read_rule (C : Ctx K mg tb) (TB_is_rising : GxR.TabB base mg C.co_is_rising C.tb_is_rising) (TB_is_book : GxR.TabB base mg C.co_is_book C.tb_is_book) (TB_is_written_number : GxR.TabB base mg C.co_is_written_number C.tb_is_written_number) (TB_read_book : GxR.TabB base mg C.co_read_book C.tb_read_book) (TB_has_folk_form : GxR.TabB base mg C.co_has_folk_form C.tb_has_folk_form) (TB_is_house : GxR.TabB base mg C.co_is_house C.tb_is_house) (TB_read_house : GxR.TabB base mg C.co_read_house C.tb_read_house) (TB_is_rule : GxR.TabB base mg C.co_is_rule C.tb_is_rule) (TB_read_rule : GxR.TabB base mg C.co_read_rule C.tb_read_rule) : FnG P w K mg base 6 C.f_read_rule C.fd_read_rule P_read_rule (spF K tb P_read_rule.length F_read_rule) := by
  have G_is_rule : FnG P w K mg base 5 C.f_is_rule C.fd_is_rule P_is_rule (spF K tb P_is_rule.length F_is_rule) := ok_is_rule C TB_is_rising TB_is_book TB_is_written_number TB_read_book TB_has_folk_form TB_is_house TB_read_house TB_is_rule TB_read_rule
  have G_lines_of : FnG P w K mg base 1 C.f_lines_of C.fd_lines_of P_lines_of (spF K tb P_lines_of.length F_lines_of) := ok_lines_of C TB_is_rising TB_is_book TB_is_written_number TB_read_book TB_has_folk_form TB_is_house TB_read_house TB_is_rule TB_read_rule
  have G_row_of : FnG P w K mg base 3 C.f_row_of C.fd_row_of P_row_of (spF K tb P_row_of.length F_row_of) := ok_row_of C TB_is_rising TB_is_book TB_is_written_number TB_read_book TB_has_folk_form TB_is_house TB_read_house TB_is_rule TB_read_rule
  refine okG (k := 5) C.F_read_rule sc_read_rule fun A outer s H E hgd hr => ?_
  exact (bs_cons (bs_set 2 sc_read_rule.nd (ex_tupG (own := [("words", 3)]) hr hgd rfl sc_read_rule.nd TB_read_rule C.m_read_rule (by first | exact C.c_read_rule | rfl) ⟨rfl, by decide +kernel, rfl⟩ (tg_name 3) (tw_name 3 (by decide)) (ix_seq' (ex_callG (fun _ _ _ h => runF_len h) G_lines_of hgd (hr.mono (by decide)) (by rfl) C.g_lines_of C.F_lines_of.kp C.b_lines_of (ax_cons (ex_var 1) ax_nil))) (blkOk_by (own := [("words", 3)]) (N := N_read_rule) (sc := defScope s_read_rule) (by decide +kernel)) (fun _ _ _ _ _ _ _ => (pg_name (i := 3) sc_read_rule.nd rfl (by first | exact Or.inl rfl | exact Or.inr rfl))) (fun _ _ _ _ _ _ _ hgd hr => ts_nil) (fun _ _ _ _ _ _ _ hgd hr => (ex_callG (fun _ _ _ h => runF_len h) G_row_of hgd (hr.mono (by decide)) (by rfl) C.g_row_of C.F_row_of.kp C.b_row_of (ax_cons (ex_var 3) ax_nil))) (by rfl) C.z_tuple))
      (bs_cons (bs_if (tx_not (tx_tru (ex_callG (fun _ _ _ h => runF_len h) G_is_rule hgd (hr.mono (by decide)) (by rfl) C.g_is_rule C.F_is_rule.kp C.b_is_rule (ax_cons (ex_var 0) (ax_cons (ex_var 2) ax_nil))))) (bs_one bs_fail) bs_nil)
      (bs_one (bs_ret (ex_var 2)))))
theorem ok_row_line (C : Ctx K mg tb) (TB_is_rising : GxR.TabB base mg C.co_is_rising C.tb_is_rising) (TB_is_book : GxR.TabB base mg C.co_is_book C.tb_is_book) (TB_is_written_number : GxR.TabB base mg C.co_is_written_number C.tb_is_written_number) (TB_read_book : GxR.TabB base mg C.co_read_book C.tb_read_book) (TB_has_folk_form : GxR.TabB base mg C.co_has_folk_form C.tb_has_folk_form) (TB_is_house : GxR.TabB base mg C.co_is_house C.tb_is_house) (TB_read_house : GxR.TabB base mg C.co_read_house C.tb_read_house) (TB_is_rule : GxR.TabB base mg C.co_is_rule C.tb_is_rule) (TB_read_rule : GxR.TabB base mg C.co_read_rule C.tb_read_rule) : FnG P w K mg base 1 C.f_row_line C.fd_row_line P_row_line (spF K tb P_row_line.length F_row_line) := by
  refine okG (k := 0) C.F_row_line sc_row_line fun A outer s H E hgd hr => ?_
  exact (bs_cons (bs_asg (tg_tup rfl (tgs_cons (tg_name 1) (tgs_cons (tg_name 2) (tgs_cons (tg_name 3) (tgs_cons (tg_name 4) tgs_nil))))) (ex_var 0) (pg_tup rfl (pgs_cons (pg_name (i := 1) sc_row_line.nd rfl (by first | exact Or.inl rfl | exact Or.inr rfl)) (pgs_cons (pg_name (i := 2) sc_row_line.nd rfl (by first | exact Or.inl rfl | exact Or.inr rfl)) (pgs_cons (pg_name (i := 3) sc_row_line.nd rfl (by first | exact Or.inl rfl | exact Or.inr rfl)) (pgs_cons (pg_name (i := 4) sc_row_line.nd rfl (by first | exact Or.inl rfl | exact Or.inr rfl)) pgs_nil))))))
      (bs_one (bs_ret (ex_join ex_str (ax_cons (ex_lst (ax_cons (ex_callTy str_s call_str_int (by rfl) C.z_str (by decide +kernel) (ax_cons (ex_var 1) ax_nil)) (ax_cons (ex_var 2) (ax_cons (ex_ix (ex_globT (by rfl) C.v_COUNTED.glT) (ex_var 3)) (ax_cons (ex_var 4) ax_nil))))) ax_nil)))))
theorem ok_rule_text (C : Ctx K mg tb) (TB_is_rising : GxR.TabB base mg C.co_is_rising C.tb_is_rising) (TB_is_book : GxR.TabB base mg C.co_is_book C.tb_is_book) (TB_is_written_number : GxR.TabB base mg C.co_is_written_number C.tb_is_written_number) (TB_read_book : GxR.TabB base mg C.co_read_book C.tb_read_book) (TB_has_folk_form : GxR.TabB base mg C.co_has_folk_form C.tb_has_folk_form) (TB_is_house : GxR.TabB base mg C.co_is_house C.tb_is_house) (TB_read_house : GxR.TabB base mg C.co_read_house C.tb_read_house) (TB_is_rule : GxR.TabB base mg C.co_is_rule C.tb_is_rule) (TB_read_rule : GxR.TabB base mg C.co_read_rule C.tb_read_rule) : FnG P w K mg base 2 C.f_rule_text C.fd_rule_text P_rule_text (spF K tb P_rule_text.length F_rule_text) := by
  have G_row_line : FnG P w K mg base 1 C.f_row_line C.fd_row_line P_row_line (spF K tb P_row_line.length F_row_line) := ok_row_line C TB_is_rising TB_is_book TB_is_written_number TB_read_book TB_has_folk_form TB_is_house TB_read_house TB_is_rule TB_read_rule
  have G_text_of : FnG P w K mg base 1 C.f_text_of C.fd_text_of P_text_of (spF K tb P_text_of.length F_text_of) := ok_text_of C TB_is_rising TB_is_book TB_is_written_number TB_read_book TB_has_folk_form TB_is_house TB_read_house TB_is_rule TB_read_rule
  refine okG (k := 1) C.F_rule_text sc_rule_text fun A outer s H E hgd hr => ?_
  exact (bs_one (bs_ret (ex_callG (fun _ _ _ h => runF_len h) G_text_of hgd (hr.mono (by decide)) (by rfl) C.g_text_of C.F_text_of.kp C.b_text_of (ax_cons (ex_lc (own := [("row", 1)]) rfl sc_rule_text.nd (tg_name 1) (tw_name 1 (by decide)) (ix_seq' (ex_var 0)) (blkOk_by (own := [("row", 1)]) (N := N_rule_text) (sc := defScope s_rule_text) (by decide +kernel)) (fun _ _ _ _ _ => (pg_name (i := 1) sc_rule_text.nd rfl (by first | exact Or.inl rfl | exact Or.inr rfl))) (fun _ _ _ _ _ => ts_nil) (fun _ _ _ _ _ => (ex_callG (fun _ _ _ h => runF_len h) G_row_line hgd (hr.mono (by decide)) (by rfl) C.g_row_line C.F_row_line.kp C.b_row_line (ax_cons (ex_var 1) ax_nil)))) ax_nil))))
theorem ok_right (C : Ctx K mg tb) (TB_is_rising : GxR.TabB base mg C.co_is_rising C.tb_is_rising) (TB_is_book : GxR.TabB base mg C.co_is_book C.tb_is_book) (TB_is_written_number : GxR.TabB base mg C.co_is_written_number C.tb_is_written_number) (TB_read_book : GxR.TabB base mg C.co_read_book C.tb_read_book) (TB_has_folk_form : GxR.TabB base mg C.co_has_folk_form C.tb_has_folk_form) (TB_is_house : GxR.TabB base mg C.co_is_house C.tb_is_house) (TB_read_house : GxR.TabB base mg C.co_read_house C.tb_read_house) (TB_is_rule : GxR.TabB base mg C.co_is_rule C.tb_is_rule) (TB_read_rule : GxR.TabB base mg C.co_read_rule C.tb_read_rule) : FnG P w K mg base 8 C.f_right C.fd_right P_right (spF K tb P_right.length F_right) := by
  have G_l_book_text : FnG P w K mg base 3 C.f_l_book_text C.fd_l_book_text P_l_book_text (spF K tb P_l_book_text.length F_l_book_text) := ok_l_book_text C TB_is_rising TB_is_book TB_is_written_number TB_read_book TB_has_folk_form TB_is_house TB_read_house TB_is_rule TB_read_rule
  have G_l_house_text : FnG P w K mg base 2 C.f_l_house_text C.fd_l_house_text P_l_house_text (spF K tb P_l_house_text.length F_l_house_text) := ok_l_house_text C TB_is_rising TB_is_book TB_is_written_number TB_read_book TB_has_folk_form TB_is_house TB_read_house TB_is_rule TB_read_rule
  have G_is_plain : FnG P w K mg base 4 C.f_is_plain C.fd_is_plain P_is_plain (spF K tb P_is_plain.length F_is_plain) := ok_is_plain C TB_is_rising TB_is_book TB_is_written_number TB_read_book TB_has_folk_form TB_is_house TB_read_house TB_is_rule TB_read_rule
  have G_rows_text : FnG P w K mg base 2 C.f_rows_text C.fd_rows_text P_rows_text (spF K tb P_rows_text.length F_rows_text) := ok_rows_text C TB_is_rising TB_is_book TB_is_written_number TB_read_book TB_has_folk_form TB_is_house TB_read_house TB_is_rule TB_read_rule
  have G_book_text : FnG P w K mg base 3 C.f_book_text C.fd_book_text P_book_text (spF K tb P_book_text.length F_book_text) := ok_book_text C TB_is_rising TB_is_book TB_is_written_number TB_read_book TB_has_folk_form TB_is_house TB_read_house TB_is_rule TB_read_rule
  have G_house_text : FnG P w K mg base 3 C.f_house_text C.fd_house_text P_house_text (spF K tb P_house_text.length F_house_text) := ok_house_text C TB_is_rising TB_is_book TB_is_written_number TB_read_book TB_has_folk_form TB_is_house TB_read_house TB_is_rule TB_read_rule
  have G_read_book : FnG P w K mg base 7 C.f_read_book C.fd_read_book P_read_book (spF K tb P_read_book.length F_read_book) := ok_read_book C TB_is_rising TB_is_book TB_is_written_number TB_read_book TB_has_folk_form TB_is_house TB_read_house TB_is_rule TB_read_rule
  have G_read_house : FnG P w K mg base 6 C.f_read_house C.fd_read_house P_read_house (spF K tb P_read_house.length F_read_house) := ok_read_house C TB_is_rising TB_is_book TB_is_written_number TB_read_book TB_has_folk_form TB_is_house TB_read_house TB_is_rule TB_read_rule
  have G_read_rule : FnG P w K mg base 6 C.f_read_rule C.fd_read_rule P_read_rule (spF K tb P_read_rule.length F_read_rule) := ok_read_rule C TB_is_rising TB_is_book TB_is_written_number TB_read_book TB_has_folk_form TB_is_house TB_read_house TB_is_rule TB_read_rule
  have G_rule_text : FnG P w K mg base 2 C.f_rule_text C.fd_rule_text P_rule_text (spF K tb P_rule_text.length F_rule_text) := ok_rule_text C TB_is_rising TB_is_book TB_is_written_number TB_read_book TB_has_folk_form TB_is_house TB_read_house TB_is_rule TB_read_rule
  refine okG (k := 7) C.F_right sc_right fun A outer s H E hgd hr => ?_
  exact (bs_cons (bs_set 3 sc_right.nd (ex_callG (fun _ _ _ h => runF_len h) G_read_house hgd (hr.mono (by decide)) (by rfl) C.g_read_house C.F_read_house.kp C.b_read_house (ax_cons (ex_callG (fun _ _ _ h => runF_len h) G_l_house_text hgd (hr.mono (by decide)) (by rfl) C.g_l_house_text C.F_l_house_text.kp C.b_l_house_text (ax_cons (ex_var 0) ax_nil)) ax_nil)))
      (bs_cons (bs_if (pwt (tw_or (tx_cmp (op_neA hr.units) ne_s (ex_var 3) (ex_var 0) (nomark _)) (tw_or (tx_not (tx_tru (ex_callG (fun _ _ _ h => runF_len h) G_is_plain hgd (hr.mono (by decide)) (by rfl) C.g_is_plain C.F_is_plain.kp C.b_is_plain (ax_cons (ex_var 3) ax_nil)))) (tw_or1 (tx_cmp (op_neA hr.units) ne_s (ex_callG (fun _ _ _ h => runF_len h) G_read_house hgd (hr.mono (by decide)) (by rfl) C.g_read_house C.F_read_house.kp C.b_read_house (ax_cons (ex_callG (fun _ _ _ h => runF_len h) G_house_text hgd (hr.mono (by decide)) (by rfl) C.g_house_text C.F_house_text.kp C.b_house_text (ax_cons (ex_var 0) ax_nil)) ax_nil)) (ex_var 0) (nomark _)))))) (bs_one (bs_ret ex_bl)) bs_nil)
      (bs_cons (bs_set 4 sc_right.nd (ex_callG (fun _ _ _ h => runF_len h) G_read_book hgd (hr.mono (by decide)) (by rfl) C.g_read_book C.F_read_book.kp C.b_read_book (ax_cons (ex_var 0) (ax_cons (ex_callG (fun _ _ _ h => runF_len h) G_l_book_text hgd (hr.mono (by decide)) (by rfl) C.g_l_book_text C.F_l_book_text.kp C.b_l_book_text (ax_cons (ex_var 1) ax_nil)) ax_nil))))
      (bs_cons (bs_if (pwt (tw_or (tx_cmp (op_neA hr.units) ne_s (ex_var 4) (ex_var 1) (nomark _)) (tw_or (tx_not (tx_tru (ex_callG (fun _ _ _ h => runF_len h) G_is_plain hgd (hr.mono (by decide)) (by rfl) C.g_is_plain C.F_is_plain.kp C.b_is_plain (ax_cons (ex_var 4) ax_nil)))) (tw_or1 (tx_cmp (op_neA hr.units) ne_s (ex_callG (fun _ _ _ h => runF_len h) G_read_book hgd (hr.mono (by decide)) (by rfl) C.g_read_book C.F_read_book.kp C.b_read_book (ax_cons (ex_var 0) (ax_cons (ex_callG (fun _ _ _ h => runF_len h) G_book_text hgd (hr.mono (by decide)) (by rfl) C.g_book_text C.F_book_text.kp C.b_book_text (ax_cons (ex_var 1) ax_nil)) ax_nil))) (ex_var 1) (nomark _)))))) (bs_one (bs_ret ex_bl)) bs_nil)
      (bs_cons (bs_for (dd := [4, 5]) rfl (tg_name 5) PassesOwn.never (ix_seq' (ex_var 2)) (pg_name (i := 5) sc_right.nd rfl (by first | exact Or.inl rfl | exact Or.inr rfl)) (bs_cons (bs_set 4 sc_right.nd (ex_callG (fun _ _ _ h => runF_len h) G_read_rule hgd (hr.mono (by decide)) (by rfl) C.g_read_rule C.F_read_rule.kp C.b_read_rule (ax_cons (ex_var 0) (ax_cons (ex_callG (fun _ _ _ h => runF_len h) G_rows_text hgd (hr.mono (by decide)) (by rfl) C.g_rows_text C.F_rows_text.kp C.b_rows_text (ax_cons (ex_var 5) ax_nil)) ax_nil))))
      (bs_one (bs_if (pwt (tw_or (tx_cmp (op_neA hr.units) ne_s (ex_var 4) (ex_var 5) (nomark _)) (tw_or (tx_not (tx_tru (ex_callG (fun _ _ _ h => runF_len h) G_is_plain hgd (hr.mono (by decide)) (by rfl) C.g_is_plain C.F_is_plain.kp C.b_is_plain (ax_cons (ex_var 4) ax_nil)))) (tw_or1 (tx_cmp (op_neA hr.units) ne_s (ex_callG (fun _ _ _ h => runF_len h) G_read_rule hgd (hr.mono (by decide)) (by rfl) C.g_read_rule C.F_read_rule.kp C.b_read_rule (ax_cons (ex_var 0) (ax_cons (ex_callG (fun _ _ _ h => runF_len h) G_rule_text hgd (hr.mono (by decide)) (by rfl) C.g_rule_text C.F_rule_text.kp C.b_rule_text (ax_cons (ex_var 5) ax_nil)) ax_nil))) (ex_var 5) (nomark _)))))) (bs_one (bs_ret ex_bl)) bs_nil))))
      (bs_one (bs_ret (ex_cmp (op_eqA hr.units) eq_s (ex_callG (fun _ _ _ h => runF_len h) G_read_book hgd (hr.mono (by decide)) (by rfl) C.g_read_book C.F_read_book.kp C.b_read_book (ax_cons (ex_var 0) (ax_cons ex_str ax_nil))) (ex_tup ax_nil) (nomark _)))))))))
theorem ok_take (C : Ctx K mg tb) (TB_is_rising : GxR.TabB base mg C.co_is_rising C.tb_is_rising) (TB_is_book : GxR.TabB base mg C.co_is_book C.tb_is_book) (TB_is_written_number : GxR.TabB base mg C.co_is_written_number C.tb_is_written_number) (TB_read_book : GxR.TabB base mg C.co_read_book C.tb_read_book) (TB_has_folk_form : GxR.TabB base mg C.co_has_folk_form C.tb_has_folk_form) (TB_is_house : GxR.TabB base mg C.co_is_house C.tb_is_house) (TB_read_house : GxR.TabB base mg C.co_read_house C.tb_read_house) (TB_is_rule : GxR.TabB base mg C.co_is_rule C.tb_is_rule) (TB_read_rule : GxR.TabB base mg C.co_read_rule C.tb_read_rule) : FnG P w K mg base 1 C.f_take C.fd_take P_take (spF K tb P_take.length F_take) := by
  refine okG (k := 0) C.F_take sc_take fun A outer s H E hgd hr => ?_
  exact (bs_cons (bs_fog [3] (bs_if (tx_cmp op_gt gt_s (ex_ix (ex_var 0) ex_int) ex_int (nomark _)) (bs_cons (bs_set 3 sc_take.nd (ex_op op_mod mod_s (ex_ix (ex_var 0) ex_int) (ex_var 1)))
      (bs_cons (bs_put (ex_var 0) ex_int (ex_op op_fdiv div_s (ex_ix (ex_var 0) ex_int) (ex_var 1)))
      (bs_one (bs_ret (ex_var 3))))) bs_nil))
      (bs_cons (bs_set 2 sc_take.nd ex_int)
      (bs_cons (bs_if (tx_cmp op_lt lt_s (ex_ix (ex_var 0) ex_int) (ex_callB len_s cr_lenA (by rfl) C.z_len PySem.boot_len (ax_cons (ex_ix (ex_var 0) ex_int) ax_nil)) (nomark _)) (bs_one (bs_set 2 sc_take.nd (ex_ix (ex_ix (ex_var 0) ex_int) (ex_ix (ex_var 0) ex_int)))) bs_nil)
      (bs_cons (bs_put (ex_var 0) ex_int (ex_op op_addA add_s (ex_ix (ex_var 0) ex_int) ex_int))
      (bs_cons (bs_if (tx_cmp op_ge ge_s (ex_var 2) (ex_op op_pow pow_s ex_int ex_int) (nomark _)) (bs_cons (bs_put (ex_var 0) ex_int (ex_op op_fdiv div_s (ex_var 2) (ex_var 1)))
      (bs_one (bs_ret (ex_op op_mod mod_s (ex_var 2) (ex_var 1))))) bs_nil)
      (bs_cons (bs_put (ex_var 0) ex_int (ex_op op_mod mod_s (ex_op op_addA add_s (ex_op op_addA add_s (ex_op op_mulA mul_s (ex_ix (ex_var 0) ex_int) ex_int) (ex_op op_mod mod_s (ex_var 2) ex_int)) (ex_op op_mulA mul_s ex_int (ex_ix (ex_var 0) ex_int))) ex_int))
      (bs_one (bs_ret (ex_op op_mod mod_s (ex_op op_fdiv div_s (ex_op op_mod mod_s (ex_op op_pow pow_s (ex_ix (ex_var 0) ex_int) ex_int) ex_int) ex_int) (ex_var 1))))))))))
theorem ok_row (C : Ctx K mg tb) (TB_is_rising : GxR.TabB base mg C.co_is_rising C.tb_is_rising) (TB_is_book : GxR.TabB base mg C.co_is_book C.tb_is_book) (TB_is_written_number : GxR.TabB base mg C.co_is_written_number C.tb_is_written_number) (TB_read_book : GxR.TabB base mg C.co_read_book C.tb_read_book) (TB_has_folk_form : GxR.TabB base mg C.co_has_folk_form C.tb_has_folk_form) (TB_is_house : GxR.TabB base mg C.co_is_house C.tb_is_house) (TB_read_house : GxR.TabB base mg C.co_read_house C.tb_read_house) (TB_is_rule : GxR.TabB base mg C.co_is_rule C.tb_is_rule) (TB_read_rule : GxR.TabB base mg C.co_read_rule C.tb_read_rule) : FnG P w K mg base 2 C.f_row C.fd_row P_row (spF K tb P_row.length F_row) := by
  have G_take : FnG P w K mg base 1 C.f_take C.fd_take P_take (spF K tb P_take.length F_take) := ok_take C TB_is_rising TB_is_book TB_is_written_number TB_read_book TB_has_folk_form TB_is_house TB_read_house TB_is_rule TB_read_rule
  refine okG (k := 1) C.F_row sc_row fun A outer s H E hgd hr => ?_
  exact (bs_cons (bs_set 2 sc_row.nd (ex_op op_mulA mul_s (ex_callG (fun _ _ _ h => runF_len h) G_take hgd (hr.mono (by decide)) (by rfl) C.g_take C.F_take.kp C.b_take (ax_cons (ex_var 0) (ax_cons (ex_callB len_s cr_lenA (by rfl) C.z_len PySem.boot_len (ax_cons (ex_var 1) ax_nil)) ax_nil))) (ex_callTy int_s call_int1 (by rfl) C.z_int (by decide +kernel) (ax_cons (ex_cmp (op_eqA hr.units) eq_s (ex_callG (fun _ _ _ h => runF_len h) G_take hgd (hr.mono (by decide)) (by rfl) C.g_take C.F_take.kp C.b_take (ax_cons (ex_var 0) (ax_cons ex_int ax_nil))) ex_int (nomark _)) ax_nil))))
      (bs_cons (bs_set 3 sc_row.nd (ex_ix (ex_lst (ax_cons ex_str (ax_cons ex_str (ax_cons ex_str (ax_cons ex_str ax_nil))))) (ex_callG (fun _ _ _ h => runF_len h) G_take hgd (hr.mono (by decide)) (by rfl) C.g_take C.F_take.kp C.b_take (ax_cons (ex_var 0) (ax_cons ex_int ax_nil)))))
      (bs_one (bs_ret (ex_tup (ax_cons (ex_var 2) (ax_cons (ex_var 3) (ax_cons (ex_callTy int_s call_int1 (by rfl) C.z_int (by decide +kernel) (ax_cons (ex_cmp (op_eqA hr.units) eq_s (ex_callG (fun _ _ _ h => runF_len h) G_take hgd (hr.mono (by decide)) (by rfl) C.g_take C.F_take.kp C.b_take (ax_cons (ex_var 0) (ax_cons ex_int ax_nil))) ex_int (nomark _)) ax_nil)) (ax_cons (ex_ix (ex_lst (ax_cons ex_str (ax_cons ex_str (ax_cons ex_str (ax_cons ex_str ax_nil))))) (ex_callG (fun _ _ _ h => runF_len h) G_take hgd (hr.mono (by decide)) (by rfl) C.g_take C.F_take.kp C.b_take (ax_cons (ex_var 0) (ax_cons ex_int ax_nil)))) ax_nil)))))))))
theorem ok_rows (C : Ctx K mg tb) (TB_is_rising : GxR.TabB base mg C.co_is_rising C.tb_is_rising) (TB_is_book : GxR.TabB base mg C.co_is_book C.tb_is_book) (TB_is_written_number : GxR.TabB base mg C.co_is_written_number C.tb_is_written_number) (TB_read_book : GxR.TabB base mg C.co_read_book C.tb_read_book) (TB_has_folk_form : GxR.TabB base mg C.co_has_folk_form C.tb_has_folk_form) (TB_is_house : GxR.TabB base mg C.co_is_house C.tb_is_house) (TB_read_house : GxR.TabB base mg C.co_read_house C.tb_read_house) (TB_is_rule : GxR.TabB base mg C.co_is_rule C.tb_is_rule) (TB_read_rule : GxR.TabB base mg C.co_read_rule C.tb_read_rule) : FnG P w K mg base 3 C.f_rows C.fd_rows P_rows (spF K tb P_rows.length F_rows) := by
  have G_row : FnG P w K mg base 2 C.f_row C.fd_row P_row (spF K tb P_row.length F_row) := ok_row C TB_is_rising TB_is_book TB_is_written_number TB_read_book TB_has_folk_form TB_is_house TB_read_house TB_is_rule TB_read_rule
  have G_take : FnG P w K mg base 1 C.f_take C.fd_take P_take (spF K tb P_take.length F_take) := ok_take C TB_is_rising TB_is_book TB_is_written_number TB_read_book TB_has_folk_form TB_is_house TB_read_house TB_is_rule TB_read_rule
  refine okG (k := 2) C.F_rows sc_rows fun A outer s H E hgd hr => ?_
  exact (bs_cons (bs_setLc 2 (own := [("_law_k", 5)]) rfl sc_rows.nd (tg_name 5) (tw_name 5 (by decide)) (ix_rng1 (by rfl) C.z_range (ax_cons (ex_op op_addA add_s ex_int (ex_callG (fun _ _ _ h => runF_len h) G_take hgd (hr.mono (by decide)) (by rfl) C.g_take C.F_take.kp C.b_take (ax_cons (ex_var 0) (ax_cons ex_int ax_nil)))) ax_nil)) (blkOk_by (own := [("_law_k", 5)]) (N := N_rows) (sc := defScope s_rows) (by decide +kernel)) (fun _ _ _ _ _ => (pg_name (i := 5) sc_rows.nd rfl (by first | exact Or.inl rfl | exact Or.inr rfl))) (fun _ _ _ _ _ => ts_nil) (fun _ _ _ _ _ => (ex_callG (fun _ _ _ h => runF_len h) G_row hgd (hr.mono (by decide)) (by rfl) C.g_row C.F_row.kp C.b_row (ax_cons (ex_var 0) (ax_cons (ex_var 1) ax_nil)))) (sw_true rfl rfl rfl (by decide +kernel)))
      (bs_cons (bs_set 3 sc_rows.nd (ex_callB topMax_s (cr_maxL rfl) (by rfl) C.z_max (by decide +kernel) (ax_cons (ex_lc (own := [("_law_row_here", 6)]) rfl sc_rows.nd (tg_name 6) (tw_name 6 (by decide)) (ix_seq' (ex_var 2)) (blkOk_by (own := [("_law_row_here", 6)]) (N := N_rows) (sc := defScope s_rows) (by decide +kernel)) (fun _ _ _ _ _ => (pg_name (i := 6) sc_rows.nd rfl (by first | exact Or.inl rfl | exact Or.inr rfl))) (fun _ _ _ _ _ => ts_nil) (fun _ _ _ _ _ => (ex_ix (ex_ix (ex_var 1) (ex_ix (ex_var 6) ex_int)) ex_int))) ax_nil)))
      (bs_cons (bs_set 4 sc_rows.nd (ex_index (ex_lc (own := [("_law_row_here", 6)]) rfl sc_rows.nd (tg_name 6) (tw_name 6 (by decide)) (ix_seq' (ex_var 2)) (blkOk_by (own := [("_law_row_here", 6)]) (N := N_rows) (sc := defScope s_rows) (by decide +kernel)) (fun _ _ _ _ _ => (pg_name (i := 6) sc_rows.nd rfl (by first | exact Or.inl rfl | exact Or.inr rfl))) (fun _ _ _ _ _ => ts_nil) (fun _ _ _ _ _ => (ex_ix (ex_ix (ex_var 1) (ex_ix (ex_var 6) ex_int)) ex_int))) (ax_cons (ex_var 3) ax_nil)))
      (bs_one (bs_ret (ex_callTy tuple_s call_tuple_of (by rfl) C.z_tuple (by decide +kernel) (ax_cons (ex_op op_addA add_s (ex_sl (ex_var 2) (ox_some (ex_var 4)) ox_none) (ex_sl (ex_var 2) ox_none (ox_some (ex_var 4)))) ax_nil)))))))
theorem ok_news (C : Ctx K mg tb) (TB_is_rising : GxR.TabB base mg C.co_is_rising C.tb_is_rising) (TB_is_book : GxR.TabB base mg C.co_is_book C.tb_is_book) (TB_is_written_number : GxR.TabB base mg C.co_is_written_number C.tb_is_written_number) (TB_read_book : GxR.TabB base mg C.co_read_book C.tb_read_book) (TB_has_folk_form : GxR.TabB base mg C.co_has_folk_form C.tb_has_folk_form) (TB_is_house : GxR.TabB base mg C.co_is_house C.tb_is_house) (TB_read_house : GxR.TabB base mg C.co_read_house C.tb_read_house) (TB_is_rule : GxR.TabB base mg C.co_is_rule C.tb_is_rule) (TB_read_rule : GxR.TabB base mg C.co_read_rule C.tb_read_rule) : FnG P w K mg base 2 C.f_news C.fd_news P_news (spF K tb P_news.length F_news) := by
  have G_take : FnG P w K mg base 1 C.f_take C.fd_take P_take (spF K tb P_take.length F_take) := ok_take C TB_is_rising TB_is_book TB_is_written_number TB_read_book TB_has_folk_form TB_is_house TB_read_house TB_is_rule TB_read_rule
  refine okG (k := 1) C.F_news sc_news fun A outer s H E hgd hr => ?_
  exact (bs_cons (bs_set 2 sc_news.nd (ex_ix (ex_lst (ax_cons ex_str (ax_cons ex_str (ax_cons ex_str (ax_cons ex_str (ax_cons ex_str (ax_cons ex_str ax_nil))))))) (ex_callG (fun _ _ _ h => runF_len h) G_take hgd (hr.mono (by decide)) (by rfl) C.g_take C.F_take.kp C.b_take (ax_cons (ex_var 0) (ax_cons ex_int ax_nil)))))
      (bs_cons (bs_set 3 sc_news.nd (ex_callG (fun _ _ _ h => runF_len h) G_take hgd (hr.mono (by decide)) (by rfl) C.g_take C.F_take.kp C.b_take (ax_cons (ex_var 0) (ax_cons (ex_callB len_s cr_lenA (by rfl) C.z_len PySem.boot_len (ax_cons (ex_var 1) ax_nil)) ax_nil))))
      (bs_cons (bs_set 4 sc_news.nd (ex_op op_sub sub_s (ex_op op_addA add_s (ex_ix (ex_ix (ex_var 1) (ex_callG (fun _ _ _ h => runF_len h) G_take hgd (hr.mono (by decide)) (by rfl) C.g_take C.F_take.kp C.b_take (ax_cons (ex_var 0) (ax_cons (ex_callB len_s cr_lenA (by rfl) C.z_len PySem.boot_len (ax_cons (ex_var 1) ax_nil)) ax_nil)))) ex_int) (ex_callG (fun _ _ _ h => runF_len h) G_take hgd (hr.mono (by decide)) (by rfl) C.g_take C.F_take.kp C.b_take (ax_cons (ex_var 0) (ax_cons ex_int ax_nil)))) ex_int))
      (bs_cons (bs_set 5 sc_news.nd (ex_callB two_s (cr_max rfl) (by rfl) C.z_max (by decide +kernel) (ax_cons (ex_ix (ex_ix (ex_var 1) (ex_var 3)) ex_int) (ax_cons (ex_var 4) ax_nil))))
      (bs_cons (bs_fog [6] (bs_if (pwt (tw_and (tx_cmp (op_eqA hr.units) eq_s (ex_var 2) ex_str (nomark _)) (tw_and1 (tx_cmp (op_eqA hr.units) eq_s (ex_ix (ex_ix (ex_var 1) (ex_var 3)) ex_int) ex_int (nomark _))))) (bs_cons (bs_set 5 sc_news.nd (ex_callB two_s (cr_max rfl) (by rfl) C.z_max (by decide +kernel) (ax_cons (ex_op op_addA add_s (ex_ix (ex_ix (ex_var 1) (ex_var 3)) ex_int) ex_int) (ax_cons (ex_var 4) ax_nil))))
      (bs_cons (bs_set 6 sc_news.nd (ex_op op_addA add_s (ex_lst (ax_cons (ex_un un_neg neg_s ex_int) ax_nil)) (ex_lc (own := [("_law_k", 7)]) rfl sc_news.nd (tg_name 7) (tw_name 7 (by decide)) (ix_rng1 (by rfl) C.z_range (ax_cons (ex_callB len_s cr_lenA (by rfl) C.z_len PySem.boot_len (ax_cons (ex_var 1) ax_nil)) ax_nil)) (blkOk_by (own := [("_law_k", 7)]) (N := N_news) (sc := defScope s_news) (by decide +kernel)) (fun _ _ _ _ _ => (pg_name (i := 7) sc_news.nd rfl (by first | exact Or.inl rfl | exact Or.inr rfl))) (fun _ _ _ _ _ => (ts_one (pwt (tw_and (tx_cmp (op_eqA hr.units) eq_s (ex_ix (ex_ix (ex_var 1) (ex_var 7)) ex_int) ex_int (nomark _)) (tw_and1 (tx_cmp op_lt lt_s (ex_ix (ex_ix (ex_var 1) (ex_var 7)) ex_int) (ex_var 5) (nomark _))))))) (fun _ _ _ _ _ => (ex_var 7)))))
      (bs_one (bs_ret (ex_tup (ax_cons (ex_var 2) (ax_cons (ex_var 5) (ax_cons (ex_var 3) (ax_cons (ex_ix (ex_var 6) (ex_callG (fun _ _ _ h => runF_len h) G_take hgd (hr.mono (by decide)) (by rfl) C.g_take C.F_take.kp C.b_take (ax_cons (ex_var 0) (ax_cons (ex_callB len_s cr_lenA (by rfl) C.z_len PySem.boot_len (ax_cons (ex_var 6) ax_nil)) ax_nil)))) ax_nil))))))))) bs_nil))
      (bs_one (bs_ret (ex_tup (ax_cons (ex_ix (ex_lst (ax_cons (ex_var 2) (ax_cons ex_str ax_nil))) (ex_callTy int_s call_int1 (by rfl) C.z_int (by decide +kernel) (ax_cons (ex_cmp (op_eqA hr.units) eq_s (ex_var 2) ex_str (nomark _)) ax_nil))) (ax_cons (ex_var 5) (ax_cons (ex_var 3) (ax_cons (ex_un un_neg neg_s ex_int) ax_nil))))))))))))
theorem ok_book (C : Ctx K mg tb) (TB_is_rising : GxR.TabB base mg C.co_is_rising C.tb_is_rising) (TB_is_book : GxR.TabB base mg C.co_is_book C.tb_is_book) (TB_is_written_number : GxR.TabB base mg C.co_is_written_number C.tb_is_written_number) (TB_read_book : GxR.TabB base mg C.co_read_book C.tb_read_book) (TB_has_folk_form : GxR.TabB base mg C.co_has_folk_form C.tb_has_folk_form) (TB_is_house : GxR.TabB base mg C.co_is_house C.tb_is_house) (TB_read_house : GxR.TabB base mg C.co_read_house C.tb_read_house) (TB_is_rule : GxR.TabB base mg C.co_is_rule C.tb_is_rule) (TB_read_rule : GxR.TabB base mg C.co_read_rule C.tb_read_rule) : FnG P w K mg base 3 C.f_book C.fd_book P_book (spF K tb P_book.length F_book) := by
  have G_news : FnG P w K mg base 2 C.f_news C.fd_news P_news (spF K tb P_news.length F_news) := ok_news C TB_is_rising TB_is_book TB_is_written_number TB_read_book TB_has_folk_form TB_is_house TB_read_house TB_is_rule TB_read_rule
  have G_take : FnG P w K mg base 1 C.f_take C.fd_take P_take (spF K tb P_take.length F_take) := ok_take C TB_is_rising TB_is_book TB_is_written_number TB_read_book TB_has_folk_form TB_is_house TB_read_house TB_is_rule TB_read_rule
  refine okG (k := 2) C.F_book sc_book fun A outer s H E hgd hr => ?_
  exact (bs_one (bs_ret (ex_callTy tuple_s call_tuple_of (by rfl) C.z_tuple (by decide +kernel) (ax_cons (ex_sortSet rfl hr.units (by rfl) C.z_sorted (by rfl) C.z_set (ex_lc (own := [("_law_k", 3)]) rfl sc_book.nd (tg_name 3) (tw_name 3 (by decide)) (ix_rng1 (by rfl) C.z_range (ax_cons (ex_callG (fun _ _ _ h => runF_len h) G_take hgd (hr.mono (by decide)) (by rfl) C.g_take C.F_take.kp C.b_take (ax_cons (ex_var 0) (ax_cons (ex_op op_addA add_s (ex_var 2) ex_int) ax_nil))) ax_nil)) (blkOk_by (own := [("_law_k", 3)]) (N := N_book) (sc := defScope s_book) (by decide +kernel)) (fun _ _ _ _ _ => (pg_name (i := 3) sc_book.nd rfl (by first | exact Or.inl rfl | exact Or.inr rfl))) (fun _ _ _ _ _ => ts_nil) (fun _ _ _ _ _ => (ex_callG (fun _ _ _ h => runF_len h) G_news hgd (hr.mono (by decide)) (by rfl) C.g_news C.F_news.kp C.b_news (ax_cons (ex_var 0) (ax_cons (ex_var 1) ax_nil)))))) ax_nil))))
theorem ok_day (C : Ctx K mg tb) (TB_is_rising : GxR.TabB base mg C.co_is_rising C.tb_is_rising) (TB_is_book : GxR.TabB base mg C.co_is_book C.tb_is_book) (TB_is_written_number : GxR.TabB base mg C.co_is_written_number C.tb_is_written_number) (TB_read_book : GxR.TabB base mg C.co_read_book C.tb_read_book) (TB_has_folk_form : GxR.TabB base mg C.co_has_folk_form C.tb_has_folk_form) (TB_is_house : GxR.TabB base mg C.co_is_house C.tb_is_house) (TB_read_house : GxR.TabB base mg C.co_read_house C.tb_read_house) (TB_is_rule : GxR.TabB base mg C.co_is_rule C.tb_is_rule) (TB_read_rule : GxR.TabB base mg C.co_read_rule C.tb_read_rule) : FnG P w K mg base 2 C.f_day C.fd_day P_day (spF K tb P_day.length F_day) := by
  have G_take : FnG P w K mg base 1 C.f_take C.fd_take P_take (spF K tb P_take.length F_take) := ok_take C TB_is_rising TB_is_book TB_is_written_number TB_read_book TB_has_folk_form TB_is_house TB_read_house TB_is_rule TB_read_rule
  refine okG (k := 1) C.F_day sc_day fun A outer s H E hgd hr => ?_
  exact (bs_cons (bs_set 2 sc_day.nd (ex_ix (ex_ix (ex_var 1) (ex_callG (fun _ _ _ h => runF_len h) G_take hgd (hr.mono (by decide)) (by rfl) C.g_take C.F_take.kp C.b_take (ax_cons (ex_var 0) (ax_cons (ex_callB len_s cr_lenA (by rfl) C.z_len PySem.boot_len (ax_cons (ex_var 1) ax_nil)) ax_nil)))) ex_int))
      (bs_one (bs_ret (ex_callB two_s (cr_min rfl) (by rfl) C.z_min (by decide +kernel) (ax_cons ex_int (ax_cons (ex_ix (ex_lst (ax_cons (ex_var 2) (ax_cons (ex_op op_addA add_s (ex_var 2) ex_int) (ax_cons (ex_op op_addA add_s (ex_ix (ex_ix (ex_var 1) (ex_un un_neg neg_s ex_int)) ex_int) ex_int) (ax_cons (ex_ix (ex_ix (ex_var 1) (ex_un un_neg neg_s ex_int)) ex_int) ax_nil))))) (ex_callG (fun _ _ _ h => runF_len h) G_take hgd (hr.mono (by decide)) (by rfl) C.g_take C.F_take.kp C.b_take (ax_cons (ex_var 0) (ax_cons ex_int ax_nil)))) ax_nil))))))
theorem ok_parent (C : Ctx K mg tb) (TB_is_rising : GxR.TabB base mg C.co_is_rising C.tb_is_rising) (TB_is_book : GxR.TabB base mg C.co_is_book C.tb_is_book) (TB_is_written_number : GxR.TabB base mg C.co_is_written_number C.tb_is_written_number) (TB_read_book : GxR.TabB base mg C.co_read_book C.tb_read_book) (TB_has_folk_form : GxR.TabB base mg C.co_has_folk_form C.tb_has_folk_form) (TB_is_house : GxR.TabB base mg C.co_is_house C.tb_is_house) (TB_read_house : GxR.TabB base mg C.co_read_house C.tb_read_house) (TB_is_rule : GxR.TabB base mg C.co_is_rule C.tb_is_rule) (TB_read_rule : GxR.TabB base mg C.co_read_rule C.tb_read_rule) : FnG P w K mg base 2 C.f_parent C.fd_parent P_parent (spF K tb P_parent.length F_parent) := by
  have G_take : FnG P w K mg base 1 C.f_take C.fd_take P_take (spF K tb P_take.length F_take) := ok_take C TB_is_rising TB_is_book TB_is_written_number TB_read_book TB_has_folk_form TB_is_house TB_read_house TB_is_rule TB_read_rule
  refine okG (k := 1) C.F_parent sc_parent fun A outer s H E hgd hr => ?_
  exact (bs_cons (bs_setLc 4 (own := [("_law_k", 5)]) rfl sc_parent.nd (tg_name 5) (tw_name 5 (by decide)) (ix_rng1 (by rfl) C.z_range (ax_cons (ex_callB len_s cr_lenA (by rfl) C.z_len PySem.boot_len (ax_cons (ex_var 1) ax_nil)) ax_nil)) (blkOk_by (own := [("_law_k", 5)]) (N := N_parent) (sc := defScope s_parent) (by decide +kernel)) (fun _ _ _ _ _ => (pg_name (i := 5) sc_parent.nd rfl (by first | exact Or.inl rfl | exact Or.inr rfl))) (fun _ _ _ _ _ => (ts_one (pwt (tw_and (tx_cmp (op_eqA hr.units) eq_s (ex_ix (ex_ix (ex_var 1) (ex_var 5)) ex_int) (ex_var 3) (nomark _)) (tw_and1 (tx_cmp op_lt lt_s (ex_ix (ex_ix (ex_var 1) (ex_var 5)) ex_int) (ex_var 2) (nomark _))))))) (fun _ _ _ _ _ => (ex_var 5)) (sw_true rfl rfl rfl (by decide +kernel)))
      (bs_cons (bs_if (pwt (tw_or (tx_cmp (op_eqA hr.units) eq_s (ex_var 4) (ex_lst ax_nil) (nomark _)) (tw_or1 (tx_cmp (op_eqA hr.units) eq_s (ex_callG (fun _ _ _ h => runF_len h) G_take hgd (hr.mono (by decide)) (by rfl) C.g_take C.F_take.kp C.b_take (ax_cons (ex_var 0) (ax_cons ex_int ax_nil))) ex_int (nomark _))))) (bs_one (bs_ret (ex_un un_neg neg_s ex_int))) bs_nil)
      (bs_cons (bs_if (tx_cmp (op_eqA hr.units) eq_s (ex_callG (fun _ _ _ h => runF_len h) G_take hgd (hr.mono (by decide)) (by rfl) C.g_take C.F_take.kp C.b_take (ax_cons (ex_var 0) (ax_cons ex_int ax_nil))) ex_int (nomark _)) (bs_one (bs_set 4 sc_parent.nd (ex_sl (ex_var 4) (ox_some (ex_un un_neg neg_s ex_int)) ox_none))) bs_nil)
      (bs_one (bs_ret (ex_ix (ex_var 4) (ex_callG (fun _ _ _ h => runF_len h) G_take hgd (hr.mono (by decide)) (by rfl) C.g_take C.F_take.kp C.b_take (ax_cons (ex_var 0) (ax_cons (ex_callB len_s cr_lenA (by rfl) C.z_len PySem.boot_len (ax_cons (ex_var 4) ax_nil)) ax_nil)))))))))
theorem ok_house (C : Ctx K mg tb) (TB_is_rising : GxR.TabB base mg C.co_is_rising C.tb_is_rising) (TB_is_book : GxR.TabB base mg C.co_is_book C.tb_is_book) (TB_is_written_number : GxR.TabB base mg C.co_is_written_number C.tb_is_written_number) (TB_read_book : GxR.TabB base mg C.co_read_book C.tb_read_book) (TB_has_folk_form : GxR.TabB base mg C.co_has_folk_form C.tb_has_folk_form) (TB_is_house : GxR.TabB base mg C.co_is_house C.tb_is_house) (TB_read_house : GxR.TabB base mg C.co_read_house C.tb_read_house) (TB_is_rule : GxR.TabB base mg C.co_is_rule C.tb_is_rule) (TB_read_rule : GxR.TabB base mg C.co_read_rule C.tb_read_rule) : FnG P w K mg base 3 C.f_house C.fd_house P_house (spF K tb P_house.length F_house) := by
  have G_parent : FnG P w K mg base 2 C.f_parent C.fd_parent P_parent (spF K tb P_parent.length F_parent) := ok_parent C TB_is_rising TB_is_book TB_is_written_number TB_read_book TB_has_folk_form TB_is_house TB_read_house TB_is_rule TB_read_rule
  have G_take : FnG P w K mg base 1 C.f_take C.fd_take P_take (spF K tb P_take.length F_take) := ok_take C TB_is_rising TB_is_book TB_is_written_number TB_read_book TB_has_folk_form TB_is_house TB_read_house TB_is_rule TB_read_rule
  refine okG (k := 2) C.F_house sc_house fun A outer s H E hgd hr => ?_
  exact (bs_cons (bs_set 2 sc_house.nd (ex_op op_addA add_s ex_int (ex_callG (fun _ _ _ h => runF_len h) G_take hgd (hr.mono (by decide)) (by rfl) C.g_take C.F_take.kp C.b_take (ax_cons (ex_var 0) (ax_cons (ex_var 1) ax_nil)))))
      (bs_cons (bs_set 3 sc_house.nd (ex_ix (ex_lst (ax_cons ex_int (ax_cons ex_int (ax_cons ex_int ax_nil)))) (ex_callG (fun _ _ _ h => runF_len h) G_take hgd (hr.mono (by decide)) (by rfl) C.g_take C.F_take.kp C.b_take (ax_cons (ex_var 0) (ax_cons ex_int ax_nil)))))
      (bs_cons (bs_set 4 sc_house.nd (ex_own (ex_lst ax_nil)))
      (bs_cons (bs_for (dd := [5, 6, 7, 8]) rfl (tg_name 5) PassesOwn.never (ix_rng1 (by rfl) C.z_range (ax_cons (ex_var 2) ax_nil)) (pg_name (i := 5) sc_house.nd rfl (by first | exact Or.inl rfl | exact Or.inr rfl)) (bs_cons (bs_set 3 sc_house.nd (ex_callB two_s (cr_min rfl) (by rfl) C.z_min (by decide +kernel) (ax_cons ex_int (ax_cons (ex_op op_addA add_s (ex_var 3) (ex_ix (ex_lst (ax_cons ex_int (ax_cons ex_int (ax_cons ex_int (ax_cons ex_int (ax_cons ex_int (ax_cons ex_int (ax_cons ex_int (ax_cons ex_int (ax_cons ex_int (ax_cons ex_int ax_nil))))))))))) (ex_callG (fun _ _ _ h => runF_len h) G_take hgd (hr.mono (by decide)) (by rfl) C.g_take C.F_take.kp C.b_take (ax_cons (ex_var 0) (ax_cons ex_int ax_nil))))) ax_nil))))
      (bs_cons (bs_set 6 sc_house.nd (ex_callG (fun _ _ _ h => runF_len h) G_parent hgd (hr.mono (by decide)) (by rfl) C.g_parent C.F_parent.kp C.b_parent (ax_cons (ex_var 0) (ax_cons (ex_var 4) (ax_cons (ex_var 3) (ax_cons ex_int ax_nil))))))
      (bs_cons (bs_set 7 sc_house.nd (ex_callG (fun _ _ _ h => runF_len h) G_parent hgd (hr.mono (by decide)) (by rfl) C.g_parent C.F_parent.kp C.b_parent (ax_cons (ex_var 0) (ax_cons (ex_var 4) (ax_cons (ex_var 3) (ax_cons ex_int ax_nil))))))
      (bs_cons (bs_set 8 sc_house.nd (ex_callG (fun _ _ _ h => runF_len h) G_take hgd (hr.mono (by decide)) (by rfl) C.g_take C.F_take.kp C.b_take (ax_cons (ex_var 0) (ax_cons ex_int ax_nil))))
      (bs_one (bs_drop (ex_append (ex_var 4) (ax_cons (ex_tup (ax_cons (ex_var 3) (ax_cons (ex_var 6) (ax_cons (ex_var 7) (ax_cons (ex_var 8) (ax_cons (ex_callTy int_s call_int1 (by rfl) C.z_int (by decide +kernel) (ax_cons (ex_cmp op_gt gt_s (ex_callG (fun _ _ _ h => runF_len h) G_take hgd (hr.mono (by decide)) (by rfl) C.g_take C.F_take.kp C.b_take (ax_cons (ex_var 0) (ax_cons ex_int ax_nil))) ex_int (nomark _)) ax_nil)) ax_nil)))))) ax_nil)))))))))
      (bs_one (bs_ret (ex_callTy tuple_s call_tuple_of (by rfl) C.z_tuple (by decide +kernel) (ax_cons (ex_var 4) ax_nil))))))))
theorem ok_some (C : Ctx K mg tb) (TB_is_rising : GxR.TabB base mg C.co_is_rising C.tb_is_rising) (TB_is_book : GxR.TabB base mg C.co_is_book C.tb_is_book) (TB_is_written_number : GxR.TabB base mg C.co_is_written_number C.tb_is_written_number) (TB_read_book : GxR.TabB base mg C.co_read_book C.tb_read_book) (TB_has_folk_form : GxR.TabB base mg C.co_has_folk_form C.tb_has_folk_form) (TB_is_house : GxR.TabB base mg C.co_is_house C.tb_is_house) (TB_read_house : GxR.TabB base mg C.co_read_house C.tb_read_house) (TB_is_rule : GxR.TabB base mg C.co_is_rule C.tb_is_rule) (TB_read_rule : GxR.TabB base mg C.co_read_rule C.tb_read_rule) : FnG P w K mg base 4 C.f_some C.fd_some P_some (spF K tb P_some.length F_some) := by
  have G_book : FnG P w K mg base 3 C.f_book C.fd_book P_book (spF K tb P_book.length F_book) := ok_book C TB_is_rising TB_is_book TB_is_written_number TB_read_book TB_has_folk_form TB_is_house TB_read_house TB_is_rule TB_read_rule
  have G_day : FnG P w K mg base 2 C.f_day C.fd_day P_day (spF K tb P_day.length F_day) := ok_day C TB_is_rising TB_is_book TB_is_written_number TB_read_book TB_has_folk_form TB_is_house TB_read_house TB_is_rule TB_read_rule
  have G_house : FnG P w K mg base 3 C.f_house C.fd_house P_house (spF K tb P_house.length F_house) := ok_house C TB_is_rising TB_is_book TB_is_written_number TB_read_book TB_has_folk_form TB_is_house TB_read_house TB_is_rule TB_read_rule
  have G_take : FnG P w K mg base 1 C.f_take C.fd_take P_take (spF K tb P_take.length F_take) := ok_take C TB_is_rising TB_is_book TB_is_written_number TB_read_book TB_has_folk_form TB_is_house TB_read_house TB_is_rule TB_read_rule
  refine okG (k := 3) C.F_some sc_some fun A outer s H E hgd hr => ?_
  exact (bs_cons (bs_set 2 sc_some.nd (ex_cmp (op_eqA hr.units) eq_s (ex_callG (fun _ _ _ h => runF_len h) G_take hgd (hr.mono (by decide)) (by rfl) C.g_take C.F_take.kp C.b_take (ax_cons (ex_var 0) (ax_cons ex_int ax_nil))) ex_int (nomark _)))
      (bs_cons (bs_set 3 sc_some.nd (ex_callG (fun _ _ _ h => runF_len h) G_house hgd (hr.mono (by decide)) (by rfl) C.g_house C.F_house.kp C.b_house (ax_cons (ex_var 0) (ax_cons (ex_ix (ex_lst (ax_cons (ex_var 1) (ax_cons ex_int ax_nil))) (ex_callTy int_s call_int1 (by rfl) C.z_int (by decide +kernel) (ax_cons (ex_var 2) ax_nil))) ax_nil))))
      (bs_cons (bs_set 4 sc_some.nd (ex_callG (fun _ _ _ h => runF_len h) G_book hgd (hr.mono (by decide)) (by rfl) C.g_book C.F_book.kp C.b_book (ax_cons (ex_var 0) (ax_cons (ex_var 3) (ax_cons (ex_ix (ex_lst (ax_cons ex_int (ax_cons ex_int ax_nil))) (ex_callTy int_s call_int1 (by rfl) C.z_int (by decide +kernel) (ax_cons (ex_var 2) ax_nil))) ax_nil)))))
      (bs_one (bs_ret (ex_lst (ax_cons (ex_var 3) (ax_cons (ex_var 4) (ax_cons (ex_callG (fun _ _ _ h => runF_len h) G_day hgd (hr.mono (by decide)) (by rfl) C.g_day C.F_day.kp C.b_day (ax_cons (ex_var 0) (ax_cons (ex_var 3) ax_nil))) ax_nil)))))))))
theorem ok_law (C : Ctx K mg tb) (TB_is_rising : GxR.TabB base mg C.co_is_rising C.tb_is_rising) (TB_is_book : GxR.TabB base mg C.co_is_book C.tb_is_book) (TB_is_written_number : GxR.TabB base mg C.co_is_written_number C.tb_is_written_number) (TB_read_book : GxR.TabB base mg C.co_read_book C.tb_read_book) (TB_has_folk_form : GxR.TabB base mg C.co_has_folk_form C.tb_has_folk_form) (TB_is_house : GxR.TabB base mg C.co_is_house C.tb_is_house) (TB_read_house : GxR.TabB base mg C.co_read_house C.tb_read_house) (TB_is_rule : GxR.TabB base mg C.co_is_rule C.tb_is_rule) (TB_read_rule : GxR.TabB base mg C.co_read_rule C.tb_read_rule) : FnG P w K mg base 9 C.f_law C.fd_law P_law (spF K tb P_law.length F_law) := by
  have G_right : FnG P w K mg base 8 C.f_right C.fd_right P_right (spF K tb P_right.length F_right) := ok_right C TB_is_rising TB_is_book TB_is_written_number TB_read_book TB_has_folk_form TB_is_house TB_read_house TB_is_rule TB_read_rule
  have G_rows : FnG P w K mg base 3 C.f_rows C.fd_rows P_rows (spF K tb P_rows.length F_rows) := ok_rows C TB_is_rising TB_is_book TB_is_written_number TB_read_book TB_has_folk_form TB_is_house TB_read_house TB_is_rule TB_read_rule
  have G_some : FnG P w K mg base 4 C.f_some C.fd_some P_some (spF K tb P_some.length F_some) := ok_some C TB_is_rising TB_is_book TB_is_written_number TB_read_book TB_has_folk_form TB_is_house TB_read_house TB_is_rule TB_read_rule
  refine okG (k := 8) C.F_law sc_law fun A outer s H E hgd hr => ?_
  exact (bs_cons (bs_set 1 sc_law.nd (ex_own (ex_lst (ax_cons (ex_var 0) (ax_cons ex_int (ax_cons ex_int (ax_cons ex_int ax_nil)))))))
      (bs_cons (bs_set 2 sc_law.nd (ex_own (ex_lst ax_nil)))
      (bs_cons (bs_for (dd := [3, 5, 6, 7]) rfl (tg_name 3) PassesOwn.never (ix_rng1 (by rfl) C.z_range (ax_cons ex_int ax_nil)) (pg_name (i := 3) sc_law.nd rfl (by first | exact Or.inl rfl | exact Or.inr rfl)) (bs_cons (bs_asg (tg_tl rfl (tgs_cons (tg_name 5) (tgs_cons (tg_name 6) (tgs_cons (tg_name 7) tgs_nil)))) (ex_callG (fun _ _ _ h => runF_len h) G_some hgd (hr.mono (by decide)) (by rfl) C.g_some C.F_some.kp C.b_some (ax_cons (ex_var 1) (ax_cons ex_int ax_nil))) (pg_tl rfl (pgs_cons (pg_name (i := 5) sc_law.nd rfl (by first | exact Or.inl rfl | exact Or.inr rfl)) (pgs_cons (pg_name (i := 6) sc_law.nd rfl (by first | exact Or.inl rfl | exact Or.inr rfl)) (pgs_cons (pg_name (i := 7) sc_law.nd rfl (by first | exact Or.inl rfl | exact Or.inr rfl)) pgs_nil)))))
      (bs_one (bs_drop (ex_append (ex_var 2) (ax_cons (ex_lst (ax_cons (ex_var 5) (ax_cons (ex_var 6) (ax_cons (ex_lc (own := [("_law_k", 4)]) rfl sc_law.nd (tg_name 4) (tw_name 4 (by decide)) (ix_rng1 (by rfl) C.z_range (ax_cons ex_int ax_nil)) (blkOk_by (own := [("_law_k", 4)]) (N := N_law) (sc := defScope s_law) (by decide +kernel)) (fun _ _ _ _ _ => (pg_name (i := 4) sc_law.nd rfl (by first | exact Or.inl rfl | exact Or.inr rfl))) (fun _ _ _ _ _ => ts_nil) (fun _ _ _ _ _ => (ex_callG (fun _ _ _ h => runF_len h) G_rows hgd (hr.mono (by decide)) (by rfl) C.g_rows C.F_rows.kp C.b_rows (ax_cons (ex_var 1) (ax_cons (ex_var 5) ax_nil))))) ax_nil)))) ax_nil))))))
      (bs_cons (bs_for (dd := [4]) rfl (tg_name 4) PassesOwn.never (ix_seq' (ex_tup (ax_cons ex_int (ax_cons ex_int (ax_cons ex_int ax_nil))))) (pg_name (i := 4) sc_law.nd rfl (by first | exact Or.inl rfl | exact Or.inr rfl)) (bs_one (bs_if (tx_not (tx_tru (ex_callG (fun _ _ _ h => runF_len h) G_right hgd (hr.mono (by decide)) (by rfl) C.g_right C.F_right.kp C.b_right (ax_cons (ex_ix (ex_ix (ex_var 2) (ex_var 4)) ex_int) (ax_cons (ex_ix (ex_ix (ex_var 2) (ex_var 4)) ex_int) (ax_cons (ex_ix (ex_ix (ex_var 2) (ex_var 4)) ex_int) ax_nil)))))) (bs_one (bs_ret ex_bl)) bs_nil)))
      (bs_one (bs_ret ex_bl))))))
end
end K92
end
section
set_option Elab.async false
set_option linter.all false
set_option maxRecDepth 100000
set_option maxHeartbeats 4000000
namespace Lx
open PySem L2 Pw
theorem at_nat {α : Type} {xs : List α} {i : Nat} {x : α} (h : xs[i]? = some x) : atI xs (i : Int) = some x := by
  have hl : i < xs.length := (List.getElem?_eq_some_iff.mp h).1
  unfold atI ixN
  rw [if_pos (by omega), if_pos (by omega)]
  simpa using h
theorem at_int {α : Type} {xs : List α} {v : Int} {x : α} (h0 : 0 ≤ v) (h : xs[v.toNat]? = some x) : atI xs v = some x := by
  have := at_nat h
  rwa [Int.toNat_of_nonneg h0] at this
theorem at_some {α : Type} {xs : List α} {v : Int} (h0 : 0 ≤ v) (h1 : v < xs.length) : ∃ x, x ∈ xs ∧ xs[v.toNat]? = some x ∧ atI xs v = some x := by
  have hv : v.toNat < xs.length := by omega
  have e : xs[v.toNat]? = some xs[v.toNat] := List.getElem?_eq_getElem hv
  exact ⟨_, List.getElem_mem hv, e, at_int h0 e⟩
@[simp] theorem at0 {α : Type} {a : α} {xs : List α} : atI (a :: xs) 0 = some a := @at_nat _ (a :: xs) 0 a rfl
@[simp] theorem at1 {α : Type} {a b : α} {xs : List α} : atI (a :: b :: xs) 1 = some b := @at_nat _ (a :: b :: xs) 1 b rfl
@[simp] theorem at2 {α : Type} {a b c : α} {xs : List α} : atI (a :: b :: c :: xs) 2 = some c := @at_nat _ (a :: b :: c :: xs) 2 c rfl
@[simp] theorem at3 {α : Type} {a b c d : α} {xs : List α} : atI (a :: b :: c :: d :: xs) 3 = some d := @at_nat _ (a :: b :: c :: d :: xs) 3 d rfl
@[simp] theorem at4 {α : Type} {a b c d e : α} {xs : List α} : atI (a :: b :: c :: d :: e :: xs) 4 = some e := @at_nat _ (a :: b :: c :: d :: e :: xs) 4 e rfl
@[simp] theorem ix4_1 : ixN 4 1 = some 1 := rfl
@[simp] theorem ix4_2 : ixN 4 2 = some 2 := rfl
@[simp] theorem ix4_3 : ixN 4 3 = some 3 := rfl
@[simp] theorem stl_v {d : D} : stl (.v d) = .v d := rfl
@[simp] theorem stl_f {d : D} : stl (.f d) = .v d := rfl
@[simp] theorem stl_r {n : Nat} : stl (.r n) = .r n := rfl
@[simp] theorem gt_v {d : D} {m : Mem} : gt (.v d) m = some d := rfl
@[simp] theorem gt_f {d : D} {m : Mem} : gt (.f d) m = some d := rfl
@[simp] theorem gt_r {n : Nat} {m : Mem} : gt (.r n) m = (m[n]?).map moD := rfl
@[simp] theorem moD_l {ds : List D} : moD (.lst ds) = .lst ds := rfl
@[simp] theorem moD_k {kvs : List (Key × D)} : moD (.dk kvs) = .dk kvs := rfl
@[simp] theorem vl_v {d : D} : vl (.v d) = some d := rfl
@[simp] theorem vl_f {d : D} : vl (.f d) = some d := rfl
@[simp] theorem gts_nil {m : Mem} : gts [] m = some [] := rfl
@[simp] theorem gts_cons {w : W} {ws : List W} {m : Mem} : gts (w :: ws) m = (gt w m).bind fun d => (gts ws m).bind fun ds => some (d :: ds) := rfl
@[simp] theorem vls_nil : vls [] = some [] := rfl
@[simp] theorem vls_v {d : D} {ws : List W} : vls (.v d :: ws) = (vls ws).bind fun ds => some (d :: ds) := rfl
@[simp] theorem vls_f {d : D} {ws : List W} : vls (.f d :: ws) = (vls ws).bind fun ds => some (d :: ds) := rfl
@[simp] theorem blD_b {b : Bool} : blD (.bl b) = some b := rfl
@[simp] theorem inD_i {i : Int} : inD' (.int i) = some i := rfl
@[simp] theorem wipe_nil {ρ : Pw.Env} : wipeD ρ [] = ρ := rfl
@[simp] theorem wipe_cons {ρ : Pw.Env} {v : Nat} {vs : List Nat} : wipeD ρ (v :: vs) = (wipeD ρ vs).set v none := rfl
@[simp] theorem itm_t {ds : List D} : itmD (.tup ds) = some ds := rfl
@[simp] theorem itm_l {ds : List D} : itmD (.lst ds) = some ds := rfl
@[simp] theorem itmL_l {ds : List D} : itmL (.lst ds) = some ds := rfl
@[simp] theorem src_t {ds : List D} {m : Mem} : srcW (.v (.tup ds)) m = some (.seq ds) := rfl
@[simp] theorem src_l {ds : List D} {m : Mem} : srcW (.v (.lst ds)) m = some (.seq ds) := rfl
@[simp] theorem src_tf {ds : List D} {m : Mem} : srcW (.f (.tup ds)) m = some (.seq ds) := rfl
@[simp] theorem src_lf {ds : List D} {m : Mem} : srcW (.f (.lst ds)) m = some (.seq ds) := rfl
@[simp] theorem items_seq {ds : List D} {m : Mem} : itemsAt (.seq ds) m = some ds := rfl
@[simp] theorem own_f {ds : List D} {m : Mem} : ownW (.f (.lst ds)) m = some (.r m.length, m ++ [.lst ds]) := rfl
@[simp] theorem own_r {n : Nat} {m : Mem} : ownW (.r n) m = some (.r n, m) := rfl
@[simp] theorem out_v {k : Nat} {d : D} {m : Mem} : outW k (.v d) m = some (.v d, m.take k) := rfl
@[simp] theorem out_f {k : Nat} {d : D} {m : Mem} : outW k (.f d) m = some (.f d, m.take k) := rfl
@[simp] theorem sub_i {a b : Int} : subD (.int a) (.int b) = some (.v (.int (a - b))) := rfl
@[simp] theorem add_i {a b : Int} : addD (.int a) (.int b) = some (.v (.int (a + b))) := rfl
@[simp] theorem neg_i {a : Int} : negD (.int a) = some (.v (.int (-a))) := rfl
@[simp] theorem lt_i {a b : Int} : cmpD ltI (.int a) (.int b) = some (.v (.bl (decide (a < b)))) := rfl
@[simp] theorem le_i {a b : Int} : cmpD leI (.int a) (.int b) = some (.v (.bl (decide (a ≤ b)))) := rfl
@[simp] theorem gt_i {a b : Int} : cmpD gtI (.int a) (.int b) = some (.v (.bl (decide (b < a)))) := rfl
@[simp] theorem ge_i {a b : Int} : cmpD geI (.int a) (.int b) = some (.v (.bl (decide (b ≤ a)))) := rfl
@[simp] theorem max_i {a b : Int} : two maxI [.int a, .int b] = some (.v (.int (max a b))) := by
  simp only [two, maxI, Option.some.injEq, W.v.injEq, D.int.injEq]; split <;> omega
@[simp] theorem min_i {a b : Int} : two minI [.int a, .int b] = some (.v (.int (min a b))) := by
  simp only [two, minI, Option.some.injEq, W.v.injEq, D.int.injEq]; split <;> omega
@[simp] theorem int_b {b : Bool} : intD [.bl b] = some (.v (.int (if b then 1 else 0))) := rfl
@[simp] theorem int_i {b : Int} : intD [.int b] = some (.v (.int b)) := rfl
@[simp] theorem len_t {ds : List D} : lenD [.tup ds] = some (.v (.int ds.length)) := rfl
@[simp] theorem len_l {ds : List D} : lenD [.lst ds] = some (.v (.int ds.length)) := rfl
@[simp] theorem len_fl {ds : List D} : lenD [.fl ds] = some (.v (.int ds.length)) := rfl
@[simp] theorem tuple_l {ds : List D} : tupleD [.lst ds] = some (.v (.tup ds)) := rfl
@[simp] theorem tuple_t {ds : List D} : tupleD [.tup ds] = some (.v (.tup ds)) := rfl
@[simp] theorem list_t {ds : List D} : listD [.tup ds] = some (.f (.lst ds)) := rfl
@[simp] theorem list_l {ds : List D} : listD [.lst ds] = some (.f (.lst ds)) := rfl
@[simp] theorem ix_t {ds : List D} {i : Int} : ixD (.tup ds) (.int i) = (atI ds i).bind fun d => some (.v d) := rfl
@[simp] theorem ix_l {ds : List D} {i : Int} : ixD (.lst ds) (.int i) = (atI ds i).bind fun d => some (.v d) := rfl
@[simp] theorem ix_fl {ds : List D} {i : Int} : ixD (.fl ds) (.int i) = (atI ds i).bind fun d => some (.v d) := rfl
@[simp] theorem eq_i {neg : Bool} {x y : Int} : eqD neg (.int x) (.int y) = some (.v (.bl (decide (x = y) != neg))) := by
  unfold eqD eqB
  simp [sc, scal]
@[simp] theorem eq_s {neg : Bool} {x y : Str} : eqD neg (.str x) (.str y) = some (.v (.bl (decide (x = y) != neg))) := by
  unfold eqD eqB
  simp [sc, scal]
theorem mul_i {a b : Int} (c : CMul a b) : mulD (.int a) (.int b) = some (.v (.int (a * b))) := by simp [mulD, c]
theorem div_i {a b : Int} (h : 0 < b) (h2 : b < 2 ^ 30) : divD (.int a) (.int b) = some (.v (.int (a / b))) := by
  have c : CDiv a b := ⟨h, h2⟩
  simp [divD, intC, c]
theorem mod_i {a b : Int} (h : 0 < b) : modD (.int a) (.int b) = some (.v (.int (a % b))) := by simp [modD, intC, h]
theorem pow_i {a b : Int} (c : CPow a b) : powD (.int a) (.int b) = some (.v (.int (a ^ b.toNat))) := by simp [powD, intC, c]
@[simp] theorem add_l {a b : List D} : addD (.lst a) (.lst b) = if a.length + b.length ≤ 1000000 then some (.f (.lst (a ++ b))) else none := rfl
@[simp] theorem add_t {a b : List D} : addD (.tup a) (.tup b) = if a.length + b.length ≤ 1000000 then some (.v (.tup (a ++ b))) else none := rfl
@[simp] theorem app_r {n : Nat} {w : W} {m : Mem} : appD (.r n) [w] m = match m[n]? with
    | some (.lst ds) => (vl w).bind fun d => if ds.length < 1000000 then some (.v .non, m.set n (.lst (ds ++ [d]))) else none
    | _ => none := rfl
@[simp] theorem isl_r {n : Nat} {m : Mem} : isLst (.r n) m = match m[n]? with
    | some (.lst _) => true
    | _ => false := rfl
@[simp] theorem rngA_i {n : Nat} : rngA [.int (n : Int)] = if (n : Int) ≤ 1000000000 then some (rngD 0 n) else none := by
  unfold rngA
  simp only [Int.toNat_natCast]
  by_cases h : (n : Int) ≤ 1000000000
  · rw [if_pos ⟨by omega, h⟩, if_pos h]
  · rw [if_neg (fun z => h z.2), if_neg h]
@[simp] theorem put_r {n : Nat} {i : Int} {d : D} {m : Mem} : putD (.r n) (.int i) d m = match m[n]? with
    | some (.lst ds) => (ixN ds.length i).map fun j => m.set n (.lst (ds.set j d))
    | _ => none := rfl
structure St where
  p : Int
  c : Int
  sd : Int
  hp : 0 ≤ p
  hc : 0 ≤ c
  hs : 0 ≤ sd
  hs2 : sd < 2147483647
def stD (ns : List Int) (s : St) : MO := .lst [.fl (ns.map .int), .int s.p, .int s.c, .int s.sd]
noncomputable def B_take : Sx := (sSeq (sFog [3] (sIf (tVal (eOp (cmpD gtI) (eOp ixD (eVar 0) (eC (.int 2))) (eC (.int 0)))) (sSeq (sSet 3 (eOp modD (eOp ixD (eVar 0) (eC (.int 2))) (eVar 1))) (sSeq (sPut (eVar 0) (eC (.int 2)) (eOp divD (eOp ixD (eVar 0) (eC (.int 2))) (eVar 1))) (sRet (eVar 3)))) sNil)) (sSeq (sSet 2 (eC (.int 0))) (sSeq (sIf (tVal (eOp (cmpD ltI) (eOp ixD (eVar 0) (eC (.int 1))) (eCB lenD (aCons (eOp ixD (eVar 0) (eC (.int 0))) aNil)))) (sSet 2 (eOp ixD (eOp ixD (eVar 0) (eC (.int 0))) (eOp ixD (eVar 0) (eC (.int 1))))) sNil) (sSeq (sPut (eVar 0) (eC (.int 1)) (eOp addD (eOp ixD (eVar 0) (eC (.int 1))) (eC (.int 1)))) (sSeq (sIf (tVal (eOp (cmpD geI) (eVar 2) (eOp powD (eC (.int 10)) (eC (.int 18))))) (sSeq (sPut (eVar 0) (eC (.int 2)) (eOp divD (eVar 2) (eVar 1))) (sRet (eOp modD (eVar 2) (eVar 1)))) sNil) (sSeq (sPut (eVar 0) (eC (.int 3)) (eOp modD (eOp addD (eOp addD (eOp mulD (eOp ixD (eVar 0) (eC (.int 3))) (eC (.int 48271))) (eOp modD (eVar 2) (eC (.int 2147483629)))) (eOp mulD (eC (.int 7)) (eOp ixD (eVar 0) (eC (.int 1))))) (eC (.int 2147483647)))) (sRet (eOp modD (eOp divD (eOp modD (eOp powD (eOp ixD (eVar 0) (eC (.int 3))) (eC (.int 3))) (eC (.int 2147483629))) (eC (.int 64))) (eVar 1)))))))))
noncomputable def F_take : Fx := runF 2 4 B_take
theorem take_ex (ns : List Int) (s : St) (b : Int) (hb : 0 < b) (hb2 : b < 1073741824) :
    ∃ (v : Int) (s' : St), 0 ≤ v ∧ v < b ∧ ∀ m : Mem, F_take [.r 0, .v (.int b)] (stD ns s :: m) = some (.v (.int v), stD ns s' :: m) := by
  obtain ⟨p, c, sd, hp, hc, hs, hs2⟩ := s
  by_cases h0 : 0 < c
  · refine ⟨c % b, ⟨p, c / b, sd, hp, Int.ediv_nonneg hc (by omega), hs, hs2⟩, Int.emod_nonneg _ (by omega), Int.emod_lt_of_pos _ hb, fun m => ?_⟩
    simp [F_take, runF, B_take, startD, sFog, sSeq, sIf, sSet, sRet, sPut, eVar, eC, eOp, tVal, stD, h0, mod_i hb, div_i hb hb2]
  · have key : ∀ cell : Int, (if p < (ns.length : Int) then atI (ns.map D.int) p else some (D.int 0)) = some (.int cell) → ∃ (v : Int) (s' : St), 0 ≤ v ∧ v < b ∧ ∀ m : Mem, F_take [.r 0, .v (.int b)] (stD ns ⟨p, c, sd, hp, hc, hs, hs2⟩ :: m) = some (.v (.int v), stD ns s' :: m) := by
      intro cell hcell
      have cp10 : CPow 10 18 := ⟨by omega, by omega, by decide⟩
      by_cases hbig : (1000000000000000000 : Int) ≤ cell
      · refine ⟨cell % b, ⟨p + 1, cell / b, sd, by omega, Int.ediv_nonneg (by omega) (by omega), hs, hs2⟩, Int.emod_nonneg _ (by omega), Int.emod_lt_of_pos _ hb, fun m => ?_⟩
        by_cases h1 : p < (ns.length : Int)
        · rw [if_pos h1] at hcell
          simp [F_take, runF, B_take, startD, sFog, sSeq, sIf, sSet, sRet, sPut, sNil, eVar, eC, eOp, eCB, aCons, aNil, tVal, stD, h0, h1, hcell, mod_i hb, div_i hb hb2, pow_i cp10, hbig]
        · rw [if_neg h1] at hcell
          have : (0 : Int) = cell := by injection hcell with z; injection z
          omega
      · have n2 : 0 ≤ (sd * 48271 + cell % 2147483629 + 7 * (p + 1)) % 2147483647 := Int.emod_nonneg _ (by omega)
        have n3 : (sd * 48271 + cell % 2147483629 + 7 * (p + 1)) % 2147483647 < 2147483647 := Int.emod_lt_of_pos _ (by omega)
        generalize hq : (sd * 48271 + cell % 2147483629 + 7 * (p + 1)) % 2147483647 = q at n2 n3
        have cp : CPow q 3 := ⟨by omega, by omega, by omega⟩
        refine ⟨q ^ 3 % 2147483629 / 64 % b, ⟨p + 1, c, q, by omega, hc, n2, n3⟩, Int.emod_nonneg _ (by omega), Int.emod_lt_of_pos _ hb, fun m => ?_⟩
        have m1 : mulD (.int sd) (.int 48271) = some (.v (.int (sd * 48271))) := mul_i (.inr ⟨by omega, by omega⟩)
        have m2 : mulD (.int 7) (.int (p + 1)) = some (.v (.int (7 * (p + 1)))) := mul_i (.inl ⟨by omega, by omega⟩)
        have d1 : ∀ a : Int, modD (.int a) (.int 2147483629) = some (.v (.int (a % 2147483629))) := fun a => mod_i (by omega)
        have d2 : ∀ a : Int, modD (.int a) (.int 2147483647) = some (.v (.int (a % 2147483647))) := fun a => mod_i (by omega)
        have d3 : ∀ a : Int, divD (.int a) (.int 64) = some (.v (.int (a / 64))) := fun a => div_i (by omega) (by omega)
        by_cases h1 : p < (ns.length : Int)
        · rw [if_pos h1] at hcell
          simp [F_take, runF, B_take, startD, sFog, sSeq, sIf, sSet, sRet, sPut, sNil, eVar, eC, eOp, eCB, aCons, aNil, tVal, stD, h0, h1, hcell, mod_i hb, d1, d2, d3, m1, m2, pow_i cp10, pow_i cp, hbig, hq]
        · rw [if_neg h1] at hcell
          have : (0 : Int) = cell := by injection hcell with z; injection z
          subst this
          have d1' : modD (.int 0) (.int 2147483629) = some (.v (.int 0)) := d1 0
          simp at hq
          simp [F_take, runF, B_take, startD, sFog, sSeq, sIf, sSet, sRet, sPut, sNil, eVar, eC, eOp, eCB, aCons, aNil, tVal, stD, h0, h1, mod_i hb, d1', d1, d2, d3, m1, m2, pow_i cp10, pow_i cp, hq]
    by_cases h1 : p < (ns.length : Int)
    · have hl : p.toNat < ns.length := by omega
      exact key ns[p.toNat] (by rw [if_pos h1]; exact at_int hp (by simp [hl]))
    · exact key 0 (by rw [if_neg h1])
open Classical in
noncomputable def tk (ns : List Int) (s : St) (b : Int) : Int × St := if h : 0 < b ∧ b < 1073741824 then ⟨Classical.choose (take_ex ns s b h.1 h.2), Classical.choose (Classical.choose_spec (take_ex ns s b h.1 h.2))⟩ else ⟨0, s⟩
theorem tk_lo {ns : List Int} {s : St} {b : Int} : 0 ≤ (tk ns s b).1 := by
  unfold tk
  split
  · rename_i h; exact (Classical.choose_spec (Classical.choose_spec (take_ex ns s b h.1 h.2))).1
  · exact Int.le_refl _
theorem tk_hi {ns : List Int} {s : St} {b : Int} (h : 0 < b) (h2 : b < 1073741824) : (tk ns s b).1 < b := by
  unfold tk
  rw [dif_pos ⟨h, h2⟩]
  exact (Classical.choose_spec (Classical.choose_spec (take_ex ns s b h h2))).2.1
theorem take_eq {ns : List Int} {s : St} {b : Int} {m : Mem} (h : 0 < b) (h2 : b < 1073741824) : F_take [.r 0, .v (.int b)] (stD ns s :: m) = some (.v (.int (tk ns s b).1), stD ns (tk ns s b).2 :: m) := by
  unfold tk
  rw [dif_pos ⟨h, h2⟩]
  exact (Classical.choose_spec (Classical.choose_spec (take_ex ns s b h h2))).2.2 m
end Lx
end
section
set_option Elab.async false
set_option linter.all false
set_option maxRecDepth 100000
set_option maxHeartbeats 4000000
namespace Lx
open PySem L2 Pw
theorem rng0 (n : Nat) : rngD 0 n = (List.range n).map fun i : Nat => D.int (i : Int) := by
  unfold rngD
  refine List.map_congr_left fun i _ => ?_
  simp
section
variable {α : Type} {src : Ix} {t : Gx} {c : Tx} {f : Ex} {b : Sx} {vs dd : List Nat} {ρ : Pw.Env} {m m1 : Mem}
theorem lcL_map {xs : List D} (g : α → D) (sel : α → Bool) (val : α → D) {ρ : Pw.Env} {m : Mem} : ∀ (L : List α) (acc : List D), (∀ a ∈ L, ∃ ρ1, t (g a) ρ = some ρ1 ∧ c ρ1 m = some (sel a, m) ∧ (sel a = true → ∃ w, f ρ1 m = some (w, m) ∧ vl w = some (val a))) → acc.length + L.length ≤ 1000000 →
    lcL (.seq xs) xs t c f ρ (L.map g) acc m = some (acc ++ (L.filter sel).map val, m)
  | [], acc, _, _ => by simp [lcL]
  | a :: L, acc, h, hl => by
    obtain ⟨ρ1, h1, h2, h3⟩ := h a List.mem_cons_self
    have hl' : acc.length + L.length + 1 ≤ 1000000 := by simpa [Nat.add_assoc] using hl
    rw [List.map_cons]
    unfold lcL
    rw [if_pos (by simp), h1]
    simp only [Option.bind_some, h2]
    cases hs : sel a with
    | true =>
      obtain ⟨w, e1, e2⟩ := h3 hs
      simp only [if_true, e1, Option.bind_some, e2]
      rw [if_pos (by omega), lcL_map g sel val L (acc ++ [val a]) (fun a ha => h a (List.mem_cons_of_mem _ ha)) (by simp; omega)]
      simp [List.filter_cons, hs]
    | false =>
      simp only [Bool.false_eq_true, if_false]
      rw [lcL_map g sel val L acc (fun a ha => h a (List.mem_cons_of_mem _ ha)) (by omega)]
      simp [List.filter_cons, hs]
theorem lc_map (L : List α) (g : α → D) (sel : α → Bool) (val : α → D) (hs : src ρ m = some (.seq (L.map g), m1)) (h : ∀ a ∈ L, ∃ ρ1, t (g a) (wipeD ρ vs) = some ρ1 ∧ c ρ1 m1 = some (sel a, m1) ∧ (sel a = true → ∃ w, f ρ1 m1 = some (w, m1) ∧ vl w = some (val a))) (hl : L.length ≤ 1000000) :
    eLc src t c f vs ρ m = some (.f (.lst ((L.filter sel).map val)), m1) := by
  unfold eLc
  rw [hs]
  simp only [Option.bind_some, items_seq]
  rw [lcL_map g sel val L [] h (by simpa using hl)]
  simp
theorem lcL_eff {xs : List D} (Inv : Nat → List D → Mem → Prop) {ρ : Pw.Env} (g : α → D) (step : ∀ i a acc m, Inv i acc m → ∃ ρ1 w v m', t (g a) ρ = some ρ1 ∧ c ρ1 m = some (true, m) ∧ f ρ1 m = some (w, m') ∧ vl w = some v ∧ Inv (i + 1) (acc ++ [v]) m') :
    ∀ (L : List α) (i : Nat) (acc : List D) (m : Mem), Inv i acc m → acc.length + L.length ≤ 1000000 → ∃ acc' m', lcL (.seq xs) xs t c f ρ (L.map g) acc m = some (acc', m') ∧ Inv (i + L.length) acc' m'
  | [], i, acc, m, inv, _ => ⟨acc, m, by simp [lcL], by simpa using inv⟩
  | a :: L, i, acc, m, inv, hl => by
    obtain ⟨ρ1, w, v, m', q1, q2, q3, q4, q5⟩ := step i a acc m inv
    have hl' : acc.length + L.length + 1 ≤ 1000000 := by simpa [Nat.add_assoc] using hl
    obtain ⟨acc', m'', r1, r2⟩ := lcL_eff Inv g step L (i + 1) (acc ++ [v]) m' q5 (by simp; omega)
    refine ⟨acc', m'', ?_, by rw [List.length_cons, show i + (L.length + 1) = i + 1 + L.length by omega]; exact r2⟩
    rw [List.map_cons]
    unfold lcL
    rw [if_pos (by simp)]
    simp only [q1, q2, q3, q4, Option.bind_some, if_true]
    rw [if_pos (by omega)]
    exact r1
theorem lc_eff (L : List α) (g : α → D) (Inv : Nat → List D → Mem → Prop) (hs : src ρ m = some (.seq (L.map g), m1)) (h0 : Inv 0 [] m1) (step : ∀ i a acc m, Inv i acc m → ∃ ρ1 w v m', t (g a) (wipeD ρ vs) = some ρ1 ∧ c ρ1 m = some (true, m) ∧ f ρ1 m = some (w, m') ∧ vl w = some v ∧ Inv (i + 1) (acc ++ [v]) m') (hl : L.length ≤ 1000000) :
    ∃ acc m', eLc src t c f vs ρ m = some (.f (.lst acc), m') ∧ Inv L.length acc m' := by
  obtain ⟨acc, m', e, inv⟩ := lcL_eff (xs := L.map g) Inv g step L 0 [] m1 h0 (by simpa using hl)
  refine ⟨acc, m', ?_, by simpa using inv⟩
  unfold eLc
  rw [hs]
  simp only [Option.bind_some, items_seq]
  rw [e]; rfl
theorem forL_inv {xs : List D} (Inv : Nat → Pw.Env → Mem → Prop) (g : α → D) : ∀ (L : List α) (i : Nat), (∀ k a, L[k]? = some a → ∀ ρ m, Inv (i + k) ρ m → ∃ ρ1 ρ2 m2, t (g a) ρ = some ρ1 ∧ b ρ1 m = some (.nx, ρ2, m2) ∧ Inv (i + k + 1) (wipeD ρ2 dd) m2) → ∀ (ρ : Pw.Env) (m : Mem), Inv i ρ m →
    ∃ ρ' m', forL (.seq xs) xs t b dd (L.map g) ρ m = some (.nx, ρ', m') ∧ Inv (i + L.length) ρ' m'
  | [], i, step, ρ, m, inv => ⟨ρ, m, by simp [forL], by simpa using inv⟩
  | a :: L, i, step, ρ, m, inv => by
    obtain ⟨ρ1, ρ2, m2, q1, q2, q3⟩ := step 0 a rfl ρ m (by simpa using inv)
    obtain ⟨ρ', m', r1, r2⟩ := forL_inv Inv g L (i + 1) (fun k a ha ρ m hi => by
      have := step (k + 1) a (by simpa using ha) ρ m (by rw [show i + (k + 1) = i + 1 + k by omega]; exact hi)
      rw [show i + (k + 1) + 1 = i + 1 + k + 1 by omega] at this
      exact this) (wipeD ρ2 dd) m2 (by simpa using q3)
    refine ⟨ρ', m', ?_, by rw [List.length_cons, show i + (L.length + 1) = i + 1 + L.length by omega]; exact r2⟩
    rw [List.map_cons]
    unfold forL
    rw [if_pos (by simp)]
    simp only [q1, q2, Option.bind_some]
    exact r1
theorem for_inv (L : List α) (g : α → D) (Inv : Nat → Pw.Env → Mem → Prop) (hs : src ρ m = some (.seq (L.map g), m1)) (h0 : Inv 0 ρ m1)
    (step : ∀ k a, L[k]? = some a → ∀ ρ m, Inv k ρ m → ∃ ρ1 ρ2 m2, t (g a) ρ = some ρ1 ∧ b ρ1 m = some (.nx, ρ2, m2) ∧ Inv (k + 1) (wipeD ρ2 dd) m2) :
    ∃ ρ' m', sFor src t b dd ρ m = some (.nx, ρ', m') ∧ Inv L.length ρ' m' := by
  obtain ⟨ρ', m', e, inv⟩ := forL_inv (xs := L.map g) Inv g L 0 (fun k a ha ρ m hi => by
    have := step k a ha ρ m (by simpa using hi)
    simpa using this) ρ m1 h0
  refine ⟨ρ', m', ?_, by simpa using inv⟩
  unfold sFor
  rw [hs]
  simp only [Option.bind_some, items_seq]
  exact e
end
structure Fo where
  day : Int
  fa : Int
  mo : Int
  man : Int
  wed : Int
deriving DecidableEq
def Fo.d (f : Fo) : D := .tup [.int f.day, .int f.fa, .int f.mo, .int f.man, .int f.wed]
abbrev hD (F : List Fo) : D := .tup (F.map Fo.d)
def ParOk (F : List Fo) (day v man : Int) : Prop := v = -1 ∨ ∃ (j : Nat) (g : Fo), v = (j : Int) ∧ F[j]? = some g ∧ g.man = man ∧ g.day < day
structure FoOkL (lim : Int) (f : Fo) : Prop where
  d0 : 0 ≤ f.day
  d1 : f.day ≤ lim
  m : f.man = 0 ∨ f.man = 1
  w : f.wed = 0 ∨ f.wed = 1
structure GoodHL (lim : Int) (F : List Fo) : Prop where
  ne : 1 ≤ F.length
  le : F.length ≤ 60
  ok : ∀ f ∈ F, FoOkL lim f
  fa : ∀ (i : Nat) f, F[i]? = some f → ParOk (F.take i) f.day f.fa 1
  mo : ∀ (i : Nat) f, F[i]? = some f → ParOk (F.take i) f.day f.mo 0
  up : F.Pairwise fun f g => f.day ≤ g.day
  lm : lim ≤ 99999
abbrev FoOk (f : Fo) : Prop := FoOkL 99990 f
abbrev GoodH (F : List Fo) : Prop := GoodHL 99990 F
@[simp] theorem fo0 {f : Fo} : ixD f.d (.int 0) = some (.v (.int f.day)) := by simp [Fo.d]
@[simp] theorem fo1 {f : Fo} : ixD f.d (.int 1) = some (.v (.int f.fa)) := by simp [Fo.d]
@[simp] theorem fo2 {f : Fo} : ixD f.d (.int 2) = some (.v (.int f.mo)) := by simp [Fo.d]
@[simp] theorem fo3 {f : Fo} : ixD f.d (.int 3) = some (.v (.int f.man)) := by simp [Fo.d]
@[simp] theorem fo4 {f : Fo} : ixD f.d (.int 4) = some (.v (.int f.wed)) := by simp [Fo.d]
theorem fo_at {F : List Fo} {k : Nat} {f : Fo} (h : F[k]? = some f) : atI (F.map Fo.d) (k : Int) = some f.d := at_nat (by rw [List.getElem?_map, h]; rfl)
theorem fo_int {F : List Fo} {v : Int} {f : Fo} (h0 : 0 ≤ v) (h : F[v.toNat]? = some f) : atI (F.map Fo.d) v = some f.d := at_int h0 (by rw [List.getElem?_map, h]; rfl)
theorem fo_some {F : List Fo} {v : Int} (h0 : 0 ≤ v) (h1 : v < F.length) : ∃ f, f ∈ F ∧ F[v.toNat]? = some f ∧ atI (F.map Fo.d) v = some f.d := by
  have hv : v.toNat < F.length := by omega
  have e : F[v.toNat]? = some F[v.toNat] := List.getElem?_eq_getElem hv
  exact ⟨_, List.getElem_mem hv, e, fo_int h0 e⟩
def parSel (F : List Fo) (day man : Int) (i : Nat) : Bool := match F[i]? with
  | some f => decide (f.man = man) && decide (f.day < day)
  | none => false
def parIs (F : List Fo) (day man : Int) : List Nat := (List.range F.length).filter (parSel F day man)
abbrev nD (i : Nat) : D := .int (i : Int)
theorem parIs_mem {F : List Fo} {day man : Int} {i : Nat} (h : i ∈ parIs F day man) : i < F.length ∧ ParOk F day i man := by
  obtain ⟨h1, h2⟩ := List.mem_filter.mp h
  have hl := List.mem_range.mp h1
  unfold parSel at h2
  rw [List.getElem?_eq_getElem hl] at h2
  simp only [Bool.and_eq_true, decide_eq_true_eq] at h2
  exact ⟨hl, .inr ⟨i, F[i], rfl, List.getElem?_eq_getElem hl, h2.1, h2.2⟩⟩
theorem parIs_len {F : List Fo} {day man : Int} : (parIs F day man).length ≤ F.length := Nat.le_trans (List.length_filter_le _ _) (by simp)
theorem cut3 (ds : List D) : ∃ k, cutD ds (some (-3)) none = ds.drop k ∧ (ds ≠ [] → k < ds.length) := by
  refine ⟨ds.length - 3, ?_, fun h => ?_⟩
  · unfold cutD
    have e : HT.sIx ds.length 0 (some (-3)) = ds.length - 3 := by
      show (if (-3 : Int) < 0 then ((-3 : Int) + (ds.length : Int)).toNat else min (-3 : Int).toNat ds.length) = _
      rw [if_pos (by omega)]
      omega
    rw [e, HT.sIx_none]
    rw [List.take_of_length_le]
    simp
  · have : 0 < ds.length := List.length_pos_iff.mpr h
    omega
theorem pyDs_n (is : List Nat) : pyDs (is.map nD) = some (is.map fun i : Nat => PyData.int i) := by
  induction is with
  | nil => rw [List.map_nil, pyDs]; rfl
  | cons i is ih => rw [List.map_cons, pyDs, pyD]; simp only [Option.bind_some]; rw [ih]; rfl
theorem lay_ints : ∀ is : List Nat, PyData.canLayAll0 (is.map fun i : Nat => PyData.int i) = true ∧ PyData.depthAll (is.map fun i : Nat => PyData.int i) ≤ 0
  | [] => ⟨rfl, by simp [PyData.depthAll]⟩
  | i :: is => by
    obtain ⟨h1, h2⟩ := lay_ints is
    refine ⟨by rw [List.map_cons, PyData.canLayAll0, h1]; rfl, ?_⟩
    rw [List.map_cons, PyData.depthAll, PyData.depth]
    omega
theorem eq_nil (is : List Nat) : eqD false (.lst (is.map nD)) (.lst []) = some (.v (.bl is.isEmpty)) := by
  have h1 : pyD (.lst (is.map nD)) = some (.list (is.map fun i : Nat => PyData.int i)) := by rw [pyD, pyDs_n]; rfl
  have h2 : pyD (.lst []) = some (.list []) := by rw [pyD, pyDs]; rfl
  have s1 : SeqAt.shaped (.list (is.map fun i : Nat => PyData.int i)) = true := by
    obtain ⟨a, b⟩ := lay_ints is
    unfold SeqAt.shaped
    rw [PyData.canLay0, a, PyData.depth, Bool.true_and, decide_eq_true_eq]
    omega
  unfold eqD eqB
  simp only [sc, h1, h2]
  rw [if_pos ⟨s1, rfl⟩]
  cases is <;> rfl
noncomputable def E_parent_1 : Ex := eLc (iRngA (aCons (eCB lenD (aCons (eVar 1) aNil)) aNil)) (gN 5) (tAnd' (tVal (eOp (eqD false) (eOp ixD (eOp ixD (eVar 1) (eVar 5)) (eC (.int 3))) (eVar 3))) (tVal (eOp (cmpD ltI) (eOp ixD (eOp ixD (eVar 1) (eVar 5)) (eC (.int 0))) (eVar 2)))) (eVar 5) [5]
noncomputable def B_parent : Sx := (sSeq (sSet 4 E_parent_1) (sSeq (sIf (tOr' (tVal (eOp (eqD false) (eVar 4) (eLst aNil))) (tVal (eOp (eqD false) (eCall F_take (aCons (eVar 0) (aCons (eC (.int 5)) aNil))) (eC (.int 0))))) (sRet (eUn negD (eC (.int 1)))) sNil) (sSeq (sIf (tVal (eOp (eqD false) (eCall F_take (aCons (eVar 0) (aCons (eC (.int 2)) aNil))) (eC (.int 0)))) (sSet 4 (eSlc (eVar 4) (oSome (eUn negD (eC (.int 3)))) oNone)) sNil) (sRet (eOp ixD (eVar 4) (eCall F_take (aCons (eVar 0) (aCons (eCB lenD (aCons (eVar 4) aNil)) aNil))))))))
noncomputable def F_parent : Fx := runF 4 6 B_parent
noncomputable def L_house_1 : Sx := (sSeq (sSet 3 (eCB (two minI) (aCons (eC (.int 99990)) (aCons (eOp addD (eVar 3) (eOp ixD (eLst (aCons (eC (.int 1)) (aCons (eC (.int 0)) (aCons (eC (.int 1)) (aCons (eC (.int 30)) (aCons (eC (.int 299)) (aCons (eC (.int 300)) (aCons (eC (.int 301)) (aCons (eC (.int 6570)) (aCons (eC (.int 2)) (aCons (eC (.int 1)) aNil))))))))))) (eCall F_take (aCons (eVar 0) (aCons (eC (.int 10)) aNil))))) aNil)))) (sSeq (sSet 6 (eCall F_parent (aCons (eVar 0) (aCons (eVar 4) (aCons (eVar 3) (aCons (eC (.int 1)) aNil)))))) (sSeq (sSet 7 (eCall F_parent (aCons (eVar 0) (aCons (eVar 4) (aCons (eVar 3) (aCons (eC (.int 0)) aNil)))))) (sSeq (sSet 8 (eCall F_take (aCons (eVar 0) (aCons (eC (.int 2)) aNil)))) (sDrop (eMt isLst appD (eVar 4) (aCons (eTup (aCons (eVar 3) (aCons (eVar 6) (aCons (eVar 7) (aCons (eVar 8) (aCons (eCB intD (aCons (eOp (cmpD gtI) (eCall F_take (aCons (eVar 0) (aCons (eC (.int 5)) aNil))) (eC (.int 0))) aNil)) aNil)))))) aNil)))))))
noncomputable def B_house : Sx := (sSeq (sSet 2 (eOp addD (eC (.int 1)) (eCall F_take (aCons (eVar 0) (aCons (eVar 1) aNil))))) (sSeq (sSet 3 (eOp ixD (eLst (aCons (eC (.int 0)) (aCons (eC (.int 7)) (aCons (eC (.int 30000)) aNil)))) (eCall F_take (aCons (eVar 0) (aCons (eC (.int 3)) aNil))))) (sSeq (sSet 4 (eOwn (eLst aNil))) (sSeq (sFor (iRngA (aCons (eVar 2) aNil)) (gN 5) L_house_1 [5, 6, 7, 8]) (sRet (eCB tupleD (aCons (eVar 4) aNil)))))))
noncomputable def F_house : Fx := runF 2 9 B_house
theorem par_lc {ns : List Int} {s : St} {m : Mem} {r : Nat} {F : List Fo} (hfo : (stD ns s :: m)[r]? = some (.lst (F.map Fo.d))) (hl : F.length ≤ 60) (day man : Int) :
    E_parent_1
      [some (.r 0), some (.r r), some (.v (.int day)), some (.v (.int man)), none, none] (stD ns s :: m) = some (.f (.lst ((parIs F day man).map nD)), stD ns s :: m) := by
  unfold E_parent_1
  refine lc_map (List.range F.length) nD (parSel F day man) nD ?_ (fun i hi => ⟨_, rfl, ?_, fun _ => ⟨_, rfl, rfl⟩⟩) (by simp; omega)
  · have : ((F.length : Int)) ≤ 1000000000 := by omega
    simp [iRngA, aCons, aNil, eCB, eVar, hfo, this, rng0]
  · have hk := List.mem_range.mp hi
    have ek : F[i]? = some F[i] := List.getElem?_eq_getElem hk
    have sel' : parSel F day man i = (decide (F[i].man = man) && decide (F[i].day < day)) := by unfold parSel; rw [ek]
    rw [sel']
    generalize F[i] = f at ek
    by_cases h1 : f.man = man <;> simp [tAnd', tVal, eOp, eVar, eC, hfo, fo_at ek, h1]
theorem parent_spec {ns : List Int} {s : St} {m : Mem} {r : Nat} {F : List Fo} (hfo : ∀ s', (stD ns s' :: m)[r]? = some (.lst (F.map Fo.d))) (hl : F.length ≤ 60) (day man : Int) :
    ∃ v s', F_parent [.r 0, .r r, .v (.int day), .v (.int man)] (stD ns s :: m) = some (.v (.int v), stD ns s' :: m) ∧ ParOk F day v man := by
  have lc := par_lc (ns := ns) (s := s) (hfo s) hl day man
  have hmem : ∀ i ∈ parIs F day man, ParOk F day i man := fun i hi => (parIs_mem hi).2
  have hL : (parIs F day man).length ≤ 60 := Nat.le_trans parIs_len hl
  generalize parIs F day man = L at lc hmem hL
  -- the end: an item of a list of such numbers
  have fin : ∀ (s3 : St) (K : List Nat), K ≠ [] → (∀ i ∈ K, ParOk F day i man) → K.length ≤ 60 → ∃ v s', (sRet (eOp ixD (eVar 4) (eCall F_take (aCons (eVar 0) (aCons (eCB lenD (aCons (eVar 4) aNil)) aNil))))) [some (.r 0), some (.r r), some (.v (.int day)), some (.v (.int man)), some (.v (.lst (K.map nD))), none] (stD ns s3 :: m) =
        some (.ret (.v (.int v)), [some (.r 0), some (.r r), some (.v (.int day)), some (.v (.int man)), some (.v (.lst (K.map nD))), none], stD ns s' :: m) ∧ ParOk F day v man := by
    intro s3 K hne hb hk
    have kp : 0 < K.length := List.length_pos_iff.mpr hne
    have te : ∀ m', F_take [.r 0, .v (.int (K.length : Int))] (stD ns s3 :: m') = _ := fun m' => take_eq (by omega) (by omega)
    have lo := tk_lo (ns := ns) (s := s3) (b := K.length)
    have hi := tk_hi (ns := ns) (s := s3) (b := K.length) (by omega) (by omega)
    obtain ⟨i, i1, i2, i3⟩ := at_some (xs := K) lo hi
    have e : atI (K.map nD) (tk ns s3 K.length).1 = some (nD i) := at_int lo (by rw [List.getElem?_map, i2]; rfl)
    exact ⟨i, (tk ns s3 K.length).2, by simp [sRet, eOp, eVar, eCall, eCB, aCons, aNil, te, e], hb i i1⟩
  have t5 : ∀ m', F_take [.r 0, .v (.int 5)] (stD ns s :: m') = _ := fun m' => take_eq (by omega) (by omega)
  by_cases hE : L = []
  · subst hE
    have en : eqD false (.lst []) (.lst []) = some (.v (.bl true)) := eq_nil []
    rw [List.map_nil] at lc
    exact ⟨-1, s, by simp only [F_parent, runF, B_parent, startD]; simp [sSeq, sSet, lc, sIf, tOr', tVal, eOp, eVar, eLst, aNil, en, sRet, eUn, eC], .inl rfl⟩
  · have en := eq_nil L
    rw [show L.isEmpty = false by cases L with | nil => exact absurd rfl hE | cons => rfl] at en
    by_cases h5 : (tk ns s 5).1 = 0
    · exact ⟨-1, (tk ns s 5).2, by simp only [F_parent, runF, B_parent, startD]; simp [sSeq, sSet, lc, sIf, tOr', tVal, eOp, eVar, eLst, aNil, aCons, eCall, en, t5, h5, sRet, eUn, eC], .inl rfl⟩
    · have t2 : ∀ m', F_take [.r 0, .v (.int 2)] (stD ns (tk ns s 5).2 :: m') = _ := fun m' => take_eq (by omega) (by omega)
      by_cases h2 : (tk ns (tk ns s 5).2 2).1 = 0
      · obtain ⟨k, ck, kl⟩ := cut3 (L.map nD)
        have kl' := kl (by simpa using hE)
        rw [← List.map_drop] at ck
        obtain ⟨v, s', e, ok⟩ := fin (tk ns (tk ns s 5).2 2).2 (L.drop k) (fun z => by have := congrArg List.length z; simp at this kl'; omega) (fun i hi => hmem i (List.mem_of_mem_drop hi)) (by rw [List.length_drop]; omega)
        refine ⟨v, s', ?_, ok⟩
        have cs : slcD (.lst (L.map nD)) (some (-3)) none = some (.f (.lst ((L.drop k).map nD))) := by simp only [slcD, ck]
        simp only [F_parent, runF, B_parent, startD]
        simp [sSeq, sSet, lc, sIf, tOr', tVal, eOp, eVar, eLst, aNil, aCons, eCall, en, t5, h5, sNil, t2, h2, eSlc, oSome, oNone, eUn, eC, cs, -List.map_drop]
        simp only [sRet, eOp, eVar, eCall, eCB, aCons, aNil] at e ⊢
        simp [-List.map_drop] at e ⊢
        rw [e]; simp
      · obtain ⟨v, s', e, ok⟩ := fin (tk ns (tk ns s 5).2 2).2 L hE hmem hL
        refine ⟨v, s', ?_, ok⟩
        simp only [F_parent, runF, B_parent, startD]
        simp [sSeq, sSet, lc, sIf, tOr', tVal, eOp, eVar, eLst, aNil, aCons, eCall, en, t5, h5, sNil, t2, h2, eC]
        simp only [sRet, eOp, eVar, eCall, eCB, aCons, aNil] at e ⊢
        simp at e ⊢
        rw [e]; simp
end Lx
end
section
set_option Elab.async false
set_option linter.all false
set_option maxRecDepth 100000
set_option maxHeartbeats 4000000
namespace Lx
open PySem L2 Pw
theorem snoc_at {α : Type} {F : List α} {f g : α} {i : Nat} (h : (F ++ [f])[i]? = some g) : (i < F.length ∧ F[i]? = some g) ∨ (i = F.length ∧ g = f) := by
  rcases Nat.lt_trichotomy i F.length with z | z | z
  · rw [List.getElem?_append_left z] at h; exact .inl ⟨z, h⟩
  · subst z
    simp at h
    exact .inr ⟨rfl, h.symm⟩
  · rw [List.getElem?_eq_none (by simp; omega)] at h; cases h
structure HalfHL (lim : Int) (F : List Fo) (day : Int) : Prop where
  d0 : 0 ≤ day
  d1 : day ≤ lim
  top : ∀ f ∈ F, f.day ≤ day
  ok : ∀ f ∈ F, FoOkL lim f
  fa : ∀ (i : Nat) f, F[i]? = some f → ParOk (F.take i) f.day f.fa 1
  mo : ∀ (i : Nat) f, F[i]? = some f → ParOk (F.take i) f.day f.mo 0
  up : F.Pairwise fun f g => f.day ≤ g.day
abbrev HalfH (F : List Fo) (day : Int) : Prop := HalfHL 99990 F day
theorem HalfHL.snoc {lim : Int} {F : List Fo} {day : Int} {f : Fo} (h : HalfHL lim F day) (hd : day ≤ f.day) (ok : FoOkL lim f) (fa : ParOk F f.day f.fa 1) (mo : ParOk F f.day f.mo 0) : HalfHL lim (F ++ [f]) f.day := by
  refine ⟨ok.d0, ok.d1, fun g hg => ?_, fun g hg => ?_, fun i g hg => ?_, fun i g hg => ?_, ?_⟩
  · rcases List.mem_append.mp hg with z | z
    · have := h.top g z; omega
    · rw [List.mem_singleton.mp z]; exact Int.le_refl _
  · rcases List.mem_append.mp hg with z | z
    · exact h.ok g z
    · rw [List.mem_singleton.mp z]; exact ok
  · rcases snoc_at hg with ⟨z1, z2⟩ | ⟨rfl, rfl⟩
    · rw [List.take_append_of_le_length (Nat.le_of_lt z1)]; exact h.fa i g z2
    · rw [List.take_left]; exact fa
  · rcases snoc_at hg with ⟨z1, z2⟩ | ⟨rfl, rfl⟩
    · rw [List.take_append_of_le_length (Nat.le_of_lt z1)]; exact h.mo i g z2
    · rw [List.take_left]; exact mo
  · refine List.pairwise_append.mpr ⟨h.up, by simp, fun a ha b hb => ?_⟩
    rw [List.mem_singleton.mp hb]
    have := h.top a ha; omega
theorem pick_ex (ns : List Int) (s : St) (b : Int) (K : List D) (hb : b = K.length) (h : 0 < K.length) (h2 : K.length < 1000) : ∃ x, x ∈ K ∧ atI K (tk ns s b).1 = some x := by
  subst hb
  obtain ⟨x, h1, _, h3⟩ := at_some (xs := K) (tk_lo (ns := ns) (s := s) (b := K.length)) (tk_hi (by omega) (by omega))
  exact ⟨x, h1, h3⟩
theorem house_specL {ns : List Int} {s : St} {most : Int} (h1 : 1 ≤ most) (h2 : most ≤ 60) (m : Mem) :
    ∃ F s', F_house [.r 0, .v (.int most)] (stD ns s :: m) = some (.v (hD F), stD ns s' :: m) ∧ GoodH F ∧ (F.length : Int) ≤ most := by
  have te : ∀ (s : St) (b : Int) (m : Mem), 0 < b → b < 1073741824 → F_take [.r 0, .v (.int b)] (stD ns s :: m) = _ := fun s b m h h2 => take_eq h h2
  obtain ⟨n, hn⟩ : ∃ n : Nat, 1 + (tk ns s most).1 = (n : Int) := ⟨(1 + (tk ns s most).1).toNat, by have := tk_lo (ns := ns) (s := s) (b := most); omega⟩
  have hnn : 1 ≤ n ∧ (n : Int) ≤ most := by have := tk_lo (ns := ns) (s := s) (b := most); have := tk_hi (ns := ns) (s := s) (b := most) (by omega) (by omega); omega
  obtain ⟨x0, hx0, ex⟩ := pick_ex ns (tk ns s most).2 3 [.int 0, .int 7, .int 30000] rfl (by decide) (by decide)
  obtain ⟨x, rfl, hx⟩ : ∃ z : Int, x0 = .int z ∧ 0 ≤ z ∧ z ≤ 30000 := by
    simp only [List.mem_cons, List.not_mem_nil, or_false] at hx0
    rcases hx0 with h | h | h <;> exact ⟨_, h, by decide⟩
  obtain ⟨ρ', m', e, s', day, F, rfl, rfl, hl, hh⟩ := for_inv (src := iRngA (aCons (eVar 2) aNil)) (t := gN 5) (b := L_house_1) (dd := [5, 6, 7, 8]) (m1 := stD ns (tk ns (tk ns s most).2 3).2 :: (m ++ [.lst []])) (ρ := [some (.r 0), some (.v (.int most)), some (.v (.int (n : Int))), some (.v (.int x)), some (.r (m.length + 1)), none, none, none, none]) (m := stD ns (tk ns (tk ns s most).2 3).2 :: (m ++ [.lst []]))
    (List.range n) nD (fun i ρ mm => ∃ s day F, ρ = [some (.r 0), some (.v (.int most)), some (.v (.int (n : Int))), some (.v (.int day)), some (.r (m.length + 1)), none, none, none, none] ∧ mm = stD ns s :: (m ++ [.lst (F.map Fo.d)]) ∧ F.length = i ∧ HalfH F day)
    (by have : (n : Int) ≤ 1000000000 := by omega
        simp [iRngA, aCons, aNil, eVar, this, rng0]) ⟨_, x, [], rfl, rfl, rfl, hx.1, by omega, (fun f hf => nomatch hf), (fun f hf => nomatch hf), (fun i f hf => by simp at hf), (fun i f hf => by simp at hf), .nil⟩
    (fun k a ha ρ mm inv => by
      obtain ⟨s, day, F, rfl, rfl, hl, hh⟩ := inv
      have hk : k < n := by have := (List.getElem?_eq_some_iff.mp ha).1; simpa using this
      obtain ⟨z0, hz0, ez⟩ := pick_ex ns s 10 [.int 1, .int 0, .int 1, .int 30, .int 299, .int 300, .int 301, .int 6570, .int 2, .int 1] rfl (by decide) (by decide)
      obtain ⟨z, rfl, hz⟩ : ∃ y : Int, z0 = .int y ∧ 0 ≤ y := by
        simp only [List.mem_cons, List.not_mem_nil, or_false] at hz0
        rcases hz0 with h | h | h | h | h | h | h | h | h | h <;> exact ⟨_, h, by decide⟩
      have hfo : ∀ s' : St, (stD ns s' :: (m ++ [MO.lst (F.map Fo.d)]))[m.length + 1]? = some (.lst (F.map Fo.d)) := fun s' => by simp
      obtain ⟨va, sa, ea, ha⟩ := parent_spec (ns := ns) (s := (tk ns s 10).2) hfo (by omega) (min 99990 (day + z)) 1
      obtain ⟨vb, sb, eb, hb⟩ := parent_spec (ns := ns) (s := sa) hfo (by omega) (min 99990 (day + z)) 0
      have l1 := tk_lo (ns := ns) (s := sb) (b := 2)
      have l2 := tk_hi (ns := ns) (s := sb) (b := 2) (by omega) (by omega)
      have hlen : F.length < 1000000 := by omega
      have d0 := hh.d0
      have d1 := hh.d1
      generalize hf : (⟨min 99990 (day + z), va, vb, (tk ns sb 2).1, if 0 < (tk ns (tk ns sb 2).2 5).1 then 1 else 0⟩ : Fo) = f
      have fd : f.day = min 99990 (day + z) := by rw [← hf]
      have fm : f.man = (tk ns sb 2).1 := by rw [← hf]
      have fw : f.wed = if 0 < (tk ns (tk ns sb 2).2 5).1 then 1 else 0 := by rw [← hf]
      have ffa : f.fa = va := by rw [← hf]
      have fmo : f.mo = vb := by rw [← hf]
      refine ⟨_, [some (.r 0), some (.v (.int most)), some (.v (.int (n : Int))), some (.v (.int f.day)), some (.r (m.length + 1)), some (.v (nD a)), some (.v (.int va)), some (.v (.int vb)), some (.v (.int (tk ns sb 2).1))], stD ns (tk ns (tk ns sb 2).2 5).2 :: (m ++ [.lst ((F ++ [f]).map Fo.d)]), rfl, ?_, (tk ns (tk ns sb 2).2 5).2, f.day, F ++ [f], rfl, rfl, by simp [hl], ?_⟩
      rotate_left
      · exact hh.snoc (by rw [fd]; omega) ⟨by rw [fd]; omega, by rw [fd]; omega, by rw [fm]; omega, by rw [fw]; split <;> simp⟩ (by rw [fd, ffa]; exact ha) (by rw [fd, fmo]; exact hb)
      · rw [← hf]
        simp [L_house_1, sSeq, sSet, sDrop, eCB, aCons, aNil, eC, eOp, eVar, eLst, eCall, te, ez, ea, eb, eMt, eTup, hlen, Fo.d])
  refine ⟨F, s', ?_, ⟨by simp at hl; omega, by simp at hl; omega, hh.ok, hh.fa, hh.mo, hh.up, by decide⟩, by simp at hl; omega⟩
  have tm := te s most m (by omega) (by omega)
  simp only [F_house, runF, B_house, startD]
  simp [sSeq, sSet, aCons, aNil, eC, eOp, eVar, eLst, eCall, tm, te, hn, ex, eOwn, e, sRet, eCB]
theorem house_spec {ns : List Int} {s : St} {most : Int} (h1 : 1 ≤ most) (h2 : most ≤ 60) (m : Mem) :
    ∃ F s', F_house [.r 0, .v (.int most)] (stD ns s :: m) = some (.v (hD F), stD ns s' :: m) ∧ GoodH F :=
  let ⟨F, s', e, h, _⟩ := house_specL h1 h2 m; ⟨F, s', e, h⟩
end Lx
end
section
set_option Elab.async false
set_option linter.all false
set_option maxRecDepth 100000
set_option maxHeartbeats 4000000
namespace Lx
open PySem L2 Pw Pv
structure Nw where
  word : Str
  day : Int
  who : Int
  other : Int
deriving DecidableEq
def Nw.d (n : Nw) : D := .tup [.str n.word, .int n.day, .int n.who, .int n.other]
abbrev bD (B : List Nw) : D := .tup (B.map Nw.d)
def Nw.k (n : Nw) : KT' := [.inr n.word, .inl n.day, .inl n.who, .inl n.other]
structure NwOk (F : List Fo) (n : Nw) : Prop where
  word : n.word ∈ (["dies", "leaves", "cuts", "returns", "awaits"] : List Str)
  w0 : 0 ≤ n.who
  w1 : n.who < F.length
  d0 : 0 ≤ n.day
  d1 : n.day ≤ 99999
  dw : ∀ f, F[n.who.toNat]? = some f → f.day ≤ n.day
  o : n.word ≠ "awaits" → n.other = -1
  o0 : -1 ≤ n.other
  o1 : n.other < F.length
  aw : n.word = "awaits" → (∀ f, F[n.who.toNat]? = some f → f.man = 0 ∧ f.day < n.day) ∧ ParOk F n.day n.other 1
@[simp] theorem nw0 {n : Nw} : ixD n.d (.int 0) = some (.v (.str n.word)) := by simp [Nw.d]
@[simp] theorem nw1 {n : Nw} : ixD n.d (.int 1) = some (.v (.int n.day)) := by simp [Nw.d]
@[simp] theorem nw2 {n : Nw} : ixD n.d (.int 2) = some (.v (.int n.who)) := by simp [Nw.d]
@[simp] theorem nw3 {n : Nw} : ixD n.d (.int 3) = some (.v (.int n.other)) := by simp [Nw.d]
noncomputable def E_news_1 : Ex := eLc (iRngA (aCons (eCB lenD (aCons (eVar 1) aNil)) aNil)) (gN 7) (tAnd' (tVal (eOp (eqD false) (eOp ixD (eOp ixD (eVar 1) (eVar 7)) (eC (.int 3))) (eC (.int 1)))) (tVal (eOp (cmpD ltI) (eOp ixD (eOp ixD (eVar 1) (eVar 7)) (eC (.int 0))) (eVar 5)))) (eVar 7) [7]
noncomputable def B_news : Sx := (sSeq (sSet 2 (eOp ixD (eLst (aCons (eC (.str "dies")) (aCons (eC (.str "leaves")) (aCons (eC (.str "cuts")) (aCons (eC (.str "returns")) (aCons (eC (.str "awaits")) (aCons (eC (.str "cuts")) aNil))))))) (eCall F_take (aCons (eVar 0) (aCons (eC (.int 6)) aNil))))) (sSeq (sSet 3 (eCall F_take (aCons (eVar 0) (aCons (eCB lenD (aCons (eVar 1) aNil)) aNil)))) (sSeq (sSet 4 (eOp subD (eOp addD (eOp ixD (eOp ixD (eVar 1) (eCall F_take (aCons (eVar 0) (aCons (eCB lenD (aCons (eVar 1) aNil)) aNil)))) (eC (.int 0))) (eCall F_take (aCons (eVar 0) (aCons (eC (.int 3)) aNil)))) (eC (.int 1)))) (sSeq (sSet 5 (eCB (two maxI) (aCons (eOp ixD (eOp ixD (eVar 1) (eVar 3)) (eC (.int 0))) (aCons (eVar 4) aNil)))) (sSeq (sFog [6] (sIf (tAnd' (tVal (eOp (eqD false) (eVar 2) (eC (.str "awaits")))) (tVal (eOp (eqD false) (eOp ixD (eOp ixD (eVar 1) (eVar 3)) (eC (.int 3))) (eC (.int 0))))) (sSeq (sSet 5 (eCB (two maxI) (aCons (eOp addD (eOp ixD (eOp ixD (eVar 1) (eVar 3)) (eC (.int 0))) (eC (.int 1))) (aCons (eVar 4) aNil)))) (sSeq (sSet 6 (eOp addD (eLst (aCons (eUn negD (eC (.int 1))) aNil)) E_news_1)) (sRet (eTup (aCons (eVar 2) (aCons (eVar 5) (aCons (eVar 3) (aCons (eOp ixD (eVar 6) (eCall F_take (aCons (eVar 0) (aCons (eCB lenD (aCons (eVar 6) aNil)) aNil)))) aNil)))))))) sNil)) (sRet (eTup (aCons (eOp ixD (eLst (aCons (eVar 2) (aCons (eC (.str "leaves")) aNil))) (eCB intD (aCons (eOp (eqD false) (eVar 2) (eC (.str "awaits"))) aNil))) (aCons (eVar 5) (aCons (eVar 3) (aCons (eUn negD (eC (.int 1))) aNil)))))))))))
noncomputable def F_news : Fx := runF 2 8 B_news
noncomputable def E_book_1 : Ex := eLc (iRngA (aCons (eCall F_take (aCons (eVar 0) (aCons (eOp addD (eVar 2) (eC (.int 1))) aNil))) aNil)) (gN 3) tYes' (eCall F_news (aCons (eVar 0) (aCons (eVar 1) aNil))) [3]
noncomputable def B_book : Sx := (sRet (eCB tupleD (aCons (eCB sortSetD (aCons E_book_1 aNil)) aNil)))
noncomputable def F_book : Fx := runF 3 4 B_book
noncomputable def B_row : Sx := (sSeq (sSet 2 (eOp mulD (eCall F_take (aCons (eVar 0) (aCons (eCB lenD (aCons (eVar 1) aNil)) aNil))) (eCB intD (aCons (eOp (eqD false) (eCall F_take (aCons (eVar 0) (aCons (eC (.int 3)) aNil))) (eC (.int 0))) aNil)))) (sSeq (sSet 3 (eOp ixD (eLst (aCons (eC (.str "alike")) (aCons (eC (.str "first")) (aCons (eC (.str "first")) (aCons (eC (.str "only")) aNil))))) (eCall F_take (aCons (eVar 0) (aCons (eC (.int 4)) aNil))))) (sRet (eTup (aCons (eVar 2) (aCons (eVar 3) (aCons (eCB intD (aCons (eOp (eqD false) (eCall F_take (aCons (eVar 0) (aCons (eC (.int 3)) aNil))) (eC (.int 0))) aNil)) (aCons (eOp ixD (eLst (aCons (eC (.str "lines")) (aCons (eC (.str "lines")) (aCons (eC (.str "age")) (aCons (eC (.str "near")) aNil))))) (eCall F_take (aCons (eVar 0) (aCons (eC (.int 4)) aNil)))) aNil))))))))
noncomputable def F_row : Fx := runF 2 4 B_row
theorem others_lc {F : List Fo} {m : Mem} {x2 x3 x4 x6 : Option W} {day : Int} (hl : F.length ≤ 60) :
    E_news_1 [some (.r 0), some (.v (hD F)), x2, x3, x4, some (.v (.int day)), x6, none] m = some (.f (.lst ((parIs F day 1).map nD)), m) := by
  unfold E_news_1
  refine lc_map (List.range F.length) nD (parSel F day 1) nD ?_ (fun i hi => ⟨_, rfl, ?_, fun _ => ⟨_, rfl, rfl⟩⟩) (by simp; omega)
  · have : ((F.length : Int)) ≤ 1000000000 := by omega
    simp [iRngA, aCons, aNil, eCB, eVar, this, rng0]
  · have hk := List.mem_range.mp hi
    have ek : F[i]? = some F[i] := List.getElem?_eq_getElem hk
    have sel' : parSel F day 1 i = (decide (F[i].man = 1) && decide (F[i].day < day)) := by unfold parSel; rw [ek]
    rw [sel']
    generalize F[i] = f at ek
    by_cases h1 : f.man = 1 <;> simp [tAnd', tVal, eOp, eVar, eC, fo_at ek, h1]
theorem news_spec {ns : List Int} {s : St} {m : Mem} {F : List Fo} {lim : Int} (hF : GoodHL lim F) (hlim : lim ≤ 99995 := by decide) :
    ∃ n s', F_news [.r 0, .v (hD F)] (stD ns s :: m) = some (.v (Nw.d n), stD ns s' :: m) ∧ NwOk F n := by
  have l0 := hF.ne
  have l1 := hF.le
  have te : ∀ (s : St) (b : Int) (m : Mem), 0 < b → b < 1073741824 → F_take [.r 0, .v (.int b)] (stD ns s :: m) = _ := fun s b m h h2 => take_eq h h2
  have tl : ∀ (s : St) (m : Mem), F_take [.r 0, .v (.int (F.length : Int))] (stD ns s :: m) = _ := fun s m => take_eq (by omega) (by omega)
  obtain ⟨x, hx, ex⟩ := pick_ex ns s 6 [.str "dies", .str "leaves", .str "cuts", .str "returns", .str "awaits", .str "cuts"] rfl (by decide) (by decide)
  obtain ⟨word, rfl, hw⟩ : ∃ w : Str, x = .str w ∧ w ∈ (["dies", "leaves", "cuts", "returns", "awaits"] : List Str) := by
    simp only [List.mem_cons, List.not_mem_nil, or_false] at hx
    rcases hx with h | h | h | h | h | h <;> exact ⟨_, h, by simp⟩
  generalize hs1 : (tk ns s 6).2 = s1
  have who0 := tk_lo (ns := ns) (s := s1) (b := F.length)
  have who1 := tk_hi (ns := ns) (s := s1) (b := F.length) (by omega) (by omega)
  generalize hs2 : (tk ns s1 F.length).2 = s2
  generalize hwho : (tk ns s1 F.length).1 = who at who0 who1
  have v0 := tk_lo (ns := ns) (s := s2) (b := F.length)
  have v1 := tk_hi (ns := ns) (s := s2) (b := F.length) (by omega) (by omega)
  generalize hs3 : (tk ns s2 F.length).2 = s3
  generalize hv : (tk ns s2 F.length).1 = v at v0 v1
  have t0 := tk_lo (ns := ns) (s := s3) (b := 3)
  have t1 := tk_hi (ns := ns) (s := s3) (b := 3) (by omega) (by omega)
  generalize hs4 : (tk ns s3 3).2 = s4
  generalize ht : (tk ns s3 3).1 = t at t0 t1
  obtain ⟨fv, vm, _, ev⟩ := fo_some (F := F) v0 v1
  obtain ⟨f, fm, fe, ef⟩ := fo_some (F := F) who0 who1
  have okv := hF.ok fv vm
  have okf := hF.ok f fm
  have a1 := okf.d0; have a2 := okf.d1; have a3 := okv.d0; have a4 := okv.d1
  by_cases hA : word = "awaits" ∧ f.man = 0
  · have lc : ∀ (x6 : Option W) (m : Mem), E_news_1 [some (.r 0), some (.v (hD F)), some (.v (.str word)), some (.v (.int who)), some (.v (.int (fv.day + t - 1))), some (.v (.int (max (f.day + 1) (fv.day + t - 1)))), x6, none] m = _ := fun x6 m => others_lc l1
    have pl : (parIs F (max (f.day + 1) (fv.day + t - 1)) 1).length ≤ 60 := Nat.le_trans parIs_len l1
    obtain ⟨y, hy, ey⟩ := pick_ex ns s4 (((parIs F (max (f.day + 1) (fv.day + t - 1)) 1).length + 1 : Nat) : Int) (.int (-1) :: (parIs F (max (f.day + 1) (fv.day + t - 1)) 1).map nD) (by simp) (by simp) (by simp; omega)
    have tp : ∀ m : Mem, F_take [.r 0, .v (.int (((parIs F (max (f.day + 1) (fv.day + t - 1)) 1).length : Int) + 1))] (stD ns s4 :: m) = _ := fun m => take_eq (by omega) (by omega)
    obtain ⟨o, rfl, ho, ho0, ho1⟩ : ∃ o : Int, y = .int o ∧ ParOk F (max (f.day + 1) (fv.day + t - 1)) o 1 ∧ -1 ≤ o ∧ o < F.length := by
      rcases List.mem_cons.mp hy with h | h
      · exact ⟨-1, h, .inl rfl, by omega, by omega⟩
      · obtain ⟨i, hi, rfl⟩ := List.mem_map.mp h
        obtain ⟨q1, q2⟩ := parIs_mem hi
        exact ⟨i, rfl, q2, by omega, by omega⟩
    have al : 1 + (parIs F (max (f.day + 1) (fv.day + t - 1)) 1).length ≤ 1000000 := by omega
    refine ⟨⟨word, max (f.day + 1) (fv.day + t - 1), who, o⟩, (tk ns s4 (((parIs F (max (f.day + 1) (fv.day + t - 1)) 1).length : Int) + 1)).2, ?_, ⟨hw, who0, who1, by show 0 ≤ max (f.day + 1) (fv.day + t - 1); omega, by show max (f.day + 1) (fv.day + t - 1) ≤ 99999; omega, fun g hg => ?_, fun h => absurd hA.1 h, ho0, ho1, fun _ => ⟨fun g hg => ?_, ho⟩⟩⟩
    · have e1 : decide (word = "awaits") = true := decide_eq_true hA.1
      simp only [Int.natCast_add, Int.natCast_one] at ey
      simp only [F_news, runF, B_news, startD]
      simp [sFog, sSeq, sSet, aCons, aNil, eC, eOp, eVar, eLst, eCall, te, tl, ex, hs1, hs2, hwho, hs3, hv, hs4, ht, ev, ef, eCB, sIf, tAnd', tVal, e1, hA.2, eUn, lc, al, tp, ey, sRet, eTup, Nw.d]
    · show g.day ≤ max (f.day + 1) (fv.day + t - 1)
      have : f = g := Option.some.inj (fe.symm.trans hg)
      subst this; omega
    · have : f = g := Option.some.inj (fe.symm.trans hg)
      subst this
      exact ⟨hA.2, by show f.day < max (f.day + 1) (fv.day + t - 1); omega⟩
  · obtain ⟨w2, e2, hw2, hna⟩ : ∃ w2 : Str, atI [D.str word, D.str "leaves"] (if decide (word = "awaits") = true then 1 else 0) = some (.str w2) ∧ w2 ∈ (["dies", "leaves", "cuts", "returns", "awaits"] : List Str) ∧ w2 ≠ "awaits" := by
      by_cases h : word = "awaits"
      · exact ⟨"leaves", by simp [h], by simp, by decide⟩
      · exact ⟨word, by simp [h], hw, h⟩
    refine ⟨⟨w2, max f.day (fv.day + t - 1), who, -1⟩, s4, ?_, ⟨hw2, who0, who1, by show 0 ≤ max f.day (fv.day + t - 1); omega, by show max f.day (fv.day + t - 1) ≤ 99999; omega, fun g hg => ?_, fun _ => rfl, Int.le_refl _, by show (-1 : Int) < F.length; omega, fun h => absurd h hna⟩⟩
    · simp only [F_news, runF, B_news, startD]
      by_cases h : word = "awaits"
      · have h2 : ¬ f.man = 0 := fun z => hA ⟨h, z⟩
        have e2' : w2 = "leaves" := by simpa [h] using e2.symm
        subst e2'
        subst h
        simp [sFog, sSeq, sSet, aCons, aNil, eC, eOp, eVar, eLst, eCall, te, tl, ex, hs1, hs2, hwho, hs3, hv, hs4, ht, ev, ef, eCB, sIf, tAnd', tVal, h2, sNil, eUn, sRet, eTup, Nw.d]
      · have e2' : word = w2 := by simpa [h] using e2
        subst e2'
        simp [sFog, sSeq, sSet, aCons, aNil, eC, eOp, eVar, eLst, eCall, te, tl, ex, hs1, hs2, hwho, hs3, hv, hs4, ht, ev, ef, eCB, sIf, tAnd', tVal, h, sNil, eUn, sRet, eTup, Nw.d]
    · show g.day ≤ max f.day (fv.day + t - 1)
      have : f = g := Option.some.inj (fe.symm.trans hg)
      subst this; omega
end Lx
end
section
set_option Elab.async false
set_option linter.all false
set_option maxRecDepth 100000
set_option maxHeartbeats 4000000
namespace Lx
open PySem L2 Pw Pv
def nLt (a b : Nw) : Bool := kLt a.k b.k
theorem nk_inj {a b : Nw} (h : a.k = b.k) : a = b := by
  cases a; cases b
  simp only [Nw.k, List.cons.injEq, Sum.inr.injEq, Sum.inl.injEq, and_true] at h
  obtain ⟨h1, h2, h3, h4⟩ := h
  subst h1; subst h2; subst h3; subst h4; rfl
theorem lin_n : Lin nLt := ⟨fun _ => lin_k.irr _, fun _ _ _ => lin_k.tr _ _ _, fun _ _ h1 h2 => nk_inj (lin_k.tot _ _ h1 h2)⟩
theorem insU_map {x : Nw} : ∀ {l : List Nw}, (insU nLt x l).map Nw.k = insU kLt x.k (l.map Nw.k)
  | [] => rfl
  | y :: l => by
    unfold insU
    rw [List.map_cons]
    simp only []
    by_cases h : x = y
    · subst h; rw [if_pos rfl, if_pos rfl, List.map_cons]
    · rw [if_neg h, if_neg (fun z => h (nk_inj z))]
      by_cases h2 : kLt x.k y.k = true
      · rw [if_pos h2, if_pos (show nLt x y = true from h2)]; rfl
      · rw [if_neg h2, if_neg (show ¬ nLt x y = true from h2), List.map_cons, insU_map]
theorem sortU_map : ∀ Ns : List Nw, (sortU nLt Ns).map Nw.k = sortU kLt (Ns.map Nw.k)
  | [] => rfl
  | n :: Ns => by
    show (insU nLt n (sortU nLt Ns)).map Nw.k = insU kLt n.k (sortU kLt (Ns.map Nw.k))
    rw [insU_map, sortU_map]
theorem allT_n : ∀ Ns : List Nw, allT (Ns.map Nw.d) = some (Ns.map Nw.k)
  | [] => rfl
  | n :: Ns => by
    rw [List.map_cons, Nw.d, allT, allT_n Ns]
    simp [allK, Nw.k]
theorem sortSet_n {x : D} {Ns : List Nw} (hx : itmD x = some (Ns.map Nw.d)) (hl : Ns.length < 64) : sortSetD [x] = some (.f (.lst ((sortU nLt Ns).map Nw.d))) := by
  simp only [sortSetD, hx, Option.bind_some]
  cases Ns with
  | nil => rfl
  | cons n Ns =>
    have h1 : allI ((n :: Ns).map Nw.d) = none := by simp [Nw.d, allI]
    rw [h1, allT_n]
    simp only [Option.bind_some]
    rw [if_pos]
    · have e : ((sortU nLt (n :: Ns)).map Nw.d) = (sortU kLt ((n :: Ns).map Nw.k)).map tD := by rw [← sortU_map, List.map_map]; rfl
      rw [e]
    · refine ⟨by simpa using hl, ?_⟩
      unfold oneSh
      refine List.all_eq_true.mpr fun k hk => ?_
      obtain ⟨z, _, rfl⟩ := List.mem_map.mp hk
      rfl
structure GoodB (F : List Fo) (B : List Nw) : Prop where
  ok : ∀ n ∈ B, NwOk F n
  le : B.length < 64
  up : B.Pairwise fun a b => nLt a b = true
theorem goodB_sort {F : List Fo} {Ns : List Nw} (h : ∀ n ∈ Ns, NwOk F n) (hl : Ns.length < 64) : GoodB F (sortU nLt Ns) := ⟨fun n hn => h n (mem_sortU.mp hn), Nat.lt_of_le_of_lt (sortU_len Ns) hl, sortU_sorted lin_n Ns⟩
theorem newsL_ok {ns : List Int} {s : St} {m : Mem} {F : List Fo} {most : Int} {x3 : Option W} {lim : Int} (hF : GoodHL lim F) (h0 : 0 ≤ most) (h1 : most ≤ 1000) (hlim : lim ≤ 99995 := by decide) :
    ∃ (Ns : List Nw) (s' : St), E_book_1 [some (.r 0), some (.v (hD F)), some (.v (.int most)), x3] (stD ns s :: m) = some (.f (.lst (Ns.map Nw.d)), stD ns s' :: m) ∧ (∀ n ∈ Ns, NwOk F n) ∧ (Ns.length : Int) ≤ most := by
  have tm : ∀ m : Mem, F_take [.r 0, .v (.int (most + 1))] (stD ns s :: m) = _ := fun m => take_eq (by omega) (by omega)
  have lo := tk_lo (ns := ns) (s := s) (b := most + 1)
  have hi := tk_hi (ns := ns) (s := s) (b := most + 1) (by omega) (by omega)
  obtain ⟨k, hk⟩ : ∃ k : Nat, (tk ns s (most + 1)).1 = (k : Int) := ⟨(tk ns s (most + 1)).1.toNat, by omega⟩
  have hk2 : (k : Int) ≤ 1000000000 := by omega
  obtain ⟨acc, m', e, Ns, s', rfl, rfl, hl, hok⟩ := lc_eff (src := iRngA (aCons (eCall F_take (aCons (eVar 0) (aCons (eOp addD (eVar 2) (eC (.int 1))) aNil))) aNil)) (t := gN 3) (c := tYes') (f := eCall F_news (aCons (eVar 0) (aCons (eVar 1) aNil))) (vs := [3]) (ρ := [some (.r 0), some (.v (hD F)), some (.v (.int most)), x3]) (m := stD ns s :: m) (m1 := stD ns (tk ns s (most + 1)).2 :: m) (List.range k) nD
    (fun i acc mm => ∃ (Ns : List Nw) (s' : St), acc = Ns.map Nw.d ∧ mm = stD ns s' :: m ∧ Ns.length = i ∧ ∀ n ∈ Ns, NwOk F n)
    (by simp [iRngA, aCons, aNil, eCall, eVar, eOp, eC, tm, hk, hk2, rng0]) ⟨[], _, rfl, rfl, rfl, fun n hn => nomatch hn⟩
    (fun i a acc mm inv => by
      obtain ⟨Ns, s', rfl, rfl, hl, hok⟩ := inv
      obtain ⟨n, s2, e1, e2⟩ := news_spec (ns := ns) (s := s') (m := m) hF hlim
      refine ⟨_, .v n.d, n.d, stD ns s2 :: m, rfl, rfl, by simp [eCall, aCons, aNil, eVar, e1], rfl, Ns ++ [n], s2, by simp, rfl, by simp [hl], fun x hx => ?_⟩
      rcases List.mem_append.mp hx with z | z
      · exact hok x z
      · rw [List.mem_singleton.mp z]; exact e2) (by simp; omega)
  exact ⟨Ns, s', e, hok, by rw [hl]; simp; omega⟩
theorem book_spec {ns : List Int} {s : St} {F : List Fo} {most : Int} {lim : Int} (hF : GoodHL lim F) (h0 : 0 ≤ most) (h1 : most ≤ 60) (m : Mem) (hlim : lim ≤ 99995 := by decide) :
    ∃ B s', F_book [.r 0, .v (hD F), .v (.int most)] (stD ns s :: m) = some (.v (bD B), stD ns s' :: m) ∧ GoodB F B ∧ (B.length : Int) ≤ most := by
  obtain ⟨Ns, s1, e, hok, hl⟩ := newsL_ok (ns := ns) (s := s) (m := m) (x3 := none) hF h0 (by omega) hlim
  have hs := sortSet_n (x := .lst (Ns.map Nw.d)) (Ns := Ns) rfl (by omega)
  refine ⟨sortU nLt Ns, s1, ?_, goodB_sort hok (by omega), by have := sortU_len (lt := nLt) Ns; omega⟩
  simp only [F_book, runF, B_book, startD]
  simp [sRet, eCB, aCons, aNil, e, hs]
structure Rw where
  founder : Int
  men : Str
  wed : Int
  way : Str
deriving DecidableEq
def Rw.d (r : Rw) : D := .tup [.int r.founder, .str r.men, .int r.wed, .str r.way]
structure RwOk (F : List Fo) (r : Rw) : Prop where
  f0 : 0 ≤ r.founder
  f1 : r.founder < F.length
  men : r.men ∈ (["alike", "first", "only"] : List Str)
  wed : r.wed = 0 ∨ r.wed = 1
  way : r.way ∈ (["lines", "age", "near"] : List Str)
@[simp] theorem rw0 {r : Rw} : ixD r.d (.int 0) = some (.v (.int r.founder)) := by simp [Rw.d]
@[simp] theorem rw1 {r : Rw} : ixD r.d (.int 1) = some (.v (.str r.men)) := by simp [Rw.d]
@[simp] theorem rw2 {r : Rw} : ixD r.d (.int 2) = some (.v (.int r.wed)) := by simp [Rw.d]
@[simp] theorem rw3 {r : Rw} : ixD r.d (.int 3) = some (.v (.str r.way)) := by simp [Rw.d]
theorem row_spec {ns : List Int} {s : St} {F : List Fo} {lim : Int} (hF : GoodHL lim F) (m : Mem) :
    ∃ r s', F_row [.r 0, .v (hD F)] (stD ns s :: m) = some (.v (Rw.d r), stD ns s' :: m) ∧ RwOk F r := by
  have l0 := hF.ne
  have l1 := hF.le
  have te : ∀ (s : St) (b : Int) (m : Mem), 0 < b → b < 1073741824 → F_take [.r 0, .v (.int b)] (stD ns s :: m) = _ := fun s b m h h2 => take_eq h h2
  have tl : ∀ (s : St) (m : Mem), F_take [.r 0, .v (.int (F.length : Int))] (stD ns s :: m) = _ := fun s m => take_eq (by omega) (by omega)
  have v0 := tk_lo (ns := ns) (s := s) (b := F.length)
  have v1 := tk_hi (ns := ns) (s := s) (b := F.length) (by omega) (by omega)
  generalize hv : (tk ns s F.length).1 = v at v0 v1
  generalize hs1 : (tk ns s F.length).2 = s1
  generalize hw : (if (tk ns s1 3).1 = 0 then (1 : Int) else 0) = w
  have hw2 : w = 0 ∨ w = 1 := by rw [← hw]; split <;> simp
  have mu : mulD (.int v) (.int w) = some (.v (.int (v * w))) := mul_i (.inr ⟨by omega, by omega⟩)
  obtain ⟨x, hx, ex⟩ := pick_ex ns (tk ns s1 3).2 4 [.str "alike", .str "first", .str "first", .str "only"] rfl (by decide) (by decide)
  obtain ⟨men, rfl, hmen⟩ : ∃ w : Str, x = .str w ∧ w ∈ (["alike", "first", "only"] : List Str) := by
    simp only [List.mem_cons, List.not_mem_nil, or_false] at hx
    rcases hx with h | h | h | h <;> exact ⟨_, h, by simp⟩
  obtain ⟨y, hy, ey⟩ := pick_ex ns (tk ns (tk ns (tk ns s1 3).2 4).2 3).2 4 [.str "lines", .str "lines", .str "age", .str "near"] rfl (by decide) (by decide)
  obtain ⟨way, rfl, hway⟩ : ∃ w : Str, y = .str w ∧ w ∈ (["lines", "age", "near"] : List Str) := by
    simp only [List.mem_cons, List.not_mem_nil, or_false] at hy
    rcases hy with h | h | h | h <;> exact ⟨_, h, by simp⟩
  refine ⟨⟨v * w, men, if (tk ns (tk ns (tk ns s1 3).2 4).2 3).1 = 0 then 1 else 0, way⟩, (tk ns (tk ns (tk ns (tk ns s1 3).2 4).2 3).2 4).2, ?_, ⟨?_, ?_, hmen, ?_, hway⟩⟩
  · simp only [F_row, runF, B_row, startD]
    simp [sSeq, sSet, aCons, aNil, eC, eOp, eVar, eLst, eCall, te, tl, hv, hs1, eCB, hw, mu, ex, ey, sRet, eTup, Rw.d]
  · show 0 ≤ v * w
    rcases hw2 with h | h <;> rw [h] <;> simp <;> omega
  · show v * w < F.length
    rcases hw2 with h | h <;> rw [h] <;> simp <;> omega
  · show (if (tk ns (tk ns (tk ns s1 3).2 4).2 3).1 = 0 then (1 : Int) else 0) = 0 ∨ (if (tk ns (tk ns (tk ns s1 3).2 4).2 3).1 = 0 then (1 : Int) else 0) = 1
    split <;> simp
end Lx
end
section
set_option Elab.async false
set_option linter.all false
set_option maxRecDepth 100000
set_option maxHeartbeats 4000000
namespace Lx
open PySem L2 Pw Pv
@[simp] theorem s1 : (("only" : Str) = "first") = False := by decide
@[simp] theorem s2 : (("first" : Str) = "only") = False := by decide
def dayP (day who : Int) (word : Str) (n : Nw) : Bool := decide (n.word = word) && (decide (n.day ≤ day) && decide (n.who = who))
def daysOf (B : List Nw) (day who : Int) (word : Str) : List Int := (B.filter (dayP day who word)).map Nw.day
def backOf (B : List Nw) (day who : Int) : Int := ((daysOf B day who "returns").foldl bst_max none).getD (-1)
def behind (B : List Nw) (day who : Int) (word : Str) : List Int := (daysOf B day who word).filter fun d => decide (backOf B day who < d)
def cutFrom (B : List Nw) (day who : Int) : Int := ((behind B day who "cuts").foldl bst_min none).getD (-1)
def manP (F : List Fo) (i : Nat) : Bool := match F[i]? with
  | some f => decide (f.man = 1)
  | none => false
def kidP (F : List Fo) (who : Int) (i : Nat) : Bool := match F[i]? with
  | some f => (f.fa == who || f.mo == who)
  | none => false
def ccP (F : List Fo) (r : Rw) (day cut : Int) (i : Nat) : Bool := match F[i]? with
  | some f => !(decide (day < f.day) || (decide (r.wed = 1) && !decide (f.wed = 1))) && (decide (cut = -1) || decide (f.day < cut))
  | none => false
def kids (F : List Fo) (who : Int) : List Nat := (List.range F.length).filter (kidP F who)
def foundOf (F : List Fo) (B : List Nw) (r : Rw) (day who : Int) : List Nat := (kids F who).filter (ccP F r day (cutFrom B day who))
def stepsOf (F : List Fo) (B : List Nw) (r : Rw) (day : Int) (w : Nat) : List Nat :=
  if r.men = "only" ∧ manP F w = false then [] else if r.men = "first" then (foundOf F B r day w).filter (manP F) ++ (foundOf F B r day w).filter (fun i => !manP F i) else foundOf F B r day w
noncomputable def E_days_of_1 : Ex := eLc (iSeq (eVar 0)) (gN 4) (tAnd' (tVal (eOp (eqD false) (eOp ixD (eVar 4) (eC (.int 0))) (eVar 3))) (tAnd' (tVal (eOp (cmpD leI) (eOp ixD (eVar 4) (eC (.int 1))) (eVar 1))) (tVal (eOp (eqD false) (eOp ixD (eVar 4) (eC (.int 2))) (eVar 2))))) (eOp ixD (eVar 4) (eC (.int 1))) [4]
noncomputable def B_days_of : Sx := (sRet E_days_of_1)
noncomputable def F_days_of : Fx := runF 4 5 B_days_of
noncomputable def E_days_behind_back_1 : Ex := eLc (iSeq (eCall F_days_of (aCons (eVar 0) (aCons (eVar 1) (aCons (eVar 2) (aCons (eVar 3) aNil)))))) (gN 5) (tVal (eOp (cmpD gtI) (eVar 5) (eVar 4))) (eVar 5) [5]
noncomputable def B_days_behind_back : Sx := (sSeq (sSet 4 (eBest Pv.bst_max (eCall F_days_of (aCons (eVar 0) (aCons (eVar 1) (aCons (eVar 2) (aCons (eC (.str "returns")) aNil))))) (eUn negD (eC (.int 1))))) (sRet E_days_behind_back_1))
noncomputable def F_days_behind_back : Fx := runF 4 6 B_days_behind_back
noncomputable def B_cut_from : Sx := (sRet (eBest Pv.bst_min (eCall F_days_behind_back (aCons (eVar 0) (aCons (eVar 1) (aCons (eVar 2) (aCons (eC (.str "cuts")) aNil))))) (eUn negD (eC (.int 1)))))
noncomputable def F_cut_from : Fx := runF 3 3 B_cut_from
noncomputable def B_day_of : Sx := (sRet (eOp ixD (eOp ixD (eVar 0) (eVar 1)) (eC (.int 0))))
noncomputable def F_day_of : Fx := runF 2 2 B_day_of
noncomputable def B_is_man : Sx := (sRet (eOp (eqD false) (eOp ixD (eOp ixD (eVar 0) (eVar 1)) (eC (.int 3))) (eC (.int 1))))
noncomputable def F_is_man : Fx := runF 2 2 B_is_man
@[simp] theorem days_of_spec {B : List Nw} {day who : Int} {word : Str} {m : Mem} (hl : B.length ≤ 1000) : F_days_of [.v (bD B), .v (.int day), .v (.int who), .v (.str word)] m = some (.f (.lst ((daysOf B day who word).map .int)), m) := by
  have lc : E_days_of_1 [some (.v (bD B)), some (.v (.int day)), some (.v (.int who)), some (.v (.str word)), none] m = some (.f (.lst ((B.filter (dayP day who word)).map fun n => .int n.day)), m) := by
    refine lc_map B Nw.d (dayP day who word) (fun n => .int n.day) (by simp [iSeq, eVar]) (fun n hn => ⟨_, rfl, ?_, fun _ => ⟨.v (.int n.day), by simp [eOp, eVar, eC], rfl⟩⟩) (by omega)
    unfold dayP
    by_cases h1 : n.word = word <;> by_cases h2 : n.day ≤ day <;> simp [tAnd', tVal, eOp, eVar, eC, h1, h2]
  simp only [F_days_of, runF, B_days_of, startD]
  simp [sRet, lc, daysOf, Function.comp_def]
theorem daysOf_len (B : List Nw) (day who : Int) (word : Str) : (daysOf B day who word).length ≤ B.length := by
  unfold daysOf; rw [List.length_map]; exact List.length_filter_le _ _
@[simp] theorem allI_ints : ∀ is : List Int, allI (is.map D.int) = some is
  | [] => rfl
  | i :: is => by rw [List.map_cons, allI, allI_ints is]; rfl
@[simp] theorem best_l {f : Option Int → Int → Option Int} {is : List Int} {d : Int} : bestD f (.lst (is.map .int)) (.int d) = some (.v (.int ((is.foldl f none).getD d))) := by
  unfold bestD
  simp only [itmL, Option.bind_some, allI_ints]
  cases is.foldl f none <;> rfl
@[simp] theorem behind_spec {B : List Nw} {day who : Int} {word : Str} {m : Mem} (hl : B.length ≤ 1000) : F_days_behind_back [.v (bD B), .v (.int day), .v (.int who), .v (.str word)] m = some (.f (.lst ((behind B day who word).map .int)), m) := by
  have lc : E_days_behind_back_1 [some (.v (bD B)), some (.v (.int day)), some (.v (.int who)), some (.v (.str word)), some (.v (.int (backOf B day who))), none] m = some (.f (.lst ((behind B day who word).map .int)), m) := by
    refine lc_map (daysOf B day who word) D.int (fun d => decide (backOf B day who < d)) D.int (by simp [iSeq, eCall, aCons, aNil, eVar, hl]) (fun n hn => ⟨_, rfl, ?_, fun _ => ⟨.v (.int n), by simp [eVar], rfl⟩⟩) (by have := daysOf_len B day who word; omega)
    simp [tVal, eOp, eVar]
  simp only [F_days_behind_back, runF, B_days_behind_back, startD]
  simp [sSeq, sSet, eBest, eCall, aCons, aNil, eVar, eC, eUn, hl, sRet]
  rw [show (List.foldl bst_max none (daysOf B day who "returns")).getD (-1) = backOf B day who from rfl, lc]
  simp
@[simp] theorem cut_from_spec {B : List Nw} {day who : Int} {m : Mem} (hl : B.length ≤ 1000) : F_cut_from [.v (bD B), .v (.int day), .v (.int who)] m = some (.v (.int (cutFrom B day who)), m) := by
  simp only [F_cut_from, runF, B_cut_from, startD]
  simp [eBest, eCall, aCons, aNil, eVar, eC, eUn, hl, sRet, cutFrom]
theorem day_of_spec {F : List Fo} {i : Nat} {f : Fo} {m : Mem} (h : F[i]? = some f) : F_day_of [.v (hD F), .v (nD i)] m = some (.v (.int f.day), m) := by
  simp only [F_day_of, runF, B_day_of, startD]
  simp [sRet, eOp, eVar, eC, fo_at h]
theorem is_man_spec {F : List Fo} {i : Nat} {m : Mem} (h : i < F.length) : F_is_man [.v (hD F), .v (nD i)] m = some (.v (.bl (manP F i)), m) := by
  have h := List.getElem?_eq_getElem h
  simp only [F_is_man, runF, B_is_man, startD]
  simp [sRet, eOp, eVar, eC, fo_at h, manP, h]
end Lx
end
section
set_option Elab.async false
set_option linter.all false
set_option maxRecDepth 100000
set_option maxHeartbeats 4000000
namespace Lx
open PySem L2 Pw Pv
theorem max_some : ∀ (l : List Int) (b : Int), ∃ y, l.foldl bst_max (some b) = some y ∧ (y = b ∨ y ∈ l) ∧ b ≤ y ∧ ∀ z ∈ l, z ≤ y
  | [], b => ⟨b, rfl, .inl rfl, Int.le_refl _, fun z hz => absurd hz List.not_mem_nil⟩
  | x :: l, b => by
    by_cases h : x > b
    · obtain ⟨y, e, h1, h2, h3⟩ := max_some l x
      refine ⟨y, by simp only [List.foldl_cons, bst_max, if_pos h]; exact e, .inr ?_, by omega, fun z hz => ?_⟩
      · rcases h1 with rfl | h1
        · exact List.mem_cons_self
        · exact List.mem_cons_of_mem _ h1
      · rcases List.mem_cons.mp hz with rfl | hz
        · exact h2
        · exact h3 z hz
    · obtain ⟨y, e, h1, h2, h3⟩ := max_some l b
      refine ⟨y, by simp only [List.foldl_cons, bst_max, if_neg h]; exact e, ?_, h2, fun z hz => ?_⟩
      · rcases h1 with rfl | h1
        · exact .inl rfl
        · exact .inr (List.mem_cons_of_mem _ h1)
      · rcases List.mem_cons.mp hz with rfl | hz
        · omega
        · exact h3 z hz
theorem min_some : ∀ (l : List Int) (b : Int), ∃ y, l.foldl bst_min (some b) = some y ∧ (y = b ∨ y ∈ l) ∧ y ≤ b ∧ ∀ z ∈ l, y ≤ z
  | [], b => ⟨b, rfl, .inl rfl, Int.le_refl _, fun z hz => absurd hz List.not_mem_nil⟩
  | x :: l, b => by
    by_cases h : x < b
    · obtain ⟨y, e, h1, h2, h3⟩ := min_some l x
      refine ⟨y, by simp only [List.foldl_cons, bst_min, if_pos h]; exact e, .inr ?_, by omega, fun z hz => ?_⟩
      · rcases h1 with rfl | h1
        · exact List.mem_cons_self
        · exact List.mem_cons_of_mem _ h1
      · rcases List.mem_cons.mp hz with rfl | hz
        · exact h2
        · exact h3 z hz
    · obtain ⟨y, e, h1, h2, h3⟩ := min_some l b
      refine ⟨y, by simp only [List.foldl_cons, bst_min, if_neg h]; exact e, ?_, h2, fun z hz => ?_⟩
      · rcases h1 with rfl | h1
        · exact .inl rfl
        · exact .inr (List.mem_cons_of_mem _ h1)
      · rcases List.mem_cons.mp hz with rfl | hz
        · omega
        · exact h3 z hz
theorem max_def (l : List Int) (d : Int) : (l = [] ∧ (l.foldl bst_max none).getD d = d) ∨ ((l.foldl bst_max none).getD d ∈ l ∧ ∀ z ∈ l, z ≤ (l.foldl bst_max none).getD d) := by
  cases l with
  | nil => exact .inl ⟨rfl, rfl⟩
  | cons x l =>
    right
    obtain ⟨y, e, h1, h2, h3⟩ := max_some l x
    have : (x :: l).foldl bst_max none = some y := e
    rw [this]
    refine ⟨?_, fun z hz => ?_⟩
    · rcases h1 with rfl | h1
      · exact List.mem_cons_self
      · exact List.mem_cons_of_mem _ h1
    · rcases List.mem_cons.mp hz with rfl | hz
      · exact h2
      · exact h3 z hz
theorem min_def (l : List Int) (d : Int) : (l = [] ∧ (l.foldl bst_min none).getD d = d) ∨ ((l.foldl bst_min none).getD d ∈ l ∧ ∀ z ∈ l, (l.foldl bst_min none).getD d ≤ z) := by
  cases l with
  | nil => exact .inl ⟨rfl, rfl⟩
  | cons x l =>
    right
    obtain ⟨y, e, h1, h2, h3⟩ := min_some l x
    have : (x :: l).foldl bst_min none = some y := e
    rw [this]
    refine ⟨?_, fun z hz => ?_⟩
    · rcases h1 with rfl | h1
      · exact List.mem_cons_self
      · exact List.mem_cons_of_mem _ h1
    · rcases List.mem_cons.mp hz with rfl | hz
      · exact h2
      · exact h3 z hz
section
variable (isC isR : Int → Bool)
end
end Lx
end
section
set_option Elab.async false
set_option linter.all false
set_option maxRecDepth 100000
set_option maxHeartbeats 4000000
namespace Lx
open PySem L2 Pw Pv
@[simp] theorem set_last {m : Mem} {a b : MO} : (m ++ [a]).set m.length b = m ++ [b] := by simp
end Lx
end
section
set_option Elab.async false
set_option linter.all false
set_option maxRecDepth 100000
set_option maxHeartbeats 4000000
namespace Lx
open PySem L2 Pw Pv
end Lx
end
section
set_option Elab.async false
set_option linter.all false
set_option maxRecDepth 100000
set_option maxHeartbeats 4000000
namespace Lx
open PySem PySem.Spec PyProof.Rows L2 Pw Pv
end Lx
end
section
set_option Elab.async false
set_option linter.all false
set_option maxRecDepth 100000
set_option maxHeartbeats 4000000
namespace Lx
open PySem L2 Pw Pv
end Lx
end
section
set_option Elab.async false
set_option linter.all false
set_option maxRecDepth 100000
set_option maxHeartbeats 4000000
namespace Ly
open PySem L2 Pw Pv Lx
end Ly
end
section
set_option Elab.async false
set_option linter.all false
set_option maxRecDepth 100000
set_option maxHeartbeats 4000000
namespace Ly
open PySem L2 Pw Pv Lx
end Ly
end
section
set_option Elab.async false
set_option linter.all false
set_option maxRecDepth 100000
set_option maxHeartbeats 4000000
namespace Ls
open PySem L2 Pw Pv Lx
section
variable {κ : Type} [DecidableEq κ]
end
def dI (L : List (Int × Int)) : List (Key × D) := L.map fun p => (Sum.inl p.1, D.int p.2)
def getI (L : List (Int × Int)) (w : Int) : Option Int := (L.find? fun p => decide (p.1 = w)).map (·.2)
def putI (L : List (Int × Int)) (w x : Int) : List (Int × Int) := if (L.any fun p => decide (p.1 = w)) = true then L.map (fun p => if p.1 = w then (p.1, x) else p) else L ++ [(w, x)]
@[simp] theorem val_dI {w : Int} : ∀ {L : List (Int × Int)}, valX (dI L) (Sum.inl w) = (getI L w).map D.int
  | [] => rfl
  | p :: L => by
    have ih := val_dI (w := w) (L := L)
    unfold dI valX getI at ih ⊢
    rw [List.map_cons, List.find?_cons, List.find?_cons]
    by_cases h : p.1 = w
    · simp [h]
    · have : ¬ (Sum.inl p.1 : Key) = Sum.inl w := fun z => h (Sum.inl.inj z)
      simp only [decide_eq_false h, decide_eq_false this]
      exact ih
@[simp] theorem put_dI {L : List (Int × Int)} {w x : Int} : putX (dI L) (Sum.inl w) (D.int x) = dI (putI L w x) := by
  unfold putX putI dI
  have : (L.map fun p => ((Sum.inl p.1 : Key), D.int p.2)).any (fun kv => decide (kv.1 = Sum.inl w)) = L.any fun p => decide (p.1 = w) := by
    rw [List.any_map]
    congr 1
    funext p
    simp
  rw [this]
  split
  · rw [List.map_map, List.map_map]
    refine List.map_congr_left fun p _ => ?_
    by_cases h : p.1 = w
    · simp [h]
    · have : ¬ (Sum.inl p.1 : Key) = Sum.inl w := fun z => h (Sum.inl.inj z)
      simp [h]
  · simp
@[simp] theorem dI_len {L : List (Int × Int)} : (dI L).length = L.length := by simp [dI]
@[simp] theorem key_i {i : Int} : keyOf (.int i) = some (.inl i) := rfl
@[simp] theorem out_newK {m : Mem} {kvs : List (Key × D)} : outW m.length (.r m.length) (m ++ [.dk kvs]) = some (.f (.dk kvs), m) := by simp [outW, moD]
@[simp] theorem own_k {kvs : List (Key × D)} {m : Mem} : ownW (.f (.dk kvs)) m = some (.r m.length, m ++ [.dk kvs]) := rfl
@[simp] theorem tgt4 {n : Nw} {i j k l : Nat} {ρ : Pw.Env} : gT [gN i, gN j, gN k, gN l] n.d ρ = some ((((ρ.set i (some (.v (.str n.word)))).set j (some (.v (.int n.day)))).set k (some (.v (.int n.who)))).set l (some (.v (.int n.other)))) := rfl
end Ls
end
section
set_option Elab.async false
set_option linter.all false
set_option maxRecDepth 100000
set_option maxHeartbeats 4000000
namespace Ls
open PySem L2 Pw Pv Lx
def nbP (B : List Nw) (day : Int) (ws : List Str) (n : Nw) : Bool := decide (n.word ∈ ws) && (decide (backOf B day n.who < n.day) && decide (n.day ≤ day))
end Ls
end
section
set_option Elab.async false
set_option linter.all false
set_option maxRecDepth 100000
set_option maxHeartbeats 4000000
namespace Ls
open PySem L2 Pw Pv Lx
end Ls
end
section
set_option Elab.async false
set_option linter.all false
set_option maxRecDepth 100000
set_option maxHeartbeats 4000000
namespace Ls
open PySem L2 Pw Pv Lx
structure ParH (F : List Fo) : Prop where
  fa : ∀ (i : Nat) f, F[i]? = some f → f.fa = -1 ∨ (0 ≤ f.fa ∧ f.fa < F.length)
  mo : ∀ (i : Nat) f, F[i]? = some f → f.mo = -1 ∨ (0 ≤ f.mo ∧ f.mo < F.length)
  ne : ∀ (i : Nat) f, F[i]? = some f → f.fa = f.mo → f.fa = -1
section
variable (F : List Fo) (B : List Nw) (r : Rw) (day : Int)
end
variable {F : List Fo} {B : List Nw} {r : Rw} {day : Int}
end Ls
end
section
set_option Elab.async false
set_option linter.all false
set_option maxRecDepth 100000
set_option maxHeartbeats 4000000
namespace Ls
open PySem L2 Pw Pv Lx
variable {F : List Fo} {B : List Nw} {r : Rw} {day : Int}
theorem GoodHL.par (h : GoodHL lim F) : ParH F := by
  refine ⟨fun i f e => ?_, fun i f e => ?_, fun i f e q => ?_⟩
  · rcases h.fa i f e with z | ⟨j, g, z1, z2, _⟩
    · exact .inl z
    · have := (List.getElem?_eq_some_iff.mp z2).1
      rw [List.length_take] at this
      exact .inr ⟨by omega, by omega⟩
  · rcases h.mo i f e with z | ⟨j, g, z1, z2, _⟩
    · exact .inl z
    · have := (List.getElem?_eq_some_iff.mp z2).1
      rw [List.length_take] at this
      exact .inr ⟨by omega, by omega⟩
  · rcases h.fa i f e with z | ⟨j, g, z1, z2, z3, _⟩
    · exact z
    · rcases h.mo i f e with y | ⟨k, g', y1, y2, y3, _⟩
      · omega
      · have : k = j := by omega
        subst this
        rw [z2] at y2
        cases y2
        omega
end Ls
end
section
set_option Elab.async false
set_option linter.all false
set_option maxRecDepth 100000
set_option maxHeartbeats 4000000
namespace Ls
open PySem L2 Pw Pv Lx
variable {F : List Fo} {B : List Nw} {r : Rw} {day : Int}
end Ls
end
section
set_option Elab.async false
set_option linter.all false
set_option maxRecDepth 100000
set_option maxHeartbeats 4000000
namespace Ls
open PySem L2 Pw Pv Lx
section
variable {α : Type} {src : Ix} {t : Gx} {c : Tx} {fk fv : Ex} {vs : List Nat} {ρ : Pw.Env} {m m1 : Mem}
end
variable {B : List Nw} {day : Int} {m : Mem}
def deadL (B : List Nw) (day : Int) : List Int := (B.filter fun n : Nw => decide (n.word = ("dies" : Str)) && decide (n.day ≤ day)).map Nw.who
def outL (B : List Nw) (day : Int) : List Int := (B.filter (nbP B day ["leaves", "cuts"])).map Nw.who
end Ls
end
section
set_option Elab.async false
set_option linter.all false
set_option maxRecDepth 100000
set_option maxHeartbeats 4000000
namespace Ls
open PySem L2 Pw Pv Lx
section
variable {α : Type} {src : Ix} {t : Gx} {c : Tx} {f : Ex} {b : Sx} {vs dd : List Nat} {ρ : Pw.Env} {m m1 : Mem}
theorem tupG_map (L : List α) (g : α → D) (sel : α → Bool) (val : α → D) (hs : src ρ m = some (.seq (L.map g), m1)) (h : ∀ a ∈ L, ∃ ρ1, t (g a) (wipeD ρ vs) = some ρ1 ∧ c ρ1 m1 = some (sel a, m1) ∧ (sel a = true → ∃ w, f ρ1 m1 = some (w, m1) ∧ vl w = some (val a))) (hl : L.length ≤ 1000000) :
    eTupG src t c f vs ρ m = some (.v (.tup ((L.filter sel).map val)), m1) := by
  unfold eTupG
  rw [hs]
  simp only [Option.bind_some, items_seq]
  rw [if_pos (by simpa using hl), lcL_map g sel val L [] h (by simpa using hl)]
  simp
theorem lcL_effI {it : Itm} {xs : List D} (Inv : Nat → List D → Mem → Prop) {ρ : Pw.Env} (g : α → D) (hit : ∀ i acc m, Inv i acc m → itemsAt it m = some xs) :
    ∀ (L : List α) (i : Nat), (∀ k a, L[k]? = some a → ∀ acc m, Inv (i + k) acc m → ∃ ρ1 w v m', t (g a) ρ = some ρ1 ∧ c ρ1 m = some (true, m) ∧ f ρ1 m = some (w, m') ∧ vl w = some v ∧ Inv (i + k + 1) (acc ++ [v]) m') → ∀ (acc : List D) (m : Mem), Inv i acc m → acc.length + L.length ≤ 1000000 → ∃ acc' m', lcL it xs t c f ρ (L.map g) acc m = some (acc', m') ∧ Inv (i + L.length) acc' m'
  | [], i, step, acc, m, inv, _ => ⟨acc, m, by simp [lcL, hit _ _ _ inv], by simpa using inv⟩
  | a :: L, i, step, acc, m, inv, hl => by
    obtain ⟨ρ1, w, v, m', q1, q2, q3, q4, q5⟩ := step 0 a rfl acc m (by simpa using inv)
    have hl' : acc.length + L.length + 1 ≤ 1000000 := by simpa [Nat.add_assoc] using hl
    obtain ⟨acc', m'', r1, r2⟩ := lcL_effI Inv g hit L (i + 1) (fun k a ha acc m hi => by
      have := step (k + 1) a (by simpa using ha) acc m (by rw [show i + (k + 1) = i + 1 + k by omega]; exact hi)
      rw [show i + (k + 1) + 1 = i + 1 + k + 1 by omega] at this
      exact this) (acc ++ [v]) m' (by simpa using q5) (by simp; omega)
    refine ⟨acc', m'', ?_, by rw [List.length_cons, show i + (L.length + 1) = i + 1 + L.length by omega]; exact r2⟩
    rw [List.map_cons]
    unfold lcL
    rw [if_pos (hit _ _ _ inv)]
    simp only [q1, q2, q3, q4, Option.bind_some, if_true]
    rw [if_pos (by omega)]
    exact r1
theorem lc_effI {it : Itm} (L : List α) (g : α → D) (Inv : Nat → List D → Mem → Prop) (hs : src ρ m = some (it, m1)) (hit : ∀ i acc m, Inv i acc m → itemsAt it m = some (L.map g)) (h0 : Inv 0 [] m1) (step : ∀ i a, L[i]? = some a → ∀ acc m, Inv i acc m → ∃ ρ1 w v m', t (g a) (wipeD ρ vs) = some ρ1 ∧ c ρ1 m = some (true, m) ∧ f ρ1 m = some (w, m') ∧ vl w = some v ∧ Inv (i + 1) (acc ++ [v]) m') (hl : L.length ≤ 1000000) :
    ∃ acc m', eLc src t c f vs ρ m = some (.f (.lst acc), m') ∧ Inv L.length acc m' := by
  obtain ⟨acc, m', e, inv⟩ := lcL_effI Inv g hit L 0 (fun k a ha acc m hi => by
    have := step k a ha acc m (by simpa using hi)
    simpa using this) [] m1 h0 (by simpa using hl)
  refine ⟨acc, m', ?_, by simpa using inv⟩
  unfold eLc
  rw [hs]
  simp only [Option.bind_some, hit _ _ _ h0]
  rw [e]; rfl
end
variable {F : List Fo} {B : List Nw} {day : Int} {m : Mem}
def bornL (F : List Fo) (day : Int) : List Fo := F.filter fun f => decide (f.day ≤ day)
end Ls
end
section
set_option Elab.async false
set_option linter.all false
set_option maxRecDepth 100000
set_option maxHeartbeats 4000000
namespace Ls
open PySem L2 Pw Pv Lx
theorem set_own {i : Nat} {a : Ex} {ρ : Pw.Env} {m m1 : Mem} {ds : List D} (h : a ρ m = some (.f (.lst ds), m1)) : sSet i (eOwn a) ρ m = some (.nx, ρ.set i (some (.r m1.length)), m1 ++ [.lst ds]) := by
  unfold sSet eOwn
  simp [h]
theorem set_at {i : Nat} {a : Ex} {ρ : Pw.Env} {m m1 : Mem} {w : W} (h : a ρ m = some (w, m1)) : sSet i a ρ m = some (.nx, ρ.set i (some (stl w)), m1) := by
  unfold sSet
  simp [h]
theorem seq_at {a b : Sx} {ρ ρ1 : Pw.Env} {m m1 : Mem} {r : Option (Out × Pw.Env × Mem)} (h : a ρ m = some (.nx, ρ1, m1)) (h2 : b ρ1 m1 = r) : sSeq a b ρ m = r := by
  unfold sSeq
  rw [h]
  simp only [Option.bind_some]
  exact h2
theorem call_at {G : Fx} {f : Ax} {ρ : Pw.Env} {m m1 : Mem} {ws : List W} {r : Option (W × Mem)} (h : f ρ m = some (ws, m1)) (h2 : G ws m1 = r) : eCall G f ρ m = r := by
  unfold eCall
  rw [h]
  exact h2
theorem GoodHL.snoc {lim : Int} {F : List Fo} {f g : Fo} {F0 : List Fo} (h : GoodHL lim F) (hF : F = F0 ++ [g]) (hl : F.length < 60) (hd : g.day ≤ f.day) (ok : FoOkL lim f) (fa : ParOk F f.day f.fa 1) (mo : ParOk F f.day f.mo 0) : GoodHL lim (F ++ [f]) := by
  have gm : g ∈ F := by rw [hF]; simp
  have hh : HalfHL lim F g.day := by
    refine ⟨(h.ok g gm).d0, (h.ok g gm).d1, fun x hx => ?_, h.ok, h.fa, h.mo, h.up⟩
    have up := h.up
    rw [hF] at hx up
    rcases List.mem_append.mp hx with z | z
    · exact (List.pairwise_append.mp up).2.2 x z g (by simp)
    · rw [List.mem_singleton.mp z]; exact Int.le_refl _
  have n := hh.snoc hd ok fa mo
  exact ⟨by simp, by simp; omega, n.ok, n.fa, n.mo, n.up, h.lm⟩
end Ls
end
section
set_option Elab.async false
set_option linter.all false
set_option maxRecDepth 100000
set_option maxHeartbeats 4000000
namespace Ls
open PySem L2 Pw Pv Lx
noncomputable def B_is_number : Sx := (sRet (eAnd (eIs .int (eVar 0)) (eNot (eIs .bool (eVar 0)))))
noncomputable def F_is_number : Fx := runF 1 1 B_is_number
noncomputable def B_is_folk_of : Sx := (sRet (eAnd (eCall F_is_number (aCons (eVar 1) aNil)) (eChain (cmpD leI) (cmpD ltI) (eC (.int 0)) (eVar 1) (eCB lenD (aCons (eVar 0) aNil)))))
noncomputable def F_is_folk_of : Fx := runF 2 2 B_is_folk_of
section
variable {α : Type} {src : Ix} {t : Gx} {c : Tx} {f : Ex} {vs : List Nat} {ρ : Pw.Env} {m m1 : Mem}
theorem allL_map {xs : List D} (g : α → D) (val : α → Bool) {ρ : Pw.Env} {m : Mem} : ∀ (L : List α), (∀ a ∈ L, ∃ ρ1, t (g a) ρ = some ρ1 ∧ c ρ1 m = some (true, m) ∧ f ρ1 m = some (.v (.bl (val a)), m)) →
    allL true (.seq xs) xs t c f ρ (L.map g) m = some (L.all val, m)
  | [], _ => by simp [allL]
  | a :: L, h => by
    obtain ⟨ρ1, h1, h2, h3⟩ := h a List.mem_cons_self
    rw [List.map_cons]
    unfold allL
    rw [if_pos (by simp), h1]
    simp only [Option.bind_some, h2, h3, if_true]
    rw [allL_map g val L fun a ha => h a (List.mem_cons_of_mem _ ha), List.all_cons]
    cases val a <;> simp
end
section
variable {F : List Fo} {B : List Nw} {r : Rw} {day : Int} {m : Mem}
theorem is_number_spec {i : Int} : F_is_number [.v (.int i)] m = some (.v (.bl true), m) := by
  simp only [F_is_number, runF, B_is_number, startD]
  simp [sRet, eAnd, tVal, eIs, eVar, isD, eNot]
theorem is_folk_of_spec {i : Int} : F_is_folk_of [.v (hD F), .v (.int i)] m = some (.v (.bl (decide (0 ≤ i) && decide (i < F.length))), m) := by
  have nn : ∀ m, F_is_number [.v (.int i)] m = _ := fun m => is_number_spec
  simp only [F_is_folk_of, runF, B_is_folk_of, startD]
  by_cases h : 0 ≤ i <;> simp [sRet, eAnd, tVal, eCall, aCons, aNil, eVar, nn, eChain, eC, eCB, h]
structure LineOk (F : List Fo) (B : List Nw) (r : Rw) (day : Int) (L : List Nat) : Prop where
  head : ∃ rest, L = r.founder.toNat :: rest
  lt : ∀ i ∈ L, i < F.length
  step : ∀ (i a b : Nat), L[i]? = some a → L[i + 1]? = some b → b ∈ stepsOf F B r day a
end
end Ls
end
section
set_option Elab.async false
set_option linter.all false
set_option maxRecDepth 100000
set_option maxHeartbeats 4000000
namespace Ls
open PySem L2 Pw Pv Lx
end Ls
end
section
set_option Elab.async false
set_option linter.all false
set_option maxRecDepth 100000
set_option maxHeartbeats 4000000
namespace Ls
open PySem L2 Pw Pv Lx
section
variable {F : List Fo} {B : List Nw} {r : Rw} {d1 d2 : Int} {m : Mem}
theorem days_up {who : Int} {word : Str} (h : d1 ≤ d2) {d : Int} (hd : d ∈ daysOf B d1 who word) : d ∈ daysOf B d2 who word := by
  unfold daysOf dayP at *
  obtain ⟨n, hn, rfl⟩ := List.mem_map.mp hd
  obtain ⟨h1, h2⟩ := List.mem_filter.mp hn
  simp at h2
  exact List.mem_map.mpr ⟨n, List.mem_filter.mpr ⟨h1, by simp [h2.1, h2.2.2]; omega⟩, rfl⟩
theorem days_down {who : Int} {word : Str} {d : Int} (hd : d ∈ daysOf B d2 who word) (h : d ≤ d1) : d ∈ daysOf B d1 who word := by
  unfold daysOf dayP at *
  obtain ⟨n, hn, rfl⟩ := List.mem_map.mp hd
  obtain ⟨h1, h2⟩ := List.mem_filter.mp hn
  simp at h2
  exact List.mem_map.mpr ⟨n, List.mem_filter.mpr ⟨h1, by simp [h2.1, h2.2.2, h]⟩, rfl⟩
theorem back_up (hB : ∀ n ∈ B, 0 ≤ n.day) {who : Int} (h : d1 ≤ d2) : backOf B d1 who ≤ backOf B d2 who := by
  unfold backOf
  rcases max_def (daysOf B d1 who "returns") (-1) with ⟨e1, e2⟩ | ⟨e1, e2⟩
  · rw [e2]
    rcases max_def (daysOf B d2 who "returns") (-1) with ⟨f1, f2⟩ | ⟨f1, f2⟩
    · rw [f2]; exact Int.le_refl _
    · unfold daysOf at f1
      obtain ⟨n, hn, e⟩ := List.mem_map.mp f1
      have := hB n (List.mem_filter.mp hn).1
      unfold daysOf
      omega
  · rcases max_def (daysOf B d2 who "returns") (-1) with ⟨f1, f2⟩ | ⟨f1, f2⟩
    · have := days_up (d2 := d2) h e1
      rw [f1] at this; cases this
    · exact f2 _ (days_up h e1)
theorem cut_up (hB : ∀ n ∈ B, 0 ≤ n.day) {who day : Int} (h : d1 ≤ d2) (hd : day ≤ d1) (h1 : cutFrom B d1 who = -1 ∨ day < cutFrom B d1 who) : cutFrom B d2 who = -1 ∨ day < cutFrom B d2 who := by
  unfold cutFrom at *
  rcases min_def (behind B d2 who "cuts") (-1) with ⟨e1, e2⟩ | ⟨e1, e2⟩
  · exact .inl e2
  · right
    generalize ((behind B d2 who "cuts").foldl bst_min none).getD (-1) = x at e1 e2
    unfold behind at e1
    obtain ⟨f1, f2⟩ := List.mem_filter.mp e1
    simp at f2
    by_cases hx : x ≤ d1
    · have b1 := back_up (who := who) hB h
      have mem : x ∈ behind B d1 who "cuts" := List.mem_filter.mpr ⟨days_down f1 hx, by simp; omega⟩
      rcases min_def (behind B d1 who "cuts") (-1) with ⟨g1, g2⟩ | ⟨g1, g2⟩
      · rw [g1] at mem; cases mem
      · have := g2 x mem
        have g0 : 0 ≤ ((behind B d1 who "cuts").foldl bst_min none).getD (-1) := by
          unfold behind at g1
          have g3 := (List.mem_filter.mp g1).1
          unfold daysOf at g3
          obtain ⟨n, hn, e⟩ := List.mem_map.mp g3
          have := hB n (List.mem_filter.mp hn).1
          unfold behind daysOf
          rw [← e]; exact this
        omega
    · omega
theorem found_up (hB : ∀ n ∈ B, 0 ≤ n.day) {who : Int} (h : d1 ≤ d2) {i : Nat} (hi : i ∈ foundOf F B r d1 who) : i ∈ foundOf F B r d2 who := by
  unfold foundOf at *
  obtain ⟨h1, h2⟩ := List.mem_filter.mp hi
  refine List.mem_filter.mpr ⟨h1, ?_⟩
  unfold ccP at *
  cases e : F[i]? with
  | none => rw [e] at h2; cases h2
  | some f =>
    rw [e] at h2
    simp only [Bool.and_eq_true, Bool.not_eq_true', Bool.or_eq_false_iff, Bool.or_eq_true, decide_eq_true_eq, decide_eq_false_iff_not] at h2 ⊢
    obtain ⟨⟨a1, a2⟩, a3⟩ := h2
    exact ⟨⟨by omega, a2⟩, cut_up hB h (by omega) a3⟩
theorem steps_up (hB : ∀ n ∈ B, 0 ≤ n.day) (h : d1 ≤ d2) {w i : Nat} (hi : i ∈ stepsOf F B r d1 w) : i ∈ stepsOf F B r d2 w := by
  unfold stepsOf at *
  split at hi
  · cases hi
  · rename_i hn
    rw [if_neg hn]
    split at hi
    · rename_i hf
      rw [if_pos hf]
      rcases List.mem_append.mp hi with z | z
      · obtain ⟨z1, z2⟩ := List.mem_filter.mp z
        exact List.mem_append.mpr (.inl (List.mem_filter.mpr ⟨found_up hB h z1, z2⟩))
      · obtain ⟨z1, z2⟩ := List.mem_filter.mp z
        exact List.mem_append.mpr (.inr (List.mem_filter.mpr ⟨found_up hB h z1, z2⟩))
    · rename_i hf
      rw [if_neg hf]
      exact found_up hB h hi
theorem LineOk.up (hB : ∀ n ∈ B, 0 ≤ n.day) (h : d1 ≤ d2) {L : List Nat} (hL : LineOk F B r d1 L) : LineOk F B r d2 L :=
  ⟨hL.head, hL.lt, fun i a b h1 h2 => steps_up hB h (hL.step i a b h1 h2)⟩
end
end Ls
end
section
set_option Elab.async false
set_option linter.all false
set_option maxRecDepth 100000
set_option maxHeartbeats 4000000
namespace Lm
open PySem L2 Pw Pv Lx
section
variable (F : List Fo) (B : List Nw) (r : Rw) (day : Int)
end
variable {F : List Fo} {B : List Nw} {r : Rw} {day : Int}
end Lm
end
section
set_option Elab.async false
set_option linter.all false
set_option maxRecDepth 100000
set_option maxHeartbeats 4000000
namespace Lm
open PySem L2 Pw Pv Lx
section
variable (F : List Fo) (B : List Nw) (r : Rw) (day : Int)
end
variable {F : List Fo} {B : List Nw} {r : Rw} {day : Int}
end Lm
end
section
set_option Elab.async false
set_option linter.all false
set_option maxRecDepth 100000
set_option maxHeartbeats 4000000
namespace Lm
open PySem L2 Pw Pv Lx
variable {F : List Fo} {B : List Nw} {r : Rw} {day : Int}
end Lm
end
section
set_option Elab.async false
set_option linter.all false
set_option maxRecDepth 100000
set_option maxHeartbeats 4000000
namespace Lm
open PySem L2 Pw Pv Lx
variable {F : List Fo} {B : List Nw} {r : Rw} {day : Int}
end Lm
end
section
set_option Elab.async false
set_option linter.all false
set_option maxRecDepth 100000
set_option maxHeartbeats 4000000
namespace Lm
open PySem L2 Pw Pv Lx Ls
end Lm
end
section
set_option Elab.async false
set_option linter.all false
set_option maxRecDepth 100000
set_option maxHeartbeats 2000000
namespace Lq
open PySem L2 Pw Pv Lx Ls
mutual
def gd : Nat → D → Bool
  | _, .int _ => true
  | _, .str x => PyData.strOk x
  | n, .tup ds => decide (0 < n) && gds (n - 1) ds
  | n, .lst ds => decide (0 < n) && gds (n - 1) ds
  | _, .non => false
  | _, .bl _ => false
  | _, .fl _ => false
  | _, .tx _ => false
  | _, .dk _ => false
  | _, .dt _ => false
  | _, .rl _ _ => false
def gds : Nat → List D → Bool
  | _, [] => true
  | n, d :: ds => gd n d && gds n ds
end
mutual
theorem gd_py : ∀ (n : Nat) (d : D), gd n d = true → ∃ p, pyD d = some p ∧ PyData.canLay0 p = true ∧ PyData.depth p ≤ n
  | n, .int i, _ => ⟨.int i, by rw [pyD], rfl, Nat.zero_le _⟩
  | n, .str x, h => ⟨.str x, by rw [pyD], by rw [gd] at h; exact h, Nat.zero_le _⟩
  | n, .tup ds, h => by
    rw [gd, Bool.and_eq_true] at h
    obtain ⟨ps, e, c, dp⟩ := gds_py (n - 1) ds h.2
    have := of_decide_eq_true h.1
    exact ⟨.tuple ps, by rw [pyD, e]; rfl, c, by rw [PyData.depth]; omega⟩
  | n, .lst ds, h => by
    rw [gd, Bool.and_eq_true] at h
    obtain ⟨ps, e, c, dp⟩ := gds_py (n - 1) ds h.2
    have := of_decide_eq_true h.1
    exact ⟨.list ps, by rw [pyD, e]; rfl, c, by rw [PyData.depth]; omega⟩
  | n, .non, h => by rw [gd] at h; cases h
  | n, .bl _, h => by rw [gd] at h; cases h
  | n, .fl _, h => by rw [gd] at h; cases h
  | n, .tx _, h => by rw [gd] at h; cases h
  | n, .dk _, h => by rw [gd] at h; cases h
  | n, .dt _, h => by rw [gd] at h; cases h
  | n, .rl _ _, h => by rw [gd] at h; cases h
theorem gds_py : ∀ (n : Nat) (ds : List D), gds n ds = true → ∃ ps, pyDs ds = some ps ∧ PyData.canLayAll0 ps = true ∧ PyData.depthAll ps ≤ n
  | n, [], _ => ⟨[], by rw [pyDs], rfl, Nat.zero_le _⟩
  | n, d :: ds, h => by
    rw [gds, Bool.and_eq_true] at h
    obtain ⟨p, e, c, dp⟩ := gd_py n d h.1
    obtain ⟨ps, e', c', dp'⟩ := gds_py n ds h.2
    exact ⟨p :: ps, by rw [pyDs, e, e']; rfl, by rw [PyData.canLayAll0, c, c']; rfl, by rw [PyData.depthAll]; omega⟩
end
mutual
theorem gd_same : ∀ (d : D) (n : Nat) (p : PyData), gd n d = true → pyD d = some p → PyData.eqv p p = true
  | .int i, n, p, _, e => by rw [pyD] at e; cases e; rw [PyData.eqv]; exact beq_self_eq_true i
  | .str x, n, p, _, e => by rw [pyD] at e; cases e; rw [PyData.eqv]; exact beq_self_eq_true x
  | .tup ds, n, p, h, e => by
    rw [gd, Bool.and_eq_true] at h
    rw [pyD] at e
    obtain ⟨ps, e1, e⟩ := bnd e
    cases e
    rw [PyData.eqv]
    exact gds_same ds _ ps h.2 e1
  | .lst ds, n, p, h, e => by
    rw [gd, Bool.and_eq_true] at h
    rw [pyD] at e
    obtain ⟨ps, e1, e⟩ := bnd e
    cases e
    rw [PyData.eqv]
    exact gds_same ds _ ps h.2 e1
  | .non, n, p, h, e => by rw [gd] at h; cases h
  | .bl _, n, p, h, e => by rw [gd] at h; cases h
  | .fl _, n, p, h, e => by rw [gd] at h; cases h
  | .tx _, n, p, h, e => by rw [gd] at h; cases h
  | .dk _, n, p, h, e => by rw [gd] at h; cases h
  | .dt _, n, p, h, e => by rw [gd] at h; cases h
  | .rl _ _, n, p, h, e => by rw [gd] at h; cases h
theorem gds_same : ∀ (ds : List D) (n : Nat) (ps : List PyData), gds n ds = true → pyDs ds = some ps → PyData.eqvAll ps ps = true
  | [], n, ps, _, e => by rw [pyDs] at e; cases e; rfl
  | d :: ds, n, ps, h, e => by
    rw [gds, Bool.and_eq_true] at h
    rw [pyDs] at e
    obtain ⟨p, e1, e⟩ := bnd e
    obtain ⟨qs, e2, e⟩ := bnd e
    cases e
    rw [PyData.eqvAll, gd_same d n p h.1 e1, gds_same ds n qs h.2 e2]; rfl
end
mutual
theorem gd_is : ∀ (d e : D) (n k : Nat) (p q : PyData), gd n d = true → gd k e = true → pyD d = some p → pyD e = some q → PyData.eqv p q = true → d = e
  | .int i, e, n, k, p, q, _, h, e1, e2, z => by
    rw [pyD] at e1; cases e1
    cases e <;> first | (rw [gd] at h; cases h; done) | (rw [pyD] at e2; first | (cases e2; rw [PyData.eqv] at z; first | (cases z; done) | (rw [beq_iff_eq.mp z])) | (obtain ⟨ps, _, e2⟩ := bnd e2; cases e2; rw [PyData.eqv] at z; cases z))
  | .str i, e, n, k, p, q, _, h, e1, e2, z => by
    rw [pyD] at e1; cases e1
    cases e <;> first | (rw [gd] at h; cases h; done) | (rw [pyD] at e2; first | (cases e2; rw [PyData.eqv] at z; first | (cases z; done) | (rw [beq_iff_eq.mp z])) | (obtain ⟨ps, _, e2⟩ := bnd e2; cases e2; rw [PyData.eqv] at z; cases z))
  | .tup ds, e, n, k, p, q, g, h, e1, e2, z => by
    rw [pyD] at e1
    obtain ⟨ps, e9, e3⟩ := bnd e1
    cases e3
    rw [gd, Bool.and_eq_true] at g
    cases e with
    | tup es =>
      rw [pyD] at e2
      obtain ⟨qs, e8, e3⟩ := bnd e2
      cases e3
      rw [gd, Bool.and_eq_true] at h
      rw [PyData.eqv] at z
      rw [gds_is ds es _ _ ps qs g.2 h.2 e9 e8 z]
    | lst es =>
      rw [pyD] at e2
      obtain ⟨qs, e2, e3⟩ := bnd e2
      cases e3
      rw [PyData.eqv] at z; cases z
    | int i => rw [pyD] at e2; cases e2; rw [PyData.eqv] at z; cases z
    | str i => rw [pyD] at e2; cases e2; rw [PyData.eqv] at z; cases z
    | _ => rw [gd] at h; cases h
  | .lst ds, e, n, k, p, q, g, h, e1, e2, z => by
    rw [pyD] at e1
    obtain ⟨ps, e9, e3⟩ := bnd e1
    cases e3
    rw [gd, Bool.and_eq_true] at g
    cases e with
    | lst es =>
      rw [pyD] at e2
      obtain ⟨qs, e8, e3⟩ := bnd e2
      cases e3
      rw [gd, Bool.and_eq_true] at h
      rw [PyData.eqv] at z
      rw [gds_is ds es _ _ ps qs g.2 h.2 e9 e8 z]
    | tup es =>
      rw [pyD] at e2
      obtain ⟨qs, e2, e3⟩ := bnd e2
      cases e3
      rw [PyData.eqv] at z; cases z
    | int i => rw [pyD] at e2; cases e2; rw [PyData.eqv] at z; cases z
    | str i => rw [pyD] at e2; cases e2; rw [PyData.eqv] at z; cases z
    | _ => rw [gd] at h; cases h
  | .non, e, n, k, p, q, h, _, e1, e2, z => by rw [gd] at h; cases h
  | .bl _, e, n, k, p, q, h, _, e1, e2, z => by rw [gd] at h; cases h
  | .fl _, e, n, k, p, q, h, _, e1, e2, z => by rw [gd] at h; cases h
  | .tx _, e, n, k, p, q, h, _, e1, e2, z => by rw [gd] at h; cases h
  | .dk _, e, n, k, p, q, h, _, e1, e2, z => by rw [gd] at h; cases h
  | .dt _, e, n, k, p, q, h, _, e1, e2, z => by rw [gd] at h; cases h
  | .rl _ _, e, n, k, p, q, h, _, e1, e2, z => by rw [gd] at h; cases h
theorem gds_is : ∀ (ds es : List D) (n k : Nat) (ps qs : List PyData), gds n ds = true → gds k es = true → pyDs ds = some ps → pyDs es = some qs → PyData.eqvAll ps qs = true → ds = es
  | [], es, n, k, ps, qs, g, h, e1, e2, z => by
    rw [pyDs] at e1; cases e1
    cases es with
    | nil => rfl
    | cons e es =>
      rw [pyDs] at e2
      obtain ⟨p, e3, e2⟩ := bnd e2
      obtain ⟨ps, e4, e2⟩ := bnd e2
      cases e2
      rw [PyData.eqvAll] at z; cases z
  | d :: ds, es, n, k, ps, qs, g, h, e1, e2, z => by
    rw [pyDs] at e1
    obtain ⟨p, e3, e1⟩ := bnd e1
    obtain ⟨ps', e4, e1⟩ := bnd e1
    cases e1
    rw [gds, Bool.and_eq_true] at g
    cases es with
    | nil => rw [pyDs] at e2; cases e2; rw [PyData.eqvAll] at z; cases z
    | cons e es =>
      rw [pyDs] at e2
      obtain ⟨q, e5, e2⟩ := bnd e2
      obtain ⟨qs', e6, e2⟩ := bnd e2
      cases e2
      rw [gds, Bool.and_eq_true] at h
      rw [PyData.eqvAll, Bool.and_eq_true] at z
      rw [gd_is d e n k p q g.1 h.1 e3 e5 z.1, gds_is ds es n k ps' qs' g.2 h.2 e4 e6 z.2]
end
theorem eq_same {neg : Bool} {n : Nat} {d : D} (g : gd n d = true) (hn : n ≤ 64) (hs : sc d = none) : eqD neg d d = some (.v (.bl (!neg))) := by
  obtain ⟨p, e, c, dp⟩ := gd_py n d g
  have sh : SeqAt.shaped p = true := by
    unfold SeqAt.shaped
    rw [c, Bool.true_and]
    exact decide_eq_true (by omega)
  have q := gd_same d n p g e
  unfold eqD eqB
  rw [hs]
  simp [e, sh, q]
theorem eq_not {neg : Bool} {n k : Nat} {d e : D} (g : gd n d = true) (h : gd k e = true) (hn : n ≤ 64) (hk : k ≤ 64) (hs : sc d = none) (ne : d ≠ e) : eqD neg d e = some (.v (.bl neg)) := by
  obtain ⟨p, e1, c, dp⟩ := gd_py n d g
  obtain ⟨q, e2, c', dp'⟩ := gd_py k e h
  have sh : SeqAt.shaped p = true := by
    unfold SeqAt.shaped
    rw [c, Bool.true_and]
    exact decide_eq_true (by omega)
  have sh' : SeqAt.shaped q = true := by
    unfold SeqAt.shaped
    rw [c', Bool.true_and]
    exact decide_eq_true (by omega)
  have z : PyData.eqv p q = false := by
    cases z : PyData.eqv p q with
    | false => rfl
    | true => exact absurd (gd_is d e n k p q g h e1 e2 z) ne
  unfold eqD eqB
  rw [hs]
  simp [e1, e2, sh, sh', z]
theorem gds_all {n : Nat} : ∀ {ds : List D}, (∀ d ∈ ds, gd n d = true) → gds n ds = true
  | [], _ => by rw [gds]
  | d :: ds, h => by
    rw [gds, h d List.mem_cons_self, gds_all fun e he => h e (List.mem_cons_of_mem _ he)]; rfl
theorem gds_map {α : Type} {n : Nat} {f : α → D} {L : List α} (h : ∀ a ∈ L, gd n (f a) = true) : gds n (L.map f) = true := gds_all fun d hd => by
  obtain ⟨a, ha, rfl⟩ := List.mem_map.mp hd
  exact h a ha
theorem gd_i {n : Nat} {i : Int} : gd n (.int i) = true := by rw [gd]
theorem gd_t {n : Nat} {ds : List D} (h : gds n ds = true) : gd (n + 1) (.tup ds) = true := by rw [gd]; simpa using h
theorem gd_nil {n : Nat} : gds n [] = true := by rw [gds]
theorem gd_cons {n : Nat} {d : D} {ds : List D} (h : gd n d = true) (hs : gds n ds = true) : gds n (d :: ds) = true := by rw [gds, h, hs]; rfl
abbrev tI (xs : List Int) : D := .tup (xs.map .int)
abbrev lI (xs : List Int) : D := .lst (xs.map .int)
theorem gd_ti {n : Nat} {xs : List Int} : gd (n + 1) (tI xs) = true := gd_t (gds_map fun _ _ => gd_i)
theorem map_inj {xs ys : List Int} (h : xs.map D.int = ys.map D.int) : xs = ys := by
  induction xs generalizing ys with
  | nil => cases ys with
    | nil => rfl
    | cons y ys => cases h
  | cons x xs ih => cases ys with
    | nil => cases h
    | cons y ys =>
      rw [List.map_cons, List.map_cons] at h
      injection h with h1 h2
      injection h1 with h1
      rw [h1, ih h2]
theorem eq_ti {neg : Bool} {xs ys : List Int} : eqD neg (tI xs) (tI ys) = some (.v (.bl (decide (xs = ys) != neg))) := by
  by_cases h : xs = ys
  · subst h
    rw [eq_same (gd_ti (n := 0)) (by decide) rfl]; simp
  · rw [eq_not (gd_ti (n := 0)) (gd_ti (n := 0)) (by decide) (by decide) rfl fun z => h (map_inj (by injection z)), decide_eq_false h]; simp
end Lq
end
section
set_option Elab.async false
set_option linter.all false
set_option maxRecDepth 100000
set_option maxHeartbeats 2000000
namespace Lq
open PySem L2 Pw Pv Lx Ls
section
variable {ns : List Int} {s : Lx.St} {m : Mem}
theorem cut_to {α : Type} {n : Nat} {k : Int} (h0 : 0 ≤ k) (h : k ≤ n) : HT.sIx n n (some k) = k.toNat := by
  unfold HT.sIx
  simp only
  split <;> omega
theorem cut_take {ds : List D} {k : Int} (h0 : 0 ≤ k) (h : k ≤ ds.length) : cutD ds none (some k) = ds.take k.toNat := by
  unfold cutD
  rw [cut_to (α := D) h0 h]
  simp [HT.sIx]
end
end Lq
end
section
set_option Elab.async false
set_option linter.all false
set_option maxRecDepth 100000
set_option maxHeartbeats 2000000
namespace Lq
open PySem L2 Pw Pv Lx Ls
section
variable {ns : List Int} {s : Lx.St} {m : Mem}
structure Ord (P A : List Int) : Prop where
  nd : A.Nodup
  sub : ∀ x ∈ A, x ∈ P
  len : A.length ≤ 200
theorem Ord.take {P A : List Int} (h : Ord P A) (k : Nat) : Ord P (A.take k) :=
  ⟨h.nd.sublist (List.take_sublist k A), fun x hx => h.sub x (List.mem_of_mem_take hx), by rw [List.length_take]; have := h.len; omega⟩
end
end Lq
end
section
set_option Elab.async false
set_option linter.all false
set_option maxRecDepth 100000
set_option maxHeartbeats 2000000
namespace Lt
open PySem L2 Pw Pv Lx Lq
open Ls
abbrev iS (i : Int) : Str := (toString i : String)
theorem ok_of (s : String) : PyData.strOk (Str.ofString s) = true := by
  rw [Str.ofString_eq_toList]
  unfold PyData.strOk
  rw [List.all_toArray, List.all_eq_true]
  intro c hc
  obtain ⟨d, _, rfl⟩ := List.mem_map.mp hc
  have h := d.valid
  simp only [UInt32.isValidChar, Nat.isValidChar] at h
  exact decide_eq_true (by show d.val.toNat < _; omega)
theorem ok_app {a b : Str} (ha : PyData.strOk a = true) (hb : PyData.strOk b = true) : PyData.strOk (a ++ b) = true := by
  show (a.cps ++ b.cps).all _ = true
  rw [Array.all_append]
  simp only [PyData.strOk] at ha hb
  rw [ha, hb]; rfl
theorem ok_join {a : Str} (ha : PyData.strOk a = true) : ∀ {ys : List Str}, (∀ y ∈ ys, PyData.strOk y = true) → PyData.strOk (Str.join a ys) = true
  | [], _ => by simp [Str.join, Str.empty, PyData.strOk]
  | [x], h => h x List.mem_cons_self
  | x :: y :: r, h => by
    show PyData.strOk (x ++ a ++ Str.join a (y :: r)) = true
    exact ok_app (ok_app (h x List.mem_cons_self) ha) (ok_join ha fun z hz => h z (List.mem_cons_of_mem _ hz))
theorem len_join {a : Str} : ∀ {ys : List Str}, (Str.join a ys).length ≤ (ys.map (·.length)).sum + ys.length * a.length
  | [] => Nat.zero_le _
  | [x] => by simp [Str.join]
  | x :: y :: r => by
    show (x ++ a ++ Str.join a (y :: r)).length ≤ _
    rw [Str.length_append, Str.length_append]
    have ih := len_join (a := a) (ys := y :: r)
    simp only [List.map_cons, List.sum_cons, List.length_cons, Nat.add_mul, Nat.one_mul] at ih ⊢
    omega
theorem len_int {i : Int} (h : i.natAbs.log2 < 1900) : (iS i).length ≤ 2000 := by
  exact Nat.le_trans (PyProof.Rows.int_text_len_1921 (Nat.lt_of_lt_of_le h (by decide))) (by decide)
theorem log_small {i : Int} (h0 : -1 ≤ i) (h1 : i ≤ 1000000) : i.natAbs.log2 < 1900 := by
  by_cases hz : i.natAbs = 0
  · rw [hz]; decide
  · refine Nat.lt_of_lt_of_le ((Nat.log2_lt (k := 30) hz).mpr ?_) (by decide)
    have : i.natAbs ≤ 1000000 := by omega
    exact Nat.lt_of_le_of_lt this (by decide)
theorem str_i {i : Int} (h0 : -1 ≤ i) (h1 : i ≤ 1000000) : strD [.int i] = some (.v (.str (iS i))) := by
  show (if i.natAbs.log2 < 1900 then some (W.v (D.str (iS i))) else none) = _
  rw [if_pos (log_small h0 h1)]
structure WOk (w : Str) : Prop where
  len : w.length ≤ 2000
  ok : PyData.strOk w = true
theorem wok_i {i : Int} (h0 : -1 ≤ i) (h1 : i ≤ 1000000) : WOk (iS i) := ⟨len_int (log_small h0 h1), ok_of _⟩
def nm (i : Int) : Str := if i = -1 then "-" else iS i
theorem wok_nm {i : Int} (h0 : -1 ≤ i) (h1 : i ≤ 1000000) : WOk (nm i) := by
  unfold nm
  split
  · exact ⟨by decide, ok_of _⟩
  · exact wok_i h0 h1
structure LOk (ws : List Str) : Prop where
  len : ws.length ≤ 5
  ok : ∀ w ∈ ws, WOk w
def ln (ws : List Str) : Str := Txt.join " " ws
def tx (Ls : List (List Str)) : Str := Txt.join "" (Ls.map fun ws => ln ws ++ "\n")
theorem sum_le {n : Nat} : ∀ {ys : List Str}, (∀ y ∈ ys, y.length ≤ n) → (ys.map (·.length)).sum ≤ ys.length * n
  | [], _ => by simp
  | y :: ys, h => by
    have ih := sum_le (n := n) (ys := ys) fun z hz => h z (List.mem_cons_of_mem _ hz)
    have := h y List.mem_cons_self
    simp only [List.map_cons, List.sum_cons, List.length_cons, Nat.add_mul, Nat.one_mul]
    omega
theorem LOk.sum {ws : List Str} (h : LOk ws) : (ws.map (·.length)).sum + ws.length * (" " : Str).length ≤ 16000000 := by
  have s := sum_le (n := 2000) (ys := ws) fun y hy => (h.ok y hy).len
  have l := h.len
  have e : (" " : Str).length = 1 := rfl
  rw [e]
  have : ws.length * 2000 ≤ 5 * 2000 := Nat.mul_le_mul_right _ l
  omega
theorem LOk.line {ws : List Str} (h : LOk ws) : (ln ws).length ≤ 20000 ∧ PyData.strOk (ln ws) = true := by
  have s := sum_le (n := 2000) (ys := ws) fun y hy => (h.ok y hy).len
  have l := h.len
  have e : (" " : Str).length = 1 := rfl
  have : ws.length * 2000 ≤ 5 * 2000 := Nat.mul_le_mul_right _ l
  unfold ln
  rw [TL.join_eq]
  refine ⟨Nat.le_trans len_join ?_, ok_join (ok_of _) fun y hy => (h.ok y hy).ok⟩
  rw [e]; omega
theorem allS_map (ys : List Str) : allS (ys.map D.str) = some ys := by
  induction ys with
  | nil => rfl
  | cons y ys ih => rw [List.map_cons, allS, ih]; rfl
theorem join_l {a : Str} {ys : List Str} {m : Mem} (h : (ys.map (·.length)).sum + ys.length * a.length ≤ 16000000) : joinD (.v (.str a)) [.v (.lst (ys.map .str))] m = some (.v (.str (Txt.join a ys)), m) := by
  show (some (D.lst (ys.map D.str))).bind (fun d => (itmD d).bind fun ds => (allS ds).bind fun ys => if (ys.map (·.length)).sum + ys.length * a.length ≤ 16000000 then some (W.v (D.str (Txt.join a ys)), m) else none) = _
  simp only [Option.bind_some, itm_l, allS_map, if_pos h]
structure TOk (Ls : List (List Str)) : Prop where
  len : Ls.length ≤ 64
  ok : ∀ ws ∈ Ls, LOk ws
theorem nl_len : ("\n" : Str).length = 1 := rfl
theorem TOk.sum {Ls : List (List Str)} (h : TOk Ls) : ((Ls.map fun ws => ln ws ++ "\n").map (·.length)).sum + (Ls.map fun ws => ln ws ++ "\n").length * ("" : Str).length ≤ 16000000 := by
  have s := sum_le (n := 20001) (ys := Ls.map fun ws => ln ws ++ "\n") fun y hy => by
    obtain ⟨ws, hw, rfl⟩ := List.mem_map.mp hy
    rw [Str.length_append, nl_len]
    have := ((h.ok ws hw).line).1
    omega
  have l := h.len
  have e : ("" : Str).length = 0 := rfl
  rw [e, List.length_map] at *
  have : Ls.length * 20001 ≤ 64 * 20001 := Nat.mul_le_mul_right _ l
  omega
end Lt
end
section
set_option Elab.async false
set_option linter.all false
set_option maxRecDepth 100000
set_option maxHeartbeats 4000000
namespace K92
open PySem L2 Pw Pv Lx Lq Lt
open Ls
section
variable {ns : List Int} {s : Lx.St} {m : Mem} {F : List Fo} {B : List Nw}
theorem who_spec {i : Int} (h0 : -1 ≤ i) (h1 : i ≤ 1000000) (m : Mem) : F_who_word [.v (.int i)] m = some (.v (.str (nm i)), m) := by
  have e := str_i h0 h1
  unfold nm
  simp only [F_who_word, runF, B_who_word, startD]
  by_cases h : i = -1
  · subst h
    simp [sRet, eIf, tVal, eOp, eVar, eUn, eC]
  · simp [sRet, eIf, tVal, eOp, eVar, eUn, eC, h, eCB, aCons, aNil, e]
theorem name_spec {i : Int} (h0 : -1 ≤ i) (h1 : i ≤ 1000000) (m : Mem) : F_name [.v (.int i)] m = some (.v (.str (nm i)), m) := by
  have e := str_i h0 h1
  unfold nm
  simp only [F_name, runF, B_name, startD]
  by_cases h : i = -1
  · subst h
    simp [sRet, eOp, eLst, aCons, aNil, eCB, e, eVar, eC, eUn]
  · simp [sRet, eOp, eLst, aCons, aNil, eCB, e, eVar, eC, eUn, h]
abbrev rD (ws : List Str) : D := .lst (ws.map .str)
theorem text_items {Ls : List (List Str)} {m : Mem} {it : Itm} {w : W} (hT : TOk Ls) (hs : srcW w m = some it) (hw : stl w = w) (hi : itemsAt it m = some (Ls.map rD)) : F_text [w] m = some (.v (.str (tx Ls)), m) := by
  obtain ⟨acc, m', e, hm, ha⟩ := lc_effI (it := it) (src := iSeq (eVar 0)) (t := gN 1) (c := tYes') (f := eOp addD (eMt isStr joinD (eC (.str " ")) (aCons (eVar 1) aNil)) (eC (.str "\n"))) (vs := [1]) (ρ := [some w, none]) (m := m) (m1 := m)
    Ls rD (fun i acc mm => mm = m ∧ acc = (Ls.take i).map fun ws => D.str (ln ws ++ "\n")) (by simp [iSeq, eVar, hw, hs]) (fun i acc mm inv => by rw [inv.1]; exact hi) ⟨rfl, rfl⟩
    (fun i ws hk acc mm inv => by
      obtain ⟨rfl, rfl⟩ := inv
      have lo := hT.ok ws (List.mem_of_getElem? hk)
      have j := join_l (a := " ") (ys := ws) (m := mm) lo.sum
      have ll := lo.line.1
      have al : addD (.str (Txt.join " " ws)) (.str "\n") = some (.v (.str (ln ws ++ "\n"))) := by
        show (if (ln ws).length + ("\n" : Str).length ≤ 1000000 then some (W.v (D.str (ln ws ++ "\n"))) else none) = _
        rw [if_pos (by rw [nl_len]; omega)]
      refine ⟨_, .v (.str (ln ws ++ "\n")), .str (ln ws ++ "\n"), mm, rfl, rfl, ?_, rfl, rfl, ?_⟩
      · simp [eOp, eMt, eC, isStr, aCons, aNil, eVar, j, al]
      · rw [List.take_succ, hk]; simp) (by have := hT.len; omega)
  have j := join_l (a := "") (ys := Ls.map fun ws => ln ws ++ "\n") (m := m) hT.sum
  rw [hm, ha, List.take_length] at e
  have e' : E_text_1 [some w, none] m = some (.f (.lst ((Ls.map fun ws => ln ws ++ "\n").map .str)), m) := by
    rw [List.map_map]; exact e
  have fin : Txt.join "" (Ls.map fun ws => ln ws ++ "\n") = tx Ls := rfl
  simp only [F_text, runF, B_text, startD]
  simp [sRet, eMt, eC, isStr, aCons, aNil, e', -List.map_map]
  rw [j]
  simp [fin]
theorem text_of_spec {Ls : List (List Str)} (hT : TOk Ls) (m : Mem) : F_text_of [.v (.lst (Ls.map fun ws => .str (ln ws)))] m = some (.v (.str (tx Ls)), m) := by
  have e : E_text_of_1 [some (.v (.lst (Ls.map fun ws => .str (ln ws)))), none] m = some (.f (.lst ((Ls.map fun ws => ln ws ++ "\n").map .str)), m) := by
    have q := lc_map (src := iSeq (eVar 0)) (t := gN 1) (c := tYes') (f := eOp addD (eVar 1) (eC (.str "\n"))) (vs := [1]) (ρ := [some (.v (.lst (Ls.map fun ws => .str (ln ws)))), none]) (m := m) (m1 := m) Ls (fun ws => .str (ln ws)) (fun _ => true) (fun ws => .str (ln ws ++ "\n"))
      (by simp [iSeq, eVar]) (fun ws hw => ⟨_, rfl, rfl, fun _ => ⟨.v (.str (ln ws ++ "\n")), by
        have ll := ((hT.ok ws hw).line).1
        have al : addD (.str (ln ws)) (.str "\n") = some (.v (.str (ln ws ++ "\n"))) := by
          show (if (ln ws).length + ("\n" : Str).length ≤ 1000000 then some (W.v (D.str (ln ws ++ "\n"))) else none) = _
          rw [if_pos (by rw [nl_len]; omega)]
        simp [eOp, eVar, eC, al], rfl⟩⟩) (by have := hT.len; omega)
    unfold E_text_of_1
    rw [q, List.filter_eq_self.mpr (fun _ _ => rfl), List.map_map]; rfl
  have j := join_l (a := "") (ys := Ls.map fun ws => ln ws ++ "\n") (m := m) hT.sum
  have fin : Txt.join "" (Ls.map fun ws => ln ws ++ "\n") = tx Ls := rfl
  simp only [F_text_of, runF, B_text_of, startD]
  simp [sRet, eMt, eC, isStr, aCons, aNil, e, -List.map_map]
  rw [j]
  simp [fin]
def sex (i : Int) : Str := if i = 1 then "man" else "woman"
def brt (i : Int) : Str := if i = 1 then "wed" else "unwed"
def cnt (i : Int) : Str := if i = 1 then "wed" else "all"
def foL (f : Fo) : List Str := [iS f.day, nm f.fa, nm f.mo, sex f.man, brt f.wed]
theorem wok_c (s : String) (h : (Str.ofString s).length ≤ 2000) : WOk (Str.ofString s) := ⟨h, ok_of s⟩
structure FoB (f : Fo) : Prop extends FoOk f where
  f0 : -1 ≤ f.fa
  f1 : f.fa ≤ 1000000
  m0 : -1 ≤ f.mo
  m1 : f.mo ≤ 1000000
theorem foB (hF : GoodH F) : ∀ f ∈ F, FoB f := fun f hf => by
  obtain ⟨i, hi, e⟩ := List.getElem_of_mem hf
  have ei : F[i]? = some f := by rw [List.getElem?_eq_getElem hi, e]
  have le := hF.le
  have bd : ∀ v d man, ParOk (F.take i) d v man → -1 ≤ v ∧ v ≤ 1000000 := fun v d man h => by
    rcases h with h | ⟨j, g, rfl, hj, _⟩
    · omega
    · have := (List.getElem?_eq_some_iff.mp hj).1
      rw [List.length_take] at this
      omega
  obtain ⟨a, b⟩ := bd _ _ _ (hF.fa i f ei)
  obtain ⟨c, d⟩ := bd _ _ _ (hF.mo i f ei)
  exact ⟨hF.ok f hf, a, b, c, d⟩
theorem fo_ok {f : Fo} (h : FoB f) : LOk (foL f) := by
  refine ⟨by simp [foL], fun w hw => ?_⟩
  have := h.d0
  have := h.d1
  simp only [foL, List.mem_cons, List.not_mem_nil, or_false] at hw
  rcases hw with rfl | rfl | rfl | rfl | rfl
  · exact wok_i (by omega) (by omega)
  · exact wok_nm h.f0 h.f1
  · exact wok_nm h.m0 h.m1
  · unfold sex; split <;> exact wok_c _ (by decide)
  · unfold brt; split <;> exact wok_c _ (by decide)
theorem folk_line_spec {f : Fo} (h : FoB f) (m : Mem) : F_folk_line [.v f.d] m = some (.v (.str (ln (foL f))), m) := by
  have := h.d0
  have := h.d1
  have e1 := str_i (i := f.day) (by omega) (by omega)
  have w1 := who_spec h.f0 h.f1 m
  have w2 := who_spec h.m0 h.m1 m
  have j := join_l (a := " ") (ys := foL f) (m := m) (fo_ok h).sum
  have a1 : atI [D.str "woman", D.str "man"] f.man = some (.str (sex f.man)) := by
    rcases h.m with z | z <;> rw [z] <;> rfl
  have a2 : atI [D.str "unwed", D.str "wed"] f.wed = some (.str (brt f.wed)) := by
    rcases h.w with z | z <;> rw [z] <;> rfl
  have j' : joinD (.v (.str " ")) [.v (.lst [.str (iS f.day), .str (nm f.fa), .str (nm f.mo), .str (sex f.man), .str (brt f.wed)])] m = some (.v (.str (ln (foL f))), m) := j
  simp only [F_folk_line, runF, B_folk_line, startD]
  simp [sSeq, sAsg, Fo.d, gT, gL, gN, eVar, sRet, eMt, eC, isStr, aCons, aNil, eLst, eCB, e1, eCall, w1, w2, eOp, a1, a2, j']
theorem house_text_spec (hF : GoodH F) (m : Mem) : F_house_text [.v (hD F)] m = some (.v (.str (tx (F.map foL))), m) := by
  have hB := foB hF
  have hT : TOk (F.map foL) := ⟨by have := hF.le; simp; omega, fun ws hw => by obtain ⟨f, hf, rfl⟩ := List.mem_map.mp hw; exact fo_ok (hB f hf)⟩
  have e : E_house_text_1 [some (.v (hD F)), none] m = some (.f (.lst (F.map fun f => .str (ln (foL f)))), m) := by
    have q := lc_map (src := iSeq (eVar 0)) (t := gN 1) (c := tYes') (f := eCall F_folk_line (aCons (eVar 1) aNil)) (vs := [1]) (ρ := [some (.v (hD F)), none]) (m := m) (m1 := m) F Fo.d (fun _ => true) (fun f => .str (ln (foL f)))
      (by simp [iSeq, eVar]) (fun f hf => ⟨_, rfl, rfl, fun _ => ⟨.v (.str (ln (foL f))), by
        have := folk_line_spec (hB f hf) m
        simp [eCall, aCons, aNil, eVar, this], rfl⟩⟩) (by have := hF.le; omega)
    unfold E_house_text_1
    rw [q, List.filter_eq_self.mpr (fun _ _ => rfl)]
  have t := text_of_spec hT m
  rw [List.map_map] at t
  have t' : F_text_of [.v (.lst (F.map fun f => .str (ln (foL f))))] m = some (.v (.str (tx (F.map foL))), m) := t
  simp only [F_house_text, runF, B_house_text, startD]
  simp [sRet, eCall, aCons, aNil, e, t']
theorem l_turn {f : Fo} {A : List D} {x0 : Option W} (h : FoB f) (hA : A.length < 1000000) (m : Mem) : L_l_house_text_1 [x0, some (.r m.length), some (.v (.int f.day)), some (.v (.int f.fa)), some (.v (.int f.mo)), some (.v (.int f.man)), some (.v (.int f.wed))] (m ++ [.lst A]) =
    some (.nx, [x0, some (.r m.length), some (.v (.int f.day)), some (.v (.int f.fa)), some (.v (.int f.mo)), some (.v (.int f.man)), some (.v (.int f.wed))], m ++ [.lst (A ++ [rD (foL f)])]) := by
  have := h.d0
  have := h.d1
  have e1 := str_i (i := f.day) (by omega) (by omega)
  have w1 := name_spec h.f0 h.f1 (m ++ [.lst A])
  have w2 := name_spec h.m0 h.m1 (m ++ [.lst A])
  have a1 : atI [D.str "woman", D.str "man"] f.man = some (.str (sex f.man)) := by
    rcases h.m with z | z <;> rw [z] <;> rfl
  have a2 : atI [D.str "unwed", D.str "wed"] f.wed = some (.str (brt f.wed)) := by
    rcases h.w with z | z <;> rw [z] <;> rfl
  simp [L_l_house_text_1, sDrop, eMt, eVar, aCons, aNil, eLst, eCB, e1, eCall, w1, w2, eOp, eC, a1, a2, hA, foL, rD]
theorem l_house_text_spec (hF : GoodH F) (m : Mem) : F_l_house_text [.v (hD F)] m = some (.v (.str (tx (F.map foL))), m) := by
  have hB := foB hF
  have hT : TOk (F.map foL) := ⟨by have := hF.le; simp; omega, fun ws hw => by obtain ⟨f, hf, rfl⟩ := List.mem_map.mp hw; exact fo_ok (hB f hf)⟩
  obtain ⟨ρ', m', e, rfl, rfl⟩ := for_inv (src := iSeq (eVar 0)) (t := gT [gN 2, gN 3, gN 4, gN 5, gN 6]) (b := L_l_house_text_1) (dd := [2, 3, 4, 5, 6]) (ρ := [some (.v (hD F)), some (.r m.length), none, none, none, none, none]) (m := m ++ [.lst []]) (m1 := m ++ [.lst []]) F Fo.d
    (fun k ρ mm => ρ = [some (.v (hD F)), some (.r m.length), none, none, none, none, none] ∧ mm = m ++ [.lst ((F.take k).map fun f => rD (foL f))]) (by simp [iSeq, eVar]) ⟨rfl, rfl⟩
    (fun k f hk ρ mm inv => by
      obtain ⟨rfl, rfl⟩ := inv
      have q := l_turn (f := f) (A := (F.take k).map fun f => rD (foL f)) (x0 := some (.v (hD F))) (hB f (List.mem_of_getElem? hk)) (by have := hF.le; simp; omega) m
      refine ⟨_, _, _, rfl, q, rfl, ?_⟩
      rw [List.take_succ, hk]; simp [-List.map_take])
  have tt := text_items (Ls := F.map foL) (m := m ++ [.lst ((F.take F.length).map fun f => rD (foL f))]) (it := .lst m.length) (w := .r m.length) hT (by simp [srcW]) rfl (by simp [itemsAt, List.map_map, Function.comp_def])
  rw [List.take_length] at e tt
  simp only [F_l_house_text, runF, B_l_house_text, startD]
  simp [sSeq, sSet, eOwn, eLst, aNil, aCons, eVar, e, sRet, eCall, tt]
end
end K92
end
section
set_option Elab.async false
set_option linter.all false
set_option maxRecDepth 100000
set_option maxHeartbeats 2000000
namespace Lr
open PySem L2 Pw Pv Lx Ls Lq
noncomputable def E_rows_1 : Ex := eLc (iSeq (eVar 2)) (gN 6) tYes' (eOp ixD (eOp ixD (eVar 1) (eOp ixD (eVar 6) (eC (.int 0)))) (eC (.int 0))) [6]
noncomputable def E_rows_2 : Ex := eLc (iSeq (eVar 2)) (gN 6) tYes' (eOp ixD (eOp ixD (eVar 1) (eOp ixD (eVar 6) (eC (.int 0)))) (eC (.int 0))) [6]
noncomputable def E_rows_3 : Ex := eLc (iRngA (aCons (eOp addD (eC (.int 1)) (eCall F_take (aCons (eVar 0) (aCons (eC (.int 3)) aNil)))) aNil)) (gN 5) tYes' (eCall F_row (aCons (eVar 0) (aCons (eVar 1) aNil))) [5]
noncomputable def B_rows : Sx := (sSeq (sSet 2 E_rows_3) (sSeq (sSet 3 (eCB (topD maxI) (aCons E_rows_2 aNil))) (sSeq (sSet 4 (eMt isLA idxD E_rows_1 (aCons (eVar 3) aNil))) (sRet (eCB tupleD (aCons (eOp addD (eSlc (eVar 2) (oSome (eVar 4)) oNone) (eSlc (eVar 2) oNone (oSome (eVar 4)))) aNil))))))
noncomputable def F_rows : Fx := runF 2 7 B_rows
noncomputable def B_day : Sx := (sSeq (sSet 2 (eOp ixD (eOp ixD (eVar 1) (eCall F_take (aCons (eVar 0) (aCons (eCB lenD (aCons (eVar 1) aNil)) aNil)))) (eC (.int 0)))) (sRet (eCB (two minI) (aCons (eC (.int 99998)) (aCons (eOp ixD (eLst (aCons (eVar 2) (aCons (eOp addD (eVar 2) (eC (.int 1))) (aCons (eOp addD (eOp ixD (eOp ixD (eVar 1) (eUn negD (eC (.int 1)))) (eC (.int 0))) (eC (.int 400))) (aCons (eOp ixD (eOp ixD (eVar 1) (eUn negD (eC (.int 1)))) (eC (.int 0))) aNil))))) (eCall F_take (aCons (eVar 0) (aCons (eC (.int 4)) aNil)))) aNil)))))
noncomputable def F_day : Fx := runF 2 3 B_day
section
variable {ns : List Int} {s : Lx.St} {F : List Fo}
def fday (F : List Fo) (r : Rw) : Int := ((F[r.founder.toNat]?).map Fo.day).getD 0
theorem fday_at {r : Rw} (hr : RwOk F r) : ∃ f, f ∈ F ∧ F[r.founder.toNat]? = some f ∧ atI (F.map Fo.d) r.founder = some f.d ∧ f.day = fday F r := by
  obtain ⟨f, hf, e, a⟩ := fo_some hr.f0 hr.f1
  exact ⟨f, hf, e, a, by unfold fday; rw [e]; rfl⟩
theorem cut_from' {ds : List D} {k : Nat} (h : k ≤ ds.length) : cutD ds (some (k : Int)) none = ds.drop k := by
  unfold cutD
  rw [HT.sIx_nat, HT.sIx_none]
  rw [Nat.min_eq_left h]
  exact List.take_of_length_le (by simp)
theorem rows_spec {lim : Int} (hF : GoodHL lim F) (m : Mem) : ∃ (R : List Rw) (s' : Lx.St), F_rows [.r 0, .v (hD F)] (stD ns s :: m) = some (.v (.tup (R.map Rw.d)), stD ns s' :: m) ∧ 1 ≤ R.length ∧ R.length ≤ 3 ∧ (∀ r ∈ R, RwOk F r) ∧
    ∃ r0 rest, R = r0 :: rest ∧ ∀ r ∈ R, fday F r ≤ fday F r0 := by
  have t3 : ∀ m : Mem, F_take [.r 0, .v (.int 3)] (stD ns s :: m) = _ := fun m => take_eq (by decide) (by decide)
  have lo := tk_lo (ns := ns) (s := s) (b := 3)
  have hi := tk_hi (ns := ns) (s := s) (b := 3) (by decide) (by decide)
  obtain ⟨k, hk⟩ : ∃ k : Nat, 1 + (tk ns s 3).1 = (k : Int) := ⟨(1 + (tk ns s 3).1).toNat, by omega⟩
  have hk2 : (k : Int) ≤ 1000000000 := by omega
  obtain ⟨acc, m', e, R, s', rfl, rfl, hl, hok⟩ := lc_eff (src := iRngA (aCons (eOp addD (eC (.int 1)) (eCall F_take (aCons (eVar 0) (aCons (eC (.int 3)) aNil)))) aNil)) (t := gN 5) (c := tYes') (f := eCall F_row (aCons (eVar 0) (aCons (eVar 1) aNil))) (vs := [5])
    (ρ := [some (.r 0), some (.v (hD F)), none, none, none, none, none]) (m := stD ns s :: m) (m1 := stD ns (tk ns s 3).2 :: m) (List.range k) (fun i : Nat => D.int (i : Int))
    (fun i acc mm => ∃ (R : List Rw) (s' : Lx.St), acc = R.map Rw.d ∧ mm = stD ns s' :: m ∧ R.length = i ∧ ∀ n ∈ R, RwOk F n)
    (by simp [iRngA, aCons, aNil, eCall, eVar, eOp, eC, t3, hk, hk2, rng0]) ⟨[], _, rfl, rfl, rfl, fun n hn => nomatch hn⟩
    (fun i a acc mm inv => by
      obtain ⟨R, s', rfl, rfl, hl, hok⟩ := inv
      obtain ⟨n, s2, e1, e2⟩ := row_spec (ns := ns) (s := s') hF m
      refine ⟨_, .v n.d, n.d, stD ns s2 :: m, rfl, rfl, by simp [eCall, aCons, aNil, eVar, e1], rfl, R ++ [n], s2, by simp, rfl, by simp [hl], fun x hx => ?_⟩
      rcases List.mem_append.mp hx with z | z
      · exact hok x z
      · rw [List.mem_singleton.mp z]; exact e2) (by simp; omega)
  have hl' : R.length = k := by rw [hl]; simp
  have days : ∀ (x3 x4 : Option W), E_rows_2 [some (.r 0), some (.v (hD F)), some (.v (.lst (R.map Rw.d))), x3, x4, none, none] (stD ns s' :: m) = some (.f (lI (R.map (fday F))), stD ns s' :: m) := fun x3 x4 => by
    have q := lc_map (src := iSeq (eVar 2)) (t := gN 6) (c := tYes') (f := eOp ixD (eOp ixD (eVar 1) (eOp ixD (eVar 6) (eC (.int 0)))) (eC (.int 0))) (vs := [6]) (ρ := [some (.r 0), some (.v (hD F)), some (.v (.lst (R.map Rw.d))), x3, x4, none, none]) (m := stD ns s' :: m) (m1 := stD ns s' :: m)
      R Rw.d (fun _ => true) (fun r => .int (fday F r)) (by simp [iSeq, eVar]) (fun r hr => ⟨_, rfl, rfl, fun _ => by
        obtain ⟨f, hf, _, a, ed⟩ := fday_at (hok r hr)
        refine ⟨.v (.int (fday F r)), ?_, rfl⟩
        simp [eOp, eVar, eC, a, ed]⟩) (by omega)
    unfold E_rows_2
    rw [q, List.filter_eq_self.mpr (fun _ _ => rfl), lI, List.map_map]; rfl
  obtain ⟨r0, R', hR⟩ : ∃ r0 R', R = r0 :: R' := by
    cases R with
    | nil => simp at hl'; omega
    | cons r0 R' => exact ⟨r0, R', rfl⟩
  have allI_m : ∀ xs : List Int, allI (xs.map D.int) = some xs := fun xs => by
    induction xs with
    | nil => rfl
    | cons x xs ih => rw [List.map_cons, allI, ih]; rfl
  obtain ⟨top, ht, hmem, hge⟩ : ∃ top, topD maxI [lI (R.map (fday F))] = some (.v (.int top)) ∧ top ∈ R.map (fday F) ∧ ∀ z ∈ R.map (fday F), z ≤ top := by
    rw [hR, List.map_cons]
    obtain ⟨h1, h2, h3⟩ := fold_maxI (R'.map (fday F)) (fday F r0)
    refine ⟨(R'.map (fday F)).foldl maxI (fday F r0), ?_, ?_, ?_⟩
    · show (some ((fday F r0 :: R'.map (fday F)).map D.int)).bind (fun ds => (allI ds).bind fun is => match is with
        | [] => none
        | i :: is => some (W.v (D.int (is.foldl maxI i)))) = _
      simp only [Option.bind_some, allI_m]
    · rcases h1 with h | h
      · rw [h]; exact List.mem_cons_self
      · exact List.mem_cons_of_mem _ h
    · intro z hz
      rcases List.mem_cons.mp hz with h | h
      · rw [h]; exact h2
      · exact h3 z h
  obtain ⟨a, ha⟩ : ∃ a, (R.map (fday F)).findIdx? (fun j => j == top) = some a := by
    have : ((R.map (fday F)).findIdx? (fun j => j == top)).isSome = true := by
      rw [List.findIdx?_isSome, List.any_eq_true]
      exact ⟨top, hmem, by simp⟩
    exact Option.isSome_iff_exists.mp this
  obtain ⟨hal, hat, _⟩ := List.findIdx?_eq_some_iff_getElem.mp ha
  have hal' : a < R.length := by simpa using hal
  have ix : idxD (.f (lI (R.map (fday F)))) [.v (.int top)] (stD ns s' :: m) = some (.v (.int (a : Int)), stD ns s' :: m) := by
    show (some (lI (R.map (fday F)))).bind (fun d => (itmL d).bind fun ds => (allI ds).bind fun is => (some (D.int top)).bind fun x => match x with
      | .int i => (is.findIdx? fun j => j == i).bind fun k => some (W.v (.int (k : Int)), stD ns s' :: m)
      | _ => none) = _
    simp only [Option.bind_some, itmL_l, allI_m, ha]
  have isl : isLA (.f (lI (R.map (fday F)))) (stD ns s' :: m) = true := rfl
  have days1 : ∀ (x3 x4 : Option W), E_rows_1 [some (.r 0), some (.v (hD F)), some (.v (.lst (R.map Rw.d))), x3, x4, none, none] (stD ns s' :: m) = some (.f (lI (R.map (fday F))), stD ns s' :: m) := days
  have c1 := cut_from' (ds := R.map Rw.d) (k := a) (by simp; omega)
  have c2 := cut_take (ds := R.map Rw.d) (k := (a : Int)) (by omega) (by simp; omega)
  have e3 : E_rows_3 [some (.r 0), some (.v (hD F)), none, none, none, none, none] (stD ns s :: m) = some (.f (.lst (R.map Rw.d)), stD ns s' :: m) := e
  refine ⟨R.drop a ++ R.take a, s', ?_, by simp; omega, by simp; omega, fun r hr => ?_, ?_⟩
  · have ll : (R.drop a).length + (R.take a).length ≤ 1000000 := by simp; omega
    simp only [F_rows, runF, B_rows, startD]
    simp [sSeq, sSet, e3, eCB, aCons, aNil, days, ht, eMt, days1, isl, eVar, ix, sRet, eOp, eSlc, oSome, oNone, slcD, c1, c2, -List.map_take, -List.map_drop, -List.length_take, -List.length_drop]
    rw [if_pos (by simp; omega)]
    simp
  · rcases List.mem_append.mp hr with z | z
    · exact hok r (List.mem_of_mem_drop z)
    · exact hok r (List.mem_of_mem_take z)
  · have hd : R.drop a = R[a] :: R.drop (a + 1) := List.drop_eq_getElem_cons hal'
    refine ⟨R[a], R.drop (a + 1) ++ R.take a, by rw [hd]; rfl, fun r hr => ?_⟩
    have et : fday F R[a] = top := by simpa using hat
    rw [et]
    refine hge _ (List.mem_map.mpr ⟨r, ?_, rfl⟩)
    rcases List.mem_append.mp hr with z | z
    · exact List.mem_of_mem_drop z
    · exact List.mem_of_mem_take z
theorem day_spec (hF : GoodH F) (m : Mem) : ∃ (d : Int) (s' : Lx.St), F_day [.r 0, .v (hD F)] (stD ns s :: m) = some (.v (.int d), stD ns s' :: m) ∧ 0 ≤ d ∧ d ≤ 99998 ∧ ∃ f ∈ F, f.day ≤ d := by
  have l0 := hF.ne
  have l1 := hF.le
  have t1 : ∀ m : Mem, F_take [.r 0, .v (.int (F.length : Int))] (stD ns s :: m) = _ := fun m => take_eq (by omega) (by omega)
  have lo := tk_lo (ns := ns) (s := s) (b := F.length)
  have hi := tk_hi (ns := ns) (s := s) (b := F.length) (by omega) (by omega)
  obtain ⟨f, hf, _, ea⟩ := fo_some (F := F) lo hi
  have t2 : ∀ m : Mem, F_take [.r 0, .v (.int 4)] (stD ns (tk ns s F.length).2 :: m) = _ := fun m => take_eq (by decide) (by decide)
  obtain ⟨g, hg, eg⟩ : ∃ g, g ∈ F ∧ atI (F.map Fo.d) (-1) = some g.d := by
    have hl : F.length - 1 < F.length := by omega
    refine ⟨F[F.length - 1], List.getElem_mem hl, ?_⟩
    unfold atI ixN
    rw [if_neg (by decide), if_pos (by simp; omega), List.length_map]
    simp only [Option.bind_some]
    rw [show (-1 + (F.length : Int)).toNat = F.length - 1 by omega, List.getElem?_map, List.getElem?_eq_getElem hl]; rfl
  have f0 := (hF.ok f hf).d0
  have f1 := (hF.ok f hf).d1
  have g0 := (hF.ok g hg).d0
  have g1 := (hF.ok g hg).d1
  obtain ⟨x, hx, ex⟩ := pick_ex ns (tk ns s F.length).2 4 [.int f.day, .int (f.day + 1), .int (g.day + 400), .int g.day] rfl (by simp) (by simp)
  obtain ⟨z, rfl, hz, h, hh, hd⟩ : ∃ z : Int, x = .int z ∧ 0 ≤ z ∧ ∃ h ∈ F, h.day ≤ min 99998 z := by
    simp only [List.mem_cons, List.not_mem_nil, or_false] at hx
    rcases hx with h | h | h | h
    · exact ⟨_, h, by omega, f, hf, by omega⟩
    · exact ⟨_, h, by omega, f, hf, by omega⟩
    · exact ⟨_, h, by omega, g, hg, by omega⟩
    · exact ⟨_, h, by omega, g, hg, by omega⟩
  refine ⟨min 99998 z, (tk ns (tk ns s F.length).2 4).2, ?_, by omega, by omega, h, hh, hd⟩
  · simp only [F_day, runF, B_day, startD]
    simp [sSeq, sSet, eOp, eVar, eCall, aCons, aNil, eCB, t1, ea, eC, sRet, eLst, eUn, eg, t2, ex]
end
end Lr
end
section
set_option Elab.async false
set_option linter.all false
set_option maxRecDepth 100000
set_option maxHeartbeats 4000000
namespace K92
open PySem L2 Pw Pv Lx Lq Lt
open Ls
section
variable {ns : List Int} {s : Lx.St} {m : Mem} {F : List Fo} {B : List Nw}
def nwL (n : Nw) : List Str := [n.word, iS n.day, iS n.who] ++ if n.word = "awaits" then [nm n.other] else []
structure NwB (n : Nw) : Prop where
  w : WOk n.word
  d0 : 0 ≤ n.day
  d1 : n.day ≤ 1000000
  w0 : 0 ≤ n.who
  w1 : n.who ≤ 1000000
  o0 : -1 ≤ n.other
  o1 : n.other ≤ 1000000
theorem nwB (hF : GoodH F) (hB : GoodB F B) : ∀ n ∈ B, NwB n := fun n hn => by
  have ok := hB.ok n hn
  have le := hF.le
  have a := ok.d0
  have b := ok.d1
  have c := ok.w0
  have d := ok.w1
  have e := ok.o0
  have f := ok.o1
  refine ⟨?_, a, by omega, c, by omega, e, by omega⟩
  have := ok.word
  simp only [List.mem_cons, List.not_mem_nil, or_false] at this
  rcases this with z | z | z | z | z <;> rw [z] <;> exact wok_c _ (by decide)
theorem nw_ok {n : Nw} (h : NwB n) : LOk (nwL n) := by
  refine ⟨?_, fun w hw => ?_⟩
  · unfold nwL; split <;> simp
  · unfold nwL at hw
    rcases List.mem_append.mp hw with z | z
    · simp only [List.mem_cons, List.not_mem_nil, or_false] at z
      have := h.d0
      have := h.d1
      have := h.w0
      have := h.w1
      rcases z with rfl | rfl | rfl
      · exact h.w
      · exact wok_i (by omega) (by omega)
      · exact wok_i (by omega) (by omega)
    · split at z
      · rw [List.mem_singleton.mp z]; exact wok_nm h.o0 h.o1
      · cases z
theorem join_r {a : Str} {ys : List Str} {m : Mem} {n : Nat} (hm : m[n]? = some (.lst (ys.map .str))) (h : (ys.map (·.length)).sum + ys.length * a.length ≤ 16000000) : joinD (.v (.str a)) [.r n] m = some (.v (.str (Txt.join a ys)), m) := by
  show ((m[n]?).map moD).bind (fun d => (itmD d).bind fun ds => (Pw.allS ds).bind fun ys => if (ys.map (·.length)).sum + ys.length * a.length ≤ 16000000 then some (W.v (D.str (Txt.join a ys)), m) else none) = _
  rw [hm]
  simp only [Option.map_some, moD_l, Option.bind_some, itm_l, allS_map, if_pos h]
theorem news_line_spec {n : Nw} (h : NwB n) (m : Mem) : F_news_line [.v n.d] m = some (.v (.str (ln (nwL n))), m) := by
  have := h.d0
  have := h.d1
  have := h.w0
  have := h.w1
  have e1 := str_i (i := n.day) (by omega) (by omega)
  have e2 := str_i (i := n.who) (by omega) (by omega)
  have jl := (nw_ok h).sum
  simp only [F_news_line, runF, B_news_line, startD]
  by_cases hw : n.word = "awaits"
  · have w1 := who_spec h.o0 h.o1 (m ++ [.lst [.str "awaits", .str (iS n.day), .str (iS n.who)]])
    have el : nwL n = [("awaits" : Str), iS n.day, iS n.who, nm n.other] := by unfold nwL; rw [if_pos hw, hw]; rfl
    rw [el] at jl ⊢
    have j' : joinD (.v (.str " ")) [.r m.length] (m ++ [.lst [.str "awaits", .str (iS n.day), .str (iS n.who), .str (nm n.other)]]) = some (.v (.str (ln [("awaits" : Str), iS n.day, iS n.who, nm n.other])), m ++ [.lst [.str "awaits", .str (iS n.day), .str (iS n.who), .str (nm n.other)]]) :=
      join_r (by simp) jl
    simp [sSeq, sAsg, Nw.d, gT, gL, gN, eVar, hw, sSet, eOwn, eLst, aCons, aNil, eCB, e1, e2, sIf, tVal, eOp, eC, sDrop, eMt, eCall, w1, sRet, isStr, j']
  · have el : nwL n = [n.word, iS n.day, iS n.who] := by unfold nwL; rw [if_neg hw]; rfl
    rw [el] at jl ⊢
    have j' : joinD (.v (.str " ")) [.r m.length] (m ++ [.lst [.str n.word, .str (iS n.day), .str (iS n.who)]]) = some (.v (.str (ln [n.word, iS n.day, iS n.who])), m ++ [.lst [.str n.word, .str (iS n.day), .str (iS n.who)]]) :=
      join_r (by simp) jl
    simp [sSeq, sAsg, Nw.d, gT, gL, gN, eVar, hw, sSet, eOwn, eLst, aCons, aNil, eCB, e1, e2, sIf, tVal, eOp, eC, sNil, sRet, eMt, isStr, j']
theorem news_words_spec {n : Nw} (h : NwB n) (m : Mem) : ∃ w, F_news_words [.v n.d] m = some (w, m) ∧ vl w = some (rD (nwL n)) := by
  have := h.d0
  have := h.d1
  have := h.w0
  have := h.w1
  have e1 := str_i (i := n.day) (by omega) (by omega)
  have e2 := str_i (i := n.who) (by omega) (by omega)
  have w1 := name_spec h.o0 h.o1 m
  simp only [F_news_words, runF, B_news_words, startD]
  by_cases hw : n.word = "awaits"
  · have el : nwL n = [("awaits" : Str), iS n.day, iS n.who, nm n.other] := by unfold nwL; rw [if_pos hw, hw]; rfl
    rw [el]
    exact ⟨.f (rD [("awaits" : Str), iS n.day, iS n.who, nm n.other]), by simp [sRet, eOp, eLst, aCons, aNil, eVar, eC, eCB, e1, e2, eCall, w1, hw, mulD], rfl⟩
  · have el : nwL n = [n.word, iS n.day, iS n.who] := by unfold nwL; rw [if_neg hw]; rfl
    rw [el]
    exact ⟨.f (rD [n.word, iS n.day, iS n.who]), by simp [sRet, eOp, eLst, aCons, aNil, eVar, eC, eCB, e1, e2, eCall, w1, hw, mulD], rfl⟩
theorem bookT (hF : GoodH F) (hB : GoodB F B) : TOk (B.map nwL) := ⟨by have := hB.le; simp; omega, fun ws hw => by
  obtain ⟨n, hn, rfl⟩ := List.mem_map.mp hw
  exact nw_ok (nwB hF hB n hn)⟩
theorem book_text_spec (hF : GoodH F) (hB : GoodB F B) (m : Mem) : F_book_text [.v (bD B)] m = some (.v (.str (tx (B.map nwL))), m) := by
  have e : E_book_text_1 [some (.v (bD B)), none] m = some (.f (.lst (B.map fun f => .str (ln (nwL f)))), m) := by
    have q := lc_map (src := iSeq (eVar 0)) (t := gN 1) (c := tYes') (f := eCall F_news_line (aCons (eVar 1) aNil)) (vs := [1]) (ρ := [some (.v (bD B)), none]) (m := m) (m1 := m) B Nw.d (fun _ => true) (fun f => .str (ln (nwL f)))
      (by simp [iSeq, eVar]) (fun f hf => ⟨_, rfl, rfl, fun _ => ⟨.v (.str (ln (nwL f))), by
        have := news_line_spec (nwB hF hB f hf) m
        simp [eCall, aCons, aNil, eVar, this], rfl⟩⟩) (by have := hB.le; omega)
    unfold E_book_text_1
    rw [q, List.filter_eq_self.mpr (fun _ _ => rfl)]
  have t := text_of_spec (bookT hF hB) m
  rw [List.map_map] at t
  have t' : F_text_of [.v (.lst (B.map fun f => .str (ln (nwL f))))] m = some (.v (.str (tx (B.map nwL))), m) := t
  simp only [F_book_text, runF, B_book_text, startD]
  simp [sRet, eCall, aCons, aNil, e, t']
theorem l_book_text_spec (hF : GoodH F) (hB : GoodB F B) (m : Mem) : F_l_book_text [.v (bD B)] m = some (.v (.str (tx (B.map nwL))), m) := by
  have e : E_l_book_text_1 [some (.v (bD B)), none] m = some (.f (.lst (B.map fun f => rD (nwL f))), m) := by
    have q := lc_map (src := iSeq (eVar 0)) (t := gN 1) (c := tYes') (f := eCall F_news_words (aCons (eVar 1) aNil)) (vs := [1]) (ρ := [some (.v (bD B)), none]) (m := m) (m1 := m) B Nw.d (fun _ => true) (fun f => rD (nwL f))
      (by simp [iSeq, eVar]) (fun f hf => ⟨_, rfl, rfl, fun _ => by
        obtain ⟨w, q, v⟩ := news_words_spec (nwB hF hB f hf) m
        exact ⟨w, by simp [eCall, aCons, aNil, eVar, q], v⟩⟩) (by have := hB.le; omega)
    unfold E_l_book_text_1
    rw [q, List.filter_eq_self.mpr (fun _ _ => rfl)]
  have tt := text_items (Ls := B.map nwL) (m := m) (it := .seq (B.map fun f => rD (nwL f))) (w := .v (.lst (B.map fun f => rD (nwL f)))) (bookT hF hB) rfl rfl (by simp [List.map_map, Function.comp_def])
  simp only [F_l_book_text, runF, B_l_book_text, startD]
  simp [sRet, eCall, aCons, aNil, e, tt]
def rwL (r : Rw) : List Str := [iS r.founder, r.men, cnt r.wed, r.way]
theorem rw_ok (hF : GoodH F) {r : Rw} (h : RwOk F r) : LOk (rwL r) := by
  have := h.f0
  have := h.f1
  have := hF.le
  refine ⟨by simp [rwL], fun w hw => ?_⟩
  simp only [rwL, List.mem_cons, List.not_mem_nil, or_false] at hw
  rcases hw with rfl | rfl | rfl | rfl
  · exact wok_i (by omega) (by omega)
  · have := h.men
    simp only [List.mem_cons, List.not_mem_nil, or_false] at this
    rcases this with z | z | z <;> rw [z] <;> exact wok_c _ (by decide)
  · unfold cnt; split <;> exact wok_c _ (by decide)
  · have := h.way
    simp only [List.mem_cons, List.not_mem_nil, or_false] at this
    rcases this with z | z | z <;> rw [z] <;> exact wok_c _ (by decide)
theorem ruleT (hF : GoodH F) {R : List Rw} (hl : R.length ≤ 3) (hR : ∀ r ∈ R, RwOk F r) : TOk (R.map rwL) := ⟨by simp; omega, fun ws hw => by
  obtain ⟨n, hn, rfl⟩ := List.mem_map.mp hw
  exact rw_ok hF (hR n hn)⟩
theorem row_line_spec (hF : GoodH F) {r : Rw} (h : RwOk F r) (m : Mem) : F_row_line [.v r.d] m = some (.v (.str (ln (rwL r))), m) := by
  have := h.f0
  have := h.f1
  have := hF.le
  have e1 := str_i (i := r.founder) (by omega) (by omega)
  have j := join_l (a := " ") (ys := rwL r) (m := m) (rw_ok hF h).sum
  have a2 : atI [D.str "all", D.str "wed"] r.wed = some (.str (cnt r.wed)) := by
    rcases h.wed with z | z <;> rw [z] <;> rfl
  have j' : joinD (.v (.str " ")) [.v (.lst [.str (iS r.founder), .str r.men, .str (cnt r.wed), .str r.way])] m = some (.v (.str (ln (rwL r))), m) := j
  simp only [F_row_line, runF, B_row_line, startD]
  simp [sSeq, sAsg, Rw.d, gT, gL, gN, eVar, sRet, eMt, eC, isStr, aCons, aNil, eLst, eCB, e1, eOp, a2, j']
abbrev uD (R : List Rw) : D := .tup (R.map Rw.d)
theorem rule_text_spec (hF : GoodH F) {R : List Rw} (hl : R.length ≤ 3) (hR : ∀ r ∈ R, RwOk F r) (m : Mem) : F_rule_text [.v (uD R)] m = some (.v (.str (tx (R.map rwL))), m) := by
  have e : E_rule_text_1 [some (.v (uD R)), none] m = some (.f (.lst (R.map fun f => .str (ln (rwL f)))), m) := by
    have q := lc_map (src := iSeq (eVar 0)) (t := gN 1) (c := tYes') (f := eCall F_row_line (aCons (eVar 1) aNil)) (vs := [1]) (ρ := [some (.v (uD R)), none]) (m := m) (m1 := m) R Rw.d (fun _ => true) (fun f => .str (ln (rwL f)))
      (by simp [iSeq, eVar]) (fun f hf => ⟨_, rfl, rfl, fun _ => ⟨.v (.str (ln (rwL f))), by
        have := row_line_spec hF (hR f hf) m
        simp [eCall, aCons, aNil, eVar, this], rfl⟩⟩) (by omega)
    unfold E_rule_text_1
    rw [q, List.filter_eq_self.mpr (fun _ _ => rfl)]
  have t := text_of_spec (ruleT hF hl hR) m
  rw [List.map_map] at t
  have t' : F_text_of [.v (.lst (R.map fun f => .str (ln (rwL f))))] m = some (.v (.str (tx (R.map rwL))), m) := t
  simp only [F_rule_text, runF, B_rule_text, startD]
  simp [sRet, eCall, aCons, aNil, e, t']
theorem rows_text_spec (hF : GoodH F) {R : List Rw} (hl : R.length ≤ 3) (hR : ∀ r ∈ R, RwOk F r) (m : Mem) : F_rows_text [.v (uD R)] m = some (.v (.str (tx (R.map rwL))), m) := by
  have e : E_rows_text_1 [some (.v (uD R)), none, none, none, none] m = some (.f (.lst (R.map fun f => rD (rwL f))), m) := by
    have q := lc_map (src := iSeq (eVar 0)) (t := gT [gN 1, gN 2, gN 3, gN 4]) (c := tYes') (f := eLst (aCons (eCB strD (aCons (eVar 1) aNil)) (aCons (eVar 2) (aCons (eOp ixD (eLst (aCons (eC (.str "all")) (aCons (eC (.str "wed")) aNil))) (eVar 3)) (aCons (eVar 4) aNil))))) (vs := [1, 2, 3, 4]) (ρ := [some (.v (uD R)), none, none, none, none]) (m := m) (m1 := m) R Rw.d (fun _ => true) (fun f => rD (rwL f))
      (by simp [iSeq, eVar]) (fun r hr => ⟨_, rfl, rfl, fun _ => by
        have h := hR r hr
        have := h.f0
        have := h.f1
        have := hF.le
        have e1 := str_i (i := r.founder) (by omega) (by omega)
        have a2 : atI [D.str "all", D.str "wed"] r.wed = some (.str (cnt r.wed)) := by
          rcases h.wed with z | z <;> rw [z] <;> rfl
        exact ⟨.f (rD (rwL r)), by simp [eLst, aCons, aNil, eCB, eVar, e1, eOp, eC, a2, rwL], rfl⟩⟩) (by omega)
    unfold E_rows_text_1
    rw [q, List.filter_eq_self.mpr (fun _ _ => rfl)]
  have tt := text_items (Ls := R.map rwL) (m := m) (it := .seq (R.map fun f => rD (rwL f))) (w := .v (.lst (R.map fun f => rD (rwL f)))) (ruleT hF hl hR) rfl rfl (by simp [List.map_map, Function.comp_def])
  simp only [F_rows_text, runF, B_rows_text, startD]
  simp [sRet, eCall, aCons, aNil, e, tt]
end
end K92
end
section
set_option Elab.async false
set_option linter.all false
set_option maxRecDepth 100000
set_option maxHeartbeats 2000000
namespace Lt
open PySem L2 Pw Pv Lx Lq
open Ls
theorem app_inj {c : Nat} : ∀ {a b x y : List Nat}, c ∉ a → c ∉ b → a ++ c :: x = b ++ c :: y → a = b ∧ x = y
  | [], [], x, y, _, _, h => ⟨rfl, by simpa using h⟩
  | [], d :: b, x, y, _, hb, h => by
    have : c = d := by simpa using congrArg List.head? h
    exact absurd (this ▸ List.mem_cons_self) hb
  | d :: a, [], x, y, ha, _, h => by
    have : d = c := by simpa using congrArg List.head? h
    exact absurd (this ▸ List.mem_cons_self) ha
  | d :: a, e :: b, x, y, ha, hb, h => by
    have h1 : d = e := by simpa using congrArg List.head? h
    have h2 : a ++ c :: x = b ++ c :: y := by simpa using congrArg List.tail h
    obtain ⟨i, j⟩ := app_inj (fun z => ha (List.mem_cons_of_mem _ z)) (fun z => hb (List.mem_cons_of_mem _ z)) h2
    exact ⟨by rw [h1, i], j⟩
theorem str_eq {a b : Str} (h : a.cps.toList = b.cps.toList) : a = b := by
  cases a; cases b
  simp only at h
  congr 1
  exact Array.toList_inj.mp h
theorem app_list (a b : Str) : (a ++ b).cps.toList = a.cps.toList ++ b.cps.toList := by
  show (a.cps ++ b.cps).toList = _
  simp
theorem join_list (c : Nat) (x y : Str) (r : List Str) : (Str.join ⟨#[c]⟩ (x :: y :: r)).cps.toList = x.cps.toList ++ c :: (Str.join ⟨#[c]⟩ (y :: r)).cps.toList := by
  show (x ++ ⟨#[c]⟩ ++ Str.join ⟨#[c]⟩ (y :: r)).cps.toList = _
  rw [app_list, app_list]; simp
def Free (c : Nat) (q : Str) : Prop := c ∉ q.cps.toList
theorem join_uniq {c : Nat} : ∀ {ps qs : List Str}, ps ≠ [] → qs ≠ [] → (∀ p ∈ ps, Free c p) → (∀ q ∈ qs, Free c q) → Str.join ⟨#[c]⟩ ps = Str.join ⟨#[c]⟩ qs → ps = qs
  | [], _, h, _, _, _, _ => absurd rfl h
  | _, [], _, h, _, _, _ => absurd rfl h
  | [p], [q], _, _, _, _, h => by rw [show p = q from h]
  | [p], q :: q' :: r, _, _, hp, _, h => by
    have := congrArg (fun s : Str => s.cps.toList) h
    simp only [join_list] at this
    have hp' := hp p List.mem_cons_self
    unfold Free at hp'
    rw [show (Str.join ⟨#[c]⟩ [p]).cps.toList = p.cps.toList from rfl] at this
    rw [this] at hp'
    exact absurd (by simp) hp'
  | p :: p' :: r, [q], _, _, _, hq, h => by
    have := congrArg (fun s : Str => s.cps.toList) h
    simp only [join_list] at this
    have hq' := hq q List.mem_cons_self
    unfold Free at hq'
    rw [show (Str.join ⟨#[c]⟩ [q]).cps.toList = q.cps.toList from rfl] at this
    rw [← this] at hq'
    exact absurd (by simp) hq'
  | p :: p' :: r, q :: q' :: r', _, _, hp, hq, h => by
    have := congrArg (fun s : Str => s.cps.toList) h
    simp only [join_list] at this
    obtain ⟨h1, h2⟩ := app_inj (hp p List.mem_cons_self) (hq q List.mem_cons_self) this
    have ih := join_uniq (ps := p' :: r) (qs := q' :: r') (by simp) (by simp) (fun x hx => hp x (List.mem_cons_of_mem _ hx)) (fun x hx => hq x (List.mem_cons_of_mem _ hx)) (str_eq h2)
    rw [str_eq h1, ih]
theorem split_join {c : Nat} {qs : List Str} (hne : qs ≠ []) (hf : ∀ q ∈ qs, Free c q) : Txt.split (Str.join ⟨#[c]⟩ qs) ⟨#[c]⟩ = qs := by
  have h := StrLaws.join_split (Str.join ⟨#[c]⟩ qs) ⟨#[c]⟩
  refine join_uniq (fun z => ?_) hne (StrLaws.split_free _ c) hf h
  have := PyProof.Rows.split_pos (Str.join ⟨#[c]⟩ qs) ⟨#[c]⟩
  rw [z] at this
  simp at this
theorem split_ln {ws : List Str} (hne : ws ≠ []) (hf : ∀ w ∈ ws, Free 32 w) : Txt.split (ln ws) " " = ws := by
  unfold ln
  rw [TL.join_eq]
  exact split_join (c := 32) hne hf
theorem join_nl : ∀ (Ls : List Str), Str.join "" (Ls.map fun l => l ++ "\n") = Str.join "\n" (Ls ++ [("" : Str)])
  | [] => rfl
  | [x] => by
    refine str_eq ?_
    show (x ++ "\n" : Str).cps.toList = (x ++ "\n" ++ "" : Str).cps.toList
    rw [app_list (x ++ "\n")]
    simp [show ("" : Str).cps.toList = [] from rfl]
  | x :: y :: r => by
    have ih := join_nl (y :: r)
    show x ++ "\n" ++ "" ++ Str.join "" ((y :: r).map fun l => l ++ "\n") = x ++ "\n" ++ Str.join "\n" ((y :: r) ++ [("" : Str)])
    rw [ih]
    refine str_eq ?_
    rw [app_list, app_list, app_list, app_list, app_list]
    simp [show ("" : Str).cps.toList = [] from rfl]
theorem split_tx {Ls : List (List Str)} (hf : ∀ ws ∈ Ls, Free 10 (ln ws)) : Txt.split (tx Ls) "\n" = (Ls.map ln) ++ [("" : Str)] := by
  unfold tx
  rw [TL.join_eq]
  have : (Ls.map fun ws => ln ws ++ "\n") = (Ls.map ln).map fun l : Str => l ++ "\n" := by rw [List.map_map]; rfl
  rw [this, join_nl]
  refine split_join (c := 10) (by simp) fun q hq => ?_
  rcases List.mem_append.mp hq with h | h
  · obtain ⟨ws, hw, rfl⟩ := List.mem_map.mp h
    exact hf ws hw
  · rw [List.mem_singleton.mp h]
    exact fun z => nomatch z
theorem free_join {c d : Nat} (h : c ≠ d) : ∀ {ws : List Str}, (∀ w ∈ ws, Free c w) → Free c (Str.join ⟨#[d]⟩ ws)
  | [], _ => fun z => nomatch z
  | [w], hf => hf w List.mem_cons_self
  | w :: w' :: r, hf => by
    unfold Free
    rw [join_list]
    intro z
    rcases List.mem_append.mp z with z | z
    · exact hf w List.mem_cons_self z
    · rcases List.mem_cons.mp z with z | z
      · exact h z
      · exact free_join h (ws := w' :: r) (fun x hx => hf x (List.mem_cons_of_mem _ hx)) z
theorem free_ln {ws : List Str} (hf : ∀ w ∈ ws, Free 10 w) : Free 10 (ln ws) := by
  unfold ln
  rw [TL.join_eq]
  exact free_join (c := 10) (d := 32) (by decide) hf
theorem iS_list {n : Nat} : (iS (n : Int)).cps.toList = TL.numL n := TL.tl_num n
theorem free_i {i : Int} (h0 : 0 ≤ i) {c : Nat} (hc : c < 48 ∨ 57 < c) : Free c (iS i) := by
  obtain ⟨n, rfl⟩ := Int.eq_ofNat_of_zero_le h0
  unfold Free
  rw [iS_list]
  exact TL.numL_free hc
theorem int_i {i : Int} (h0 : 0 ≤ i) (h1 : i ≤ 99999) : (iS i).length ≤ 5 ∧ PySem.intText? (iS i) = some i := by
  obtain ⟨n, rfl⟩ := Int.eq_ofNat_of_zero_le h0
  have hl := TL.numL_len (n := n) (k := 5) (by decide) (by omega)
  have e : (iS (n : Int)).length = (TL.numL n).length := by rw [← iS_list]; simp [Str.length]
  exact ⟨by omega, TL.int_num (by omega)⟩
end Lt
end
section
set_option Elab.async false
set_option linter.all false
set_option maxRecDepth 100000
set_option maxHeartbeats 2000000
namespace Wk
open Pv
def lexN : List Nat → List Nat → Bool
  | [], [] => false
  | [], _ :: _ => true
  | _ :: _, [] => false
  | x :: xs, y :: ys => if x = y then lexN xs ys else decide (x < y)
abbrev zp (p : List Nat) : List Int := p.map fun n : Nat => (n : Int)
theorem lex_zp : ∀ p q : List Nat, iLex (zp p) (zp q) = lexN p q
  | [], [] => rfl
  | [], _ :: _ => rfl
  | _ :: _, [] => rfl
  | x :: xs, y :: ys => by
    show (if (x : Int) = (y : Int) then iLex (zp xs) (zp ys) else decide ((x : Int) < (y : Int))) = if x = y then lexN xs ys else decide (x < y)
    rw [lex_zp xs ys]
    by_cases h : x = y
    · subst h; simp
    · rw [if_neg (by omega), if_neg h]
      by_cases h2 : x < y <;> simp [h2] <;> omega
theorem zp_inj {p q : List Nat} (h : zp p = zp q) : p = q := by
  induction p generalizing q with
  | nil => cases q with
    | nil => rfl
    | cons y q => cases h
  | cons x p ih => cases q with
    | nil => cases h
    | cons y q =>
      simp only [zp, List.map_cons] at h
      injection h with h1 h2
      rw [ih h2]
      congr 1
      omega
theorem lexN_irr (p : List Nat) : lexN p p = false := by rw [← lex_zp]; exact iLex_irr _
theorem lexN_tr {p q r : List Nat} (h1 : lexN p q = true) (h2 : lexN q r = true) : lexN p r = true := by rw [← lex_zp] at *; exact iLex_tr _ _ _ h1 h2
theorem lexN_tot {p q : List Nat} (h1 : lexN p q = false) (h2 : lexN q p = false) : p = q := by rw [← lex_zp] at *; exact zp_inj (iLex_tot _ _ h1 h2)
theorem lexN_as {p q : List Nat} (h : lexN p q = true) : lexN q p = false := by rw [← lex_zp] at *; exact iLex_asym h
def le (p q : List Nat) : Prop := lexN q p = false
theorem le_refl (p : List Nat) : le p p := lexN_irr p
theorem le_of {p q : List Nat} (h : lexN p q = true) : le p q := lexN_as h
theorem le_cases {p q : List Nat} (h : le p q) : p = q ∨ lexN p q = true := by
  cases e : lexN p q with
  | true => exact .inr rfl
  | false => exact .inl (lexN_tot e h)
theorem le_tr {p q r : List Nat} (h1 : le p q) (h2 : le q r) : le p r := by
  rcases le_cases h1 with rfl | h1
  · exact h2
  · rcases le_cases h2 with rfl | h2
    · exact le_of h1
    · exact le_of (lexN_tr h1 h2)
theorem le_app (p r : List Nat) : le p (p ++ r) := by
  induction p with
  | nil => cases r <;> rfl
  | cons x p ih =>
    have ih' : lexN (p ++ r) p = false := ih
    show lexN (x :: (p ++ r)) (x :: p) = false
    simpa [lexN] using ih'
def nL : List Nat → List Nat → Bool
  | x :: xs, y :: ys => if x = y then nL xs ys else decide (x < y)
  | _, _ => false
theorem nL_lex : ∀ {p q : List Nat} (a b : List Nat), nL p q = true → lexN (p ++ a) (q ++ b) = true
  | x :: xs, y :: ys, a, b, h => by
    unfold nL at h
    show (if x = y then lexN (xs ++ a) (ys ++ b) else decide (x < y)) = true
    split at h
    · rename_i e; rw [if_pos e]; exact nL_lex a b h
    · rename_i e; rw [if_neg e]; exact h
  | [], _, _, _, h => by simp [nL] at h
  | _ :: _, [], _, _, h => by simp [nL] at h
theorem nL_of {p q : List Nat} : lexN p q = true → (∀ r, q ≠ p ++ r) → nL p q = true := by
  induction p generalizing q with
  | nil => intro _ h; exact absurd rfl (h q)
  | cons x p ih =>
    intro h hp
    cases q with
    | nil => simp [lexN] at h
    | cons y q =>
      unfold lexN at h
      unfold nL
      split at h
      · rename_i e
        rw [if_pos e]
        exact ih h fun r z => hp r (by rw [z, e]; rfl)
      · rename_i e; rw [if_neg e]; exact h
section
variable (S : Nat → List Nat)
def go : Nat → List Nat → Option Nat
  | w, [] => some w
  | w, k :: ks => ((S w)[k]?).bind fun c => go c ks
theorem go_app (w : Nat) (p q : List Nat) : go S w (p ++ q) = (go S w p).bind fun v => go S v q := by
  induction p generalizing w with
  | nil => rfl
  | cons k p ih =>
    show ((S w)[k]?).bind (fun c => go S c (p ++ q)) = _
    simp only [go]
    cases (S w)[k]? with
    | none => rfl
    | some c => exact ih c
theorem go_snoc (w : Nat) (p : List Nat) (k : Nat) : go S w (p ++ [k]) = (go S w p).bind fun v => (S v)[k]? := by
  rw [go_app]
  congr 1
  funext v
  simp only [go]
  cases (S v)[k]? <;> rfl
variable {S}
theorem snoc_of {w c : Nat} {q : List Nat} {k : Nat} (h : go S w (q ++ [k]) = some c) : ∃ v, go S w q = some v ∧ (S v)[k]? = some c := by
  rw [go_snoc] at h
  cases e : go S w q with
  | none => rw [e] at h; cases h
  | some v => rw [e] at h; exact ⟨v, rfl, h⟩
variable (up : ∀ v c, c ∈ S v → v < c)
include up
theorem go_up {w v : Nat} : ∀ {p : List Nat}, go S w p = some v → w ≤ v ∧ (p ≠ [] → w < v) := by
  intro p
  induction p generalizing w with
  | nil => intro h; cases h; exact ⟨Nat.le_refl _, fun z => absurd rfl z⟩
  | cons k p ih =>
    intro h
    simp only [go] at h
    cases e : (S w)[k]? with
    | none => rw [e] at h; cases h
    | some c =>
      rw [e] at h
      have a := up w c (List.mem_of_getElem? e)
      have b := (ih h).1
      exact ⟨by omega, fun _ => by omega⟩
theorem not_pre {w v : Nat} {p q : List Nat} (h1 : go S w p = some v) (h2 : go S w q = some v) (ne : p ≠ q) : ∀ r, q ≠ p ++ r := fun r z => by
  subst z
  rw [go_app, h1] at h2
  have := (go_up up (show go S v r = some v from h2)).2
  by_cases hr : r = []
  · subst hr; exact ne (by simp)
  · exact absurd (this hr) (Nat.lt_irrefl _)
theorem ext_le {w v : Nat} {p q : List Nat} (h1 : go S w p = some v) (h2 : go S w q = some v) (h : le p q) (k : Nat) : le (p ++ [k]) (q ++ [k]) := by
  rcases le_cases h with rfl | h
  · exact le_refl _
  · have ne : p ≠ q := fun z => by rw [z, lexN_irr] at h; cases h
    exact le_of (nL_lex [k] [k] (nL_of h (not_pre up h1 h2 ne)))
end
section
variable (S : Nat → List Nat) (f : Nat)
structure Dfs (V T : List (List Nat)) : Prop where
  vV : ∀ p ∈ V, ∃ v, go S f p = some v
  tV : ∀ p ∈ T, ∃ v, go S f p = some v
  tN : T.Pairwise fun p q => nL p q = true
  vS : V.Pairwise fun p q => lexN p q = true
  vt : ∀ p ∈ V, ∀ t ∈ T, lexN p t = true
  lst : ∀ p ∈ V, ∀ q v, go S f p = some v → go S f q = some v → le p q
  st : [] ∈ T ∨ ∃ p ∈ V, go S f p = some f ∧ le p []
  cov : ∀ p ∈ V, ∀ v k c, go S f p = some v → (S v)[k]? = some c → p ++ [k] ∈ T ∨ ∃ p' ∈ V, go S f p' = some c ∧ le p' (p ++ [k])
variable {S f}
theorem Dfs.start : Dfs S f [] [[]] := ⟨(fun _ h => by cases h), (fun p h => by rw [List.mem_singleton.mp h]; exact ⟨f, rfl⟩), by simp, List.Pairwise.nil, (fun _ h => by cases h), (fun _ h => by cases h), .inl (by simp), (fun _ h => by cases h)⟩
variable (up : ∀ v c, c ∈ S v → v < c)
include up
theorem Dfs.key {V T : List (List Nat)} (D : Dfs S f V T) : ∀ (n : Nat) (q : List Nat) (v : Nat), q.length = n → go S f q = some v → (∃ p ∈ V, go S f p = some v ∧ le p q) ∨ ∃ t ∈ T, le t q := by
  intro n
  induction n with
  | zero =>
    intro q v hl h
    have : q = [] := List.eq_nil_of_length_eq_zero hl
    subst this
    cases h
    rcases D.st with z | z
    · exact .inr ⟨[], z, le_refl _⟩
    · exact .inl z
  | succ n ih =>
    intro q v hl h
    obtain ⟨q0, k, rfl⟩ : ∃ q0 k, q = q0 ++ [k] := by
      have hne : q ≠ [] := fun z => by rw [z] at hl; cases hl
      exact ⟨q.dropLast, q.getLast hne, (List.dropLast_concat_getLast hne).symm⟩
    obtain ⟨u, hu, hk⟩ := snoc_of h
    rcases ih q0 u (by simpa using hl) hu with ⟨p, hp, hpu, hle⟩ | ⟨t, ht, hle⟩
    · have e := ext_le up hpu hu hle k
      rcases D.cov p hp u k v hpu hk with z | ⟨p', h1, h2, h3⟩
      · exact .inr ⟨_, z, e⟩
      · exact .inl ⟨p', h1, h2, le_tr h3 e⟩
    · exact .inr ⟨t, ht, le_tr hle (le_app _ _)⟩
theorem Dfs.all {V : List (List Nat)} (D : Dfs S f V []) {q : List Nat} {v : Nat} (h : go S f q = some v) : ∃ p ∈ V, go S f p = some v ∧ le p q := by
  rcases D.key up q.length q v rfl h with z | ⟨t, ht, _⟩
  · exact z
  · cases ht
end
end Wk
end
section
set_option Elab.async false
set_option linter.all false
set_option maxRecDepth 100000
set_option maxHeartbeats 2000000
namespace Wk
open Pv
section
variable (S : Nat → List Nat) (f : Nat)
def Pq (u j : Nat) (q : List Nat) : Prop := q = [] ∨ ∃ q0 k v, q = q0 ++ [k] ∧ go S f q0 = some v ∧ (v < u ∨ (v = u ∧ k < j))
structure Ki (u j : Nat) (g : Nat → Option (List Nat)) : Prop where
  k1 : ∀ w p, g w = some p → go S f p = some w ∧ Pq S f u j p
  k2 : ∀ w q, go S f q = some w → Pq S f u j q → ∃ p, g w = some p ∧ le p q
variable {S f}
theorem Ki.start : Ki S f 0 0 fun w => if w = f then some [] else none := by
  refine ⟨fun w p h => ?_, fun w q h hq => ?_⟩
  · split at h
    · rename_i e; cases h; subst e; exact ⟨rfl, .inl rfl⟩
    · cases h
  · rcases hq with rfl | ⟨q0, k, v, rfl, _, z | z⟩
    · cases h; exact ⟨[], by simp, le_refl _⟩
    · omega
    · omega
theorem Pq.next {u : Nat} {q : List Nat} {w : Nat} (h : go S f q = some w) : Pq S f u (S u).length q ↔ Pq S f (u + 1) 0 q := by
  constructor
  · rintro (z | ⟨q0, k, v, e, e1, z⟩)
    · exact .inl z
    · exact .inr ⟨q0, k, v, e, e1, .inl (by omega)⟩
  · rintro (z | ⟨q0, k, v, e, e1, z⟩)
    · exact .inl z
    · refine .inr ⟨q0, k, v, e, e1, ?_⟩
      rcases z with z | z
      · by_cases hv : v < u
        · exact .inl hv
        · have : v = u := by omega
          subst this
          rw [e] at h
          obtain ⟨v', h1, h2⟩ := snoc_of h
          rw [e1] at h1
          cases h1
          exact .inr ⟨rfl, (List.getElem?_eq_some_iff.mp h2).1⟩
      · omega
theorem Ki.next {u : Nat} {g : Nat → Option (List Nat)} (K : Ki S f u (S u).length g) : Ki S f (u + 1) 0 g :=
  ⟨fun w p h => ⟨(K.k1 w p h).1, (Pq.next (K.k1 w p h).1).mp (K.k1 w p h).2⟩, fun w q h hq => K.k2 w q h ((Pq.next h).mpr hq)⟩
variable (up : ∀ v c, c ∈ S v → v < c)
include up
theorem Pq.own {u j : Nat} {q : List Nat} (h : go S f q = some u) : Pq S f u j q := by
  by_cases hq : q = []
  · exact .inl hq
  · have e := (List.dropLast_concat_getLast hq).symm
    rw [e] at h
    obtain ⟨v, h1, h2⟩ := snoc_of h
    exact .inr ⟨_, _, v, e, h1, .inl (up v u (List.mem_of_getElem? h2))⟩
theorem Ki.turn {u j c : Nat} {g : Nat → Option (List Nat)} {pu : List Nat} (K : Ki S f u j g) (hu : g u = some pu) (hc : (S u)[j]? = some c) (g' : Nat → Option (List Nat))
    (hg : (g c = none ∨ ∃ p, g c = some p ∧ lexN (pu ++ [j]) p = true) ∧ g' = (fun w => if w = c then some (pu ++ [j]) else g w) ∨ (∃ p, g c = some p ∧ lexN (pu ++ [j]) p = false) ∧ g' = g) : Ki S f u (j + 1) g' ∧ g' u = some pu := by
  have huc := up u c (List.mem_of_getElem? hc)
  have gpu := (K.k1 u pu hu).1
  have cand : go S f (pu ++ [j]) = some c := by rw [go_snoc, gpu]; exact hc
  have more : ∀ q, Pq S f u j q → Pq S f u (j + 1) q := fun q h => by
    rcases h with z | ⟨q0, k, v, e, e1, z⟩
    · exact .inl z
    · exact .inr ⟨q0, k, v, e, e1, by omega⟩
  have split' : ∀ w q, go S f q = some w → Pq S f u (j + 1) q → Pq S f u j q ∨ (w = c ∧ le (pu ++ [j]) q) := fun w q h hq => by
    rcases hq with z | ⟨q0, k, v, e, e1, z⟩
    · exact .inl (.inl z)
    · by_cases hk : v = u ∧ k = j
      · obtain ⟨rfl, rfl⟩ := hk
        rw [e, go_snoc, e1] at h
        have hw : (S v)[k]? = some w := h
        rw [hc] at hw
        cases hw
        obtain ⟨p, hp, hl⟩ := K.k2 v q0 e1 (Pq.own up e1)
        rw [hu] at hp
        cases hp
        exact .inr ⟨rfl, by rw [e]; exact ext_le up gpu e1 hl k⟩
      · exact .inl (.inr ⟨q0, k, v, e, e1, by omega⟩)
  rcases hg with ⟨h, rfl⟩ | ⟨⟨p0, h0, h1⟩, rfl⟩
  · refine ⟨⟨fun w p hp => ?_, fun w q hq hP => ?_⟩, ?_⟩
    · split at hp
      · rename_i e
        cases hp
        subst e
        exact ⟨cand, .inr ⟨pu, j, u, rfl, gpu, .inr ⟨rfl, by omega⟩⟩⟩
      · exact ⟨(K.k1 w p hp).1, more p (K.k1 w p hp).2⟩
    · rcases split' w q hq hP with z | ⟨rfl, z⟩
      · obtain ⟨p, hp, hl⟩ := K.k2 w q hq z
        by_cases e : w = c
        · subst e
          refine ⟨pu ++ [j], by simp, ?_⟩
          rcases h with h | ⟨p', h, h'⟩
          · rw [h] at hp; cases hp
          · rw [h] at hp; cases hp; exact le_tr (le_of h') hl
        · exact ⟨p, by simp [e, hp], hl⟩
      · exact ⟨pu ++ [j], by simp, z⟩
    · show (if u = c then some (pu ++ [j]) else g u) = some pu
      rw [if_neg (by omega)]
      exact hu
  · refine ⟨⟨fun w p hp => ⟨(K.k1 w p hp).1, more p (K.k1 w p hp).2⟩, fun w q hq hP => ?_⟩, hu⟩
    rcases split' w q hq hP with z | ⟨rfl, z⟩
    · exact K.k2 w q hq z
    · exact ⟨p0, h0, le_tr h1 z⟩
theorem Ki.all {n : Nat} {g : Nat → Option (List Nat)} (K : Ki S f n 0 g) (lt : ∀ v c, c ∈ S v → c < n) : ∀ w q, go S f q = some w → ∃ p, g w = some p ∧ le p q := fun w q h => by
  refine K.k2 w q h ?_
  by_cases hq : q = []
  · exact .inl hq
  · have e := (List.dropLast_concat_getLast hq).symm
    have h' := h
    rw [e] at h'
    obtain ⟨v, h1, h2⟩ := snoc_of h'
    have m := List.mem_of_getElem? h2
    have := up v w m
    have := lt v w m
    exact .inr ⟨_, _, v, e, h1, .inl (by omega)⟩
end
def endOf (S : Nat → List Nat) (f : Nat) (p : List Nat) : Nat := (go S f p).getD 0
theorem nd_len : ∀ (n : Nat) (l : List Nat), l.Nodup → (∀ x ∈ l, x < n) → l.length ≤ n
  | 0, [], _, _ => Nat.le_refl _
  | 0, x :: _, _, h => absurd (h x List.mem_cons_self) (Nat.not_lt_zero _)
  | n + 1, l, nd, h => by
    by_cases hn : n ∈ l
    · have := nd_len n (l.erase n) (nd.erase n) fun x hx => by
        obtain ⟨a, b⟩ := (nd.mem_erase_iff).mp hx
        have := h x b
        omega
      rw [List.length_erase_of_mem hn] at this
      omega
    · have := nd_len n l nd fun x hx => by
        have a := h x hx
        have : x ≠ n := fun z => hn (z ▸ hx)
        omega
      omega
end Wk
end
section
set_option Elab.async false
set_option linter.all false
set_option maxRecDepth 100000
set_option maxHeartbeats 4000000
namespace Lv
open PySem L2 Pw Pv Lx Ls Lq Wk
section
variable (S : Nat → List Nat)
variable {S}
end
section
variable {S : Nat → List Nat} {f n : Nat}
abbrev PS2 := List (List Nat) × List (List Nat)
structure Ok (S : Nat → List Nat) (f n : Nat) (s : PS2) : Prop where
  d : Dfs S f s.1 s.2
  l : s.2.length ≤ 1 + s.1.length * 120
  nd : (s.1.map (endOf S f)).Nodup
theorem end_eq {p : List Nat} {v : Nat} (h : go S f p = some v) : endOf S f p = v := by unfold endOf; rw [h]; rfl
variable (up : ∀ v c, c ∈ S v → v < c) (lt : ∀ v c, c ∈ S v → c < n) (hf : f < n) (hn : n ≤ 60) (hs : ∀ v, (S v).length ≤ 120)
theorem end_lt (lt : ∀ v c, c ∈ S v → c < n) (hf : f < n) {p : List Nat} {v : Nat} (h : go S f p = some v) : v < n := by
  by_cases hp : p = []
  · subst hp; cases h; exact hf
  · rw [(List.dropLast_concat_getLast hp).symm] at h
    obtain ⟨u, _, h2⟩ := snoc_of h
    exact lt u v (List.mem_of_getElem? h2)
theorem Ok.len {s : PS2} (o : Ok S f n s) (lt : ∀ v c, c ∈ S v → c < n) (hf : f < n) : s.1.length ≤ n := by
  have := nd_len n (s.1.map (endOf S f)) o.nd fun x hx => by
    obtain ⟨p, hp, rfl⟩ := List.mem_map.mp hx
    obtain ⟨v, hv⟩ := o.d.vV p hp
    rw [end_eq hv]
    exact end_lt lt hf hv
  simpa using this
include up lt hf hn hs
end
end Lv
end
section
set_option Elab.async false
set_option linter.all false
set_option maxRecDepth 100000
set_option maxHeartbeats 4000000
namespace Lv
open PySem L2 Pw Pv Lx Ls Lq Wk
end Lv
end
section
set_option Elab.async false
set_option linter.all false
set_option maxRecDepth 100000
set_option maxHeartbeats 4000000
namespace Lv
open PySem L2 Pw Pv Lx Ls Lq Wk
section
variable {F : List Fo} {B : List Nw} {r : Rw} {day : Int}
abbrev f0 (r : Rw) : Nat := r.founder.toNat
def fborn (F : List Fo) (r : Rw) (day : Int) : Bool := match F[f0 r]? with
  | some f => decide (f.day ≤ day)
  | none => false
def IsWalk (F : List Fo) (B : List Nw) (r : Rw) (day : Int) (V : List (List Nat)) : Prop :=
  if fborn F r day = true then Dfs (stepsOf F B r day) (f0 r) V [] else V = []
abbrev walkN (F : List Fo) (B : List Nw) (r : Rw) (day : Int) (V : List (List Nat)) : List Nat := V.map (endOf (stepsOf F B r day) (f0 r))
end
end Lv
end
section
set_option Elab.async false
set_option linter.all false
set_option maxRecDepth 100000
set_option maxHeartbeats 4000000
namespace Lz
open PySem L2 Pw Pv Lx Ls Lq Wk Lv
section
variable {F : List Fo} {B : List Nw} {r : Rw} {day : Int} {m : Mem}
end
end Lz
end
section
set_option Elab.async false
set_option linter.all false
set_option maxRecDepth 100000
set_option maxHeartbeats 4000000
namespace Lz
open PySem L2 Pw Pv Lx Ls Lq Wk Lv
section
variable {α : Type} {src : Ix} {t : Gx} {c : Tx} {f : Ex} {vs : List Nat}
theorem lcL_mapI {it : Itm} {xs : List D} (g : α → D) (sel : α → Bool) (val : α → D) {ρ : Pw.Env} {m : Mem} (hit : itemsAt it m = some xs) : ∀ (L : List α) (acc : List D), (∀ a ∈ L, ∃ ρ1, t (g a) ρ = some ρ1 ∧ c ρ1 m = some (sel a, m) ∧ (sel a = true → ∃ w, f ρ1 m = some (w, m) ∧ vl w = some (val a))) → acc.length + L.length ≤ 1000000 →
    lcL it xs t c f ρ (L.map g) acc m = some (acc ++ (L.filter sel).map val, m)
  | [], acc, _, _ => by simp [lcL, hit]
  | a :: L, acc, h, hl => by
    obtain ⟨ρ1, h1, h2, h3⟩ := h a List.mem_cons_self
    have hl' : acc.length + L.length + 1 ≤ 1000000 := by simpa [Nat.add_assoc] using hl
    rw [List.map_cons]
    unfold lcL
    rw [if_pos hit, h1]
    simp only [Option.bind_some, h2]
    cases hs : sel a with
    | true =>
      obtain ⟨w, e1, e2⟩ := h3 hs
      simp only [if_true, e1, Option.bind_some, e2]
      rw [if_pos (by omega), lcL_mapI g sel val hit L (acc ++ [val a]) (fun a ha => h a (List.mem_cons_of_mem _ ha)) (by simp; omega)]
      simp [List.filter_cons, hs]
    | false =>
      simp only [Bool.false_eq_true, if_false]
      rw [lcL_mapI g sel val hit L acc (fun a ha => h a (List.mem_cons_of_mem _ ha)) (by omega)]
      simp [List.filter_cons, hs]
theorem lc_mapI {it : Itm} {ρ : Pw.Env} {m m1 : Mem} (L : List α) (g : α → D) (sel : α → Bool) (val : α → D) (hs : src ρ m = some (it, m1)) (hit : itemsAt it m1 = some (L.map g)) (h : ∀ a ∈ L, ∃ ρ1, t (g a) (wipeD ρ vs) = some ρ1 ∧ c ρ1 m1 = some (sel a, m1) ∧ (sel a = true → ∃ w, f ρ1 m1 = some (w, m1) ∧ vl w = some (val a))) (hl : L.length ≤ 1000000) :
    eLc src t c f vs ρ m = some (.f (.lst ((L.filter sel).map val)), m1) := by
  unfold eLc
  rw [hs]
  simp only [Option.bind_some, hit]
  rw [lcL_mapI g sel val hit L [] h (by simpa using hl)]
  simp
end
section
variable {F : List Fo} {B : List Nw} {r : Rw} {day : Int} {m : Mem}
end
end Lz
end
section
set_option Elab.async false
set_option linter.all false
set_option maxRecDepth 100000
set_option maxHeartbeats 4000000
namespace K92
open PySem L2 Pw Pv Lx Lq Lt
open Ls
section
variable {ns : List Int} {s : Lx.St} {m : Mem} {F : List Fo} {B : List Nw}
theorem all_at {α : Type} {src : Ix} {t : Gx} {f : Ex} {vs : List Nat} {ρ : Pw.Env} {m : Mem} (L : List α) (g : α → D) (hs : src ρ m = some (.seq (L.map g), m)) (h : ∀ a ∈ L, ∃ ρ1, t (g a) (wipeD ρ vs) = some ρ1 ∧ f ρ1 m = some (.v (.bl true), m)) : eAll true src t tYes' f vs ρ m = some (.v (.bl true), m) := by
  have q := Ls.allL_map (xs := L.map g) (t := t) (c := tYes') (f := f) g (fun _ => true) (ρ := wipeD ρ vs) (m := m) L (fun a ha => by
    obtain ⟨ρ1, h1, h2⟩ := h a ha
    exact ⟨ρ1, h1, rfl, h2⟩)
  unfold eAll
  rw [hs]
  simp only [Option.bind_some, items_seq]
  rw [q]
  simp
theorem head_num : ∀ n : Nat, 1 ≤ n → ∃ c cs, TL.numL n = c :: cs ∧ c ≠ 48 := by
  intro n
  induction n using Nat.strongRecOn with
  | _ n ih =>
    intro h
    by_cases hn : n < 10
    · rw [TL.numL_lt hn]
      exact ⟨_, [], rfl, by omega⟩
    · obtain ⟨c, cs, e, hc⟩ := ih (n / 10) (by omega) (by omega)
      rw [TL.numL_step (by omega), e]
      exact ⟨c, cs ++ [48 + n % 10], rfl, hc⟩
theorem sgn_ok {c : Nat} (h : 48 ≤ c ∧ c ≤ 57) {ρ : Pw.Env} (m : Mem) (h1 : ρ[1]? = some (some (.v (.str ⟨#[c]⟩)))) : eChain leSD leSD (eC (.str "0")) (eVar 1) (eC (.str "9")) ρ m = some (.v (.bl true), m) := by
  have e1 : leSD (.str "0") (.str ⟨#[c]⟩) = some (.v (.bl true)) := by
    show some (W.v (.bl (!decide ([c] < [48])))) = _
    have : ¬ ([c] < [48]) := by
      intro z
      rw [List.cons_lt_cons_iff] at z
      rcases z with z | ⟨_, z⟩
      · omega
      · exact absurd z (List.not_lt_nil _)
    rw [decide_eq_false this]; rfl
  have e2 : leSD (.str ⟨#[c]⟩) (.str "9") = some (.v (.bl true)) := by
    show some (W.v (.bl (!decide ([57] < [c])))) = _
    have : ¬ ([57] < [c]) := by
      intro z
      rw [List.cons_lt_cons_iff] at z
      rcases z with z | ⟨_, z⟩
      · omega
      · exact absurd z (List.not_lt_nil _)
    rw [decide_eq_false this]; rfl
  simp [eChain, eC, eVar, h1, e1, e2]
theorem written_spec {i : Int} (h0 : 0 ≤ i) (h1 : i ≤ 1000000) (m : Mem) : F_is_written_number [.v (.str (iS i))] m = some (.v (.bl true), m) := by
  obtain ⟨n, rfl⟩ := Int.eq_ofNat_of_zero_le h0
  have hl : (iS (n : Int)).cps.toList = TL.numL n := iS_list
  have a : eAll true (iSgn (eVar 0)) (gN 1) tYes' (eChain leSD leSD (eC (.str "0")) (eVar 1) (eC (.str "9"))) [1] [some (.v (.str (iS (n : Int)))), none] m = some (.v (.bl true), m) :=
    all_at (TL.numL n) (fun c => .str ⟨#[c]⟩) (by
      show some (Itm.seq (sgD (iS (n : Int))), m) = _
      unfold sgD
      rw [hl]) (fun c hc => ⟨_, rfl, sgn_ok (TL.numL_digits n c hc) m rfl⟩)
  have a' : E_is_written_number_1 [some (.v (.str (iS (n : Int)))), none] m = some (.v (.bl true), m) := a
  have ne : ¬ (iS (n : Int)) = "" := fun z => by
    have := TL.numL_ne n
    rw [← hl, z] at this
    exact this rfl
  by_cases hz : n = 0
  · subst hz
    have e : iS ((0 : Nat) : Int) = "0" := rfl
    rw [e] at a' ne ⊢
    simp only [F_is_written_number, runF, B_is_written_number, startD]
    simp [sSeq, sIf, tOr', tVal, eOp, eVar, eC, tNot', tTru, a', truD, sNil, sRet, eOr, outW, ne]
  · obtain ⟨c, cs, e, hc⟩ := head_num n (by omega)
    have n0 : ¬ (iS (n : Int)) = "0" := fun z => by
      rw [z] at hl
      have : [48] = TL.numL n := hl
      rw [e] at this
      cases this
      exact hc rfl
    have ix : ixSD (.str (iS (n : Int))) (.int 0) = some (.v (.str ⟨#[c]⟩)) := by
      have ln : (iS (n : Int)).length ≤ 1000000 := by have := (wok_i (i := (n : Int)) (by omega) h1).len; omega
      show (if (iS (n : Int)).length ≤ 1000000 then (atI (iS (n : Int)).cps.toList 0).bind fun c => some (W.v (.str ⟨#[c]⟩)) else none) = _
      rw [if_pos ln, hl, e]
      show (atI (c :: cs) ((0 : Nat) : Int)).bind _ = _
      rw [at_nat (x := c) rfl]; rfl
    have nc : ¬ ((⟨#[c]⟩ : Str) = "0") := fun z => by
      have : [c] = [48] := congrArg (fun s : Str => s.cps.toList) z
      cases this
      exact hc rfl
    generalize iS (n : Int) = w at *
    simp only [F_is_written_number, runF, B_is_written_number, startD]
    simp [sSeq, sIf, tOr', tVal, eOp, eVar, eC, tNot', tTru, a', truD, sNil, sRet, eOr, outW, ne, n0, ix, nc]
end
end K92
end
section
set_option Elab.async false
set_option linter.all false
set_option maxRecDepth 100000
set_option maxHeartbeats 4000000
namespace K92
open PySem L2 Pw Pv Lx Lq Lt
open Ls
section
variable {ns : List Int} {s : Lx.St} {m : Mem} {F : List Fo} {B : List Nw}
theorem nm_i {i : Int} (h : 0 ≤ i) : nm i = iS i := if_neg (by omega)
theorem dash_ne {i : Int} (h : 0 ≤ i) : ¬ iS i = "-" := fun z => by
  have := free_i h (c := 45) (by omega)
  unfold Free at this
  rw [z] at this
  exact this (by decide)
theorem written_who {i : Int} (h0 : -1 ≤ i) (h1 : i ≤ 99999) (m : Mem) : F_is_written_who [.v (.str (nm i))] m = some (.v (.bl true), m) := by
  by_cases h : i = -1
  · subst h
    rw [show nm (-1) = "-" from rfl]
    simp only [F_is_written_who, runF, B_is_written_who, startD]
    simp [sRet, eOr, tVal, eOp, eVar, eC, outW]
  · have w := written_spec (i := i) (by omega) (by omega) m
    have ne := dash_ne (i := i) (by omega)
    rw [nm_i (by omega)]
    generalize iS i = x at *
    simp only [F_is_written_who, runF, B_is_written_who, startD]
    simp [sRet, eOr, tVal, eOp, eVar, eC, ne, eCall, aCons, aNil, w, outW]
theorem number_of_spec {i : Int} (h0 : 0 ≤ i) (h1 : i ≤ 99999) (m : Mem) : F_number_of [.v (.str (iS i))] m = some (.v (.int i), m) := by
  obtain ⟨hl, e⟩ := int_i h0 h1
  have l1 : lenSD [.str (iS i)] = some (.v (.int ((iS i).length : Int))) := if_pos (by omega)
  have l2 : intSD [.str (iS i)] = some (.v (.int i)) := by
    show (if (iS i).length ≤ 640 then (PySem.intText? (iS i)).bind fun n => some (W.v (.int n)) else none) = _
    rw [if_pos (by omega), e]; rfl
  have c : ((iS i).length : Int) ≤ 5 := by omega
  generalize iS i = x at *
  simp only [F_number_of, runF, B_number_of, startD]
  simp [sRet, eIf, tVal, eOp, eCB, aCons, aNil, eVar, eC, l1, l2, c, outW]
theorem who_of_spec {i : Int} (h0 : -1 ≤ i) (h1 : i ≤ 99999) (m : Mem) : F_who_of [.v (.str (nm i))] m = some (.v (.int i), m) := by
  by_cases h : i = -1
  · subst h
    rw [show nm (-1) = "-" from rfl]
    simp only [F_who_of, runF, B_who_of, startD]
    simp [sRet, eIf, tVal, eOp, eVar, eC, eUn, negD, outW]
  · have w := number_of_spec (i := i) (by omega) h1 m
    have ne := dash_ne (i := i) (by omega)
    rw [nm_i (by omega)]
    generalize iS i = x at *
    simp only [F_who_of, runF, B_who_of, startD]
    simp [sRet, eIf, tVal, eOp, eVar, eC, ne, eCall, aCons, aNil, w, outW]
structure WRd (w : Str) : Prop where
  len : w.length ≤ 10
  f1 : Free 32 w
  f2 : Free 10 w
theorem ln_len {ws : List Str} (hl : ws.length ≤ 5) (h : ∀ w ∈ ws, WRd w) : (ln ws).length ≤ 60 := by
  have s := sum_le (n := 10) (ys := ws) fun y hy => (h y hy).len
  have e : (" " : Str).length = 1 := rfl
  unfold ln
  rw [TL.join_eq]
  refine Nat.le_trans len_join ?_
  rw [e]; omega
theorem tx_len {Ls : List (List Str)} (hT : TOk Ls) (h : ∀ ws ∈ Ls, ∀ w ∈ ws, WRd w) : (tx Ls).length ≤ 100000 := by
  have s := sum_le (n := 61) (ys := Ls.map fun ws => ln ws ++ "\n") fun y hy => by
    obtain ⟨ws, hw, rfl⟩ := List.mem_map.mp hy
    rw [Str.length_append, nl_len]
    have := ln_len (hT.ok ws hw).len (h ws hw)
    omega
  have l := hT.len
  have e : ("" : Str).length = 0 := rfl
  rw [List.length_map] at s
  unfold tx
  rw [TL.join_eq]
  refine Nat.le_trans len_join ?_
  rw [e]; omega
theorem lines_spec {Ls : List (List Str)} (hT : TOk Ls) (hne : ∀ ws ∈ Ls, ws ≠ []) (hf : ∀ ws ∈ Ls, ∀ w ∈ ws, WRd w) (m : Mem) : F_lines_of [.v (.str (tx Ls))] m = some (.f (.lst (Ls.map rD)), m) := by
  have hx := tx_len hT hf
  have s1 := split_tx (Ls := Ls) fun ws hw => free_ln fun w hw' => (hf ws hw w hw').f2
  have d1 : splitD (.v (.str (tx Ls))) [.v (.str "\n")] m = some (.f (.lst (((Ls.map ln) ++ [("" : Str)]).map .str)), m) := by
    show (if (("\n" : Str).length == 0) = false ∧ (tx Ls).length ≤ 100000 then some (W.f (.lst ((Txt.split (tx Ls) "\n").map .str)), m) else none) = _
    rw [if_pos ⟨rfl, hx⟩, s1]
  have g0 : (m ++ [MO.lst ((Ls.map ln).map D.str)])[m.length]? = some (.lst ((Ls.map ln).map D.str)) := by simp
  have hsrc : iSeq (eVar 1) [some (.v (.str (tx Ls))), some (.r m.length), none] (m ++ [.lst ((Ls.map ln).map .str)]) = some (.lst m.length, m ++ [.lst ((Ls.map ln).map .str)]) := by
    show ((srcW (.r m.length) (m ++ [MO.lst ((Ls.map ln).map D.str)])).bind fun it => some (it, m ++ [MO.lst ((Ls.map ln).map D.str)])) = _
    unfold srcW
    simp only [g0]; rfl
  have hitm : itemsAt (.lst m.length) (m ++ [.lst ((Ls.map ln).map .str)]) = some (Ls.map fun ws => D.str (ln ws)) := by
    unfold itemsAt
    simp only [g0]
    rw [List.map_map]; rfl
  have e := Lz.lc_mapI (src := iSeq (eVar 1)) (t := gN 2) (c := tYes') (f := eMt isStr splitD (eVar 2) (aCons (eC (.str " ")) aNil)) (vs := [2]) (ρ := [some (.v (.str (tx Ls))), some (.r m.length), none]) (m := m ++ [.lst ((Ls.map ln).map .str)]) (m1 := m ++ [.lst ((Ls.map ln).map .str)]) Ls (fun ws => .str (ln ws)) (fun _ => true) rD
    hsrc hitm (fun ws hw => ⟨_, rfl, rfl, fun _ => ⟨.f (.lst (ws.map .str)), by
      have s2 := split_ln (hne ws hw) fun w hw' => (hf ws hw w hw').f1
      have l2 := ((hT.ok ws hw).line).1
      have d2 : splitD (.v (.str (ln ws))) [.v (.str " ")] (m ++ [.lst ((Ls.map ln).map .str)]) = some (.f (.lst (ws.map .str)), m ++ [.lst ((Ls.map ln).map .str)]) := by
        show (if ((" " : Str).length == 0) = false ∧ (ln ws).length ≤ 100000 then some (W.f (.lst ((Txt.split (ln ws) " ").map .str)), m ++ [.lst ((Ls.map ln).map .str)]) else none) = _
        rw [if_pos ⟨rfl, by omega⟩, s2]
      exact d2, rfl⟩⟩) (by have := hT.len; omega)
  have e' : E_lines_of_1 [some (.v (.str (tx Ls))), some (.r m.length), none] (m ++ [.lst ((Ls.map ln).map .str)]) = some (.f (.lst (Ls.map rD)), m ++ [.lst ((Ls.map ln).map .str)]) := by
    refine Eq.trans e ?_
    rw [List.filter_eq_self.mpr (fun _ _ => rfl)]
  have q1 : sSet 1 (eOwn (eMt isStr splitD (eVar 0) (aCons (eC (.str "\n")) aNil))) [some (.v (.str (tx Ls))), none, none] m = some (.nx, [some (.v (.str (tx Ls))), some (.r m.length), none], m ++ [.lst (((Ls.map ln) ++ [("" : Str)]).map .str)]) := by
    exact set_own (m1 := m) d1
  have pd : popD (.r m.length) [] (m ++ [.lst (((Ls.map ln) ++ [("" : Str)]).map .str)]) = some (.v (.str ""), m ++ [.lst ((Ls.map ln).map .str)]) := by
    unfold popD
    have g : (m ++ [MO.lst (((Ls.map ln) ++ [("" : Str)]).map D.str)])[m.length]? = some (.lst (((Ls.map ln) ++ [("" : Str)]).map D.str)) := by simp
    simp only [g]
    rw [List.map_append]
    simp
  have q2 : sIf (tVal (eOp (eqD true) (eMt0 isLst popD (eVar 1)) (eC (.str "")))) sFail sNil [some (.v (.str (tx Ls))), some (.r m.length), none] (m ++ [.lst (((Ls.map ln) ++ [("" : Str)]).map .str)]) = some (.nx, [some (.v (.str (tx Ls))), some (.r m.length), none], m ++ [.lst ((Ls.map ln).map .str)]) := by
    have il : isLst (.r m.length) (m ++ [.lst (((Ls.map ln) ++ [("" : Str)]).map .str)]) = true := by rw [isl_r]; simp
    generalize m ++ [MO.lst (((Ls.map ln) ++ [("" : Str)]).map .str)] = M1 at *
    generalize m ++ [MO.lst ((Ls.map ln).map .str)] = M2 at *
    generalize tx Ls = T at *
    simp [sIf, tVal, eOp, eMt0, eVar, il, pd, eC, sNil]
  have q0 : sIf (tNot' (tTru (eIs .str (eVar 0)))) sFail sNil [some (.v (.str (tx Ls))), none, none] m = some (.nx, [some (.v (.str (tx Ls))), none, none], m) := by
    generalize tx Ls = T at *
    simp [sIf, tNot', tTru, eIs, eVar, isD, truD, sNil]
  have q3 : sRet E_lines_of_1 [some (.v (.str (tx Ls))), some (.r m.length), none] (m ++ [.lst ((Ls.map ln).map .str)]) = some (.ret (.f (.lst (Ls.map rD))), [some (.v (.str (tx Ls))), some (.r m.length), none], m ++ [.lst ((Ls.map ln).map .str)]) := by
    unfold sRet
    rw [e']; rfl
  have hb : B_lines_of (startD 3 [.v (.str (tx Ls))]) m = some (.ret (.f (.lst (Ls.map rD))), [some (.v (.str (tx Ls))), some (.r m.length), none], m ++ [.lst ((Ls.map ln).map .str)]) := seq_at q0 (seq_at q1 (seq_at q2 q3))
  show runF 1 3 B_lines_of [.v (.str (tx Ls))] m = _
  unfold runF
  rw [if_pos (show [W.v (.str (tx Ls))].length = 1 from rfl)]
  refine (congrArg (fun x => Option.bind x _) hb).trans ?_
  simp [outW]
end
end K92
end
section
set_option Elab.async false
set_option linter.all false
set_option maxRecDepth 100000
set_option maxHeartbeats 4000000
namespace K92
open PySem L2 Pw Pv Lx Lq Lt
open Ls
section
variable {ns : List Int} {s : Lx.St} {m : Mem} {F : List Fo} {B : List Nw}
theorem wrd_i {i : Int} (h0 : 0 ≤ i) (h1 : i ≤ 99999) : WRd (iS i) := ⟨by have := (int_i h0 h1).1; omega, free_i h0 (by omega), free_i h0 (by omega)⟩
theorem wrd_nm {i : Int} (h0 : -1 ≤ i) (h1 : i ≤ 99999) : WRd (nm i) := by
  by_cases h : i = -1
  · subst h
    rw [show nm (-1) = "-" from rfl]
    exact ⟨by decide, by unfold Free; decide, by unfold Free; decide⟩
  · rw [nm_i (by omega)]
    exact wrd_i (by omega) h1
theorem in_strs {neg : Bool} {c : Str} {L : List Str} : inD neg (.str c) (.tup (L.map .str)) = some (.v (.bl (decide (c ∈ L) != neg))) := by
  have e : inV (.str c) (L.map V.str) = decide (c ∈ L) := by
    induction L with
    | nil => rfl
    | cons a L ih =>
      have s : inV (.str c) ((a :: L).map V.str) = ((a == c) || inV (.str c) (L.map V.str)) := rfl
      rw [s, ih, Bool.eq_iff_iff]
      simp only [Bool.or_eq_true, beq_iff_eq, decide_eq_true_eq, List.mem_cons]
      constructor
      · rintro (h | h)
        · exact .inl h.symm
        · exact .inr h
      · rintro (h | h)
        · exact .inl h.symm
        · exact .inr h
  have ms : (L.map D.str).mapM sc = some (L.map V.str) := by
    clear e
    induction L with
    | nil => rfl
    | cons a L ih => rw [List.map_cons, List.mapM_cons, ih]; rfl
  unfold inD inB
  simp only [itmD, Option.bind_some, sc, ms, e]
theorem in_w {w : Str} {L : List Str} (h : w ∈ L) : inD true (.str w) (.tup (L.map .str)) = some (.v (.bl false)) := by
  rw [in_strs, decide_eq_true h]; rfl
theorem two_at {a b w : Str} {i : Int} (h : i = 0 ∨ i = 1) (e : w = if i = 1 then b else a) (ne : (a == b) = false) : (([a, b] : List Str).findIdx? fun y => y == w) = some i.toNat := by
  rcases h with rfl | rfl
  · rw [if_neg (by decide)] at e
    subst e
    simp [List.findIdx?_cons]
  · rw [if_pos rfl] at e
    subst e
    simp [ne, List.findIdx?_cons]
theorem gix_at {ys : List Str} {f : Ax} {ρ : Pw.Env} {m : Mem} {z : Str} {k : Nat} (h : f ρ m = some ([.v (.str z)], m)) (e : (ys.findIdx? fun y => y == z) = some k) : eGix ys f ρ m = some (.v (.int (k : Int)), m) := by
  unfold eGix
  rw [h]
  simp only [Option.bind_some]
  rw [e]; rfl
theorem folk_of_spec {day fa mo man wed : Int} (d0 : 0 ≤ day) (d1 : day ≤ 99999) (f0 : -1 ≤ fa) (f1 : fa ≤ 99999) (m0 : -1 ≤ mo) (m1 : mo ≤ 99999) (hm : man = 0 ∨ man = 1) (hw : wed = 0 ∨ wed = 1) (m : Mem) :
    F_folk_of [.v (rD [iS day, nm fa, nm mo, sex man, brt wed])] m = some (.v (.tup [.int day, .int fa, .int mo, .int man, .int wed]), m) := by
  have w0 := written_spec d0 (by omega) m
  have w1 := written_who f0 f1 m
  have w2 := written_who m0 m1 m
  have n0 := number_of_spec d0 d1 m
  have n1 := who_of_spec f0 f1 m
  have n2 := who_of_spec m0 m1 m
  have s1 : inD true (.str (sex man)) (.tup ((["woman", "man"] : List Str).map .str)) = some (.v (.bl false)) := in_w (by rcases hm with rfl | rfl <;> simp [sex])
  have s2 : inD true (.str (brt wed)) (.tup ((["unwed", "wed"] : List Str).map .str)) = some (.v (.bl false)) := in_w (by rcases hw with rfl | rfl <;> simp [brt])
  have x1 := two_at (a := "woman") (b := "man") (w := sex man) hm rfl (by decide)
  have x2 := two_at (a := "unwed") (b := "wed") (w := brt wed) hw rfl (by decide)
  generalize iS day = a at *
  generalize nm fa = b at *
  generalize nm mo = c at *
  generalize sex man = d at *
  generalize brt wed = e at *
  have ln : lenD [rD [a, b, c, d, e]] = some (.v (.int 5)) := rfl
  have i0 : ixD (rD [a, b, c, d, e]) (.int 0) = some (.v (.str a)) := rfl
  have i1 : ixD (rD [a, b, c, d, e]) (.int 1) = some (.v (.str b)) := rfl
  have i2 : ixD (rD [a, b, c, d, e]) (.int 2) = some (.v (.str c)) := rfl
  have i3 : ixD (rD [a, b, c, d, e]) (.int 3) = some (.v (.str d)) := rfl
  have i4 : ixD (rD [a, b, c, d, e]) (.int 4) = some (.v (.str e)) := rfl
  generalize rD [a, b, c, d, e] = L at *
  have g1 : eGix ["woman", "man"] (aCons (eOp ixD (eVar 0) (eC (.int 3))) aNil) [some (.v L)] m = some (.v (.int man), m) := by
    rw [gix_at (z := d) (by simp [aCons, eOp, eVar, eC, aNil, i3]) x1]
    rw [show ((man.toNat : Nat) : Int) = man by omega]
  have g2 : eGix ["unwed", "wed"] (aCons (eOp ixD (eVar 0) (eC (.int 4))) aNil) [some (.v L)] m = some (.v (.int wed), m) := by
    rw [gix_at (z := e) (by simp [aCons, eOp, eVar, eC, aNil, i4]) x2]
    rw [show ((wed.toNat : Nat) : Int) = wed by omega]
  have s1 : inD true (.str d) (.tup [.str "woman", .str "man"]) = some (.v (.bl false)) := s1
  have s2 : inD true (.str e) (.tup [.str "unwed", .str "wed"]) = some (.v (.bl false)) := s2
  simp only [F_folk_of, runF, B_folk_of, startD]
  simp [sSeq, sIf, tOr', tVal, eOp, eCB, aCons, aNil, eVar, eC, ln, tNot', tTru, eCall, i0, i1, i2, i3, i4, w0, w1, w2, truD, s1, s2, sNil, sRet, eTup, n0, n1, n2, g1, g2, vl, outW]
theorem row_of_spec {fo wed : Int} {men way : Str} (d0 : 0 ≤ fo) (d1 : fo ≤ 99999) (hw : wed = 0 ∨ wed = 1) (m : Mem) :
    F_row_of [.v (rD [iS fo, men, cnt wed, way])] m = some (.v (.tup [.int fo, .str men, .int wed, .str way]), m) := by
  have w0 := written_spec d0 (by omega) m
  have n0 := number_of_spec d0 d1 m
  have s2 : inD true (.str (cnt wed)) (.tup ((["all", "wed"] : List Str).map .str)) = some (.v (.bl false)) := in_w (by rcases hw with rfl | rfl <;> simp [cnt])
  have x2 := two_at (a := "all") (b := "wed") (w := cnt wed) hw rfl (by decide)
  generalize iS fo = a at *
  generalize cnt wed = c at *
  have ln : lenD [rD [a, men, c, way]] = some (.v (.int 4)) := rfl
  have i0 : ixD (rD [a, men, c, way]) (.int 0) = some (.v (.str a)) := rfl
  have i1 : ixD (rD [a, men, c, way]) (.int 1) = some (.v (.str men)) := rfl
  have i2 : ixD (rD [a, men, c, way]) (.int 2) = some (.v (.str c)) := rfl
  have i3 : ixD (rD [a, men, c, way]) (.int 3) = some (.v (.str way)) := rfl
  generalize rD [a, men, c, way] = L at *
  have g2 : eGix ["all", "wed"] (aCons (eOp ixD (eVar 0) (eC (.int 2))) aNil) [some (.v L)] m = some (.v (.int wed), m) := by
    rw [gix_at (z := c) (by simp [aCons, eOp, eVar, eC, aNil, i2]) x2]
    rw [show ((wed.toNat : Nat) : Int) = wed by omega]
  have s2 : inD true (.str c) (.tup [.str "all", .str "wed"]) = some (.v (.bl false)) := s2
  simp only [F_row_of, runF, B_row_of, startD]
  simp [sSeq, sIf, tOr', tVal, eOp, eCB, aCons, aNil, eVar, eC, ln, tNot', tTru, eCall, i0, i1, i2, i3, w0, truD, s2, sNil, sRet, eTup, n0, g2, vl, outW]
theorem news_of_spec {n : Nw} (hw : n.word ∈ (["dies", "leaves", "cuts", "returns", "awaits"] : List Str)) (d0 : 0 ≤ n.day) (d1 : n.day ≤ 99999) (w0 : 0 ≤ n.who) (w1 : n.who ≤ 99999) (o0 : -1 ≤ n.other) (o1 : n.other ≤ 99999) (o : n.word ≠ "awaits" → n.other = -1) (m : Mem) :
    F_news_of [.v (rD (nwL n))] m = some (.v n.d, m) := by
  have a1 := written_spec d0 (by omega) m
  have a2 := written_spec w0 (by omega) m
  have a3 := written_who o0 o1 m
  have n1 := number_of_spec d0 d1 m
  have n2 := number_of_spec w0 w1 m
  have n3 := who_of_spec o0 o1 m
  have s1 : inD true (.str n.word) (.tup [.str "dies", .str "leaves", .str "cuts", .str "returns", .str "awaits"]) = some (.v (.bl false)) := in_w hw
  unfold nwL Nw.d
  by_cases ha : n.word = "awaits"
  · rw [if_pos ha]
    have ea : eqD false (.str n.word) (.str "awaits") = some (.v (.bl true)) := by simp [ha]
    generalize iS n.day = a at *
    generalize iS n.who = b at *
    generalize nm n.other = c at *
    generalize n.word = w at *
    have ln : lenD [rD ([w, a, b] ++ [c])] = some (.v (.int 4)) := rfl
    have i0 : ixD (rD ([w, a, b] ++ [c])) (.int 0) = some (.v (.str w)) := rfl
    have i1 : ixD (rD ([w, a, b] ++ [c])) (.int 1) = some (.v (.str a)) := rfl
    have i2 : ixD (rD ([w, a, b] ++ [c])) (.int 2) = some (.v (.str b)) := rfl
    have i3 : ixD (rD ([w, a, b] ++ [c])) (.int 3) = some (.v (.str c)) := rfl
    generalize rD ([w, a, b] ++ [c]) = L at *
    simp only [F_news_of, runF, B_news_of, startD]
    simp [sSeq, sIf, tOr', tVal, eOp, eCB, aCons, aNil, eVar, eC, ln, tNot', tTru, eCall, eIf, i0, i1, i2, i3, a1, a2, a3, truD, s1, ea, sNil, sSet, sRet, eTup, n1, n2, n3, vl, outW, -eqD]
  · rw [if_neg ha, o ha]
    rw [o ha] at a3 n3
    have ea : eqD false (.str n.word) (.str "awaits") = some (.v (.bl false)) := by simp [ha]
    have ed : nm (-1) = "-" := rfl
    rw [ed] at a3 n3
    generalize iS n.day = a at *
    generalize iS n.who = b at *
    generalize n.word = w at *
    have ln : lenD [rD ([w, a, b] ++ [])] = some (.v (.int 3)) := rfl
    have i0 : ixD (rD ([w, a, b] ++ [])) (.int 0) = some (.v (.str w)) := rfl
    have i1 : ixD (rD ([w, a, b] ++ [])) (.int 1) = some (.v (.str a)) := rfl
    have i2 : ixD (rD ([w, a, b] ++ [])) (.int 2) = some (.v (.str b)) := rfl
    generalize rD ([w, a, b] ++ []) = L at *
    simp only [F_news_of, runF, B_news_of, startD]
    simp [sSeq, sIf, tOr', tVal, eOp, eCB, aCons, aNil, eVar, eC, ln, tNot', tTru, eCall, eIf, i0, i1, i2, a1, a2, a3, truD, s1, ea, sNil, sSet, sRet, eTup, n1, n2, n3, vl, outW, -eqD]
end
end K92
end
section
set_option Elab.async false
set_option linter.all false
set_option maxRecDepth 100000
set_option maxHeartbeats 4000000
namespace Lz
open PySem L2 Pw Pv Lx Ls Lq Wk Lv
section
variable {L : List (Nat × List Nat)} {c w : Nat} {p : List Nat}
end
section
variable {F : List Fo} {B : List Nw} {r : Rw} {day : Int} {m : Mem} {web : D}
end
end Lz
end
section
set_option Elab.async false
set_option linter.all false
set_option maxRecDepth 100000
set_option maxHeartbeats 4000000
namespace Lz
open PySem L2 Pw Pv Lx Ls Lq Wk Lv
end Lz
end
section
set_option Elab.async false
set_option linter.all false
set_option maxRecDepth 100000
set_option maxHeartbeats 4000000
namespace Lz
open PySem L2 Pw Pv Lx Ls Lq Wk Lv
section
variable {ns : List Int} {s : Lx.St} {F : List Fo} {B : List Nw} {r : Rw} {day : Int} {m : Mem} {web : D}
end
end Lz
end
section
set_option Elab.async false
set_option linter.all false
set_option maxRecDepth 100000
set_option maxHeartbeats 4000000
namespace Lz
open PySem L2 Pw Pv Lx Ls Lq Wk Lv
section
variable {F : List Fo} {B : List Nw} {r : Rw} {day : Int} {m : Mem} {web : D}
end
end Lz
end
section
set_option Elab.async false
set_option linter.all false
set_option maxRecDepth 100000
set_option maxHeartbeats 4000000
namespace Lz
open PySem L2 Pw Pv Lx Ls Lq Wk Lv
end Lz
end
section
set_option Elab.async false
set_option linter.all false
set_option maxRecDepth 100000
set_option maxHeartbeats 4000000
namespace Lz
open PySem L2 Pw Pv Lx Ls Lq Wk Lv
end Lz
end
section
set_option Elab.async false
set_option linter.all false
set_option maxRecDepth 100000
set_option maxHeartbeats 4000000
namespace Le
open PySem L2 Pw Pv Lx Ls Lq Wk Lv Lz
section
variable {ns : List Int} {s : Lx.St} {m : Mem} {a b : List Int}
end
section
variable {ns : List Int} {s : Lx.St} {F : List Fo} {B : List Nw} {r : Rw} {day : Int} {m : Mem}
end
end Le
end
section
set_option Elab.async false
set_option linter.all false
set_option maxRecDepth 100000
set_option maxHeartbeats 4000000
namespace Le
open PySem L2 Pw Pv Lx Ls Lq Wk Lv Lz
end Le
end
section
set_option Elab.async false
set_option linter.all false
set_option maxRecDepth 100000
set_option maxHeartbeats 2000000
namespace Wk
open Lv
end Wk
end
section
set_option Elab.async false
set_option linter.all false
set_option maxRecDepth 100000
set_option maxHeartbeats 4000000
namespace Le
open PySem L2 Pw Pv Lx Ls Lq Wk Lv Lz
theorem one_at {a : Ex} {ρ : Pw.Env} {m m1 : Mem} {w : W} (h : a ρ m = some (w, m1)) : aCons a aNil ρ m = some ([stl w], m1) := by
  unfold aCons aNil
  rw [h]; rfl
theorem rng_at {a : Ex} {ρ : Pw.Env} {m : Mem} {q : Nat} (h : a ρ m = some (.v (.int (q : Int)), m)) (hq : (q : Int) ≤ 1000000000) : iRngA (aCons a aNil) ρ m = some (.seq ((List.range q).map nD), m) := by
  simp only [iRngA]
  rw [one_at h]
  simp [hq, rng0]
end Le
end
section
set_option Elab.async false
set_option linter.all false
set_option maxRecDepth 100000
set_option maxHeartbeats 2000000
namespace Dg
open Wk
def Way (S : Nat → List Nat) (x y k : Nat) : Prop := ∃ q, q.length = k ∧ go S x q = some y
section
variable {S : Nat → List Nat} {x y v c k : Nat}
theorem Way.nil : Way S x x 0 := ⟨[], rfl, rfl⟩
theorem Way.zero (h : Way S x y 0) : x = y := by
  obtain ⟨q, hq, h⟩ := h
  have : q = [] := by simpa using hq
  subst this
  cases h; rfl
theorem Way.snoc (h : Way S x v k) (hc : c ∈ S v) : Way S x c (k + 1) := by
  obtain ⟨q, hq, h⟩ := h
  obtain ⟨j, hj⟩ := List.getElem?_of_mem hc
  exact ⟨q ++ [j], by simp [hq], by rw [go_snoc, h]; exact hj⟩
theorem Way.snoc_inv (h : Way S x y (k + 1)) : ∃ v, Way S x v k ∧ y ∈ S v := by
  obtain ⟨q, hq, h⟩ := h
  have ne : q ≠ [] := fun z => by rw [z] at hq; cases hq
  have e := (List.dropLast_concat_getLast ne).symm
  rw [e] at h
  obtain ⟨v, h1, h2⟩ := snoc_of h
  exact ⟨v, ⟨_, by rw [List.length_dropLast]; omega, h1⟩, List.mem_of_getElem? h2⟩
theorem Way.cons (hc : c ∈ S x) (h : Way S c y k) : Way S x y (k + 1) := by
  obtain ⟨q, hq, h⟩ := h
  obtain ⟨j, hj⟩ := List.getElem?_of_mem hc
  refine ⟨j :: q, by simp [hq], ?_⟩
  simp only [go]
  rw [hj]; exact h
theorem Way.cons_inv (h : Way S x y (k + 1)) : ∃ c, c ∈ S x ∧ Way S c y k := by
  obtain ⟨q, hq, h⟩ := h
  cases q with
  | nil => cases hq
  | cons j q =>
    simp only [go] at h
    cases e : (S x)[j]? with
    | none => rw [e] at h; cases h
    | some d =>
      rw [e] at h
      exact ⟨d, List.mem_of_getElem? e, q, by simpa using hq, h⟩
theorem Way.up (up : ∀ v c, c ∈ S v → v < c) : ∀ {k x y : Nat}, Way S x y k → x + k ≤ y
  | 0, x, y, h => by rw [h.zero]; exact Nat.le_refl _
  | k + 1, x, y, h => by
    obtain ⟨c, hc, h⟩ := h.cons_inv
    have a := up x c hc
    have b := Way.up up h
    omega
theorem Way.app {j : Nat} (h : Way S x v k) (h2 : Way S v y j) : Way S x y (k + j) := by
  obtain ⟨q, hq, h⟩ := h
  obtain ⟨q2, hq2, h2⟩ := h2
  exact ⟨q ++ q2, by simp [hq, hq2], by rw [go_app, h]; exact h2⟩
end
structure Least (P : Nat → Nat → Prop) (g : Nat → Option Nat) : Prop where
  l1 : ∀ y k, g y = some k → P y k
  l2 : ∀ y k, P y k → ∃ k', g y = some k' ∧ k' ≤ k
section
variable (S : Nat → List Nat) (R : Nat → Prop) (who : Nat)
def Far (y k : Nat) : Prop := ∃ x a b, R x ∧ Way S x who a ∧ Way S x y b ∧ a + b = k
def UpP (x k : Nat) : Prop := R x ∧ Way S x who k
def Pu (c x k : Nat) : Prop := R x ∧ ((x = who ∧ k = 0) ∨ ∃ d j, d ∈ S x ∧ c ≤ d ∧ Way S d who j ∧ k = j + 1)
structure UpI (c : Nat) (g : Nat → Option Nat) : Prop where
  u1 : ∀ x k, g x = some k → UpP S R who x k
  u2 : ∀ x k, Pu S R who c x k → ∃ k', g x = some k' ∧ k' ≤ k
variable {S R who} (up : ∀ v c, c ∈ S v → v < c) (cl : ∀ v c, R v → c ∈ S v → R c)
include up cl
theorem UpI.start (hw : R who) : UpI S R who (who + 1) fun y => if y = who then some 0 else none := by
  refine ⟨fun x k h => ?_, fun x k h => ?_⟩
  · split at h
    · rename_i e
      cases h
      subst e
      exact ⟨hw, Way.nil⟩
    · cases h
  · obtain ⟨_, ⟨rfl, rfl⟩ | ⟨d, j, _, h1, h2, _⟩⟩ := h
    · exact ⟨0, by simp, Nat.le_refl _⟩
    · have := Way.up up h2
      omega
theorem UpI.own {c k : Nat} {g : Nat → Option Nat} (I : UpI S R who (c + 1) g) (hc : R c) (h : Way S c who k) : ∃ k', g c = some k' ∧ k' ≤ k := by
  refine I.u2 c k ⟨hc, ?_⟩
  cases k with
  | zero => exact .inl ⟨h.zero, rfl⟩
  | succ k =>
    obtain ⟨d, hd, h⟩ := h.cons_inv
    exact .inr ⟨d, k, hd, up c d hd, h, rfl⟩
theorem UpI.turn {c k0 : Nat} {g g' : Nat → Option Nat} (I : UpI S R who (c + 1) g) (h : g c = some k0)
    (h1 : ∀ x k, g' x = some k → g x = some k ∨ (R x ∧ c ∈ S x ∧ k = k0 + 1)) (h2 : ∀ x k, g x = some k → ∃ k', g' x = some k' ∧ k' ≤ k) (h3 : ∀ x, R x → c ∈ S x → ∃ k', g' x = some k' ∧ k' ≤ k0 + 1) : UpI S R who c g' := by
  refine ⟨fun x k hx => ?_, fun x k hp => ?_⟩
  · rcases h1 x k hx with z | ⟨z1, z2, rfl⟩
    · exact I.u1 x k z
    · exact ⟨z1, Way.cons z2 (I.u1 c k0 h).2⟩
  · have old : ∀ {k}, (∃ k', g x = some k' ∧ k' ≤ k) → ∃ k', g' x = some k' ∧ k' ≤ k := fun {k} ⟨k', e, l⟩ => by
      obtain ⟨k'', e2, l2⟩ := h2 x k' e
      exact ⟨k'', e2, by omega⟩
    obtain ⟨hx, hp⟩ := hp
    rcases hp with hp | ⟨d, j, hd, h4, h5, h6⟩
    · exact old (I.u2 x k ⟨hx, .inl hp⟩)
    · by_cases e : d = c
      · subst e
        obtain ⟨k', e1, l1⟩ := I.own up cl (cl x d hx hd) h5
        rw [h] at e1
        cases e1
        obtain ⟨k'', e2, l2⟩ := h3 x hx hd
        exact ⟨k'', e2, by omega⟩
      · exact old (I.u2 x k ⟨hx, .inr ⟨d, j, hd, by omega, h5, h6⟩⟩)
theorem UpI.all {g : Nat → Option Nat} (I : UpI S R who 0 g) : Least (UpP S R who) g := by
  refine ⟨I.u1, fun x k h => I.u2 x k ⟨h.1, ?_⟩⟩
  cases k with
  | zero => exact .inl ⟨h.2.zero, rfl⟩
  | succ k =>
    obtain ⟨d, hd, hw⟩ := h.2.cons_inv
    exact .inr ⟨d, k, hd, Nat.zero_le _, hw, rfl⟩
omit cl up in
theorem Far.down {v c k : Nat} (h : Far S R who v k) (hc : c ∈ S v) : Far S R who c (k + 1) := by
  obtain ⟨x, a, b, hx, h1, h2, h3⟩ := h
  exact ⟨x, a, b + 1, hx, h1, h2.snoc hc, by omega⟩
end
section
variable (S : Nat → List Nat) (R : Nat → Prop) (who : Nat)
def Pd (p y k : Nat) : Prop := UpP S R who y k ∨ ∃ v j, v < p ∧ y ∈ S v ∧ Far S R who v j ∧ k = j + 1
structure DnI (p : Nat) (g : Nat → Option Nat) : Prop where
  d1 : ∀ y k, g y = some k → Far S R who y k
  d2 : ∀ y k, Pd S R who p y k → ∃ k', g y = some k' ∧ k' ≤ k
variable {S R who}
theorem DnI.start {g : Nat → Option Nat} (h : Least (UpP S R who) g) : DnI S R who 0 g := by
  refine ⟨fun y k e => ?_, fun y k hp => ?_⟩
  · obtain ⟨a, b⟩ := h.l1 y k e
    exact ⟨y, k, 0, a, b, Way.nil, rfl⟩
  · rcases hp with hp | ⟨v, j, hv, _⟩
    · exact h.l2 y k hp
    · omega
theorem far_pd {y k : Nat} {p : Nat} (h : Far S R who y k) (hp : ∀ v, y ∈ S v → v < p) : Pd S R who p y k := by
  obtain ⟨x, a, b, hx, h1, h2, h3⟩ := h
  cases b with
  | zero =>
    have := h2.zero
    subst this
    left
    have : a = k := by omega
    subst this
    exact ⟨hx, h1⟩
  | succ b =>
    obtain ⟨v, hv, hy⟩ := h2.snoc_inv
    exact .inr ⟨v, a + b, hp v hy, hy, ⟨x, a, b, hx, h1, hv, rfl⟩, by omega⟩
variable (up : ∀ v c, c ∈ S v → v < c)
include up
theorem DnI.own {p k : Nat} {g : Nat → Option Nat} (I : DnI S R who p g) (h : Far S R who p k) : ∃ k', g p = some k' ∧ k' ≤ k :=
  I.d2 p k (far_pd h fun v hv => up v p hv)
theorem DnI.turn {p k0 : Nat} {g g' : Nat → Option Nat} (I : DnI S R who p g) (h : g p = some k0)
    (h1 : ∀ y k, g' y = some k → g y = some k ∨ (y ∈ S p ∧ k = k0 + 1)) (h2 : ∀ y k, g y = some k → ∃ k', g' y = some k' ∧ k' ≤ k) (h3 : ∀ y, y ∈ S p → ∃ k', g' y = some k' ∧ k' ≤ k0 + 1) : DnI S R who (p + 1) g' := by
  refine ⟨fun y k hy => ?_, fun y k hp => ?_⟩
  · rcases h1 y k hy with z | ⟨z1, rfl⟩
    · exact I.d1 y k z
    · exact (I.d1 p k0 h).down z1
  · have old : ∀ {k}, (∃ k', g y = some k' ∧ k' ≤ k) → ∃ k', g' y = some k' ∧ k' ≤ k := fun {k} ⟨k', e, l⟩ => by
      obtain ⟨k'', e2, l2⟩ := h2 y k' e
      exact ⟨k'', e2, by omega⟩
    rcases hp with hp | ⟨v, j, hv, h4, h5, h6⟩
    · exact old (I.d2 y k (.inl hp))
    · by_cases e : v = p
      · subst e
        obtain ⟨k', e1, l1⟩ := I.own up h5
        rw [h] at e1
        cases e1
        obtain ⟨k'', e2, l2⟩ := h3 y h4
        exact ⟨k'', e2, by omega⟩
      · exact old (I.d2 y k (.inr ⟨v, j, by omega, h4, h5, h6⟩))
theorem DnI.all {n : Nat} {g : Nat → Option Nat} (lt : ∀ v c, c ∈ S v → c < n) (I : DnI S R who n g) : Least (Far S R who) g :=
  ⟨I.d1, fun y k h => I.d2 y k (far_pd h fun v hv => by have := up v y hv; have := lt v y hv; omega)⟩
end
end Dg
end
section
set_option Elab.async false
set_option linter.all false
set_option maxRecDepth 100000
set_option maxHeartbeats 2000000
namespace Dg
open Wk
open Classical
section
variable (S : Nat → List Nat) (R : Nat → Prop) (who : Nat)
structure RgI (i : Nat) (g : Nat → Option Nat) : Prop where
  a : ∀ x k, g x = some k → UpP S R who x k ∧ k ≤ i
  b : ∀ x k, UpP S R who x k → k ≤ i → ∃ k', g x = some k' ∧ k' ≤ k
variable {S R who} (cl : ∀ v c, R v → c ∈ S v → R c)
theorem RgI.start (hw : R who) : RgI S R who 0 fun y => if y = who then some 0 else none := by
  refine ⟨fun x k h => ?_, fun x k h hk => ?_⟩
  · split at h
    · rename_i e
      cases h
      subst e
      exact ⟨⟨hw, Way.nil⟩, Nat.le_refl _⟩
    · cases h
  · have : k = 0 := by omega
    subst this
    have := h.2.zero
    exact ⟨0, by simp [this], Nat.le_refl _⟩
include cl
theorem RgI.turn {i : Nat} {g g' : Nat → Option Nat} (I : RgI S R who i g) (h1 : ∀ x, g' x = if g x = none ∧ R x ∧ (∃ c, c ∈ S x ∧ g c = some i) then some (i + 1) else g x) : RgI S R who (i + 1) g' := by
  refine ⟨fun x k h => ?_, fun x k h hk => ?_⟩
  · rw [h1] at h
    split at h
    · rename_i z
      cases h
      obtain ⟨_, hx, c, hc, hg⟩ := z
      exact ⟨⟨hx, Way.cons hc (I.a c i hg).1.2⟩, Nat.le_refl _⟩
    · obtain ⟨u, v⟩ := I.a x k h
      exact ⟨u, by omega⟩
  · have old : (∃ k', g x = some k' ∧ k' ≤ k) → ∃ k', g' x = some k' ∧ k' ≤ k := fun ⟨k', e, l⟩ => ⟨k', by rw [h1, if_neg (fun z => by rw [z.1] at e; cases e)]; exact e, l⟩
    by_cases hki : k ≤ i
    · exact old (I.b x k h hki)
    · have ek : k = i + 1 := by omega
      subst ek
      obtain ⟨hx, hw⟩ := h
      obtain ⟨c, hc, hw⟩ := hw.cons_inv
      obtain ⟨k', e, l⟩ := I.b c i ⟨cl x c hx hc, hw⟩ (Nat.le_refl _)
      by_cases hk' : k' = i
      · subst hk'
        by_cases hg : g x = none
        · exact ⟨k' + 1, by rw [h1, if_pos ⟨hg, hx, c, hc, e⟩], Nat.le_refl _⟩
        · obtain ⟨j, hj⟩ := Option.ne_none_iff_exists'.mp hg
          exact old ⟨j, hj, by have := (I.a x j hj).2; omega⟩
      · obtain ⟨j, e2, l2⟩ := I.b x (k' + 1) ⟨hx, Way.cons hc (I.a c k' e).1.2⟩ (by omega)
        exact old ⟨j, e2, by omega⟩
theorem RgI.all {i : Nat} {g : Nat → Option Nat} (I : RgI S R who i g) (h : ∀ x, g x ≠ some i) : Least (UpP S R who) g := by
  refine ⟨fun x k e => (I.a x k e).1, fun x k => ?_⟩
  induction k generalizing x with
  | zero => exact fun hp => I.b x 0 hp (Nat.zero_le _)
  | succ k ih =>
    intro hp
    obtain ⟨hx, hw⟩ := hp
    obtain ⟨c, hc, hw⟩ := hw.cons_inv
    obtain ⟨k', e, l⟩ := ih c ⟨cl x c hx hc, hw⟩
    obtain ⟨u, v⟩ := I.a c k' e
    have ne : k' ≠ i := fun z => h c (z ▸ e)
    obtain ⟨j, e2, l2⟩ := I.b x (k' + 1) ⟨hx, Way.cons hc u.2⟩ (by omega)
    exact ⟨j, e2, by omega⟩
end
section
variable (S : Nat → List Nat) (R : Nat → Prop) (who : Nat)
structure RdI (t : Nat) (g : Nat → Option Nat) : Prop where
  r1 : ∀ y k, g y = some k → Far S R who y k
  r2 : ∀ y k, UpP S R who y k → ∃ k', g y = some k' ∧ k' ≤ k
  r3 : ∀ v k, g v = some k → k < t → ∀ y, y ∈ S v → ∃ k', g y = some k' ∧ k' ≤ k + 1
variable {S R who}
theorem RdI.start {g : Nat → Option Nat} (h : Least (UpP S R who) g) : RdI S R who 0 g :=
  ⟨fun y k e => ⟨y, k, 0, (h.l1 y k e).1, (h.l1 y k e).2, Way.nil, rfl⟩, h.l2, fun v k _ z => absurd z (Nat.not_lt_zero _)⟩
theorem RdI.turn {t : Nat} {g g' : Nat → Option Nat} (I : RdI S R who t g) (h1 : ∀ y k, g' y = some k → g y = some k ∨ (k = t + 1 ∧ ∃ v, g v = some t ∧ y ∈ S v))
    (h2 : ∀ y k, g y = some k → ∃ k', g' y = some k' ∧ k' ≤ k) (h3 : ∀ v, g v = some t → ∀ y, y ∈ S v → ∃ k', g' y = some k' ∧ k' ≤ t + 1) : RdI S R who (t + 1) g' := by
  have old : ∀ {y k}, (∃ k', g y = some k' ∧ k' ≤ k) → ∃ k', g' y = some k' ∧ k' ≤ k := fun {y k} ⟨k', e, l⟩ => by
    obtain ⟨k'', e2, l2⟩ := h2 y k' e
    exact ⟨k'', e2, by omega⟩
  refine ⟨fun y k e => ?_, fun y k hp => old (I.r2 y k hp), fun v k e hk y hy => ?_⟩
  · rcases h1 y k e with z | ⟨rfl, v, hv, hy⟩
    · exact I.r1 y k z
    · exact (I.r1 v t hv).down hy
  · rcases h1 v k e with z | ⟨rfl, _⟩
    · by_cases hkt : k < t
      · exact old (I.r3 v k z hkt y hy)
      · have : k = t := by omega
        subst this
        exact h3 v z y hy
    · omega
theorem least_of {P : Nat → Prop} : ∀ {k : Nat}, P k → ∃ j, P j ∧ j ≤ k ∧ ∀ i, P i → j ≤ i := by
  intro k
  induction k using Nat.strongRecOn with
  | _ k ih =>
    intro h
    by_cases z : ∃ i, P i ∧ i < k
    · obtain ⟨i, hi, l⟩ := z
      obtain ⟨j, h1, h2, h3⟩ := ih i l hi
      exact ⟨j, h1, by omega, h3⟩
    · exact ⟨k, h, Nat.le_refl _, fun i hi => Nat.le_of_not_lt fun l => z ⟨i, hi, l⟩⟩
theorem RdI.all {t : Nat} {g : Nat → Option Nat} (I : RdI S R who t g) (bound : ∀ y k, Far S R who y k → (∀ i, Far S R who y i → k ≤ i) → k < t + 1) : Least (Far S R who) g := by
  have key : ∀ k y, Far S R who y k → (∀ i, Far S R who y i → k ≤ i) → g y = some k := by
    intro k
    induction k with
    | zero =>
      intro y h hm
      obtain ⟨x, a, b, hx, h1, h2, h3⟩ := h
      have ea : a = 0 := by omega
      have eb : b = 0 := by omega
      subst ea; subst eb
      have e := h2.zero
      subst e
      obtain ⟨k', e, l⟩ := I.r2 x 0 ⟨hx, h1⟩
      rw [e]
      congr 1
      omega
    | succ k ih =>
      intro y h hm
      have hk := bound y (k + 1) h hm
      have fin : (∃ k', g y = some k' ∧ k' ≤ k + 1) → g y = some (k + 1) := fun ⟨k', e, l⟩ => by
        have := hm k' (I.r1 y k' e)
        rw [e]
        congr 1
        omega
      obtain ⟨x, a, b, hx, h1, h2, h3⟩ := h
      cases b with
      | zero =>
        have e := h2.zero
        subst e
        have : a = k + 1 := by omega
        subst this
        exact fin (I.r2 x (k + 1) ⟨hx, h1⟩)
      | succ b =>
        obtain ⟨v, hv, hy⟩ := h2.snoc_inv
        have fv : Far S R who v k := ⟨x, a, b, hx, h1, hv, by omega⟩
        have gv := ih v fv fun i hi => by
          have := hm (i + 1) (hi.down hy)
          omega
        exact fin (I.r3 v k gv (by omega) y hy)
  refine ⟨I.r1, fun y k h => ?_⟩
  obtain ⟨j, h1, h2, h3⟩ := least_of h
  exact ⟨j, key j y h1 h3, h2⟩
end
end Dg
end
section
set_option Elab.async false
set_option linter.all false
set_option maxRecDepth 100000
set_option maxHeartbeats 4000000
namespace Lg
open PySem L2 Pw Pv Lx Ls Lq Wk Lv Lz Dg
def getA {α : Type} (L : List (Nat × α)) (w : Nat) : Option α := (L.find? fun e => decide (e.1 = w)).map (·.2)
def putA {α : Type} (L : List (Nat × α)) (w : Nat) (p : α) : List (Nat × α) := if (L.any fun e => decide (e.1 = w)) = true then L.map (fun e => if e.1 = w then (e.1, p) else e) else L ++ [(w, p)]
section
variable {α : Type} {enc : α → D} {L : List (Nat × α)} {c w : Nat} {p : α}
theorem getA_none : getA L w = none ↔ (L.any fun e => decide (e.1 = w)) = false := by
  unfold getA
  rw [Option.map_eq_none_iff, List.find?_eq_none, List.any_eq_false]
theorem getA_put : getA (putA L c p) w = if w = c then some p else getA L w := by
  unfold putA
  split
  · rename_i ha
    unfold getA
    rw [List.find?_map]
    have e : ((fun e : Nat × α => decide (e.1 = w)) ∘ fun e => if e.1 = c then (e.1, p) else e) = fun e => decide (e.1 = w) := funext fun e => by
      show decide ((if e.1 = c then (e.1, p) else e).1 = w) = _
      split <;> rfl
    rw [e]
    cases h : L.find? fun e => decide (e.1 = w) with
    | none =>
      by_cases hw : w = c
      · subst hw
        have := getA_none.mp (show getA L w = none by unfold getA; rw [h]; rfl)
        rw [this] at ha; cases ha
      · rw [if_neg hw]; rfl
    | some x =>
      have hx : x.1 = w := of_decide_eq_true (List.find?_some (p := fun e : Nat × α => decide (e.1 = w)) h)
      simp only [Option.map_some]
      by_cases hw : w = c
      · rw [if_pos (by rw [hx, hw]), if_pos hw]
      · rw [if_neg (by rw [hx]; exact hw), if_neg hw]
  · rename_i ha
    unfold getA
    rw [List.find?_append]
    by_cases hw : w = c
    · subst hw
      rw [if_pos rfl]
      have h : L.find? (fun e => decide (e.1 = w)) = none := by
        have := getA_none.mpr (show (L.any fun e => decide (e.1 = w)) = false by rw [Bool.not_eq_true] at ha; exact ha)
        unfold getA at this
        exact Option.map_eq_none_iff.mp this
      rw [h]
      simp
    · rw [if_neg hw]
      have : List.find? (fun e : Nat × α => decide (e.1 = w)) [(c, p)] = none := by
        rw [List.find?_cons]
        simp only [decide_eq_false (show ¬ c = w from fun z => hw z.symm)]
        rfl
      rw [this, Option.or_none]
theorem keysA_put (nd : (L.map (·.1)).Nodup) : ((putA L c p).map (·.1)).Nodup := by
  unfold putA
  split
  · have : (L.map (fun e => if e.1 = c then (e.1, p) else e)).map (·.1) = L.map (·.1) := by
      rw [List.map_map]
      refine List.map_congr_left fun e _ => ?_
      show (if e.1 = c then (e.1, p) else e).1 = e.1
      split <;> rfl
    rw [this]; exact nd
  · rename_i ha
    rw [List.map_append, List.nodup_append]
    refine ⟨nd, by simp, fun a h1 b h2 z => ?_⟩
    simp only [List.map_cons, List.map_nil, List.mem_singleton] at h2
    obtain ⟨e, he, rfl⟩ := List.mem_map.mp h1
    exact ha (List.any_eq_true.mpr ⟨e, he, decide_eq_true (z.trans h2)⟩)
theorem ltA_put {n : Nat} (h : ∀ e ∈ L, e.1 < n) (hc : c < n) : ∀ e ∈ putA L c p, e.1 < n := by
  unfold putA
  split
  · intro e he
    obtain ⟨x, hx, rfl⟩ := List.mem_map.mp he
    have := h x hx
    split <;> exact this
  · intro e he
    rcases List.mem_append.mp he with z | z
    · exact h e z
    · rw [List.mem_singleton.mp z]; exact hc
end
structure Tab (n : Nat) (L : List (Nat × Nat)) : Prop where
  nd : (L.map (·.1)).Nodup
  lt : ∀ e ∈ L, e.1 < n
end Lg
end
section
set_option Elab.async false
set_option linter.all false
set_option maxRecDepth 100000
set_option maxHeartbeats 4000000
namespace Lg
open PySem L2 Pw Pv Lx Ls Lq Wk Lv Lz Dg
end Lg
end
section
set_option Elab.async false
set_option linter.all false
set_option maxRecDepth 100000
set_option maxHeartbeats 4000000
namespace Lg
open PySem L2 Pw Pv Lx Ls Lq Wk Lv Lz Dg
end Lg
end
section
set_option Elab.async false
set_option linter.all false
set_option maxRecDepth 100000
set_option maxHeartbeats 4000000
namespace Lg
open PySem L2 Pw Pv Lx Ls Lq Wk Lv Lz Dg
end Lg
end
section
set_option Elab.async false
set_option linter.all false
set_option maxRecDepth 100000
set_option maxHeartbeats 4000000
namespace Lg
open PySem L2 Pw Pv Lx Ls Lq Wk Lv Lz Dg
end Lg
end
section
set_option Elab.async false
set_option linter.all false
set_option maxRecDepth 100000
set_option maxHeartbeats 4000000
namespace Lg
open PySem L2 Pw Pv Lx Ls Lq Wk Lv Lz Dg
end Lg
end
section
set_option Elab.async false
set_option linter.all false
set_option maxRecDepth 100000
set_option maxHeartbeats 4000000
namespace Lg
open PySem L2 Pw Pv Lx Ls Lq Wk Lv Lz Dg
section
variable {S : Nat → List Nat} {f : Nat}
def Reach (S : Nat → List Nat) (f x : Nat) : Prop := ∃ q, go S f q = some x
def Pk (S : Nat → List Nat) (f k x : Nat) : Prop := x = f ∨ ∃ v, v < f + k ∧ Reach S f v ∧ x ∈ S v
theorem Pk.reach {k x : Nat} (h : Pk S f k x) : Reach S f x := by
  rcases h with rfl | ⟨v, _, ⟨q, hq⟩, hx⟩
  · exact ⟨[], rfl⟩
  · obtain ⟨j, hj⟩ := List.getElem?_of_mem hx
    exact ⟨q ++ [j], by rw [go_snoc, hq]; exact hj⟩
end
end Lg
end
section
set_option Elab.async false
set_option linter.all false
set_option maxRecDepth 100000
set_option maxHeartbeats 4000000
namespace Lg
open PySem L2 Pw Pv Lx Ls Lq Wk Lv Lz Dg
end Lg
end
section
set_option Elab.async false
set_option linter.all false
set_option maxRecDepth 100000
set_option maxHeartbeats 4000000
namespace Lg
open PySem L2 Pw Pv Lx Ls Lq Wk Lv Lz Dg
section
variable {F : List Fo} {B : List Nw} {r : Rw} {day : Int} {m : Mem}
noncomputable def reB (F : List Fo) (B : List Nw) (r : Rw) (day : Int) (x : Nat) : Bool := fborn F r day && @decide (Reach (stepsOf F B r day) (f0 r) x) (Classical.propDecidable _)
end
end Lg
end
section
set_option Elab.async false
set_option linter.all false
set_option maxRecDepth 100000
set_option maxHeartbeats 4000000
namespace Lg
open PySem L2 Pw Pv Lx Ls Lq Wk Lv Lz Dg
end Lg
end
section
set_option Elab.async false
set_option linter.all false
set_option maxRecDepth 100000
set_option maxHeartbeats 4000000
namespace Lg
open PySem L2 Pw Pv Lx Ls Lq Wk Lv Lz Dg
section
variable {m : Mem} {ST : List (Key × D)} {T T' : List (Nat × Nat)} {E : List MO} {x y : MO} {i : Nat}
def IsRing (m : Mem) (E : List MO) (rw : W) (ring : List Nat) : Prop := rw = .v (.lst (ring.map nD)) ∨ ∃ i, rw = .r (m.length + 2 + i) ∧ E[i]? = some (.lst (ring.map nD))
theorem IsRing.stl {rw : W} {ring : List Nat} (h : IsRing m E rw ring) : Pw.stl rw = rw := by
  rcases h with rfl | ⟨i, rfl, e⟩ <;> rfl
end
section
variable {F : List Fo} {B : List Nw} {r : Rw} {day : Int} {m : Mem} {web : D} {S : Nat → List Nat} {ks : List Nat} {R : List (Key × D)} {w : Nat}
def cndR (S : Nat → List Nat) (T : List (Nat × Nat)) (ring : List Nat) (x : Nat) : Bool := (getA T x).isNone && !((S x).filter fun c => decide (c ∈ ring)).isEmpty
end
end Lg
end
section
set_option Elab.async false
set_option linter.all false
set_option maxRecDepth 100000
set_option maxHeartbeats 4000000
namespace Lg
open PySem L2 Pw Pv Lx Ls Lq Wk Lv Lz Dg
section
variable {F : List Fo} {B : List Nw} {r : Rw} {day : Int} {m : Mem} {web : D} {S : Nat → List Nat} {ks : List Nat} {R : List (Key × D)} {w : Nat}
def putR (T : List (Nat × Nat)) (us : List Nat) (k : Nat) : List (Nat × Nat) := us.foldl (fun T x => putA T x k) T
theorem putR_get {k : Nat} : ∀ (us : List Nat) (T : List (Nat × Nat)) (y : Nat), getA (putR T us k) y = if y ∈ us then some k else getA T y
  | [], T, y => by simp [putR]
  | x :: us, T, y => by
    show getA (putR (putA T x k) us k) y = _
    rw [putR_get us]
    by_cases h : y ∈ us
    · simp [h]
    · rw [if_neg h, getA_put]
      by_cases h2 : y = x
      · simp [h2]
      · simp [h, h2]
theorem putR_tab {n k : Nat} : ∀ (us : List Nat) (T : List (Nat × Nat)), Tab n T → (∀ x ∈ us, x < n) → Tab n (putR T us k)
  | [], T, h, _ => h
  | x :: us, T, h, hu => putR_tab us (putA T x k) ⟨keysA_put h.nd, ltA_put h.lt (hu x List.mem_cons_self)⟩ fun y hy => hu y (List.mem_cons_of_mem _ hy)
end
end Lg
end
section
set_option Elab.async false
set_option linter.all false
set_option maxRecDepth 100000
set_option maxHeartbeats 4000000
namespace Lg
open PySem L2 Pw Pv Lx Ls Lq Wk Lv Lz Dg
structure RS where
  T : List (Nat × Nat)
  ring : List Nat
  E : List MO
  rw : W
  i : Nat
section
variable {F : List Fo} {B : List Nw} {r : Rw} {day : Int} {m : Mem} {web : D} {S : Nat → List Nat} {Rb : Nat → Bool} {ks : List Nat} {R : List (Key × D)} {w n : Nat}
def nextR (S : Nat → List Nat) (ks : List Nat) (m : Mem) (s : RS) : RS :=
  ⟨putR s.T (ks.filter (cndR S s.T s.ring)) (s.i + 1), ks.filter (cndR S s.T s.ring), s.E ++ [.lst ((ks.filter (cndR S s.T s.ring)).map nD)], .r (m.length + 2 + s.E.length), s.i + 1⟩
structure RInv (S : Nat → List Nat) (Rb : Nat → Bool) (w n : Nat) (m : Mem) (s : RS) : Prop where
  tb : Tab n s.T
  rg : RgI S (fun x => Rb x = true) w s.i (getA s.T)
  rm : ∀ x, x ∈ s.ring ↔ getA s.T x = some s.i
  rr : IsRing m s.E s.rw s.ring
theorem cnd_iff {T : List (Nat × Nat)} {ring : List Nat} {x : Nat} : cndR S T ring x = true ↔ getA T x = none ∧ ∃ c, c ∈ S x ∧ c ∈ ring := by
  unfold cndR
  rw [Bool.and_eq_true, Option.isNone_iff_eq_none, Bool.not_eq_true', List.isEmpty_eq_false_iff]
  refine and_congr Iff.rfl ?_
  constructor
  · intro h
    obtain ⟨c, hc⟩ := List.exists_mem_of_ne_nil _ h
    rw [List.mem_filter] at hc
    exact ⟨c, hc.1, of_decide_eq_true hc.2⟩
  · rintro ⟨c, h1, h2⟩ h3
    have : c ∈ (S x).filter fun c => decide (c ∈ ring) := List.mem_filter.mpr ⟨h1, decide_eq_true h2⟩
    rw [h3] at this
    cases this
theorem RInv.next (cl : ∀ v c, Rb v = true → c ∈ S v → Rb c = true) (hk : ∀ x, x ∈ ks ↔ Rb x = true) (hl : ∀ x ∈ ks, x < n) {s : RS} (I : RInv S Rb w n m s) : RInv S Rb w n m (nextR S ks m s) := by
  have um : ∀ x, x ∈ ks.filter (cndR S s.T s.ring) ↔ getA s.T x = none ∧ Rb x = true ∧ ∃ c, c ∈ S x ∧ getA s.T c = some s.i := fun x => by
    rw [List.mem_filter, cnd_iff, hk]
    constructor
    · rintro ⟨h1, h2, c, h3, h4⟩
      exact ⟨h2, h1, c, h3, (I.rm c).mp h4⟩
    · rintro ⟨h1, h2, c, h3, h4⟩
      exact ⟨h2, h1, c, h3, (I.rm c).mpr h4⟩
  refine ⟨putR_tab _ _ I.tb fun x hx => hl x (List.mem_filter.mp hx).1, I.rg.turn cl fun x => ?_, fun x => ?_, .inr ⟨s.E.length, rfl, by simp [nextR]⟩⟩
  · show getA (putR s.T (ks.filter (cndR S s.T s.ring)) (s.i + 1)) x = _
    rw [putR_get]
    by_cases h : x ∈ ks.filter (cndR S s.T s.ring)
    · rw [if_pos h, if_pos ((um x).mp h)]
    · rw [if_neg h, if_neg fun z => h ((um x).mpr z)]
  · show x ∈ ks.filter (cndR S s.T s.ring) ↔ getA (putR s.T (ks.filter (cndR S s.T s.ring)) (s.i + 1)) x = some (s.i + 1)
    rw [putR_get]
    by_cases h : x ∈ ks.filter (cndR S s.T s.ring)
    · simp only [h, if_true]
    · simp only [h, if_false, false_iff]
      intro z
      have := (I.rg.a x _ z).2
      omega
end
end Lg
end
section
set_option Elab.async false
set_option linter.all false
set_option maxRecDepth 100000
set_option maxHeartbeats 4000000
namespace Lg
open PySem L2 Pw Pv Lx Ls Lq Wk Lv Lz Dg
end Lg
end
section
set_option Elab.async false
set_option linter.all false
set_option maxRecDepth 100000
set_option maxHeartbeats 4000000
namespace Lg
open PySem L2 Pw Pv Lx Ls Lq Wk Lv Lz Dg
section
variable {F : List Fo} {B : List Nw} {r : Rw} {day : Int} {m : Mem} {web : D} {S : Nat → List Nat} {Rb : Nat → Bool} {ks : List Nat} {R : List (Key × D)} {w n : Nat} {E : List MO} {x6 : Option W}
end
end Lg
end
section
set_option Elab.async false
set_option linter.all false
set_option maxRecDepth 100000
set_option maxHeartbeats 4000000
namespace Lg
open PySem L2 Pw Pv Lx Ls Lq Wk Lv Lz Dg
section
variable {ns : List Int} {s : Lx.St} {F : List Fo} {B : List Nw} {r : Rw} {day : Int} {m : Mem} {web : D}
end
end Lg
end
section
set_option Elab.async false
set_option linter.all false
set_option maxRecDepth 100000
set_option maxHeartbeats 4000000
namespace Lh
open PySem L2 Pw Pv Lx Ls Lq Wk Lv Lz
section
variable {F : List Fo} {B : List Nw} {r : Rw} {day : Int} {m : Mem}
end
end Lh
end
section
set_option Elab.async false
set_option linter.all false
set_option maxRecDepth 100000
set_option maxHeartbeats 4000000
namespace Lh
open PySem L2 Pw Pv Lx Ls Lq Wk Lv
open Lz
section
variable {F : List Fo} {B : List Nw} {r : Rw} {day : Int} {m : Mem}
end
end Lh
end
section
set_option Elab.async false
set_option linter.all false
set_option maxRecDepth 100000
set_option maxHeartbeats 4000000
namespace Lh
open PySem L2 Pw Pv Lx Ls Lq Wk Lv
open Lz
section
variable {F : List Fo} {B : List Nw} {m : Mem} {day : Int}
end
end Lh
end
section
set_option Elab.async false
set_option linter.all false
set_option maxRecDepth 100000
set_option maxHeartbeats 4000000
namespace Lh
open PySem L2 Pw Pv Lx Ls Lq Wk Lv
open Lz
end Lh
end
section
set_option Elab.async false
set_option linter.all false
set_option maxRecDepth 100000
set_option maxHeartbeats 4000000
namespace Lh
open PySem L2 Pw Pv Lx Ls Lq Wk Lv
end Lh
end
section
set_option Elab.async false
set_option linter.all false
set_option maxRecDepth 100000
set_option maxHeartbeats 400000
namespace Lh
open PySem L2 Pw Pv Lx Ls Lq Wk Lv
end Lh
end
section
set_option Elab.async false
set_option linter.all false
set_option maxRecDepth 100000
set_option maxHeartbeats 400000
namespace Lh
open PySem L2 Pw Pv Lx Ls Lq Wk Lv Lg
section
variable {F : List Fo} {B : List Nw} {r : Rw} {day : Int}
end
end Lh
end
section
set_option Elab.async false
set_option linter.all false
set_option maxRecDepth 100000
set_option maxHeartbeats 400000
namespace Lh
open PySem L2 Pw Pv Lx Ls Lq Wk Lv Lg
section
variable {F : List Fo} {B : List Nw} {r : Rw} {day : Int} {m : Mem}
end
end Lh
end
section
set_option Elab.async false
set_option linter.all false
set_option maxRecDepth 100000
set_option maxHeartbeats 4000000
namespace Lo
open PySem L2 Pw Pv Lx Ls Lq Wk Lv Lz Dg Lg
section
variable {F : List Fo} {B : List Nw} {r : Rw} {day : Int} {m : Mem}
noncomputable def RR (F : List Fo) (B : List Nw) (r : Rw) (day : Int) : List Nat := (List.range F.length).filter (reB F B r day)
def stB (F : List Fo) (B : List Nw) (r : Rw) (day : Int) (w : Nat) : Bool := (!decide ((w : Int) ∈ deadL B day) && !decide ((w : Int) ∈ outL B day)) && (!decide (r.men = "only") || manP F w)
noncomputable def gF (F : List Fo) (B : List Nw) (r : Rw) (day : Int) (w : Nat) : Nat → Option Nat := @dite _ (∃ g, Least (Far (stepsOf F B r day) (fun x => reB F B r day x = true) w) g) (Classical.propDecidable _) (fun h => Classical.choose h) fun _ _ => none
def oI (o : Option Nat) : Int := match o with
  | some k => (k : Int)
  | none => -1
noncomputable def dgs (F : List Fo) (B : List Nw) (r : Rw) (day : Int) (w : Nat) : List Int := (List.range (bornL F day).length).map fun y => oI (gF F B r day w y)
def nearN (ts : List Int) (L : List Nat) : List Nat := (sortM (nearLt ts) (L.map fun i : Nat => (i : Int))).map Int.toNat
theorem near_cast (ts : List Int) (L : List Nat) : ∀ i ∈ sortM (nearLt ts) (L.map fun i : Nat => (i : Int)), ((i.toNat : Nat) : Int) = i := fun i h => by
  obtain ⟨x, _, rfl⟩ := List.mem_map.mp ((sortM_perm _).mem_iff.mp h)
  simp
theorem near_int (ts : List Int) (L : List Nat) : (nearN ts L).map (fun i : Nat => (i : Int)) = sortM (nearLt ts) (L.map fun i : Nat => (i : Int)) := by
  unfold nearN
  rw [List.map_map]
  conv => rhs; rw [← List.map_id (sortM (nearLt ts) (L.map fun i : Nat => (i : Int)))]
  exact List.map_congr_left fun i h => near_cast ts L i h
theorem near_perm (ts : List Int) (L : List Nat) : (nearN ts L).Perm L := by
  have p := (sortM_perm (lt := nearLt ts) (L.map fun i : Nat => (i : Int))).map Int.toNat
  rw [List.map_map] at p
  have : L.map (Int.toNat ∘ fun i : Nat => (i : Int)) = L := by
    conv => rhs; rw [← List.map_id L]
    exact List.map_congr_left fun i _ => by simp
  rw [this] at p
  exact p
noncomputable def ordR (F : List Fo) (B : List Nw) (r : Rw) (day : Int) (V : List (List Nat)) (last : Nat) : List Nat :=
  if r.way = "lines" then (walkN F B r day V).filter (stB F B r day) else if r.way = "near" then nearN (dgs F B r day last) ((RR F B r day).filter (stB F B r day)) else (RR F B r day).filter (stB F B r day)
end
end Lo
end
section
set_option Elab.async false
set_option linter.all false
set_option maxRecDepth 100000
set_option maxHeartbeats 4000000
namespace Lo
open PySem L2 Pw Pv Lx Ls Lq Wk Lv Lz Dg Lg
section
variable {F : List Fo} {B : List Nw} {r : Rw} {day : Int} {m : Mem}
end
end Lo
end
section
set_option Elab.async false
set_option linter.all false
set_option maxRecDepth 100000
set_option maxHeartbeats 4000000
namespace Lo
open PySem L2 Pw Pv Lx Ls Lq Wk Lv Lz Dg Lg
section
variable {F : List Fo} {B : List Nw} {r : Rw} {day : Int} {m : Mem}
noncomputable def vF (F : List Fo) (B : List Nw) (r : Rw) (day : Int) : List (List Nat) := @dite _ (∃ V, IsWalk F B r day V) (Classical.propDecidable _) (fun h => Classical.choose h) fun _ => []
noncomputable def ordN (F : List Fo) (B : List Nw) (day : Int) (last : Nat) (r : Rw) : List Nat := ordR F B r day (vF F B r day) last
noncomputable def firstN (F : List Fo) (B : List Nw) (day : Int) (last : Nat) (Rs : List Rw) : Option Nat := Rs.findSome? fun r => (ordN F B day last r).head?
end
end Lo
end
section
set_option Elab.async false
set_option linter.all false
set_option maxRecDepth 100000
set_option maxHeartbeats 4000000
namespace Lo
open PySem L2 Pw Pv Lx Ls Lq Wk Lv Lz Dg Lg
section
variable {F : List Fo} {B : List Nw} {r : Rw} {day : Int} {m : Mem} {web : D}
end
end Lo
end
section
set_option Elab.async false
set_option linter.all false
set_option maxRecDepth 100000
set_option maxHeartbeats 4000000
namespace Lo
open PySem L2 Pw Pv Lx Ls Lq Wk Lv Lz Dg Lg
section
variable {F : List Fo} {B : List Nw} {r : Rw} {day : Int} {m : Mem} {web : D}
theorem near_uniq {ts : List Int} {A L : List Nat} (hp : A.Perm L) (hs : A.Pairwise fun x y : Nat => nearLt ts (y : Int) (x : Int) = false) : nearN ts L = A := by
  have e : sortM (nearLt ts) (L.map fun i : Nat => (i : Int)) = A.map fun i : Nat => (i : Int) :=
    sortedM_uniq (lin_near ts) (sortM_sorted (lin_near ts) _) (List.pairwise_map.mpr hs) ((sortM_perm _).trans (hp.symm.map _))
  unfold nearN
  rw [e, List.map_map]
  conv => rhs; rw [← List.map_id A]
  exact List.map_congr_left fun i _ => by simp
theorem near_sorted (ts : List Int) (L : List Nat) : (nearN ts L).Pairwise fun x y : Nat => nearLt ts (y : Int) (x : Int) = false := by
  have := sortM_sorted (lin_near ts) (L.map fun i : Nat => (i : Int))
  rw [← near_int, List.pairwise_map] at this
  exact this
end
end Lo
end
section
set_option Elab.async false
set_option linter.all false
set_option maxRecDepth 100000
set_option maxHeartbeats 400000
namespace Lh
open PySem L2 Pw Pv Lx Ls Lq Wk Lv Lg
section
variable {F : List Fo} {B : List Nw} {r : Rw} {day : Int} {m : Mem}
end
end Lh
end
section
set_option Elab.async false
set_option linter.all false
set_option maxRecDepth 100000
set_option maxHeartbeats 400000
namespace Lh
open PySem L2 Pw Pv Lx Ls Lq Wk Lv Lg
section
variable {F : List Fo} {B : List Nw} {r : Rw} {day : Int} {m : Mem}
end
end Lh
end
section
set_option Elab.async false
set_option linter.all false
set_option maxRecDepth 100000
set_option maxHeartbeats 400000
namespace Lh
open PySem L2 Pw Pv Lx Ls Lq Wk Lv
end Lh
end
section
set_option Elab.async false
set_option linter.all false
set_option maxRecDepth 100000
set_option maxHeartbeats 400000
namespace Lh
open PySem L2 Pw Pv Lx Ls Lq Wk Lv
section
variable {ns : List Int} {s : Lx.St} {F : List Fo} {m : Mem}
end
end Lh
end
section
set_option Elab.async false
set_option linter.all false
set_option maxRecDepth 100000
set_option maxHeartbeats 4000000
namespace Lo
open PySem L2 Pw Pv Lx Ls Lq Wk Lv Lz Dg Lg
section
variable {ns : List Int} {s : Lx.St} {F : List Fo} {m : Mem}
end
end Lo
end
section
set_option Elab.async false
set_option linter.all false
set_option maxRecDepth 100000
set_option maxHeartbeats 4000000
namespace Lo
open PySem L2 Pw Pv Lx Ls Lq Wk Lv Lz Dg Lg
end Lo
end
section
set_option Elab.async false
set_option linter.all false
set_option maxRecDepth 100000
set_option maxHeartbeats 4000000
namespace Lo
open PySem L2 Pw Pv Lx Ls Lq Wk Lv Lz Dg Lg
section
variable {F : List Fo} {B B' : List Nw} {r : Rw} {day : Int} {m : Mem}
structure SameS (F : List Fo) (B B' : List Nw) (r : Rw) (day : Int) : Prop where
  st : stepsOf F B' r day = stepsOf F B r day
theorem SameS.walk (h : SameS F B B' r day) (V : List (List Nat)) : walkN F B' r day V = walkN F B r day V := by
  unfold walkN
  rw [h.st]
theorem SameS.is (h : SameS F B B' r day) : IsWalk F B' r day = IsWalk F B r day := funext fun V => by
  unfold IsWalk
  rw [h.st]
theorem SameS.v (h : SameS F B B' r day) : vF F B' r day = vF F B r day := by
  have g : ∀ P Q : List (List Nat) → Prop, P = Q → @dite _ (∃ V, P V) (Classical.propDecidable _) (fun h => Classical.choose h) (fun _ => []) = @dite _ (∃ V, Q V) (Classical.propDecidable _) (fun h => Classical.choose h) (fun _ => []) := fun P Q e => by subst e; rfl
  exact g _ _ h.is
theorem SameS.re (h : SameS F B B' r day) : reB F B' r day = reB F B r day := funext fun x => by
  unfold reB
  rw [h.st]
theorem SameS.rr (h : SameS F B B' r day) : RR F B' r day = RR F B r day := by
  unfold RR
  rw [h.re]
theorem SameS.dg (h : SameS F B B' r day) (w : Nat) : dgs F B' r day w = dgs F B r day w := by
  unfold dgs gF
  rw [h.st, h.re]
theorem near_filter (ts : List Int) (p : Nat → Bool) (L : List Nat) : nearN ts (L.filter p) = (nearN ts L).filter p :=
  near_uniq ((near_perm ts L).filter p) ((near_sorted ts L).filter p)
theorem SameS.ord (h : SameS F B B' r day) {p : Nat → Bool} (hs : ∀ x, stB F B' r day x = (stB F B r day x && p x)) (last : Nat) : ordN F B' day last r = (ordN F B day last r).filter p := by
  have fl : ∀ L : List Nat, L.filter (stB F B' r day) = (L.filter (stB F B r day)).filter p := fun L => by
    rw [List.filter_filter]
    exact List.filter_congr fun x _ => by rw [hs, Bool.and_comm]
  unfold ordN ordR
  rw [h.v, h.walk, h.rr, h.dg, fl, fl]
  split
  · rfl
  · split
    · exact near_filter _ _ _
    · rfl
end
end Lo
end
section
set_option Elab.async false
set_option linter.all false
set_option maxRecDepth 100000
set_option maxHeartbeats 4000000
namespace Lo
open PySem L2 Pw Pv Lx Ls Lq Wk Lv Lz Dg Lg
section
variable {ns : List Int} {s : Lx.St} {F : List Fo} {B : List Nw} {r : Rw} {day : Int} {m : Mem}
end
end Lo
end
section
set_option Elab.async false
set_option linter.all false
set_option maxRecDepth 100000
set_option maxHeartbeats 4000000
namespace Lo
open PySem L2 Pw Pv Lx Ls
section
variable {α : Type} {src : Ix} {t : Gx} {c : Tx} {f : Ex} {vs : List Nat} {ρ : Pw.Env} {m m1 : Mem}
end
end Lo
end
section
set_option Elab.async false
set_option linter.all false
set_option maxRecDepth 100000
set_option maxHeartbeats 4000000
namespace Lo
open PySem L2 Pw Pv Lx Ls Lq Wk Lv Lz Dg Lg
section
variable {ns : List Int} {s : Lx.St} {F : List Fo} {B B' : List Nw} {r : Rw} {day d : Int} {m : Mem} {ds : List Int}
end
end Lo
end
section
set_option Elab.async false
set_option linter.all false
set_option maxRecDepth 100000
set_option maxHeartbeats 1000000
namespace Wk
open Pv
section
variable {S S' : Nat → List Nat} {n f : Nat}
variable (hS : ∀ v, S v = (S' v).filter fun c => decide (c ≠ n)) (hn : S' n = [])
include hS hn
end
end Wk
end
section
set_option Elab.async false
set_option linter.all false
set_option maxRecDepth 100000
set_option maxHeartbeats 1000000
namespace Lo
open PySem L2 Pw Pv Lx Ls Lq Wk Lv Lz Dg Lg
end Lo
end
section
set_option Elab.async false
set_option linter.all false
set_option maxRecDepth 100000
set_option maxHeartbeats 1000000
namespace Lo
open PySem L2 Pw Pv Lx Ls Lq Wk Lv Lz Dg Lg
end Lo
end
section
set_option Elab.async false
set_option linter.all false
set_option maxRecDepth 100000
set_option maxHeartbeats 1000000
namespace Lo
open PySem L2 Pw Pv Lx Ls Lq Wk Lv Lz Dg Lg
end Lo
end
section
set_option Elab.async false
set_option linter.all false
set_option maxRecDepth 100000
set_option maxHeartbeats 4000000
namespace Rg
open PySem L2 Pw Pv Lx Ls Lq Wk Lv Lz Dg Lg Lo
section
variable {F : List Fo} {B : List Nw} {Rs : List Rw} {day : Int} {m : Mem}
def upB (B : List Nw) (day : Int) : List Nw := B.filter fun n => decide (n.day ≤ day)
end
end Rg
end
section
set_option Elab.async false
set_option linter.all false
set_option maxRecDepth 100000
set_option maxHeartbeats 4000000
namespace Rg
open PySem L2 Pw Pv Lx Ls Lq Wk Lv Lz Dg Lg Lo
end Rg
end
section
set_option Elab.async false
set_option linter.all false
set_option maxRecDepth 100000
set_option maxHeartbeats 800000
namespace Rg
open PySem L2 Pw Pv Lx Ls Lq Wk Lv Lz Dg Lg Lo
end Rg
end
section
set_option Elab.async false
set_option linter.all false
set_option maxRecDepth 100000
set_option maxHeartbeats 1000000
namespace Lp
open PySem L2 Pw Pv Lx Ls Lq Wk Lv Lz Dg Lg Lo
end Lp
end
section
set_option Elab.async false
set_option linter.all false
set_option maxRecDepth 100000
set_option maxHeartbeats 4000000
namespace Le
open PySem L2 Pw Pv Lx Ls Lq Wk Lv Lz
end Le
end
section
set_option Elab.async false
set_option linter.all false
set_option maxRecDepth 100000
set_option maxHeartbeats 1000000
namespace Lp
open PySem L2 Pw Pv Lx Ls Lq Wk Lv Lz Dg Lg Lo
end Lp
end
section
set_option Elab.async false
set_option linter.all false
set_option maxRecDepth 100000
set_option maxHeartbeats 1000000
namespace Lp
open PySem L2 Pw Pv Lx Ls Lq Wk Lv Lz Dg Lg Lo
end Lp
end
section
set_option Elab.async false
set_option linter.all false
set_option maxRecDepth 100000
set_option maxHeartbeats 1000000
namespace Lp
open PySem L2 Pw Pv Lx Ls Lq Wk Lv Lz Dg Lg Lo
section
variable {ns : List Int} {s : Lx.St} {F : List Fo} {B : List Nw} {r : Rw} {day lim : Int} {m : Mem}
end
end Lp
end
section
set_option Elab.async false
set_option linter.all false
set_option maxRecDepth 100000
set_option maxHeartbeats 1000000
namespace Lp
open PySem L2 Pw Pv Lx Ls Lq Wk Lv Lz Dg Lg Lo
end Lp
end
section
set_option Elab.async false
set_option linter.all false
set_option maxRecDepth 100000
set_option maxHeartbeats 1000000
namespace Lp
open PySem L2 Pw Pv Lx Ls Lq Wk Lv Lz Dg Lg Lo
end Lp
end
section
set_option Elab.async false
set_option linter.all false
set_option maxRecDepth 100000
set_option maxHeartbeats 1000000
namespace Lp
open PySem L2 Pw Pv Lx Ls Lq Wk Lv Lz Dg Lg Lo
end Lp
end
section
set_option Elab.async false
set_option linter.all false
set_option maxRecDepth 100000
set_option maxHeartbeats 1000000
namespace Lp
open PySem L2 Pw Pv Lx Ls Lq Wk Lv Lz Dg Lg Lo
end Lp
end
section
set_option Elab.async false
set_option linter.all false
set_option maxRecDepth 100000
set_option maxHeartbeats 1000000
namespace Lp
open PySem L2 Pw Pv Lx Ls Lq Wk Lv Lz Dg Lg Lo
end Lp
end
section
set_option Elab.async false
set_option linter.all false
set_option maxRecDepth 100000
set_option maxHeartbeats 1000000
namespace Lp
open PySem L2 Pw Pv Lx Ls Lq Wk Lv Lz Dg Lg Lo
end Lp
end
section
set_option Elab.async false
set_option linter.all false
set_option maxRecDepth 100000
set_option maxHeartbeats 1000000
namespace Lp
open PySem L2 Pw Pv Lx Ls Lq Wk Lv Lz Dg Lg Lo
section
variable {F : List Fo} {B : List Nw} {r : Rw} {day lim aside : Int} {last : Nat} {m : Mem}
end
end Lp
end
section
set_option Elab.async false
set_option linter.all false
set_option maxRecDepth 100000
set_option maxHeartbeats 1000000
namespace Rd
open PySem L2 Pw Pv Lx Ls Lq Wk Lv Lz Dg Lg Lo Rg
section
variable {F F' : List Fo} {B B' : List Nw} {Rs : List Rw} {r : Rw} {d e : Int} {last : Nat}
theorem ord_congr (hS : stepsOf F B r d = stepsOf F' B' r e) (hf : fborn F r d = fborn F' r e) (hs : stB F B r d = stB F' B' r e) (hl : F.length = F'.length) (hb : (bornL F d).length = (bornL F' e).length) : ordN F B d last r = ordN F' B' e last r := by
  have rb : reB F B r d = reB F' B' r e := by
    funext x
    unfold reB
    rw [hS, hf]
  have rr : Lo.RR F B r d = Lo.RR F' B' r e := by
    unfold Lo.RR
    rw [rb, hl]
  have iw : IsWalk F B r d = IsWalk F' B' r e := by
    funext V
    unfold IsWalk
    rw [hS, hf]
  have vf : vF F B r d = vF F' B' r e := by
    unfold vF
    rw [iw]
  have gf : gF F B r d last = gF F' B' r e last := by
    unfold gF
    rw [hS, rb]
  have dg : dgs F B r d last = dgs F' B' r e last := by
    unfold dgs
    rw [gf, hb]
  unfold ordN ordR walkN
  rw [vf, dg, rr, hs, hS]
theorem first_congr (h : ∀ r ∈ Rs, ordN F B d last r = ordN F' B' e last r) : firstN F B d last Rs = firstN F' B' e last Rs := by
  unfold firstN
  induction Rs with
  | nil => rfl
  | cons r Rs ih =>
    rw [List.findSome?_cons, List.findSome?_cons, h r List.mem_cons_self, ih fun r hr => h r (List.mem_cons_of_mem _ hr)]
structure Still (F : List Fo) (B : List Nw) (d e : Int) : Prop where
  le : d ≤ e
  f : ∀ f ∈ F, f.day ≤ e → f.day ≤ d
  b : ∀ n ∈ B, n.day ≤ e → n.day ≤ d
variable (hq : Still F B d e)
theorem Still.dec (h : Still F B d e) {n : Nw} (hn : n ∈ B) : decide (n.day ≤ e) = decide (n.day ≤ d) := by
  rw [decide_eq_decide]
  exact ⟨h.b n hn, fun z => by have := h.le; omega⟩
theorem Still.decF (h : Still F B d e) {f : Fo} (hf : f ∈ F) : decide (f.day ≤ e) = decide (f.day ≤ d) := by
  rw [decide_eq_decide]
  exact ⟨h.f f hf, fun z => by have := h.le; omega⟩
theorem Still.born (h : Still F B d e) : bornL F e = bornL F d := List.filter_congr fun f hf => h.decF hf
theorem Still.up (h : Still F B d e) : upB B e = upB B d := List.filter_congr fun n hn => h.dec hn
theorem Still.days (h : Still F B d e) (who : Int) (word : Str) : daysOf B e who word = daysOf B d who word := by
  unfold daysOf
  congr 1
  refine List.filter_congr fun n hn => ?_
  unfold dayP
  rw [h.dec hn]
theorem Still.back (h : Still F B d e) (who : Int) : backOf B e who = backOf B d who := by
  unfold backOf
  rw [h.days]
theorem Still.cut (h : Still F B d e) (who : Int) : cutFrom B e who = cutFrom B d who := by
  unfold cutFrom behind
  rw [h.days, h.back]
theorem Still.dead (h : Still F B d e) : deadL B e = deadL B d := by
  unfold deadL
  congr 1
  refine List.filter_congr fun n hn => ?_
  rw [h.dec hn]
theorem Still.out (h : Still F B d e) : outL B e = outL B d := by
  unfold outL
  congr 1
  refine List.filter_congr fun n hn => ?_
  unfold nbP
  rw [h.dec hn, h.back]
theorem Still.st (h : Still F B d e) (G : List Fo) (r : Rw) : stB G B r e = stB G B r d := by
  funext x
  unfold stB
  rw [h.dead, h.out]
theorem Still.steps (h : Still F B d e) (r : Rw) : stepsOf F B r e = stepsOf F B r d := by
  have fo : ∀ w : Nat, foundOf F B r e w = foundOf F B r d w := fun w => by
    unfold foundOf
    rw [h.cut]
    refine List.filter_congr fun i _ => ?_
    unfold ccP
    cases hi : F[i]? with
    | none => rfl
    | some f =>
      have := h.decF (List.mem_of_getElem? hi)
      have e1 : decide (e < f.day) = decide (d < f.day) := by
        rw [decide_eq_decide] at this ⊢
        omega
      dsimp only
      rw [e1]
  funext w
  unfold stepsOf
  rw [fo]
theorem Still.fb (h : Still F B d e) (r : Rw) : fborn F r e = fborn F r d := by
  unfold fborn
  cases hi : F[f0 r]? with
  | none => rfl
  | some f => exact h.decF (List.mem_of_getElem? hi)
theorem Still.ord (h : Still F B d e) (r : Rw) : ordN F B e last r = ordN F B d last r := ord_congr (h.steps r) (h.fb r) (h.st F r) rfl (by rw [h.born])
theorem Still.first (h : Still F B d e) : firstN F B e last Rs = firstN F B d last Rs := first_congr fun r _ => h.ord r
end
end Rd
end
section
set_option Elab.async false
set_option linter.all false
set_option maxRecDepth 100000
set_option maxHeartbeats 4000000
namespace K92
open PySem L2 Pw Pv Lx Lq Lt
open Ls
section
variable {ns : List Int} {s : Lx.St} {m : Mem} {F : List Fo} {B : List Nw}
theorem run_bl {np n : Nat} {b : Sx} {ws : List W} {ρ : Pw.Env} {m M : Mem} {d : D} (hl : ws.length = np) (h : b (startD n ws) m = some (.ret (.v d), ρ, M)) (tk : M.take m.length = m) : runF np n b ws m = some (.v d, m) := by
  unfold runF
  rw [if_pos hl, h]
  simp [outW, tk]
theorem if_nil {t : Tx} {a : Sx} {ρ : Pw.Env} {m m1 : Mem} (h : t ρ m = some (false, m1)) : sIf t a sNil ρ m = some (.nx, ρ, m1) := by
  unfold sIf
  rw [h]; rfl
theorem fl_at {i : Nat} {f : Fo} (h : F[i]? = some f) : ixD (hD F) (nD i) = some (.v f.d) := by
  show (atI (F.map Fo.d) (i : Int)).bind _ = _
  rw [at_nat (x := f.d) (by rw [List.getElem?_map, h]; rfl)]; rfl
theorem man_at {i : Nat} {f : Fo} (h : F[i]? = some f) (m : Mem) : F_is_man [.v (hD F), .v (nD i)] m = some (.v (.bl (decide (f.man = 1))), m) := by
  have e := Lx.is_man_spec (F := F) (i := i) (m := m) (List.getElem?_eq_some_iff.mp h).1
  have : manP F i = decide (f.man = 1) := by unfold manP; rw [h]
  rw [this] at e
  exact e
theorem day_at {i : Nat} {f : Fo} (h : F[i]? = some f) (m : Mem) : F_day_of [.v (hD F), .v (nD i)] m = some (.v (.int f.day), m) := Lx.day_of_spec h
theorem parent_fits {i : Nat} {f : Fo} (h : F[i]? = some f) {v : Int} {b : Bool} (hp : ParOk (F.take i) f.day v (if b = true then 1 else 0)) (m : Mem) : F_parent_fits [.v (hD F), .v (nD i), .v (.int v), .v (.bl b)] m = some (.v (.bl true), m) := by
  rcases hp with rfl | ⟨j, g, rfl, hj, hm, hd⟩
  · simp only [F_parent_fits, runF, B_parent_fits, startD]
    simp [sSeq, sIf, tVal, eOp, eVar, eUn, eC, negD, sRet, outW]
  · have hj2 : F[j]? = some g := by
      have hl := (List.getElem?_eq_some_iff.mp hj).1
      rw [List.length_take] at hl
      rw [List.getElem?_take, if_pos (by omega)] at hj
      exact hj
    have hl := (List.getElem?_eq_some_iff.mp hj2).1
    have e1 := fun m => man_at hj2 m
    have e2 := fun m => day_at hj2 m
    have e3 := fun m => day_at h m
    have eb : decide (g.man = 1) = b := by rw [hm]; cases b <;> rfl
    rw [eb] at e1
    have ln : lenD [hD F] = some (.v (.int (F.length : Int))) := by simp
    have n1 : ¬ ((j : Int) = -1) := by omega
    have n2 : (j : Int) < F.length := by omega
    have eq : eqD false (.bl b) (.bl b) = some (.v (.bl true)) := by cases b <;> rfl
    generalize hD F = H at *
    simp only [F_parent_fits, runF, B_parent_fits, startD]
    simp [sSeq, sIf, tVal, eOp, eVar, eUn, eC, negD, n1, sNil, tNot', eChain, eCB, aCons, aNil, ln, n2, sRet, eAnd, eCall, e1, e2, e3, hd, outW, eq]
theorem fits_in {i : Nat} {f : Fo} (hF : GoodH F) (h : F[i]? = some f) (m : Mem) : F_fits_in [.v (hD F), .v (nD i)] m = some (.v (.bl true), m) := by
  have p1 := fun m => parent_fits (b := true) h (hF.fa i f h) m
  have p2 := fun m => parent_fits (b := false) h (hF.mo i f h) m
  have d1 := fun m => day_at h m
  have x0 := fl_at h
  have x1 : ixD f.d (.int 1) = some (.v (.int f.fa)) := Lx.fo1
  have x2 : ixD f.d (.int 2) = some (.v (.int f.mo)) := Lx.fo2
  have body : ∀ m, sRet (eAnd (eCall F_parent_fits (aCons (eVar 0) (aCons (eVar 1) (aCons (eOp ixD (eOp ixD (eVar 0) (eVar 1)) (eC (.int 1))) (aCons (eC (.bl true)) aNil))))) (eCall F_parent_fits (aCons (eVar 0) (aCons (eVar 1) (aCons (eOp ixD (eOp ixD (eVar 0) (eVar 1)) (eC (.int 2))) (aCons (eC (.bl false)) aNil)))))) [some (.v (hD F)), some (.v (nD i))] m = some (.ret (.v (.bl true)), [some (.v (hD F)), some (.v (nD i))], m) := by
    intro m
    generalize hD F = H at *
    simp [sRet, eAnd, tVal, eCall, aCons, aNil, eVar, eOp, x0, x1, x2, eC, p1, p2]
  have test : ∀ m, tAnd' (tVal (eOp (cmpD gtI) (eVar 1) (eC (.int 0)))) (tVal (eOp (cmpD ltI) (eCall F_day_of (aCons (eVar 0) (aCons (eVar 1) aNil))) (eCall F_day_of (aCons (eVar 0) (aCons (eOp subD (eVar 1) (eC (.int 1))) aNil))))) [some (.v (hD F)), some (.v (nD i))] m = some (false, m) := by
    intro m
    by_cases hi : i = 0
    · subst hi
      simp [tAnd', tVal, eOp, eVar, eC]
    · have hl := (List.getElem?_eq_some_iff.mp h).1
      obtain ⟨g, hg⟩ : ∃ g, F[i - 1]? = some g := ⟨F[i - 1]'(by omega), List.getElem?_eq_getElem (by omega)⟩
      have d2 := fun m => day_at hg m
      have le : g.day ≤ f.day := by
        have := (List.pairwise_iff_getElem.mp hF.up) (i - 1) i (by omega) hl (by omega)
        obtain ⟨a1, a2⟩ := List.getElem?_eq_some_iff.mp hg
        obtain ⟨b1, b2⟩ := List.getElem?_eq_some_iff.mp h
        rw [a2, b2] at this
        exact this
      have sb : subD (nD i) (.int 1) = some (.v (nD (i - 1))) := by
        show some (W.v (.int ((i : Int) - 1))) = some (W.v (.int ((i - 1 : Nat) : Int)))
        congr 3; omega
      have gt0 : cmpD gtI (nD i) (.int 0) = some (.v (.bl true)) := by
        show some (W.v (.bl (decide ((i : Int) > 0)))) = _
        rw [decide_eq_true (by omega)]
      have lt0 : cmpD ltI (.int f.day) (.int g.day) = some (.v (.bl false)) := by
        show some (W.v (.bl (decide (f.day < g.day)))) = _
        rw [decide_eq_false (by omega)]
      generalize hD F = H at *
      generalize hN : nD i = N at *
      generalize hN1 : nD (i - 1) = N1 at *
      simp [tAnd', tVal, eOp, eVar, eC, gt0, eCall, aCons, aNil, d1, sb, d2, lt0, -cmpD]
  have t := test m
  have b := body m
  show runF 2 2 B_fits_in [.v (hD F), .v (nD i)] m = _
  refine run_bl (ρ := [some (.v (hD F)), some (.v (nD i))]) (M := m) rfl ?_ (by simp)
  exact seq_at (if_nil t) b
theorem is_num (i : Int) (m : Mem) : F_is_number [.v (.int i)] m = some (.v (.bl true), m) := by
  simp only [F_is_number, runF, B_is_number, startD]
  simp [sRet, eAnd, tVal, eIs, eVar, isD, eNot]
theorem tuple_of {ds : List D} {n : Int} (h : (ds.length : Int) = n) (m : Mem) : F_is_tuple_of [.v (.tup ds), .v (.int n)] m = some (.v (.bl true), m) := by
  simp only [F_is_tuple_of, runF, B_is_tuple_of, startD]
  simp [sRet, eAnd, tVal, eIs, eVar, isD, eOp, eCB, aCons, aNil, h]
theorem in01 {i : Int} (h : i = 0 ∨ i = 1) : inD false (.int i) (.tup [.int 0, .int 1]) = some (.v (.bl true)) := by
  rcases h with rfl | rfl <;> rfl
theorem folk_form {f : Fo} (h : FoOk f) (m : Mem) : F_has_folk_form [.v f.d] m = some (.v (.bl true), m) := by
  have t5 := fun m => tuple_of (ds := [.int f.day, .int f.fa, .int f.mo, .int f.man, .int f.wed]) (n := 5) rfl m
  have a := all_at (src := iSeq (eVar 0)) (t := gN 6) (f := eCall F_is_number (aCons (eVar 6) aNil)) (vs := [6]) (ρ := [some (.v f.d), none, none, none, none, none, none]) (m := m) [f.day, f.fa, f.mo, f.man, f.wed] D.int (by simp [iSeq, eVar, Fo.d]) (fun i hi => ⟨_, rfl, call_at (f := aCons (eVar 6) aNil) (ws := [.v (.int i)]) rfl (is_num i m)⟩)
  have a' : E_has_folk_form_1 [some (.v f.d), none, none, none, none, none, none] m = some (.v (.bl true), m) := a
  have n1 := in01 h.m
  have n2 := in01 h.w
  have d0 := h.d0
  have d1 : f.day ≤ 99999 := by have := h.d1; omega
  unfold Fo.d at a' ⊢
  simp only [F_has_folk_form, runF, B_has_folk_form, startD]
  simp [sSeq, sIf, tOr', tNot', tTru, eCall, aCons, aNil, eVar, eC, t5, a', truD, sNil, sAsg, gT, gL, gN, sRet, eAnd, tVal, eChain, d0, d1, eOp, eTup, vl, n1, n2, outW]
theorem is_house_spec (hF : GoodH F) (m : Mem) : F_is_house [.v (hD F)] m = some (.v (.bl true), m) := by
  have ln : lenD [hD F] = some (.v (.int (F.length : Int))) := by simp
  have a1 : E_is_house_2 [some (.v (hD F)), none, none] m = some (.v (.bl true), m) :=
    all_at (src := iSeq (eVar 0)) (t := gN 2) (f := eCall F_has_folk_form (aCons (eVar 2) aNil)) (vs := [2]) (ρ := [some (.v (hD F)), none, none]) (m := m) F Fo.d (by simp [iSeq, eVar]) (fun f hf => ⟨_, rfl, call_at (f := aCons (eVar 2) aNil) (ws := [.v f.d]) rfl (folk_form (hF.ok f hf) m)⟩)
  have a2 : E_is_house_1 [some (.v (hD F)), none, none] m = some (.v (.bl true), m) :=
    all_at (src := iRngA (aCons (eCB lenD (aCons (eVar 0) aNil)) aNil)) (t := gN 1) (f := eCall F_fits_in (aCons (eVar 0) (aCons (eVar 1) aNil))) (vs := [1]) (ρ := [some (.v (hD F)), none, none]) (m := m) (List.range F.length) nD
      (Le.rng_at (by generalize hD F = H at *; simp [eCB, aCons, aNil, eVar, ln]) (by have := hF.le; omega)) (fun i hi => ⟨_, rfl, by
        have hl := List.mem_range.mp hi
        exact call_at (f := aCons (eVar 0) (aCons (eVar 1) aNil)) (ws := [.v (hD F), .v (nD i)]) rfl (fits_in hF (List.getElem?_eq_getElem hl) m)⟩)
  have l1 := hF.ne
  have l2 : (F.length : Int) ≤ 60 := by have := hF.le; omega
  have l1' : (1 : Int) ≤ F.length := by omega
  have it : isD .tuple (hD F) = true := rfl
  generalize hD F = H at *
  simp only [F_is_house, runF, B_is_house, startD]
  simp [sSeq, sIf, tOr', tNot', tTru, eIs, eVar, it, truD, tVal, eChain, eC, eCB, aCons, aNil, ln, l1', l2, sNil, a1, sRet, a2, outW]
theorem fo_bnd (hF : GoodH F) : ∀ f ∈ F, FoOk f ∧ (-1 ≤ f.fa ∧ f.fa ≤ 99999) ∧ (-1 ≤ f.mo ∧ f.mo ≤ 99999) := fun f hf => by
  obtain ⟨i, hi, e⟩ := List.getElem_of_mem hf
  have ei : F[i]? = some f := by rw [List.getElem?_eq_getElem hi, e]
  have le := hF.le
  have bd : ∀ v d man, ParOk (F.take i) d v man → -1 ≤ v ∧ v ≤ 99999 := fun v d man h => by
    rcases h with h | ⟨j, g, rfl, hj, _⟩
    · omega
    · have := (List.getElem?_eq_some_iff.mp hj).1
      rw [List.length_take] at this
      omega
  exact ⟨hF.ok f hf, bd _ _ _ (hF.fa i f ei), bd _ _ _ (hF.mo i f ei)⟩
theorem wrd_c {w : Str} (h : decide (w.length ≤ 10) && !(w.cps.toList.contains 32) && !(w.cps.toList.contains 10) = true) : WRd w := by
  simp only [Bool.and_eq_true, decide_eq_true_eq, Bool.not_eq_true'] at h
  obtain ⟨⟨h1, h2⟩, h3⟩ := h
  refine ⟨h1, fun z => ?_, fun z => ?_⟩
  · rw [List.contains_iff_mem.mpr z] at h2; cases h2
  · rw [List.contains_iff_mem.mpr z] at h3; cases h3
theorem fo_rd (hF : GoodH F) : ∀ f ∈ F, ∀ w ∈ foL f, WRd w := fun f hf w hw => by
  obtain ⟨ok, ⟨a, b⟩, c, d⟩ := fo_bnd hF f hf
  have := ok.d0
  have := ok.d1
  simp only [foL, List.mem_cons, List.not_mem_nil, or_false] at hw
  rcases hw with rfl | rfl | rfl | rfl | rfl
  · exact wrd_i (by omega) (by omega)
  · exact wrd_nm a b
  · exact wrd_nm c d
  · unfold sex; split <;> exact wrd_c (by decide +kernel)
  · unfold brt; split <;> exact wrd_c (by decide +kernel)
theorem houseT (hF : GoodH F) : TOk (F.map foL) := ⟨by have := hF.le; simp; omega, fun ws hw => by
  obtain ⟨f, hf, rfl⟩ := List.mem_map.mp hw
  exact fo_ok (foB hF f hf)⟩
theorem run_at' {np n : Nat} {b : Sx} {ws : List W} {ρ : Pw.Env} {m : Mem} {d : D} (hl : ws.length = np) (h : b (startD n ws) m = some (.ret (.v d), ρ, m)) : runF np n b ws m = some (.v d, m) := run_bl hl h (by simp)
theorem read_house_spec (hF : GoodH F) (m : Mem) : F_read_house [.v (.str (tx (F.map foL)))] m = some (.v (hD F), m) := by
  have l := lines_spec (houseT hF) (fun ws hw => by
    obtain ⟨f, hf, rfl⟩ := List.mem_map.mp hw
    simp [foL]) (fun ws hw => by
    obtain ⟨f, hf, rfl⟩ := List.mem_map.mp hw
    exact fo_rd hF f hf) m
  have e : E_read_house_1 [some (.v (.str (tx (F.map foL)))), none, none] m = some (.v (hD F), m) := by
    have q := Ls.tupG_map (src := iSeq (eCall F_lines_of (aCons (eVar 0) aNil))) (t := gN 2) (c := tYes') (f := eCall F_folk_of (aCons (eVar 2) aNil)) (vs := [2]) (ρ := [some (.v (.str (tx (F.map foL)))), none, none]) (m := m) (m1 := m) F (fun f => rD (foL f)) (fun _ => true) Fo.d
      (by
        unfold iSeq
        rw [call_at (f := aCons (eVar 0) aNil) (ws := [.v (.str (tx (F.map foL)))]) (m1 := m) rfl l]
        simp only [Option.bind_some]
        rw [List.map_map]; rfl)
      (fun f hf => ⟨_, rfl, rfl, fun _ => ⟨.v f.d, by
        obtain ⟨ok, ⟨a, b⟩, c, d⟩ := fo_bnd hF f hf
        have := ok.d1
        exact call_at (f := aCons (eVar 2) aNil) (ws := [.v (rD (foL f))]) rfl (folk_of_spec ok.d0 (by omega) a b c d ok.m ok.w m), rfl⟩⟩) (by have := hF.le; omega)
    rw [List.filter_eq_self.mpr (fun _ _ => rfl)] at q
    exact q
  have ih := is_house_spec hF m
  generalize tx (F.map foL) = T at *
  generalize hD F = H at *
  refine run_at' (ρ := [some (.v (.str T)), some (.v H), none]) rfl (seq_at (set_at e) (seq_at (if_nil ?_) rfl))
  show tNot' (tTru (eCall F_is_house (aCons (eVar 1) aNil))) [some (.v (.str T)), some (.v H), none] m = _
  unfold tNot' tTru
  rw [call_at (f := aCons (eVar 1) aNil) (ws := [.v H]) (m1 := m) rfl ih]
  rfl
end
end K92
end
section
set_option Elab.async false
set_option linter.all false
set_option maxRecDepth 100000
set_option maxHeartbeats 4000000
namespace K92
open PySem L2 Pw Pv Lx Lq Lt
open Ls
section
variable {ns : List Int} {s : Lx.St} {m : Mem} {F : List Fo} {B : List Nw}
theorem folk_ok {i : Int} (h0 : 0 ≤ i) (h1 : i < F.length) (m : Mem) : F_is_folk_of [.v (hD F), .v (.int i)] m = some (.v (.bl true), m) := by
  have e := Ls.is_folk_of_spec (F := F) (i := i) (m := m)
  rw [decide_eq_true h0, decide_eq_true h1] at e
  exact e
theorem in_y {w : Str} {L : List Str} (h : w ∈ L) : inD false (.str w) (.tup (L.map .str)) = some (.v (.bl true)) := by
  rw [in_strs, decide_eq_true h]; rfl
theorem row_ok {r : Rw} (h : RwOk F r) (m : Mem) : F_is_row [.v (hD F), .v r.d] m = some (.v (.bl true), m) := by
  have t4 := fun m => tuple_of (ds := [.int r.founder, .str r.men, .int r.wed, .str r.way]) (n := 4) rfl m
  have f := fun m => folk_ok (F := F) h.f0 h.f1 m
  have n := fun m => is_num r.wed m
  have s1 : inD false (.str r.men) (.tup [.str "alike", .str "first", .str "only"]) = some (.v (.bl true)) := in_y h.men
  have s2 := in01 h.wed
  have s3 : inD false (.str r.way) (.tup [.str "lines", .str "age", .str "near"]) = some (.v (.bl true)) := in_y h.way
  unfold Rw.d
  generalize hD F = H at *
  simp only [F_is_row, runF, B_is_row, startD]
  simp [sSeq, sIf, tOr', tNot', tTru, eCall, aCons, aNil, eVar, eC, t4, truD, sNil, sAsg, gT, gL, gN, sRet, eAnd, tVal, f, n, eOp, eTup, vl, s1, s2, s3, outW]
theorem rule_ok {R : List Rw} (h1 : 1 ≤ R.length) (h3 : R.length ≤ 3) (hR : ∀ r ∈ R, RwOk F r) (hm : ∃ r0 rest, R = r0 :: rest ∧ ∀ r ∈ R, Lr.fday F r ≤ Lr.fday F r0) (m : Mem) : F_is_rule [.v (hD F), .v (uD R)] m = some (.v (.bl true), m) := by
  obtain ⟨r0, rest, hr0, mx⟩ := hm
  have ok0 : RwOk F r0 := hR r0 (by rw [hr0]; exact List.mem_cons_self)
  have dayr : ∀ r, RwOk F r → ∀ m, F_day_of [.v (hD F), .v (.int r.founder)] m = some (.v (.int (Lr.fday F r)), m) := fun r ok m => by
    obtain ⟨f, _, e, _, d⟩ := Lr.fday_at ok
    have := day_at e m
    rw [show nD r.founder.toNat = D.int r.founder by
      show D.int ((r.founder.toNat : Nat) : Int) = _
      rw [show ((r.founder.toNat : Nat) : Int) = r.founder by have := ok.f0; omega], d] at this
    exact this
  have ix0 : ixD (uD R) (.int 0) = some (.v r0.d) := by
    rw [hr0]
    show (atI (r0.d :: rest.map Rw.d) ((0 : Nat) : Int)).bind _ = _
    rw [at_nat (x := r0.d) rfl]; rfl
  have ixf : ∀ r : Rw, ixD r.d (.int 0) = some (.v (.int r.founder)) := fun r => rfl
  have ln : lenD [uD R] = some (.v (.int (R.length : Int))) := by simp
  have a1 : E_is_rule_2 [some (.v (hD F)), some (.v (uD R)), none, none] m = some (.v (.bl true), m) :=
    all_at (src := iSeq (eVar 1)) (t := gN 3) (f := eCall F_is_row (aCons (eVar 0) (aCons (eVar 3) aNil))) (vs := [3]) (ρ := [some (.v (hD F)), some (.v (uD R)), none, none]) (m := m) R Rw.d (by simp [iSeq, eVar]) (fun r hr => ⟨_, rfl, call_at (f := aCons (eVar 0) (aCons (eVar 3) aNil)) (ws := [.v (hD F), .v r.d]) rfl (row_ok (hR r hr) m)⟩)
  have a2 : E_is_rule_1 [some (.v (hD F)), some (.v (uD R)), some (.v (.int (Lr.fday F r0))), none] m = some (.v (.bl true), m) :=
    all_at (src := iSeq (eVar 1)) (t := gN 3) (f := eOp (cmpD leI) (eCall F_day_of (aCons (eVar 0) (aCons (eOp ixD (eVar 3) (eC (.int 0))) aNil))) (eVar 2)) (vs := [3]) (ρ := [some (.v (hD F)), some (.v (uD R)), some (.v (.int (Lr.fday F r0))), none]) (m := m) R Rw.d (by simp [iSeq, eVar]) (fun r hr => ⟨[some (.v (hD F)), some (.v (uD R)), some (.v (.int (Lr.fday F r0))), some (.v r.d)], rfl, by
      have d := dayr r (hR r hr)
      have le : cmpD leI (.int (Lr.fday F r)) (.int (Lr.fday F r0)) = some (.v (.bl true)) := by
        show some (W.v (.bl (decide (Lr.fday F r ≤ Lr.fday F r0)))) = _
        rw [decide_eq_true (mx r hr)]
      have xf := ixf r
      generalize hD F = H at *
      generalize uD R = U at *
      generalize hr : r.d = RD at *
      simp [eOp, eCall, aCons, aNil, eVar, eC, xf, d, le]⟩)
  have l1 : (1 : Int) ≤ R.length := by omega
  have l2 : (R.length : Int) ≤ 3 := by omega
  have it : isD .tuple (uD R) = true := rfl
  have d0 := dayr r0 ok0
  have x0 := ixf r0
  generalize hD F = H at *
  generalize uD R = U at *
  generalize r0.d = RD at *
  simp only [F_is_rule, runF, B_is_rule, startD]
  simp [sSeq, sIf, tOr', tNot', tTru, eIs, eVar, it, truD, tVal, eChain, eC, eCB, aCons, aNil, ln, l1, l2, sNil, a1, sSet, eCall, eOp, ix0, x0, d0, sRet, a2, outW]
theorem rw_rd (hF : GoodH F) {r : Rw} (h : RwOk F r) : ∀ w ∈ rwL r, WRd w := fun w hw => by
  have := h.f0
  have := h.f1
  have := hF.le
  simp only [rwL, List.mem_cons, List.not_mem_nil, or_false] at hw
  rcases hw with rfl | rfl | rfl | rfl
  · exact wrd_i (by omega) (by omega)
  · have := h.men
    simp only [List.mem_cons, List.not_mem_nil, or_false] at this
    rcases this with z | z | z <;> rw [z] <;> exact wrd_c (by decide +kernel)
  · unfold cnt; split <;> exact wrd_c (by decide +kernel)
  · have := h.way
    simp only [List.mem_cons, List.not_mem_nil, or_false] at this
    rcases this with z | z | z <;> rw [z] <;> exact wrd_c (by decide +kernel)
theorem read_rule_spec (hF : GoodH F) {R : List Rw} (h1 : 1 ≤ R.length) (h3 : R.length ≤ 3) (hR : ∀ r ∈ R, RwOk F r) (hm : ∃ r0 rest, R = r0 :: rest ∧ ∀ r ∈ R, Lr.fday F r ≤ Lr.fday F r0) (m : Mem) : F_read_rule [.v (hD F), .v (.str (tx (R.map rwL)))] m = some (.v (uD R), m) := by
  have l := lines_spec (ruleT hF h3 hR) (fun ws hw => by
    obtain ⟨f, hf, rfl⟩ := List.mem_map.mp hw
    simp [rwL]) (fun ws hw => by
    obtain ⟨f, hf, rfl⟩ := List.mem_map.mp hw
    exact rw_rd hF (hR f hf)) m
  have e : E_read_rule_1 [some (.v (hD F)), some (.v (.str (tx (R.map rwL)))), none, none] m = some (.v (uD R), m) := by
    have q := Ls.tupG_map (src := iSeq (eCall F_lines_of (aCons (eVar 1) aNil))) (t := gN 3) (c := tYes') (f := eCall F_row_of (aCons (eVar 3) aNil)) (vs := [3]) (ρ := [some (.v (hD F)), some (.v (.str (tx (R.map rwL)))), none, none]) (m := m) (m1 := m) R (fun f => rD (rwL f)) (fun _ => true) Rw.d
      (by
        unfold iSeq
        rw [call_at (f := aCons (eVar 1) aNil) (ws := [.v (.str (tx (R.map rwL)))]) (m1 := m) rfl l]
        simp only [Option.bind_some]
        rw [List.map_map]; rfl)
      (fun f hf => ⟨_, rfl, rfl, fun _ => ⟨.v f.d, by
        have ok := hR f hf
        have := ok.f0
        have := ok.f1
        have := hF.le
        exact call_at (f := aCons (eVar 3) aNil) (ws := [.v (rD (rwL f))]) rfl (row_of_spec (by omega) (by omega) ok.wed m), rfl⟩⟩) (by omega)
    rw [List.filter_eq_self.mpr (fun _ _ => rfl)] at q
    exact q
  have ih := rule_ok h1 h3 hR hm m
  generalize tx (R.map rwL) = T at *
  generalize hD F = H at *
  generalize uD R = U at *
  refine run_at' (ρ := [some (.v H), some (.v (.str T)), some (.v U), none]) rfl (seq_at (set_at e) (seq_at (if_nil ?_) rfl))
  show tNot' (tTru (eCall F_is_rule (aCons (eVar 0) (aCons (eVar 2) aNil)))) [some (.v H), some (.v (.str T)), some (.v U), none] m = _
  unfold tNot' tTru
  rw [call_at (f := aCons (eVar 0) (aCons (eVar 2) aNil)) (ws := [.v H, .v U]) (m1 := m) rfl ih]
  rfl
theorem lt_eq (a b : Nw) : PySem.W.dataLt (.tuple [.str a.word, .int a.day, .int a.who, .int a.other]) (.tuple [.str b.word, .int b.day, .int b.who, .int b.other]) = nLt a b := by
  rw [PySem.W.dataLt_tuple]
  have i1 : PyProof.Rows.itemLt (.inl 1) (.inl 1) = false := PyProof.Rows.itemOrd.irrefl (.inl 1)
  have i0 : PyProof.Rows.itemLt (.inl 0) (.inl 0) = false := PyProof.Rows.itemOrd.irrefl (.inl 0)
  unfold nLt Pv.kLt Nw.k
  simp only [PySem.W.keyToksAll, PySem.W.keyToks, List.cons_append, List.nil_append, PyProof.Rows.lexLt, i1, i0, Bool.false_or, Bool.not_false, Bool.true_and, Bool.and_false, Bool.or_false, List.map_cons, List.map_nil, Pv.ck]
theorem lt_nw (a b : Nw) : ltPD a.d b.d = some (.v (.bl (nLt a b))) := by
  have p : ∀ n : Nw, pyD n.d = some (.tuple [.str n.word, .int n.day, .int n.who, .int n.other]) := fun n => by simp [Nw.d, pyD, pyDs]
  unfold ltPD
  rw [p a, p b]
  simp only [Option.bind_some]
  rw [if_pos ⟨by simp [PySem.W.alike, PySem.W.alikeAll], (fun z => by cases z), by simp [PyData.depth, PyData.depthAll]⟩, lt_eq]
theorem rising_ok (hB : GoodB F B) (m : Mem) : F_is_rising [.v (bD B)] m = some (.v (.bl true), m) := by
  have ln : lenD [bD B] = some (.v (.int (B.length : Int))) := by simp
  have le := hB.le
  have e : E_is_rising_1 [some (.v (bD B)), none] m = some (.v (.bl true), m) := by
    by_cases hb : B.length = 0
    · obtain rfl := List.eq_nil_of_length_eq_zero hb
      exact all_at (src := iRngA (aCons (eOp subD (eCB lenD (aCons (eVar 0) aNil)) (eC (.int 1))) aNil)) (t := gN 1) (f := eOp ltPD (eOp ixD (eVar 0) (eVar 1)) (eOp ixD (eVar 0) (eOp addD (eVar 1) (eC (.int 1))))) (vs := [1]) (ρ := [some (.v (bD [])), none]) (m := m) ([] : List Nat) nD (by
        simp only [iRngA]
        rw [Le.one_at (w := .v (.int (-1))) (m1 := m) (by simp [eOp, eCB, aCons, aNil, eVar, eC, subD])]
        rfl) (fun i hi => nomatch hi)
    · have sb : ∀ m, eOp subD (eCB lenD (aCons (eVar 0) aNil)) (eC (.int 1)) [some (.v (bD B)), none] m = some (.v (.int ((B.length - 1 : Nat) : Int)), m) := fun m => by
        have s1 : subD (.int (B.length : Int)) (.int 1) = some (.v (.int ((B.length - 1 : Nat) : Int))) := by
          show some (W.v (.int ((B.length : Int) - 1))) = _
          congr 3; omega
        generalize bD B = H at *
        simp [eOp, eCB, aCons, aNil, eVar, eC, ln, s1, -subD]
      exact all_at (src := iRngA (aCons (eOp subD (eCB lenD (aCons (eVar 0) aNil)) (eC (.int 1))) aNil)) (t := gN 1) (f := eOp ltPD (eOp ixD (eVar 0) (eVar 1)) (eOp ixD (eVar 0) (eOp addD (eVar 1) (eC (.int 1))))) (vs := [1]) (ρ := [some (.v (bD B)), none]) (m := m) (List.range (B.length - 1)) nD (Le.rng_at (sb m) (by omega)) (fun i hi => ⟨[some (.v (bD B)), some (.v (nD i))], rfl, by
        have hl := List.mem_range.mp hi
        have h1 : i < B.length := by omega
        have h2 : i + 1 < B.length := by omega
        have x1 : ixD (bD B) (nD i) = some (.v (B[i].d)) := by
          show (atI (B.map Nw.d) (i : Int)).bind _ = _
          rw [at_nat (x := B[i].d) (by rw [List.getElem?_map, List.getElem?_eq_getElem h1]; rfl)]; rfl
        have x2 : ixD (bD B) (.int ((i : Int) + 1)) = some (.v (B[i + 1].d)) := by
          show (atI (B.map Nw.d) ((i : Int) + 1)).bind _ = _
          rw [show (i : Int) + 1 = ((i + 1 : Nat) : Int) by omega, at_nat (x := B[i + 1].d) (by rw [List.getElem?_map, List.getElem?_eq_getElem h2]; rfl)]; rfl
        have lt := lt_nw B[i] B[i + 1]
        have tr : nLt B[i] B[i + 1] = true := (List.pairwise_iff_getElem.mp hB.up) i (i + 1) h1 h2 (by omega)
        rw [tr] at lt
        have ad : addD (nD i) (.int 1) = some (.v (.int ((i : Int) + 1))) := rfl
        generalize bD B = H at *
        generalize B[i].d = X at *
        generalize B[i + 1].d = Y at *
        generalize nD i = N at *
        simp [eOp, eVar, eC, x1, ad, x2, lt, -addD]⟩)
  generalize bD B = H at *
  simp only [F_is_rising, runF, B_is_rising, startD]
  simp [sRet, e, outW]
theorem may_ok {n : Nw} (ok : NwOk F n) (ha : n.word = "awaits") (m : Mem) : F_may_await [.v (hD F), .v (.int n.day), .v (.int n.who), .v (.int n.other)] m = some (.v (.bl true), m) := by
  obtain ⟨aw, po⟩ := ok.aw ha
  obtain ⟨f, hf⟩ : ∃ f, F[n.who.toNat]? = some f := ⟨F[n.who.toNat]'(by have := ok.w0; have := ok.w1; omega), List.getElem?_eq_getElem (by have := ok.w0; have := ok.w1; omega)⟩
  obtain ⟨mf, df⟩ := aw f hf
  have cast : nD n.who.toNat = D.int n.who := by
    show D.int ((n.who.toNat : Nat) : Int) = _
    rw [show ((n.who.toNat : Nat) : Int) = n.who by have := ok.w0; omega]
  have e1 := fun m => man_at hf m
  have e2 := fun m => day_at hf m
  rw [cast] at e1 e2
  have nm1 : decide (f.man = 1) = false := by rw [mf]; rfl
  rw [nm1] at e1
  have nd : ¬ n.day = f.day := by omega
  rcases po with h | ⟨j, g, hj, hg, hm, hd⟩
  · rw [h]
    generalize hD F = H at *
    simp only [F_may_await, runF, B_may_await, startD]
    simp [sSeq, sIf, tOr', tTru, eCall, aCons, aNil, eVar, e1, truD, tVal, eOp, e2, nd, sNil, eUn, eC, negD, sRet, outW]
  · have hl := (List.getElem?_eq_some_iff.mp hg).1
    have g1 := fun m => man_at hg m
    have g2 := fun m => day_at hg m
    rw [decide_eq_true hm] at g1
    have g3 := fun m => folk_ok (F := F) (i := n.other) (by omega) (by omega) m
    have n1 : ¬ (n.other = -1) := by omega
    rw [show nD j = D.int n.other by rw [hj]] at g1 g2
    generalize hD F = H at *
    simp only [F_may_await, runF, B_may_await, startD]
    simp [sSeq, sIf, tOr', tTru, eCall, aCons, aNil, eVar, e1, truD, tVal, eOp, e2, nd, sNil, eUn, eC, negD, n1, sRet, eAnd, g1, g2, g3, hd, outW]
theorem news_ok {n : Nw} (ok : NwOk F n) (m : Mem) : F_is_news [.v (hD F), .v n.d] m = some (.v (.bl true), m) := by
  have t4 := fun m => tuple_of (ds := [.str n.word, .int n.day, .int n.who, .int n.other]) (n := 4) rfl m
  obtain ⟨f, hf⟩ : ∃ f, F[n.who.toNat]? = some f := ⟨F[n.who.toNat]'(by have := ok.w0; have := ok.w1; omega), List.getElem?_eq_getElem (by have := ok.w0; have := ok.w1; omega)⟩
  have dw := ok.dw f hf
  have cast : nD n.who.toNat = D.int n.who := by
    show D.int ((n.who.toNat : Nat) : Int) = _
    rw [show ((n.who.toNat : Nat) : Int) = n.who by have := ok.w0; omega]
  have e2 := fun m => day_at hf m
  rw [cast] at e2
  have fo := fun m => folk_ok (F := F) ok.w0 ok.w1 m
  have nu := fun m => is_num n.day m
  have s1 : inD true (.str n.word) (.tup [.str "dies", .str "leaves", .str "cuts", .str "returns", .str "awaits"]) = some (.v (.bl false)) := in_w ok.word
  have d1 := ok.d1
  unfold Nw.d
  by_cases ha : n.word = "awaits"
  · have ma := fun m => may_ok ok ha m
    have ea : eqD false (.str n.word) (.str "awaits") = some (.v (.bl true)) := by simp [ha]
    generalize hD F = H at *
    generalize n.word = w at *
    simp only [F_is_news, runF, B_is_news, startD]
    simp [sSeq, sIf, tOr', tNot', tTru, eCall, aCons, aNil, eVar, eC, t4, truD, sNil, sAsg, gT, gL, gN, tVal, eOp, s1, fo, nu, eChain, e2, dw, d1, ea, sRet, ma, outW]
  · have ea : eqD false (.str n.word) (.str "awaits") = some (.v (.bl false)) := by simp [ha]
    have o := ok.o ha
    rw [o] at t4 ⊢
    generalize hD F = H at *
    generalize n.word = w at *
    simp only [F_is_news, runF, B_is_news, startD]
    simp [sSeq, sIf, tOr', tNot', tTru, eCall, aCons, aNil, eVar, eC, t4, truD, sNil, sAsg, gT, gL, gN, tVal, eOp, s1, fo, nu, eChain, e2, dw, d1, ea, sRet, eUn, negD, outW]
theorem book_ok (hB : GoodB F B) (hl : B.length ≤ 60) (m : Mem) : F_is_book [.v (hD F), .v (bD B)] m = some (.v (.bl true), m) := by
  have ln : lenD [bD B] = some (.v (.int (B.length : Int))) := by simp
  have a1 : E_is_book_1 [some (.v (hD F)), some (.v (bD B)), none] m = some (.v (.bl true), m) :=
    all_at (src := iSeq (eVar 1)) (t := gN 2) (f := eCall F_is_news (aCons (eVar 0) (aCons (eVar 2) aNil))) (vs := [2]) (ρ := [some (.v (hD F)), some (.v (bD B)), none]) (m := m) B Nw.d (by simp [iSeq, eVar]) (fun n hn => ⟨_, rfl, call_at (f := aCons (eVar 0) (aCons (eVar 2) aNil)) (ws := [.v (hD F), .v n.d]) rfl (news_ok (hB.ok n hn) m)⟩)
  have r := rising_ok hB m
  have it : isD .tuple (bD B) = true := rfl
  have g60 : ¬ ((B.length : Int) > 60) := by omega
  have cg : cmpD gtI (.int (B.length : Int)) (.int 60) = some (.v (.bl false)) := by
    show some (W.v (.bl (decide ((B.length : Int) > 60)))) = _
    rw [decide_eq_false g60]
  generalize hD F = H at *
  generalize bD B = X at *
  simp only [F_is_book, runF, B_is_book, startD]
  simp [sSeq, sIf, tOr', tNot', tTru, eIs, eVar, it, truD, tVal, eOp, eCB, aCons, aNil, ln, eC, cg, sNil, sRet, eAnd, a1, eCall, r, outW, -cmpD]
theorem nw_rd (hF : GoodH F) {n : Nw} (ok : NwOk F n) : ∀ w ∈ nwL n, WRd w := fun w hw => by
  have := ok.d0
  have := ok.d1
  have := ok.w0
  have := ok.w1
  have := ok.o0
  have := ok.o1
  have := hF.le
  unfold nwL at hw
  rcases List.mem_append.mp hw with z | z
  · simp only [List.mem_cons, List.not_mem_nil, or_false] at z
    rcases z with rfl | rfl | rfl
    · have := ok.word
      simp only [List.mem_cons, List.not_mem_nil, or_false] at this
      rcases this with z | z | z | z | z <;> rw [z] <;> exact wrd_c (by decide +kernel)
    · exact wrd_i (by omega) (by omega)
    · exact wrd_i (by omega) (by omega)
  · split at z
    · rw [List.mem_singleton.mp z]; exact wrd_nm (by omega) (by omega)
    · cases z
theorem read_book_spec (hF : GoodH F) (hB : GoodB F B) (hl : B.length ≤ 60) (m : Mem) : F_read_book [.v (hD F), .v (.str (tx (B.map nwL)))] m = some (.v (bD B), m) := by
  have l := lines_spec (bookT hF hB) (fun ws hw => by
    obtain ⟨f, hf, rfl⟩ := List.mem_map.mp hw
    simp [nwL]) (fun ws hw => by
    obtain ⟨f, hf, rfl⟩ := List.mem_map.mp hw
    exact nw_rd hF (hB.ok f hf)) m
  have e : E_read_book_1 [some (.v (hD F)), some (.v (.str (tx (B.map nwL)))), none, none] m = some (.v (bD B), m) := by
    have q := Ls.tupG_map (src := iSeq (eCall F_lines_of (aCons (eVar 1) aNil))) (t := gN 3) (c := tYes') (f := eCall F_news_of (aCons (eVar 3) aNil)) (vs := [3]) (ρ := [some (.v (hD F)), some (.v (.str (tx (B.map nwL)))), none, none]) (m := m) (m1 := m) B (fun f => rD (nwL f)) (fun _ => true) Nw.d
      (by
        unfold iSeq
        rw [call_at (f := aCons (eVar 1) aNil) (ws := [.v (.str (tx (B.map nwL)))]) (m1 := m) rfl l]
        simp only [Option.bind_some]
        rw [List.map_map]; rfl)
      (fun f hf => ⟨_, rfl, rfl, fun _ => ⟨.v f.d, by
        have ok := hB.ok f hf
        have := ok.d0
        have := ok.d1
        have := ok.w0
        have := ok.w1
        have := ok.o0
        have := ok.o1
        have := hF.le
        exact call_at (f := aCons (eVar 3) aNil) (ws := [.v (rD (nwL f))]) rfl (news_of_spec ok.word (by omega) (by omega) (by omega) (by omega) (by omega) (by omega) ok.o m), rfl⟩⟩) (by omega)
    rw [List.filter_eq_self.mpr (fun _ _ => rfl)] at q
    exact q
  have ih := book_ok hB hl m
  generalize tx (B.map nwL) = T at *
  generalize hD F = H at *
  generalize bD B = U at *
  refine run_at' (ρ := [some (.v H), some (.v (.str T)), some (.v U), none]) rfl (seq_at (set_at e) (seq_at (if_nil ?_) rfl))
  show tNot' (tTru (eCall F_is_book (aCons (eVar 0) (aCons (eVar 2) aNil)))) [some (.v H), some (.v (.str T)), some (.v U), none] m = _
  unfold tNot' tTru
  rw [call_at (f := aCons (eVar 0) (aCons (eVar 2) aNil)) (ws := [.v H, .v U]) (m1 := m) rfl ih]
  rfl
end
end K92
end
section
set_option Elab.async false
set_option linter.all false
set_option maxRecDepth 100000
set_option maxHeartbeats 4000000
namespace K92
open PySem L2 Pw Pv Lx Lq Lt
open Ls
noncomputable def BP (G : Fx) : Sx := (sSeq (sIf (tTru (eIs .tuple (eVar 0))) (sRet (eCB allBD (aCons (eLc (iSeq (eVar 0)) (gN 1) tYes' (eCall G (aCons (eVar 1) aNil)) [1]) aNil))) sNil) (sRet (eAnd (eIs2 .int .str (eVar 0)) (eNot (eIs .bool (eVar 0))))))
noncomputable def FP (G : Fx) : Fx := runF 1 2 (BP G)
theorem all_true {α : Type} (L : List α) : allBD [.lst (L.map fun _ => D.bl true)] = some (.v (.bl true)) := by
  have h : ∀ L : List α, allBl (L.map fun _ => D.bl true) = some (L.map fun _ => true) := fun L => by
    induction L with
    | nil => rfl
    | cons a L ih =>
      rw [List.map_cons, List.map_cons]
      unfold allBl
      rw [ih]; rfl
  show (some (L.map fun _ => D.bl true)).bind (fun ds => (allBl ds).bind fun bs => some (Pw.W.v (.bl (bs.all id)))) = _
  simp only [Option.bind_some, h]
  congr 3
  rw [List.all_eq_true]
  intro b hb
  obtain ⟨_, _, rfl⟩ := List.mem_map.mp hb
  rfl
theorem plainI (G : Fx) (i : Int) (m : Mem) : FP G [.v (.int i)] m = some (.v (.bl true), m) := by
  simp only [FP, runF, BP, startD]
  simp [sSeq, sIf, tTru, eIs, eVar, isD, truD, sNil, sRet, eAnd, eIs2, eNot, tVal, blD, outW]
theorem plainS (G : Fx) (i : Str) (m : Mem) : FP G [.v (.str i)] m = some (.v (.bl true), m) := by
  simp only [FP, runF, BP, startD]
  simp [sSeq, sIf, tTru, eIs, eVar, isD, truD, sNil, sRet, eAnd, eIs2, eNot, tVal, blD, outW]
theorem plainT {G : Fx} {ds : List D} (hl : ds.length ≤ 1000000) (m : Mem) (h : ∀ d ∈ ds, G [.v d] m = some (.v (.bl true), m)) : FP G [.v (.tup ds)] m = some (.v (.bl true), m) := by
  have e : eLc (iSeq (eVar 0)) (gN 1) tYes' (eCall G (aCons (eVar 1) aNil)) [1] [some (.v (.tup ds)), none] m = some (.f (.lst (ds.map fun _ => D.bl true)), m) := by
    have q := lc_map (src := iSeq (eVar 0)) (t := gN 1) (c := tYes') (f := eCall G (aCons (eVar 1) aNil)) (vs := [1]) (ρ := [some (.v (.tup ds)), none]) (m := m) (m1 := m) ds id (fun _ => true) (fun _ => D.bl true) (by simp [iSeq, eVar]) (fun d hd => ⟨_, rfl, rfl, fun _ => ⟨Pw.W.v (.bl true), call_at (ws := [.v d]) (m1 := m) (by simp [aCons, aNil, eVar]) (h d hd), rfl⟩⟩) hl
    rw [q, List.filter_eq_self.mpr (fun _ _ => rfl)]
  have a := all_true ds
  have it : isD .tuple (.tup ds) = true := rfl
  generalize ds.map (fun _ => D.bl true) = Q at e a
  generalize D.tup ds = T at e it
  simp only [FP, runF, BP, startD]
  have e' : eLc (iSeq (eVar 0)) (gN 1) tYes' (eCall G (aCons (eVar 1) aNil)) [1] [some (.v T), none] m = some (.f (.lst Q), m) := e
  generalize eLc (iSeq (eVar 0)) (gN 1) tYes' (eCall G (aCons (eVar 1) aNil)) [1] = E at e'
  simp [sSeq, sIf, tTru, eIs, eVar, it, truD, sRet, eCB, aCons, aNil, e', a, outW]
section
variable {ns : List Int} {s : Lx.St} {m : Mem} {F : List Fo} {B : List Nw}
theorem some_spec (m : Mem) : ∃ (F : List Fo) (B : List Nw) (d : Int) (s' : Lx.St), F_some [.r 0, .v (.int 16)] (stD ns s :: m) = some (.f (.lst [hD F, bD B, .int d]), stD ns s' :: m) ∧ GoodH F ∧ GoodB F B ∧ B.length ≤ 60 := by
  have t8 : K92.F_take [.r 0, .v (.int 8)] (stD ns s :: m) = _ := take_eq (ns := ns) (s := s) (m := m) (b := 8) (by decide) (by decide)
  obtain ⟨mo, hmo, h1, h2⟩ : ∃ mo : Int, atI [D.int 16, .int 60] (if (tk ns s 8).1 = 0 then 1 else 0) = some (.int mo) ∧ 1 ≤ mo ∧ mo ≤ 60 := by
    by_cases h : (tk ns s 8).1 = 0
    · exact ⟨60, by simp [h], by decide, by decide⟩
    · exact ⟨16, by simp [h], by decide, by decide⟩
  obtain ⟨bo, hbo, b1, b2⟩ : ∃ bo : Int, atI [D.int 8, .int 40] (if (tk ns s 8).1 = 0 then 1 else 0) = some (.int bo) ∧ 0 ≤ bo ∧ bo ≤ 60 := by
    by_cases h : (tk ns s 8).1 = 0
    · exact ⟨40, by simp [h], by decide, by decide⟩
    · exact ⟨8, by simp [h], by decide, by decide⟩
  obtain ⟨F, s1, e1, hF⟩ := house_spec (ns := ns) (s := (tk ns s 8).2) h1 h2 m
  obtain ⟨B, s2, e2, hB, hlB⟩ := book_spec (ns := ns) (s := s1) hF b1 b2 m
  obtain ⟨d, s3, e3, _⟩ := Lr.day_spec (ns := ns) (s := s2) hF m
  have e1' : K92.F_house [.r 0, .v (.int mo)] (stD ns (tk ns s 8).2 :: m) = some (.v (hD F), stD ns s1 :: m) := e1
  have e2' : K92.F_book [.r 0, .v (hD F), .v (.int bo)] (stD ns s1 :: m) = some (.v (bD B), stD ns s2 :: m) := e2
  have e3' : K92.F_day [.r 0, .v (hD F)] (stD ns s2 :: m) = some (.v (.int d), stD ns s3 :: m) := e3
  refine ⟨F, B, d, s3, ?_, hF, hB, by omega⟩
  simp only [F_some, runF, B_some, startD]
  simp [sSeq, sSet, eOp, eCall, aCons, aNil, eVar, eC, t8, eLst, eCB, hmo, e1', hbo, e2', e3', sRet]
theorem q_plain : K92.F_is_plain = FP (FP (FP (FP K92.F_is_plain_r0))) := rfl
theorem plain_flat {G : Fx} {ds : List D} (hl : ds.length ≤ 1000) (h : ∀ d ∈ ds, (∃ i, d = .int i) ∨ ∃ x, d = .str x) (m : Mem) : FP (FP G) [.v (.tup ds)] m = some (.v (.bl true), m) :=
  plainT (by omega) m fun d hd => by
    rcases h d hd with ⟨i, rfl⟩ | ⟨x, rfl⟩
    · exact plainI _ _ m
    · exact plainS _ _ m
theorem plain_list {α : Type} {L : List α} {f : α → D} (hl : L.length ≤ 1000) (h : ∀ a ∈ L, ∃ ds : List D, f a = .tup ds ∧ ds.length ≤ 1000 ∧ ∀ d ∈ ds, (∃ i, d = .int i) ∨ ∃ x, d = .str x) (m : Mem) : F_is_plain [.v (.tup (L.map f))] m = some (.v (.bl true), m) := by
  rw [q_plain]
  refine plainT (by simp; omega) m fun d hd => ?_
  obtain ⟨a, ha, rfl⟩ := List.mem_map.mp hd
  obtain ⟨ds, e, l, q⟩ := h a ha
  rw [e]
  exact plain_flat l q m
theorem plain_house (hF : GoodH F) (m : Mem) : F_is_plain [.v (hD F)] m = some (.v (.bl true), m) :=
  plain_list (by have := hF.le; omega) (fun f hf => ⟨_, rfl, by simp, fun d hd => by
    simp only [List.mem_cons, List.not_mem_nil, or_false] at hd
    rcases hd with rfl | rfl | rfl | rfl | rfl <;> exact .inl ⟨_, rfl⟩⟩) m
theorem plain_book (hl : B.length ≤ 60) (m : Mem) : F_is_plain [.v (bD B)] m = some (.v (.bl true), m) :=
  plain_list (by omega) (fun f hf => ⟨_, rfl, by simp, fun d hd => by
    simp only [List.mem_cons, List.not_mem_nil, or_false] at hd
    rcases hd with rfl | rfl | rfl | rfl
    · exact .inr ⟨_, rfl⟩
    · exact .inl ⟨_, rfl⟩
    · exact .inl ⟨_, rfl⟩
    · exact .inl ⟨_, rfl⟩⟩) m
theorem plain_rule {R : List Rw} (hl : R.length ≤ 3) (m : Mem) : F_is_plain [.v (uD R)] m = some (.v (.bl true), m) :=
  plain_list (by omega) (fun f hf => ⟨_, rfl, by simp, fun d hd => by
    simp only [List.mem_cons, List.not_mem_nil, or_false] at hd
    rcases hd with rfl | rfl | rfl | rfl
    · exact .inl ⟨_, rfl⟩
    · exact .inr ⟨_, rfl⟩
    · exact .inl ⟨_, rfl⟩
    · exact .inr ⟨_, rfl⟩⟩) m
theorem ne_house : eqD true (hD F) (hD F) = some (.v (.bl false)) := eq_same (n := 2) (gd_t (gds_map fun f _ => gd_t (gd_cons gd_i (gd_cons gd_i (gd_cons gd_i (gd_cons gd_i (gd_cons gd_i gd_nil))))))) (by decide) rfl
theorem ne_book (hB : GoodB F B) : eqD true (bD B) (bD B) = some (.v (.bl false)) := eq_same (n := 2) (gd_t (gds_map fun n hn => gd_t (gd_cons (by
  rw [gd]
  have := (hB.ok n hn).word
  simp only [List.mem_cons, List.not_mem_nil, or_false] at this
  rcases this with z | z | z | z | z <;> rw [z] <;> decide +kernel) (gd_cons gd_i (gd_cons gd_i (gd_cons gd_i gd_nil)))))) (by decide) rfl
theorem ne_rule {R : List Rw} (hR : ∀ r ∈ R, RwOk F r) : eqD true (uD R) (uD R) = some (.v (.bl false)) := eq_same (n := 2) (gd_t (gds_map fun r hr => gd_t (gd_cons gd_i (gd_cons (by
  rw [gd]
  have := (hR r hr).men
  simp only [List.mem_cons, List.not_mem_nil, or_false] at this
  rcases this with z | z | z <;> rw [z] <;> decide +kernel) (gd_cons gd_i (gd_cons (by
  rw [gd]
  have := (hR r hr).way
  simp only [List.mem_cons, List.not_mem_nil, or_false] at this
  rcases this with z | z | z <;> rw [z] <;> decide +kernel) gd_nil)))))) (by decide) rfl
structure RuB (F : List Fo) (R : List Rw) : Prop where
  l1 : 1 ≤ R.length
  l3 : R.length ≤ 3
  ok : ∀ r ∈ R, RwOk F r
  mx : ∃ r0 rest, R = r0 :: rest ∧ ∀ r ∈ R, Lr.fday F r ≤ Lr.fday F r0
abbrev rE (F : List Fo) (B : List Nw) (Rs : List (List Rw)) (x4 x5 : Option W) : Pw.Env := [some (.v (hD F)), some (.v (bD B)), some (.v (.lst (Rs.map uD))), some (.v (hD F)), x4, x5]
theorem rule_turn {Rs : List (List Rw)} {R : List Rw} {x4 : Option W} (hF : GoodH F) (hR : RuB F R) (m : Mem) : L_right_1 (rE F B Rs x4 (some (.v (uD R)))) m = some (.nx, rE F B Rs (some (.v (uD R))) (some (.v (uD R))), m) := by
  have t1 := fun m => rows_text_spec hF hR.l3 hR.ok m
  have t2 := fun m => rule_text_spec hF hR.l3 hR.ok m
  have rd := fun m => read_rule_spec hF hR.l1 hR.l3 hR.ok hR.mx m
  have ne := ne_rule hR.ok
  have pl := fun m => plain_rule hR.l3 m
  simp only [rE]
  generalize hD F = H at *
  generalize bD B = BB at *
  generalize Rs.map uD = RR at *
  generalize uD R = U at *
  generalize tx (R.map rwL) = T at *
  simp [L_right_1, sSeq, sSet, eCall, aCons, aNil, eVar, t1, rd, sIf, tOr', tVal, eOp, ne, tNot', tTru, pl, truD, t2, sNil]
theorem right_spec {Rs : List (List Rw)} (hF : GoodH F) (hB : GoodB F B) (hl : B.length ≤ 60) (hn : Rs.length ≤ 10) (hR : ∀ R ∈ Rs, RuB F R) (m : Mem) : F_right [.v (hD F), .v (bD B), .v (.lst (Rs.map uD))] m = some (.v (.bl true), m) := by
  obtain ⟨ρ', m', e3, inv, rfl⟩ := for_inv (src := iSeq (eVar 2)) (t := gN 5) (b := L_right_1) (dd := [4, 5]) (ρ := rE F B Rs (some (.v (bD B))) none) (m := m) (m1 := m) Rs uD
    (fun _ ρ mm => (∃ x4, ρ = rE F B Rs x4 none) ∧ mm = m) (by simp [iSeq, eVar]) ⟨⟨_, rfl⟩, rfl⟩
    (fun k R hk ρ mm inv => by
      obtain ⟨⟨x4, rfl⟩, rfl⟩ := inv
      exact ⟨_, _, _, rfl, rule_turn hF (hR R (List.mem_of_getElem? hk)) mm, ⟨none, rfl⟩, rfl⟩)
  obtain ⟨x4, rfl⟩ := inv
  have h1 := l_house_text_spec hF m'
  have h2 := house_text_spec hF m'
  have h3 := read_house_spec hF m'
  have h4 := plain_house hF m'
  have h5 := ne_house (F := F)
  have b1 := l_book_text_spec hF hB m'
  have b2 := book_text_spec hF hB m'
  have b3 := read_book_spec hF hB hl m'
  have b4 := plain_book (B := B) hl m'
  have b5 := ne_book hB
  have z0 : F_read_book [.v (hD F), .v (.str "")] m' = some (.v (.tup []), m') := read_book_spec (B := []) hF ⟨(fun n h => nomatch h), by decide, List.Pairwise.nil⟩ (by decide) m'
  have q0 : eqD false (.tup []) (.tup []) = some (.v (.bl true)) := eq_ti (neg := false) (xs := []) (ys := [])
  simp only [rE] at e3
  generalize hD F = H at *
  generalize bD B = BB at *
  generalize Rs.map uD = RR at *
  generalize tx (F.map foL) = T1 at *
  generalize tx (B.map nwL) = T2 at *
  simp only [F_right, runF, B_right, startD]
  simp [sSeq, sSet, eCall, aCons, aNil, eVar, h1, h2, h3, sIf, tOr', tVal, eOp, h5, tNot', tTru, h4, truD, sNil, b1, b2, b3, b4, b5, e3, eC, z0, sRet, eTup, q0, outW]
end
end K92
end
section
set_option Elab.async false
set_option linter.all false
set_option maxRecDepth 100000
set_option maxHeartbeats 800000
namespace Rg
open PySem L2 Pw Pv Lx Ls Lq Wk Lv Lz Dg Lg Lo
section
variable {F : List Fo} {B : List Nw} {Rs : List Rw} {day lim : Int} {m : Mem}
end
end Rg
end
section
set_option Elab.async false
set_option linter.all false
set_option maxRecDepth 100000
set_option maxHeartbeats 800000
namespace Rg
open PySem L2 Pw Pv Lx Ls Lq Wk Lv Lz Dg Lg Lo
end Rg
end
section
set_option Elab.async false
set_option linter.all false
set_option maxRecDepth 100000
set_option maxHeartbeats 800000
namespace Rg
open PySem L2 Pw Pv Lx Ls Lq Wk Lv Lz Dg Lg Lo
section
variable {F : List Fo} {B : List Nw} {Rs : List Rw} {day lim : Int} {m : Mem}
end
end Rg
end
section
set_option Elab.async false
set_option linter.all false
set_option maxRecDepth 100000
set_option maxHeartbeats 800000
namespace Rg
open PySem L2 Pw Pv Lx Ls Lq Wk Lv Lz Dg Lg Lo
end Rg
end
section
set_option Elab.async false
set_option linter.all false
set_option maxRecDepth 100000
set_option maxHeartbeats 1000000
namespace Rp
open PySem L2 Pw Pv Lx Ls Lq Wk Lv Lz Dg Lg Lo Rg
end Rp
end
section
set_option Elab.async false
set_option linter.all false
set_option maxRecDepth 100000
set_option maxHeartbeats 1000000
namespace Rt
open PySem L2 Pw Pv Lx Ls Lq Wk Lv Lz Dg Lg Lo
open Rg (upB)
section
variable {ns : List Int} {s : Lx.St} {F : List Fo} {B : List Nw} {Rs : List Rw} {day lim : Int} {m : Mem}
theorem mem_sortM {Ns : List Nw} {n : Nw} : n ∈ sortM nLt Ns ↔ n ∈ Ns := (sortM_perm Ns).mem_iff
theorem sortM_good (hok : ∀ n ∈ B, NwOk F n) (nd : B.Nodup) (hl : B.length < 64) : GoodB F (sortM nLt B) := by
  refine ⟨fun n hn => hok n (mem_sortM.mp hn), by rw [(sortM_perm B).length_eq]; exact hl, ?_⟩
  have h1 := sortM_sorted lin_n B
  have h2 : (sortM nLt B).Nodup := (sortM_perm B).nodup_iff.mpr nd
  refine (List.pairwise_and_iff.mpr ⟨h1, h2⟩).imp fun {a b} h => ?_
  cases z : nLt a b with
  | true => rfl
  | false => exact absurd (lin_n.tot a b z h.1) h.2
structure NewsOk (F : List Fo) (B0 N : List Nw) : Prop where
  ok : ∀ n ∈ B0 ++ N, NwOk F n
  nd : (B0 ++ N).Nodup
  le : (B0 ++ N).length < 64
theorem NewsOk.take {B0 N : List Nw} (h : NewsOk F B0 N) (k : Nat) : GoodB F (sortM nLt (B0 ++ N.take k)) := by
  have sb : (B0 ++ N.take k).Sublist (B0 ++ N) := List.Sublist.append (List.Sublist.refl _) (List.take_sublist _ _)
  exact sortM_good (fun n hn => h.ok n (sb.subset hn)) (h.nd.sublist sb) (Nat.lt_of_le_of_lt sb.length_le h.le)
end
end Rt
end
section
set_option Elab.async false
set_option linter.all false
set_option maxRecDepth 100000
set_option maxHeartbeats 1000000
namespace Rt
open PySem L2 Pw Pv Lx Ls Lq Wk Lv Lz Dg Lg Lo
section
variable {ns : List Int} {s : Lx.St} {F : List Fo} {B : List Nw} {m : Mem} {day lim : Int}
theorem rngA_at {a : Ax} {ρ : Pw.Env} {m m1 : Mem} {ws : List W} {ds xs : List D} (h : a ρ m = some (ws, m1)) (hg : gts ws m1 = some ds) (hr : rngA ds = some xs) : iRngA a ρ m = some (.seq xs, m1) := by
  unfold iRngA
  rw [h, Option.bind_some, hg, Option.bind_some, hr]
  rfl
theorem rngA_nat {n : Nat} (h : n ≤ 1000000) : rngA [.int (n : Int)] = some ((List.range n).map nD) := by
  unfold rngA
  dsimp only
  rw [if_pos (by omega), Int.toNat_natCast]
  unfold rngD
  simp
end
end Rt
end
section
set_option Elab.async false
set_option linter.all false
set_option maxRecDepth 100000
set_option maxHeartbeats 4000000
namespace K92
open PySem L2 Pw Pv Lx Lq Lt
open Ls
section
variable {ns : List Int} {s : Lx.St} {m : Mem} {F : List Fo} {B : List Nw}
structure Itm3 where
  F : List Fo
  B : List Nw
  R : List (List Rw)
def Itm3.d (x : Itm3) : D := .lst [hD x.F, bD x.B, .lst (x.R.map uD)]
structure Itm3.Ok (x : Itm3) : Prop where
  f : GoodH x.F
  b : GoodB x.F x.B
  bl : x.B.length ≤ 60
  rl : x.R.length ≤ 10
  r : ∀ R ∈ x.R, RuB x.F R
abbrev eL (ns : List Int) (x3 x4 x5 x6 x7 : Option W) : Pw.Env := [some (.v (.fl (ns.map .int))), some (.r 0), some (.r 1), x3, x4, x5, x6, x7]
theorem rules_spec {x3 x6 x7 : Option W} (hF : GoodH F) (m : Mem) : ∃ (Rs : List (List Rw)) (s' : Lx.St), E_law_1 (eL ns x3 none (some (.v (hD F))) x6 x7) (stD ns s :: m) = some (.f (.lst (Rs.map uD)), stD ns s' :: m) ∧ Rs.length ≤ 10 ∧ ∀ R ∈ Rs, RuB F R := by
  obtain ⟨acc, m', e, Rs, s', rfl, rfl, hl, hok⟩ := lc_eff (src := iRngA (aCons (eC (.int 3)) aNil)) (t := gN 4) (c := tYes') (f := eCall F_rows (aCons (eVar 1) (aCons (eVar 5) aNil))) (vs := [4])
    (ρ := eL ns x3 none (some (.v (hD F))) x6 x7) (m := stD ns s :: m) (m1 := stD ns s :: m) (List.range 3) (fun i : Nat => D.int (i : Int))
    (fun i acc mm => ∃ (Rs : List (List Rw)) (s' : Lx.St), acc = Rs.map uD ∧ mm = stD ns s' :: m ∧ Rs.length = i ∧ ∀ R ∈ Rs, RuB F R)
    (by simp [iRngA, aCons, aNil, eC]; rfl) ⟨[], _, rfl, rfl, rfl, fun n hn => nomatch hn⟩
    (fun i a acc mm inv => by
      obtain ⟨Rs, s', rfl, rfl, hl, hok⟩ := inv
      obtain ⟨R, s2, e1, r1, r3, rok, mx⟩ := Lr.rows_spec (ns := ns) (s := s') hF m
      have e1' : K92.F_rows [.r 0, .v (hD F)] (stD ns s' :: m) = some (.v (uD R), stD ns s2 :: m) := e1
      refine ⟨_, .v (uD R), uD R, stD ns s2 :: m, rfl, rfl, by simp [eCall, aCons, aNil, eVar, e1'], rfl, Rs ++ [R], s2, by simp, rfl, by simp [hl], fun x hx => ?_⟩
      rcases List.mem_append.mp hx with z | z
      · exact hok x z
      · rw [List.mem_singleton.mp z]; exact ⟨r1, r3, rok, mx⟩) (by simp)
  exact ⟨Rs, s', e, by rw [hl]; decide, hok⟩
theorem turn_2 {i : Int} {L : List Itm3} (hl : L.length ≤ 10) : ∃ (ρ2 : Pw.Env) (s' : Lx.St) (x : Itm3), L_law_2 (eL ns (some (.v (.int i))) none none none none) [stD ns s, .lst (L.map Itm3.d)] = some (.nx, ρ2, [stD ns s', .lst ((L ++ [x]).map Itm3.d)]) ∧ wipeD ρ2 [3, 5, 6, 7] = eL ns none none none none none ∧ x.Ok := by
  obtain ⟨F, B, d, s1, e1, hF, hB, hb⟩ := some_spec (ns := ns) (s := s) [.lst (L.map Itm3.d)]
  obtain ⟨Rs, s2, e2, hr, hR⟩ := rules_spec (ns := ns) (s := s1) (x3 := some (.v (.int i))) (x6 := some (.v (bD B))) (x7 := some (.v (.int d))) hF [.lst (L.map Itm3.d)]
  refine ⟨eL ns (some (.v (.int i))) none (some (.v (hD F))) (some (.v (bD B))) (some (.v (.int d))), s2, ⟨F, B, Rs⟩, ?_, rfl, ⟨hF, hB, hb, hr, hR⟩⟩
  have q1 : sAsg (gTL [gN 5, gN 6, gN 7]) (eCall F_some (aCons (eVar 1) (aCons (eC (.int 16)) aNil))) (eL ns (some (.v (.int i))) none none none none) [stD ns s, .lst (L.map Itm3.d)] = some (.nx, eL ns (some (.v (.int i))) none (some (.v (hD F))) (some (.v (bD B))) (some (.v (.int d))), [stD ns s1, .lst (L.map Itm3.d)]) := by
    have y := call_at (G := F_some) (f := aCons (eVar 1) (aCons (eC (.int 16)) aNil)) (ρ := eL ns (some (.v (.int i))) none none none none) (m := [stD ns s, .lst (L.map Itm3.d)]) (ws := [.r 0, .v (.int 16)]) rfl e1
    generalize eCall F_some (aCons (eVar 1) (aCons (eC (.int 16)) aNil)) = f at y ⊢
    unfold sAsg
    rw [y]
    rfl
  have q2 : sDrop (eMt isLst appD (eVar 2) (aCons (eLst (aCons (eVar 5) (aCons (eVar 6) (aCons E_law_1 aNil)))) aNil)) (eL ns (some (.v (.int i))) none (some (.v (hD F))) (some (.v (bD B))) (some (.v (.int d)))) [stD ns s1, .lst (L.map Itm3.d)] = some (.nx, eL ns (some (.v (.int i))) none (some (.v (hD F))) (some (.v (bD B))) (some (.v (.int d))), [stD ns s2, .lst ((L ++ [(⟨F, B, Rs⟩ : Itm3)]).map Itm3.d)]) := by
    have il : isLst (.r 1) [stD ns s1, .lst (L.map Itm3.d)] = true := rfl
    have ap : appD (.r 1) [.v (.lst [hD F, bD B, .lst (Rs.map uD)])] [stD ns s2, .lst (L.map Itm3.d)] = some (.v .non, [stD ns s2, .lst ((L ++ [(⟨F, B, Rs⟩ : Itm3)]).map Itm3.d)]) := by
      have hl' : (L.map Itm3.d).length < 1000000 := by rw [List.length_map]; omega
      show (if (L.map Itm3.d).length < 1000000 then some (W.v D.non, ([stD ns s2, MO.lst (L.map Itm3.d)] : Mem).set 1 (.lst (L.map Itm3.d ++ [.lst [hD F, bD B, .lst (Rs.map uD)]]))) else none) = _
      rw [if_pos hl', List.map_append]; rfl
    generalize [stD ns s2, MO.lst ((L ++ [(⟨F, B, Rs⟩ : Itm3)]).map Itm3.d)] = M3 at *
    generalize ([stD ns s2, MO.lst (L.map Itm3.d)] : Mem) = M2 at *
    generalize ([stD ns s1, MO.lst (L.map Itm3.d)] : Mem) = M1 at *
    simp only [eL] at e2 ⊢
    generalize hD F = H at *
    generalize bD B = BB at *
    generalize D.lst (Rs.map uD) = RR at *
    simp [sDrop, eMt, eVar, il, aCons, eLst, e2, aNil, vl, ap]
  exact seq_at q1 q2
theorem turn_1 {L : List Itm3} (hL : ∀ x ∈ L, x.Ok) {k : Nat} (hk : k < L.length) : L_law_1 (eL ns none (some (.v (nD k))) none none none) [stD ns s, .lst (L.map Itm3.d)] = some (.nx, eL ns none (some (.v (nD k))) none none none, [stD ns s, .lst (L.map Itm3.d)]) := by
  have ok := hL L[k] (List.getElem_mem hk)
  have r := right_spec ok.f ok.b ok.bl ok.rl ok.r [stD ns s, .lst (L.map Itm3.d)]
  have x : ixD (.lst (L.map Itm3.d)) (nD k) = some (.v L[k].d) := by
    show (atI (L.map Itm3.d) (k : Int)).bind _ = _
    rw [at_nat (x := L[k].d) (by rw [List.getElem?_map, List.getElem?_eq_getElem hk]; rfl)]; rfl
  have y0 : ixD L[k].d (.int 0) = some (.v (hD L[k].F)) := rfl
  have y1 : ixD L[k].d (.int 1) = some (.v (bD L[k].B)) := rfl
  have y2 : ixD L[k].d (.int 2) = some (.v (.lst (L[k].R.map uD))) := rfl
  have g : gt (.r 1) [stD ns s, .lst (L.map Itm3.d)] = some (.lst (L.map Itm3.d)) := rfl
  generalize L.map Itm3.d = LD at *
  generalize ([stD ns s, MO.lst LD] : Mem) = M at *
  generalize hD L[k].F = H at *
  generalize bD L[k].B = BB at *
  generalize D.lst (L[k].R.map uD) = RR at *
  generalize L[k].d = X at *
  generalize nD k = N at *
  refine if_nil ?_
  simp [tNot', tTru, eCall, aCons, aNil, eOp, eVar, g, x, y0, y1, y2, eC, r, truD, -gt_r]
theorem holds (ns : List Int) (hn : ns.length ≤ 63) : ∃ m', F_law [.v (.fl (ns.map .int))] [] = some (.v (.bl true), m') := by
  obtain ⟨ρ', m', e, rfl, s', L, rfl, hl, hok⟩ := for_inv (src := iRngA (aCons (eC (.int 2)) aNil)) (t := gN 3) (b := L_law_2) (dd := [3, 5, 6, 7]) (ρ := eL ns none none none none none) (m := [stD ns ⟨0, 0, 92, by decide, by decide, by decide, by decide⟩, .lst []]) (m1 := [stD ns ⟨0, 0, 92, by decide, by decide, by decide, by decide⟩, .lst []])
    (List.range 2) nD (fun k ρ mm => ρ = eL ns none none none none none ∧ ∃ (s : Lx.St) (L : List Itm3), mm = [stD ns s, .lst (L.map Itm3.d)] ∧ L.length = k ∧ ∀ x ∈ L, x.Ok)
    (Rt.rngA_at (ws := [.v (.int ((2 : Nat) : Int))]) (by simp [aCons, aNil, eC]) rfl (Rt.rngA_nat (by decide))) ⟨rfl, _, [], rfl, rfl, fun x h => nomatch h⟩
    (fun k n hk ρ mm inv => by
      obtain ⟨rfl, s, L, rfl, hl, hok⟩ := inv
      have hk' : k < 2 := by have := (List.getElem?_eq_some_iff.mp hk).1; simpa using this
      obtain ⟨ρ2, s', x, q, w, ok⟩ := turn_2 (ns := ns) (s := s) (i := n) (L := L) (by omega)
      refine ⟨_, ρ2, _, rfl, q, w, s', L ++ [x], rfl, by simp [hl], fun y hy => ?_⟩
      rcases List.mem_append.mp hy with z | z
      · exact hok y z
      · rw [List.mem_singleton.mp z]; exact ok)
  have hl2 : L.length = 2 := by simpa using hl
  obtain ⟨ρ', m', e2, rfl, rfl⟩ := for_inv (src := iSeq (eTup (aCons (eC (.int 0)) (aCons (eC (.int 1)) (aCons (eC (.int 0)) aNil))))) (t := gN 4) (b := L_law_1) (dd := [4]) (ρ := eL ns none none none none none) (m := [stD ns s', .lst (L.map Itm3.d)]) (m1 := [stD ns s', .lst (L.map Itm3.d)])
    [0, 1, 0] nD (fun _ ρ mm => ρ = eL ns none none none none none ∧ mm = [stD ns s', .lst (L.map Itm3.d)])
    (by simp [iSeq, eTup, aCons, aNil, eC, vl]) ⟨rfl, rfl⟩
    (fun k n hk ρ mm inv => by
      obtain ⟨rfl, rfl⟩ := inv
      have hn : n < L.length := by
        have := List.mem_of_getElem? hk
        simp only [List.mem_cons, List.not_mem_nil, or_false] at this
        omega
      exact ⟨_, _, _, rfl, turn_1 hok hn, rfl, rfl⟩)
  have q0 : sSet 1 (eOwn (eLst (aCons (eVar 0) (aCons (eC (.int 0)) (aCons (eC (.int 0)) (aCons (eC (.int 92)) aNil)))))) [some (.v (.fl (ns.map .int))), none, none, none, none, none, none, none] [] =
      some (.nx, [some (.v (.fl (ns.map .int))), some (.r 0), none, none, none, none, none, none], [stD ns ⟨0, 0, 92, by decide, by decide, by decide, by decide⟩]) :=
    set_own (m1 := []) (ds := [.fl (ns.map .int), .int 0, .int 0, .int 92]) (by simp [eLst, aCons, eVar, eC, aNil])
  have q1 : sSet 2 (eOwn (eLst aNil)) [some (.v (.fl (ns.map .int))), some (.r 0), none, none, none, none, none, none] [stD ns ⟨0, 0, 92, by decide, by decide, by decide, by decide⟩] =
      some (.nx, eL ns none none none none none, [stD ns ⟨0, 0, 92, by decide, by decide, by decide, by decide⟩, .lst []]) :=
    set_own (m1 := [stD ns ⟨0, 0, 92, by decide, by decide, by decide, by decide⟩]) (ds := []) (by simp [eLst, aNil])
  exact ⟨_, run_bl (d := .bl true) rfl (seq_at q0 (seq_at q1 (seq_at e (seq_at e2 rfl)))) (by simp)⟩
end
end K92
end
section
set_option Elab.async false
set_option linter.all false
set_option maxRecDepth 100000
set_option maxHeartbeats 4000000
namespace K92
open PySem PySem.Spec PyProof.Rows L2 Pw
theorem all_mk {l : PySem.W.OpenLaw} {w : World} {K : FRG} {h : Heap} {mg : Str → Option Value} {fa : Addr} (X : K.In h) (G : h.Ns mainGlobals mg) (hfa : mg "law" = some (.ref fa))
    {f0 : Addr} {od0 an0 : Option Addr} {sl0 : Array (Option Value)} {oc0 kV0 dc0 pm0 cd0 ct0 : Value}
    (a0 : PySem.W.nsIn K mainGlobals "_law_name" = some (some (.ref f0))) (l0 : K.lookup f0 = some ⟨oc0, od0, .func (PySem.W.fnOf "_law_name" "_law_name" (defArgs s_name) (defBody s_name) (defScope s_name) .none kV0 dc0 pm0 an0 cd0 ct0), sl0⟩) (c0 : PySem.W.codeIn K cd0 "_law_name" = true) (k0 : PySem.W.keepIn K (.ref f0) = true)
    {f1 : Addr} {od1 an1 : Option Addr} {sl1 : Array (Option Value)} {oc1 kV1 dc1 pm1 cd1 ct1 : Value}
    (a1 : PySem.W.nsIn K mainGlobals "_law_news_words" = some (some (.ref f1))) (l1 : K.lookup f1 = some ⟨oc1, od1, .func (PySem.W.fnOf "_law_news_words" "_law_news_words" (defArgs s_news_words) (defBody s_news_words) (defScope s_news_words) .none kV1 dc1 pm1 an1 cd1 ct1), sl1⟩) (c1 : PySem.W.codeIn K cd1 "_law_news_words" = true) (k1 : PySem.W.keepIn K (.ref f1) = true)
    {f2 : Addr} {od2 an2 : Option Addr} {sl2 : Array (Option Value)} {oc2 kV2 dc2 pm2 cd2 ct2 : Value}
    (a2 : PySem.W.nsIn K mainGlobals "_law_text" = some (some (.ref f2))) (l2 : K.lookup f2 = some ⟨oc2, od2, .func (PySem.W.fnOf "_law_text" "_law_text" (defArgs s_text) (defBody s_text) (defScope s_text) .none kV2 dc2 pm2 an2 cd2 ct2), sl2⟩) (c2 : PySem.W.codeIn K cd2 "_law_text" = true) (k2 : PySem.W.keepIn K (.ref f2) = true)
    {f3 : Addr} {od3 an3 : Option Addr} {sl3 : Array (Option Value)} {oc3 kV3 dc3 pm3 cd3 ct3 : Value}
    (a3 : PySem.W.nsIn K mainGlobals "_law_book_text" = some (some (.ref f3))) (l3 : K.lookup f3 = some ⟨oc3, od3, .func (PySem.W.fnOf "_law_book_text" "_law_book_text" (defArgs s_l_book_text) (defBody s_l_book_text) (defScope s_l_book_text) .none kV3 dc3 pm3 an3 cd3 ct3), sl3⟩) (c3 : PySem.W.codeIn K cd3 "_law_book_text" = true) (k3 : PySem.W.keepIn K (.ref f3) = true)
    {f4 : Addr} {od4 an4 : Option Addr} {sl4 : Array (Option Value)} {oc4 kV4 dc4 pm4 cd4 ct4 : Value}
    (a4 : PySem.W.nsIn K mainGlobals "_law_house_text" = some (some (.ref f4))) (l4 : K.lookup f4 = some ⟨oc4, od4, .func (PySem.W.fnOf "_law_house_text" "_law_house_text" (defArgs s_l_house_text) (defBody s_l_house_text) (defScope s_l_house_text) .none kV4 dc4 pm4 an4 cd4 ct4), sl4⟩) (c4 : PySem.W.codeIn K cd4 "_law_house_text" = true) (k4 : PySem.W.keepIn K (.ref f4) = true)
    {f5 : Addr} {od5 an5 : Option Addr} {sl5 : Array (Option Value)} {oc5 kV5 dc5 pm5 cd5 ct5 : Value}
    (a5 : PySem.W.nsIn K mainGlobals "_law_is_plain" = some (some (.ref f5))) (l5 : K.lookup f5 = some ⟨oc5, od5, .func (PySem.W.fnOf "_law_is_plain" "_law_is_plain" (defArgs s_is_plain) (defBody s_is_plain) (defScope s_is_plain) .none kV5 dc5 pm5 an5 cd5 ct5), sl5⟩) (c5 : PySem.W.codeIn K cd5 "_law_is_plain" = true) (k5 : PySem.W.keepIn K (.ref f5) = true)
    {f6 : Addr} {od6 an6 : Option Addr} {sl6 : Array (Option Value)} {oc6 kV6 dc6 pm6 cd6 ct6 : Value}
    (a6 : PySem.W.nsIn K mainGlobals "_law_rows_text" = some (some (.ref f6))) (l6 : K.lookup f6 = some ⟨oc6, od6, .func (PySem.W.fnOf "_law_rows_text" "_law_rows_text" (defArgs s_rows_text) (defBody s_rows_text) (defScope s_rows_text) .none kV6 dc6 pm6 an6 cd6 ct6), sl6⟩) (c6 : PySem.W.codeIn K cd6 "_law_rows_text" = true) (k6 : PySem.W.keepIn K (.ref f6) = true)
    {f7 : Addr} {od7 an7 : Option Addr} {sl7 : Array (Option Value)} {oc7 kV7 dc7 pm7 cd7 ct7 : Value}
    (a7 : PySem.W.nsIn K mainGlobals "who_word" = some (some (.ref f7))) (l7 : K.lookup f7 = some ⟨oc7, od7, .func (PySem.W.fnOf "who_word" "who_word" (defArgs s_who_word) (defBody s_who_word) (defScope s_who_word) .none kV7 dc7 pm7 an7 cd7 ct7), sl7⟩) (c7 : PySem.W.codeIn K cd7 "who_word" = true) (k7 : PySem.W.keepIn K (.ref f7) = true)
    {f8 : Addr} {od8 an8 : Option Addr} {sl8 : Array (Option Value)} {oc8 kV8 dc8 pm8 cd8 ct8 : Value}
    (a8 : PySem.W.nsIn K mainGlobals "news_line" = some (some (.ref f8))) (l8 : K.lookup f8 = some ⟨oc8, od8, .func (PySem.W.fnOf "news_line" "news_line" (defArgs s_news_line) (defBody s_news_line) (defScope s_news_line) .none kV8 dc8 pm8 an8 cd8 ct8), sl8⟩) (c8 : PySem.W.codeIn K cd8 "news_line" = true) (k8 : PySem.W.keepIn K (.ref f8) = true)
    {f9 : Addr} {od9 an9 : Option Addr} {sl9 : Array (Option Value)} {oc9 kV9 dc9 pm9 cd9 ct9 : Value}
    (a9 : PySem.W.nsIn K mainGlobals "text_of" = some (some (.ref f9))) (l9 : K.lookup f9 = some ⟨oc9, od9, .func (PySem.W.fnOf "text_of" "text_of" (defArgs s_text_of) (defBody s_text_of) (defScope s_text_of) .none kV9 dc9 pm9 an9 cd9 ct9), sl9⟩) (c9 : PySem.W.codeIn K cd9 "text_of" = true) (k9 : PySem.W.keepIn K (.ref f9) = true)
    {f10 : Addr} {od10 an10 : Option Addr} {sl10 : Array (Option Value)} {oc10 kV10 dc10 pm10 cd10 ct10 : Value}
    (a10 : PySem.W.nsIn K mainGlobals "book_text" = some (some (.ref f10))) (l10 : K.lookup f10 = some ⟨oc10, od10, .func (PySem.W.fnOf "book_text" "book_text" (defArgs s_book_text) (defBody s_book_text) (defScope s_book_text) .none kV10 dc10 pm10 an10 cd10 ct10), sl10⟩) (c10 : PySem.W.codeIn K cd10 "book_text" = true) (k10 : PySem.W.keepIn K (.ref f10) = true)
    {f11 : Addr} {od11 an11 : Option Addr} {sl11 : Array (Option Value)} {oc11 kV11 dc11 pm11 cd11 ct11 : Value}
    (a11 : PySem.W.nsIn K mainGlobals "folk_line" = some (some (.ref f11))) (l11 : K.lookup f11 = some ⟨oc11, od11, .func (PySem.W.fnOf "folk_line" "folk_line" (defArgs s_folk_line) (defBody s_folk_line) (defScope s_folk_line) .none kV11 dc11 pm11 an11 cd11 ct11), sl11⟩) (c11 : PySem.W.codeIn K cd11 "folk_line" = true) (k11 : PySem.W.keepIn K (.ref f11) = true)
    {f12 : Addr} {od12 an12 : Option Addr} {sl12 : Array (Option Value)} {oc12 kV12 dc12 pm12 cd12 ct12 : Value}
    (a12 : PySem.W.nsIn K mainGlobals "house_text" = some (some (.ref f12))) (l12 : K.lookup f12 = some ⟨oc12, od12, .func (PySem.W.fnOf "house_text" "house_text" (defArgs s_house_text) (defBody s_house_text) (defScope s_house_text) .none kV12 dc12 pm12 an12 cd12 ct12), sl12⟩) (c12 : PySem.W.codeIn K cd12 "house_text" = true) (k12 : PySem.W.keepIn K (.ref f12) = true)
    {f13 : Addr} {od13 an13 : Option Addr} {sl13 : Array (Option Value)} {oc13 kV13 dc13 pm13 cd13 ct13 : Value}
    (a13 : PySem.W.nsIn K mainGlobals "day_of" = some (some (.ref f13))) (l13 : K.lookup f13 = some ⟨oc13, od13, .func (PySem.W.fnOf "day_of" "day_of" (defArgs s_day_of) (defBody s_day_of) (defScope s_day_of) .none kV13 dc13 pm13 an13 cd13 ct13), sl13⟩) (c13 : PySem.W.codeIn K cd13 "day_of" = true) (k13 : PySem.W.keepIn K (.ref f13) = true)
    {f14 : Addr} {od14 an14 : Option Addr} {sl14 : Array (Option Value)} {oc14 kV14 dc14 pm14 cd14 ct14 : Value}
    (a14 : PySem.W.nsIn K mainGlobals "is_number" = some (some (.ref f14))) (l14 : K.lookup f14 = some ⟨oc14, od14, .func (PySem.W.fnOf "is_number" "is_number" (defArgs s_is_number) (defBody s_is_number) (defScope s_is_number) .none kV14 dc14 pm14 an14 cd14 ct14), sl14⟩) (c14 : PySem.W.codeIn K cd14 "is_number" = true) (k14 : PySem.W.keepIn K (.ref f14) = true)
    {f15 : Addr} {od15 an15 : Option Addr} {sl15 : Array (Option Value)} {oc15 kV15 dc15 pm15 cd15 ct15 : Value}
    (a15 : PySem.W.nsIn K mainGlobals "is_folk_of" = some (some (.ref f15))) (l15 : K.lookup f15 = some ⟨oc15, od15, .func (PySem.W.fnOf "is_folk_of" "is_folk_of" (defArgs s_is_folk_of) (defBody s_is_folk_of) (defScope s_is_folk_of) .none kV15 dc15 pm15 an15 cd15 ct15), sl15⟩) (c15 : PySem.W.codeIn K cd15 "is_folk_of" = true) (k15 : PySem.W.keepIn K (.ref f15) = true)
    {f16 : Addr} {od16 an16 : Option Addr} {sl16 : Array (Option Value)} {oc16 kV16 dc16 pm16 cd16 ct16 : Value}
    (a16 : PySem.W.nsIn K mainGlobals "is_tuple_of" = some (some (.ref f16))) (l16 : K.lookup f16 = some ⟨oc16, od16, .func (PySem.W.fnOf "is_tuple_of" "is_tuple_of" (defArgs s_is_tuple_of) (defBody s_is_tuple_of) (defScope s_is_tuple_of) .none kV16 dc16 pm16 an16 cd16 ct16), sl16⟩) (c16 : PySem.W.codeIn K cd16 "is_tuple_of" = true) (k16 : PySem.W.keepIn K (.ref f16) = true)
    {f17 : Addr} {od17 an17 : Option Addr} {sl17 : Array (Option Value)} {oc17 kV17 dc17 pm17 cd17 ct17 : Value}
    (a17 : PySem.W.nsIn K mainGlobals "is_man" = some (some (.ref f17))) (l17 : K.lookup f17 = some ⟨oc17, od17, .func (PySem.W.fnOf "is_man" "is_man" (defArgs s_is_man) (defBody s_is_man) (defScope s_is_man) .none kV17 dc17 pm17 an17 cd17 ct17), sl17⟩) (c17 : PySem.W.codeIn K cd17 "is_man" = true) (k17 : PySem.W.keepIn K (.ref f17) = true)
    {f18 : Addr} {od18 an18 : Option Addr} {sl18 : Array (Option Value)} {oc18 kV18 dc18 pm18 cd18 ct18 : Value}
    (a18 : PySem.W.nsIn K mainGlobals "may_await" = some (some (.ref f18))) (l18 : K.lookup f18 = some ⟨oc18, od18, .func (PySem.W.fnOf "may_await" "may_await" (defArgs s_may_await) (defBody s_may_await) (defScope s_may_await) .none kV18 dc18 pm18 an18 cd18 ct18), sl18⟩) (c18 : PySem.W.codeIn K cd18 "may_await" = true) (k18 : PySem.W.keepIn K (.ref f18) = true)
    {f19 : Addr} {od19 an19 : Option Addr} {sl19 : Array (Option Value)} {oc19 kV19 dc19 pm19 cd19 ct19 : Value}
    (a19 : PySem.W.nsIn K mainGlobals "is_news" = some (some (.ref f19))) (l19 : K.lookup f19 = some ⟨oc19, od19, .func (PySem.W.fnOf "is_news" "is_news" (defArgs s_is_news) (defBody s_is_news) (defScope s_is_news) .none kV19 dc19 pm19 an19 cd19 ct19), sl19⟩) (c19 : PySem.W.codeIn K cd19 "is_news" = true) (k19 : PySem.W.keepIn K (.ref f19) = true)
    {f20 : Addr} {od20 an20 : Option Addr} {sl20 : Array (Option Value)} {oc20 kV20 dc20 pm20 cd20 ct20 : Value}
    (a20 : PySem.W.nsIn K mainGlobals "is_rising" = some (some (.ref f20))) (l20 : K.lookup f20 = some ⟨oc20, od20, .func (PySem.W.fnOf "is_rising" "is_rising" (defArgs s_is_rising) (defBody s_is_rising) (defScope s_is_rising) .none kV20 dc20 pm20 an20 cd20 ct20), sl20⟩) (c20 : PySem.W.codeIn K cd20 "is_rising" = true) (k20 : PySem.W.keepIn K (.ref f20) = true)
    {f21 : Addr} {od21 an21 : Option Addr} {sl21 : Array (Option Value)} {oc21 kV21 dc21 pm21 cd21 ct21 : Value}
    (a21 : PySem.W.nsIn K mainGlobals "is_book" = some (some (.ref f21))) (l21 : K.lookup f21 = some ⟨oc21, od21, .func (PySem.W.fnOf "is_book" "is_book" (defArgs s_is_book) (defBody s_is_book) (defScope s_is_book) .none kV21 dc21 pm21 an21 cd21 ct21), sl21⟩) (c21 : PySem.W.codeIn K cd21 "is_book" = true) (k21 : PySem.W.keepIn K (.ref f21) = true)
    {f22 : Addr} {od22 an22 : Option Addr} {sl22 : Array (Option Value)} {oc22 kV22 dc22 pm22 cd22 ct22 : Value}
    (a22 : PySem.W.nsIn K mainGlobals "lines_of" = some (some (.ref f22))) (l22 : K.lookup f22 = some ⟨oc22, od22, .func (PySem.W.fnOf "lines_of" "lines_of" (defArgs s_lines_of) (defBody s_lines_of) (defScope s_lines_of) .none kV22 dc22 pm22 an22 cd22 ct22), sl22⟩) (c22 : PySem.W.codeIn K cd22 "lines_of" = true) (k22 : PySem.W.keepIn K (.ref f22) = true)
    {f23 : Addr} {od23 an23 : Option Addr} {sl23 : Array (Option Value)} {oc23 kV23 dc23 pm23 cd23 ct23 : Value}
    (a23 : PySem.W.nsIn K mainGlobals "is_written_number" = some (some (.ref f23))) (l23 : K.lookup f23 = some ⟨oc23, od23, .func (PySem.W.fnOf "is_written_number" "is_written_number" (defArgs s_is_written_number) (defBody s_is_written_number) (defScope s_is_written_number) .none kV23 dc23 pm23 an23 cd23 ct23), sl23⟩) (c23 : PySem.W.codeIn K cd23 "is_written_number" = true) (k23 : PySem.W.keepIn K (.ref f23) = true)
    {f24 : Addr} {od24 an24 : Option Addr} {sl24 : Array (Option Value)} {oc24 kV24 dc24 pm24 cd24 ct24 : Value}
    (a24 : PySem.W.nsIn K mainGlobals "is_written_who" = some (some (.ref f24))) (l24 : K.lookup f24 = some ⟨oc24, od24, .func (PySem.W.fnOf "is_written_who" "is_written_who" (defArgs s_is_written_who) (defBody s_is_written_who) (defScope s_is_written_who) .none kV24 dc24 pm24 an24 cd24 ct24), sl24⟩) (c24 : PySem.W.codeIn K cd24 "is_written_who" = true) (k24 : PySem.W.keepIn K (.ref f24) = true)
    {f25 : Addr} {od25 an25 : Option Addr} {sl25 : Array (Option Value)} {oc25 kV25 dc25 pm25 cd25 ct25 : Value}
    (a25 : PySem.W.nsIn K mainGlobals "number_of" = some (some (.ref f25))) (l25 : K.lookup f25 = some ⟨oc25, od25, .func (PySem.W.fnOf "number_of" "number_of" (defArgs s_number_of) (defBody s_number_of) (defScope s_number_of) .none kV25 dc25 pm25 an25 cd25 ct25), sl25⟩) (c25 : PySem.W.codeIn K cd25 "number_of" = true) (k25 : PySem.W.keepIn K (.ref f25) = true)
    {f26 : Addr} {od26 an26 : Option Addr} {sl26 : Array (Option Value)} {oc26 kV26 dc26 pm26 cd26 ct26 : Value}
    (a26 : PySem.W.nsIn K mainGlobals "who_of" = some (some (.ref f26))) (l26 : K.lookup f26 = some ⟨oc26, od26, .func (PySem.W.fnOf "who_of" "who_of" (defArgs s_who_of) (defBody s_who_of) (defScope s_who_of) .none kV26 dc26 pm26 an26 cd26 ct26), sl26⟩) (c26 : PySem.W.codeIn K cd26 "who_of" = true) (k26 : PySem.W.keepIn K (.ref f26) = true)
    {f27 : Addr} {od27 an27 : Option Addr} {sl27 : Array (Option Value)} {oc27 kV27 dc27 pm27 cd27 ct27 : Value}
    (a27 : PySem.W.nsIn K mainGlobals "news_of" = some (some (.ref f27))) (l27 : K.lookup f27 = some ⟨oc27, od27, .func (PySem.W.fnOf "news_of" "news_of" (defArgs s_news_of) (defBody s_news_of) (defScope s_news_of) .none kV27 dc27 pm27 an27 cd27 ct27), sl27⟩) (c27 : PySem.W.codeIn K cd27 "news_of" = true) (k27 : PySem.W.keepIn K (.ref f27) = true)
    {f28 : Addr} {od28 an28 : Option Addr} {sl28 : Array (Option Value)} {oc28 kV28 dc28 pm28 cd28 ct28 : Value}
    (a28 : PySem.W.nsIn K mainGlobals "read_book" = some (some (.ref f28))) (l28 : K.lookup f28 = some ⟨oc28, od28, .func (PySem.W.fnOf "read_book" "read_book" (defArgs s_read_book) (defBody s_read_book) (defScope s_read_book) .none kV28 dc28 pm28 an28 cd28 ct28), sl28⟩) (c28 : PySem.W.codeIn K cd28 "read_book" = true) (k28 : PySem.W.keepIn K (.ref f28) = true)
    {f29 : Addr} {od29 an29 : Option Addr} {sl29 : Array (Option Value)} {oc29 kV29 dc29 pm29 cd29 ct29 : Value}
    (a29 : PySem.W.nsIn K mainGlobals "folk_of" = some (some (.ref f29))) (l29 : K.lookup f29 = some ⟨oc29, od29, .func (PySem.W.fnOf "folk_of" "folk_of" (defArgs s_folk_of) (defBody s_folk_of) (defScope s_folk_of) .none kV29 dc29 pm29 an29 cd29 ct29), sl29⟩) (c29 : PySem.W.codeIn K cd29 "folk_of" = true) (k29 : PySem.W.keepIn K (.ref f29) = true)
    {f30 : Addr} {od30 an30 : Option Addr} {sl30 : Array (Option Value)} {oc30 kV30 dc30 pm30 cd30 ct30 : Value}
    (a30 : PySem.W.nsIn K mainGlobals "parent_fits" = some (some (.ref f30))) (l30 : K.lookup f30 = some ⟨oc30, od30, .func (PySem.W.fnOf "parent_fits" "parent_fits" (defArgs s_parent_fits) (defBody s_parent_fits) (defScope s_parent_fits) .none kV30 dc30 pm30 an30 cd30 ct30), sl30⟩) (c30 : PySem.W.codeIn K cd30 "parent_fits" = true) (k30 : PySem.W.keepIn K (.ref f30) = true)
    {f31 : Addr} {od31 an31 : Option Addr} {sl31 : Array (Option Value)} {oc31 kV31 dc31 pm31 cd31 ct31 : Value}
    (a31 : PySem.W.nsIn K mainGlobals "fits_in" = some (some (.ref f31))) (l31 : K.lookup f31 = some ⟨oc31, od31, .func (PySem.W.fnOf "fits_in" "fits_in" (defArgs s_fits_in) (defBody s_fits_in) (defScope s_fits_in) .none kV31 dc31 pm31 an31 cd31 ct31), sl31⟩) (c31 : PySem.W.codeIn K cd31 "fits_in" = true) (k31 : PySem.W.keepIn K (.ref f31) = true)
    {f32 : Addr} {od32 an32 : Option Addr} {sl32 : Array (Option Value)} {oc32 kV32 dc32 pm32 cd32 ct32 : Value}
    (a32 : PySem.W.nsIn K mainGlobals "has_folk_form" = some (some (.ref f32))) (l32 : K.lookup f32 = some ⟨oc32, od32, .func (PySem.W.fnOf "has_folk_form" "has_folk_form" (defArgs s_has_folk_form) (defBody s_has_folk_form) (defScope s_has_folk_form) .none kV32 dc32 pm32 an32 cd32 ct32), sl32⟩) (c32 : PySem.W.codeIn K cd32 "has_folk_form" = true) (k32 : PySem.W.keepIn K (.ref f32) = true)
    {f33 : Addr} {od33 an33 : Option Addr} {sl33 : Array (Option Value)} {oc33 kV33 dc33 pm33 cd33 ct33 : Value}
    (a33 : PySem.W.nsIn K mainGlobals "is_house" = some (some (.ref f33))) (l33 : K.lookup f33 = some ⟨oc33, od33, .func (PySem.W.fnOf "is_house" "is_house" (defArgs s_is_house) (defBody s_is_house) (defScope s_is_house) .none kV33 dc33 pm33 an33 cd33 ct33), sl33⟩) (c33 : PySem.W.codeIn K cd33 "is_house" = true) (k33 : PySem.W.keepIn K (.ref f33) = true)
    {f34 : Addr} {od34 an34 : Option Addr} {sl34 : Array (Option Value)} {oc34 kV34 dc34 pm34 cd34 ct34 : Value}
    (a34 : PySem.W.nsIn K mainGlobals "read_house" = some (some (.ref f34))) (l34 : K.lookup f34 = some ⟨oc34, od34, .func (PySem.W.fnOf "read_house" "read_house" (defArgs s_read_house) (defBody s_read_house) (defScope s_read_house) .none kV34 dc34 pm34 an34 cd34 ct34), sl34⟩) (c34 : PySem.W.codeIn K cd34 "read_house" = true) (k34 : PySem.W.keepIn K (.ref f34) = true)
    {f35 : Addr} {od35 an35 : Option Addr} {sl35 : Array (Option Value)} {oc35 kV35 dc35 pm35 cd35 ct35 : Value}
    (a35 : PySem.W.nsIn K mainGlobals "is_row" = some (some (.ref f35))) (l35 : K.lookup f35 = some ⟨oc35, od35, .func (PySem.W.fnOf "is_row" "is_row" (defArgs s_is_row) (defBody s_is_row) (defScope s_is_row) .none kV35 dc35 pm35 an35 cd35 ct35), sl35⟩) (c35 : PySem.W.codeIn K cd35 "is_row" = true) (k35 : PySem.W.keepIn K (.ref f35) = true)
    {f36 : Addr} {od36 an36 : Option Addr} {sl36 : Array (Option Value)} {oc36 kV36 dc36 pm36 cd36 ct36 : Value}
    (a36 : PySem.W.nsIn K mainGlobals "is_rule" = some (some (.ref f36))) (l36 : K.lookup f36 = some ⟨oc36, od36, .func (PySem.W.fnOf "is_rule" "is_rule" (defArgs s_is_rule) (defBody s_is_rule) (defScope s_is_rule) .none kV36 dc36 pm36 an36 cd36 ct36), sl36⟩) (c36 : PySem.W.codeIn K cd36 "is_rule" = true) (k36 : PySem.W.keepIn K (.ref f36) = true)
    {f37 : Addr} {od37 an37 : Option Addr} {sl37 : Array (Option Value)} {oc37 kV37 dc37 pm37 cd37 ct37 : Value}
    (a37 : PySem.W.nsIn K mainGlobals "row_of" = some (some (.ref f37))) (l37 : K.lookup f37 = some ⟨oc37, od37, .func (PySem.W.fnOf "row_of" "row_of" (defArgs s_row_of) (defBody s_row_of) (defScope s_row_of) .none kV37 dc37 pm37 an37 cd37 ct37), sl37⟩) (c37 : PySem.W.codeIn K cd37 "row_of" = true) (k37 : PySem.W.keepIn K (.ref f37) = true)
    {f38 : Addr} {od38 an38 : Option Addr} {sl38 : Array (Option Value)} {oc38 kV38 dc38 pm38 cd38 ct38 : Value}
    (a38 : PySem.W.nsIn K mainGlobals "read_rule" = some (some (.ref f38))) (l38 : K.lookup f38 = some ⟨oc38, od38, .func (PySem.W.fnOf "read_rule" "read_rule" (defArgs s_read_rule) (defBody s_read_rule) (defScope s_read_rule) .none kV38 dc38 pm38 an38 cd38 ct38), sl38⟩) (c38 : PySem.W.codeIn K cd38 "read_rule" = true) (k38 : PySem.W.keepIn K (.ref f38) = true)
    {f39 : Addr} {od39 an39 : Option Addr} {sl39 : Array (Option Value)} {oc39 kV39 dc39 pm39 cd39 ct39 : Value}
    (a39 : PySem.W.nsIn K mainGlobals "row_line" = some (some (.ref f39))) (l39 : K.lookup f39 = some ⟨oc39, od39, .func (PySem.W.fnOf "row_line" "row_line" (defArgs s_row_line) (defBody s_row_line) (defScope s_row_line) .none kV39 dc39 pm39 an39 cd39 ct39), sl39⟩) (c39 : PySem.W.codeIn K cd39 "row_line" = true) (k39 : PySem.W.keepIn K (.ref f39) = true)
    {f40 : Addr} {od40 an40 : Option Addr} {sl40 : Array (Option Value)} {oc40 kV40 dc40 pm40 cd40 ct40 : Value}
    (a40 : PySem.W.nsIn K mainGlobals "rule_text" = some (some (.ref f40))) (l40 : K.lookup f40 = some ⟨oc40, od40, .func (PySem.W.fnOf "rule_text" "rule_text" (defArgs s_rule_text) (defBody s_rule_text) (defScope s_rule_text) .none kV40 dc40 pm40 an40 cd40 ct40), sl40⟩) (c40 : PySem.W.codeIn K cd40 "rule_text" = true) (k40 : PySem.W.keepIn K (.ref f40) = true)
    {f41 : Addr} {od41 an41 : Option Addr} {sl41 : Array (Option Value)} {oc41 kV41 dc41 pm41 cd41 ct41 : Value}
    (a41 : PySem.W.nsIn K mainGlobals "_law_right" = some (some (.ref f41))) (l41 : K.lookup f41 = some ⟨oc41, od41, .func (PySem.W.fnOf "_law_right" "_law_right" (defArgs s_right) (defBody s_right) (defScope s_right) .none kV41 dc41 pm41 an41 cd41 ct41), sl41⟩) (c41 : PySem.W.codeIn K cd41 "_law_right" = true) (k41 : PySem.W.keepIn K (.ref f41) = true)
    {f42 : Addr} {od42 an42 : Option Addr} {sl42 : Array (Option Value)} {oc42 kV42 dc42 pm42 cd42 ct42 : Value}
    (a42 : PySem.W.nsIn K mainGlobals "_law_take" = some (some (.ref f42))) (l42 : K.lookup f42 = some ⟨oc42, od42, .func (PySem.W.fnOf "_law_take" "_law_take" (defArgs s_take) (defBody s_take) (defScope s_take) .none kV42 dc42 pm42 an42 cd42 ct42), sl42⟩) (c42 : PySem.W.codeIn K cd42 "_law_take" = true) (k42 : PySem.W.keepIn K (.ref f42) = true)
    {f43 : Addr} {od43 an43 : Option Addr} {sl43 : Array (Option Value)} {oc43 kV43 dc43 pm43 cd43 ct43 : Value}
    (a43 : PySem.W.nsIn K mainGlobals "_law_row" = some (some (.ref f43))) (l43 : K.lookup f43 = some ⟨oc43, od43, .func (PySem.W.fnOf "_law_row" "_law_row" (defArgs s_row) (defBody s_row) (defScope s_row) .none kV43 dc43 pm43 an43 cd43 ct43), sl43⟩) (c43 : PySem.W.codeIn K cd43 "_law_row" = true) (k43 : PySem.W.keepIn K (.ref f43) = true)
    {f44 : Addr} {od44 an44 : Option Addr} {sl44 : Array (Option Value)} {oc44 kV44 dc44 pm44 cd44 ct44 : Value}
    (a44 : PySem.W.nsIn K mainGlobals "_law_rows" = some (some (.ref f44))) (l44 : K.lookup f44 = some ⟨oc44, od44, .func (PySem.W.fnOf "_law_rows" "_law_rows" (defArgs s_rows) (defBody s_rows) (defScope s_rows) .none kV44 dc44 pm44 an44 cd44 ct44), sl44⟩) (c44 : PySem.W.codeIn K cd44 "_law_rows" = true) (k44 : PySem.W.keepIn K (.ref f44) = true)
    {f45 : Addr} {od45 an45 : Option Addr} {sl45 : Array (Option Value)} {oc45 kV45 dc45 pm45 cd45 ct45 : Value}
    (a45 : PySem.W.nsIn K mainGlobals "_law_news" = some (some (.ref f45))) (l45 : K.lookup f45 = some ⟨oc45, od45, .func (PySem.W.fnOf "_law_news" "_law_news" (defArgs s_news) (defBody s_news) (defScope s_news) .none kV45 dc45 pm45 an45 cd45 ct45), sl45⟩) (c45 : PySem.W.codeIn K cd45 "_law_news" = true) (k45 : PySem.W.keepIn K (.ref f45) = true)
    {f46 : Addr} {od46 an46 : Option Addr} {sl46 : Array (Option Value)} {oc46 kV46 dc46 pm46 cd46 ct46 : Value}
    (a46 : PySem.W.nsIn K mainGlobals "_law_book" = some (some (.ref f46))) (l46 : K.lookup f46 = some ⟨oc46, od46, .func (PySem.W.fnOf "_law_book" "_law_book" (defArgs s_book) (defBody s_book) (defScope s_book) .none kV46 dc46 pm46 an46 cd46 ct46), sl46⟩) (c46 : PySem.W.codeIn K cd46 "_law_book" = true) (k46 : PySem.W.keepIn K (.ref f46) = true)
    {f47 : Addr} {od47 an47 : Option Addr} {sl47 : Array (Option Value)} {oc47 kV47 dc47 pm47 cd47 ct47 : Value}
    (a47 : PySem.W.nsIn K mainGlobals "_law_day" = some (some (.ref f47))) (l47 : K.lookup f47 = some ⟨oc47, od47, .func (PySem.W.fnOf "_law_day" "_law_day" (defArgs s_day) (defBody s_day) (defScope s_day) .none kV47 dc47 pm47 an47 cd47 ct47), sl47⟩) (c47 : PySem.W.codeIn K cd47 "_law_day" = true) (k47 : PySem.W.keepIn K (.ref f47) = true)
    {f48 : Addr} {od48 an48 : Option Addr} {sl48 : Array (Option Value)} {oc48 kV48 dc48 pm48 cd48 ct48 : Value}
    (a48 : PySem.W.nsIn K mainGlobals "_law_parent" = some (some (.ref f48))) (l48 : K.lookup f48 = some ⟨oc48, od48, .func (PySem.W.fnOf "_law_parent" "_law_parent" (defArgs s_parent) (defBody s_parent) (defScope s_parent) .none kV48 dc48 pm48 an48 cd48 ct48), sl48⟩) (c48 : PySem.W.codeIn K cd48 "_law_parent" = true) (k48 : PySem.W.keepIn K (.ref f48) = true)
    {f49 : Addr} {od49 an49 : Option Addr} {sl49 : Array (Option Value)} {oc49 kV49 dc49 pm49 cd49 ct49 : Value}
    (a49 : PySem.W.nsIn K mainGlobals "_law_house" = some (some (.ref f49))) (l49 : K.lookup f49 = some ⟨oc49, od49, .func (PySem.W.fnOf "_law_house" "_law_house" (defArgs s_house) (defBody s_house) (defScope s_house) .none kV49 dc49 pm49 an49 cd49 ct49), sl49⟩) (c49 : PySem.W.codeIn K cd49 "_law_house" = true) (k49 : PySem.W.keepIn K (.ref f49) = true)
    {f50 : Addr} {od50 an50 : Option Addr} {sl50 : Array (Option Value)} {oc50 kV50 dc50 pm50 cd50 ct50 : Value}
    (a50 : PySem.W.nsIn K mainGlobals "_law_some" = some (some (.ref f50))) (l50 : K.lookup f50 = some ⟨oc50, od50, .func (PySem.W.fnOf "_law_some" "_law_some" (defArgs s_some) (defBody s_some) (defScope s_some) .none kV50 dc50 pm50 an50 cd50 ct50), sl50⟩) (c50 : PySem.W.codeIn K cd50 "_law_some" = true) (k50 : PySem.W.keepIn K (.ref f50) = true)
    {f51 : Addr} {od51 an51 : Option Addr} {sl51 : Array (Option Value)} {oc51 kV51 dc51 pm51 cd51 ct51 : Value}
    (a51 : PySem.W.nsIn K mainGlobals "law" = some (some (.ref f51))) (l51 : K.lookup f51 = some ⟨oc51, od51, .func (PySem.W.fnOf "law" "law" (defArgs s_law) (defBody s_law) (defScope s_law) .none kV51 dc51 pm51 an51 cd51 ct51), sl51⟩) (c51 : PySem.W.codeIn K cd51 "law" = true) (k51 : PySem.W.keepIn K (.ref f51) = true)
    {co_is_rising tb_is_rising : Addr} {e_is_rising : Value} {dd_is_rising : Option Addr} {vs_is_rising : Array Value} {sl_is_rising : Array (Option Value)} (cc_is_rising : cd20 = .ref co_is_rising) (ti_is_rising : K.lookup co_is_rising = some ⟨e_is_rising, dd_is_rising, .fields vs_is_rising, sl_is_rising⟩) (vv_is_rising : vs_is_rising[11]? = some (.ref tb_is_rising)) (nk_is_rising : K.lookup tb_is_rising = none) (tt_is_rising : PySem.W.tabIn K "is_rising" = some (co_is_rising, tb_is_rising) → PySem.W.CodeHd h co_is_rising tb_is_rising ∧ h.get? tb_is_rising = some { cls := .none, data := .fields #[] })
    {co_is_book tb_is_book : Addr} {e_is_book : Value} {dd_is_book : Option Addr} {vs_is_book : Array Value} {sl_is_book : Array (Option Value)} (cc_is_book : cd21 = .ref co_is_book) (ti_is_book : K.lookup co_is_book = some ⟨e_is_book, dd_is_book, .fields vs_is_book, sl_is_book⟩) (vv_is_book : vs_is_book[11]? = some (.ref tb_is_book)) (nk_is_book : K.lookup tb_is_book = none) (tt_is_book : PySem.W.tabIn K "is_book" = some (co_is_book, tb_is_book) → PySem.W.CodeHd h co_is_book tb_is_book ∧ h.get? tb_is_book = some { cls := .none, data := .fields #[] })
    {co_is_written_number tb_is_written_number : Addr} {e_is_written_number : Value} {dd_is_written_number : Option Addr} {vs_is_written_number : Array Value} {sl_is_written_number : Array (Option Value)} (cc_is_written_number : cd23 = .ref co_is_written_number) (ti_is_written_number : K.lookup co_is_written_number = some ⟨e_is_written_number, dd_is_written_number, .fields vs_is_written_number, sl_is_written_number⟩) (vv_is_written_number : vs_is_written_number[11]? = some (.ref tb_is_written_number)) (nk_is_written_number : K.lookup tb_is_written_number = none) (tt_is_written_number : PySem.W.tabIn K "is_written_number" = some (co_is_written_number, tb_is_written_number) → PySem.W.CodeHd h co_is_written_number tb_is_written_number ∧ h.get? tb_is_written_number = some { cls := .none, data := .fields #[] })
    {co_read_book tb_read_book : Addr} {e_read_book : Value} {dd_read_book : Option Addr} {vs_read_book : Array Value} {sl_read_book : Array (Option Value)} (cc_read_book : cd28 = .ref co_read_book) (ti_read_book : K.lookup co_read_book = some ⟨e_read_book, dd_read_book, .fields vs_read_book, sl_read_book⟩) (vv_read_book : vs_read_book[11]? = some (.ref tb_read_book)) (nk_read_book : K.lookup tb_read_book = none) (tt_read_book : PySem.W.tabIn K "read_book" = some (co_read_book, tb_read_book) → PySem.W.CodeHd h co_read_book tb_read_book ∧ h.get? tb_read_book = some { cls := .none, data := .fields #[] })
    {co_has_folk_form tb_has_folk_form : Addr} {e_has_folk_form : Value} {dd_has_folk_form : Option Addr} {vs_has_folk_form : Array Value} {sl_has_folk_form : Array (Option Value)} (cc_has_folk_form : cd32 = .ref co_has_folk_form) (ti_has_folk_form : K.lookup co_has_folk_form = some ⟨e_has_folk_form, dd_has_folk_form, .fields vs_has_folk_form, sl_has_folk_form⟩) (vv_has_folk_form : vs_has_folk_form[11]? = some (.ref tb_has_folk_form)) (nk_has_folk_form : K.lookup tb_has_folk_form = none) (tt_has_folk_form : PySem.W.tabIn K "has_folk_form" = some (co_has_folk_form, tb_has_folk_form) → PySem.W.CodeHd h co_has_folk_form tb_has_folk_form ∧ h.get? tb_has_folk_form = some { cls := .none, data := .fields #[] })
    {co_is_house tb_is_house : Addr} {e_is_house : Value} {dd_is_house : Option Addr} {vs_is_house : Array Value} {sl_is_house : Array (Option Value)} (cc_is_house : cd33 = .ref co_is_house) (ti_is_house : K.lookup co_is_house = some ⟨e_is_house, dd_is_house, .fields vs_is_house, sl_is_house⟩) (vv_is_house : vs_is_house[11]? = some (.ref tb_is_house)) (nk_is_house : K.lookup tb_is_house = none) (tt_is_house : PySem.W.tabIn K "is_house" = some (co_is_house, tb_is_house) → PySem.W.CodeHd h co_is_house tb_is_house ∧ h.get? tb_is_house = some { cls := .none, data := .fields #[] })
    {co_read_house tb_read_house : Addr} {e_read_house : Value} {dd_read_house : Option Addr} {vs_read_house : Array Value} {sl_read_house : Array (Option Value)} (cc_read_house : cd34 = .ref co_read_house) (ti_read_house : K.lookup co_read_house = some ⟨e_read_house, dd_read_house, .fields vs_read_house, sl_read_house⟩) (vv_read_house : vs_read_house[11]? = some (.ref tb_read_house)) (nk_read_house : K.lookup tb_read_house = none) (tt_read_house : PySem.W.tabIn K "read_house" = some (co_read_house, tb_read_house) → PySem.W.CodeHd h co_read_house tb_read_house ∧ h.get? tb_read_house = some { cls := .none, data := .fields #[] })
    {co_is_rule tb_is_rule : Addr} {e_is_rule : Value} {dd_is_rule : Option Addr} {vs_is_rule : Array Value} {sl_is_rule : Array (Option Value)} (cc_is_rule : cd36 = .ref co_is_rule) (ti_is_rule : K.lookup co_is_rule = some ⟨e_is_rule, dd_is_rule, .fields vs_is_rule, sl_is_rule⟩) (vv_is_rule : vs_is_rule[11]? = some (.ref tb_is_rule)) (nk_is_rule : K.lookup tb_is_rule = none) (tt_is_rule : PySem.W.tabIn K "is_rule" = some (co_is_rule, tb_is_rule) → PySem.W.CodeHd h co_is_rule tb_is_rule ∧ h.get? tb_is_rule = some { cls := .none, data := .fields #[] })
    {co_read_rule tb_read_rule : Addr} {e_read_rule : Value} {dd_read_rule : Option Addr} {vs_read_rule : Array Value} {sl_read_rule : Array (Option Value)} (cc_read_rule : cd38 = .ref co_read_rule) (ti_read_rule : K.lookup co_read_rule = some ⟨e_read_rule, dd_read_rule, .fields vs_read_rule, sl_read_rule⟩) (vv_read_rule : vs_read_rule[11]? = some (.ref tb_read_rule)) (nk_read_rule : K.lookup tb_read_rule = none) (tt_read_rule : PySem.W.tabIn K "read_rule" = some (co_read_rule, tb_read_rule) → PySem.W.CodeHd h co_read_rule tb_read_rule ∧ h.get? tb_read_rule = some { cls := .none, data := .fields #[] })
    (z_all : PySem.W.nsIn K mainGlobals "all" = some none)
    (z_bool : PySem.W.nsIn K mainGlobals "bool" = some none)
    (z_int : PySem.W.nsIn K mainGlobals "int" = some none)
    (z_isinstance : PySem.W.nsIn K mainGlobals "isinstance" = some none)
    (z_len : PySem.W.nsIn K mainGlobals "len" = some none)
    (z_max : PySem.W.nsIn K mainGlobals "max" = some none)
    (z_min : PySem.W.nsIn K mainGlobals "min" = some none)
    (z_range : PySem.W.nsIn K mainGlobals "range" = some none)
    (z_set : PySem.W.nsIn K mainGlobals "set" = some none)
    (z_sorted : PySem.W.nsIn K mainGlobals "sorted" = some none)
    (z_str : PySem.W.nsIn K mainGlobals "str" = some none)
    (z_tuple : PySem.W.nsIn K mainGlobals "tuple" = some none)
    (no_by_nearness : PySem.W.nsIn K mainGlobals "by_nearness" = some none)
    (no_to_join : PySem.W.nsIn K mainGlobals "to_join" = some none)
    {a_BIRTHS : Addr} {t0_BIRTHS t1_BIRTHS : Tok} {n_BIRTHS : Nat} {s_BIRTHS : Array (Option Value)} (v_BIRTHS : PySem.W.nsIn K mainGlobals "BIRTHS" = some (some (.ref a_BIRTHS))) (w_BIRTHS : K.lookup a_BIRTHS = some ⟨.type "tuple", none, .seq #[.str "unwed" t0_BIRTHS, .str "wed" t1_BIRTHS] n_BIRTHS, s_BIRTHS⟩)
    {a_COUNTED : Addr} {t0_COUNTED t1_COUNTED : Tok} {n_COUNTED : Nat} {s_COUNTED : Array (Option Value)} (v_COUNTED : PySem.W.nsIn K mainGlobals "COUNTED" = some (some (.ref a_COUNTED))) (w_COUNTED : K.lookup a_COUNTED = some ⟨.type "tuple", none, .seq #[.str "all" t0_COUNTED, .str "wed" t1_COUNTED] n_COUNTED, s_COUNTED⟩)
    {t_LAST_DAY : _} (v_LAST_DAY : PySem.W.nsIn K mainGlobals "LAST_DAY" = some (some (.int 99999 t_LAST_DAY)))
    {a_MEN : Addr} {t0_MEN t1_MEN t2_MEN : Tok} {n_MEN : Nat} {s_MEN : Array (Option Value)} (v_MEN : PySem.W.nsIn K mainGlobals "MEN" = some (some (.ref a_MEN))) (w_MEN : K.lookup a_MEN = some ⟨.type "tuple", none, .seq #[.str "alike" t0_MEN, .str "first" t1_MEN, .str "only" t2_MEN] n_MEN, s_MEN⟩)
    {t_MOST_FIGURES : _} (v_MOST_FIGURES : PySem.W.nsIn K mainGlobals "MOST_FIGURES" = some (some (.int 5 t_MOST_FIGURES)))
    {t_MOST_FOLK : _} (v_MOST_FOLK : PySem.W.nsIn K mainGlobals "MOST_FOLK" = some (some (.int 60 t_MOST_FOLK)))
    {t_MOST_NEWS : _} (v_MOST_NEWS : PySem.W.nsIn K mainGlobals "MOST_NEWS" = some (some (.int 60 t_MOST_NEWS)))
    {t_MOST_ROWS : _} (v_MOST_ROWS : PySem.W.nsIn K mainGlobals "MOST_ROWS" = some (some (.int 3 t_MOST_ROWS)))
    {t_NOBODY : _} (v_NOBODY : PySem.W.nsIn K mainGlobals "NOBODY" = some (some (.str "-" t_NOBODY)))
    {a_SEXES : Addr} {t0_SEXES t1_SEXES : Tok} {n_SEXES : Nat} {s_SEXES : Array (Option Value)} (v_SEXES : PySem.W.nsIn K mainGlobals "SEXES" = some (some (.ref a_SEXES))) (w_SEXES : K.lookup a_SEXES = some ⟨.type "tuple", none, .seq #[.str "woman" t0_SEXES, .str "man" t1_SEXES] n_SEXES, s_SEXES⟩)
    {a_WAYS : Addr} {t0_WAYS t1_WAYS t2_WAYS : Tok} {n_WAYS : Nat} {s_WAYS : Array (Option Value)} (v_WAYS : PySem.W.nsIn K mainGlobals "WAYS" = some (some (.ref a_WAYS))) (w_WAYS : K.lookup a_WAYS = some ⟨.type "tuple", none, .seq #[.str "lines" t0_WAYS, .str "age" t1_WAYS, .str "near" t2_WAYS] n_WAYS, s_WAYS⟩)
    {a_WORDS : Addr} {t0_WORDS t1_WORDS t2_WORDS t3_WORDS t4_WORDS : Tok} {n_WORDS : Nat} {s_WORDS : Array (Option Value)} (v_WORDS : PySem.W.nsIn K mainGlobals "WORDS" = some (some (.ref a_WORDS))) (w_WORDS : K.lookup a_WORDS = some ⟨.type "tuple", none, .seq #[.str "dies" t0_WORDS, .str "leaves" t1_WORDS, .str "cuts" t2_WORDS, .str "returns" t3_WORDS, .str "awaits" t4_WORDS] n_WORDS, s_WORDS⟩)
    : ∃ (fd : FuncData) (cs : List (Addr × Addr)), (∀ p ∈ cs, h.get? p.2 = some { cls := .none, data := .fields #[] }) ∧ (∀ p ∈ cs, K.lookup p.2 = none) ∧ (∀ p ∈ cs, PySem.W.CodeHd h p.1 p.2) ∧ (∀ (s : Shared) (u : Value), BindsTo s fd ⟨[u], []⟩ [("_law_script", u)]) ∧
      ∀ base : Heap, K.In base → base.Ns mainGlobals mg → (∀ p ∈ cs, GxR.TabB base mg p.1 p.2) → FnG l.prog w K mg base 9 fa fd ["_law_script"] (spF K (cs.map (·.2)) P_law.length F_law) := by
  have isLaw : fa = f51 := by
    have e := hfa.symm.trans (PySem.W.mg_of X G a51)
    cases e; rfl
  have F0 : FunC K "_law_name" "_law_name" s_name f0 _ cd0 := ⟨⟨oc0, od0, kV0, dc0, pm0, an0, ct0, sl0, rfl, l0, c0⟩, k0⟩
  have b0 := F0.binds (ps := P_name) fun _ _ _ _ _ us hl => match us, hl with | [_], _ => rfl
  have F1 : FunC K "_law_news_words" "_law_news_words" s_news_words f1 _ cd1 := ⟨⟨oc1, od1, kV1, dc1, pm1, an1, ct1, sl1, rfl, l1, c1⟩, k1⟩
  have b1 := F1.binds (ps := P_news_words) fun _ _ _ _ _ us hl => match us, hl with | [_], _ => rfl
  have F2 : FunC K "_law_text" "_law_text" s_text f2 _ cd2 := ⟨⟨oc2, od2, kV2, dc2, pm2, an2, ct2, sl2, rfl, l2, c2⟩, k2⟩
  have b2 := F2.binds (ps := P_text) fun _ _ _ _ _ us hl => match us, hl with | [_], _ => rfl
  have F3 : FunC K "_law_book_text" "_law_book_text" s_l_book_text f3 _ cd3 := ⟨⟨oc3, od3, kV3, dc3, pm3, an3, ct3, sl3, rfl, l3, c3⟩, k3⟩
  have b3 := F3.binds (ps := P_l_book_text) fun _ _ _ _ _ us hl => match us, hl with | [_], _ => rfl
  have F4 : FunC K "_law_house_text" "_law_house_text" s_l_house_text f4 _ cd4 := ⟨⟨oc4, od4, kV4, dc4, pm4, an4, ct4, sl4, rfl, l4, c4⟩, k4⟩
  have b4 := F4.binds (ps := P_l_house_text) fun _ _ _ _ _ us hl => match us, hl with | [_], _ => rfl
  have F5 : FunC K "_law_is_plain" "_law_is_plain" s_is_plain f5 _ cd5 := ⟨⟨oc5, od5, kV5, dc5, pm5, an5, ct5, sl5, rfl, l5, c5⟩, k5⟩
  have b5 := F5.binds (ps := P_is_plain) fun _ _ _ _ _ us hl => match us, hl with | [_], _ => rfl
  have F6 : FunC K "_law_rows_text" "_law_rows_text" s_rows_text f6 _ cd6 := ⟨⟨oc6, od6, kV6, dc6, pm6, an6, ct6, sl6, rfl, l6, c6⟩, k6⟩
  have b6 := F6.binds (ps := P_rows_text) fun _ _ _ _ _ us hl => match us, hl with | [_], _ => rfl
  have F7 : FunC K "who_word" "who_word" s_who_word f7 _ cd7 := ⟨⟨oc7, od7, kV7, dc7, pm7, an7, ct7, sl7, rfl, l7, c7⟩, k7⟩
  have b7 := F7.binds (ps := P_who_word) fun _ _ _ _ _ us hl => match us, hl with | [_], _ => rfl
  have F8 : FunC K "news_line" "news_line" s_news_line f8 _ cd8 := ⟨⟨oc8, od8, kV8, dc8, pm8, an8, ct8, sl8, rfl, l8, c8⟩, k8⟩
  have b8 := F8.binds (ps := P_news_line) fun _ _ _ _ _ us hl => match us, hl with | [_], _ => rfl
  have F9 : FunC K "text_of" "text_of" s_text_of f9 _ cd9 := ⟨⟨oc9, od9, kV9, dc9, pm9, an9, ct9, sl9, rfl, l9, c9⟩, k9⟩
  have b9 := F9.binds (ps := P_text_of) fun _ _ _ _ _ us hl => match us, hl with | [_], _ => rfl
  have F10 : FunC K "book_text" "book_text" s_book_text f10 _ cd10 := ⟨⟨oc10, od10, kV10, dc10, pm10, an10, ct10, sl10, rfl, l10, c10⟩, k10⟩
  have b10 := F10.binds (ps := P_book_text) fun _ _ _ _ _ us hl => match us, hl with | [_], _ => rfl
  have F11 : FunC K "folk_line" "folk_line" s_folk_line f11 _ cd11 := ⟨⟨oc11, od11, kV11, dc11, pm11, an11, ct11, sl11, rfl, l11, c11⟩, k11⟩
  have b11 := F11.binds (ps := P_folk_line) fun _ _ _ _ _ us hl => match us, hl with | [_], _ => rfl
  have F12 : FunC K "house_text" "house_text" s_house_text f12 _ cd12 := ⟨⟨oc12, od12, kV12, dc12, pm12, an12, ct12, sl12, rfl, l12, c12⟩, k12⟩
  have b12 := F12.binds (ps := P_house_text) fun _ _ _ _ _ us hl => match us, hl with | [_], _ => rfl
  have F13 : FunC K "day_of" "day_of" s_day_of f13 _ cd13 := ⟨⟨oc13, od13, kV13, dc13, pm13, an13, ct13, sl13, rfl, l13, c13⟩, k13⟩
  have b13 := F13.binds (ps := P_day_of) fun _ _ _ _ _ us hl => match us, hl with | [_, _], _ => rfl
  have F14 : FunC K "is_number" "is_number" s_is_number f14 _ cd14 := ⟨⟨oc14, od14, kV14, dc14, pm14, an14, ct14, sl14, rfl, l14, c14⟩, k14⟩
  have b14 := F14.binds (ps := P_is_number) fun _ _ _ _ _ us hl => match us, hl with | [_], _ => rfl
  have F15 : FunC K "is_folk_of" "is_folk_of" s_is_folk_of f15 _ cd15 := ⟨⟨oc15, od15, kV15, dc15, pm15, an15, ct15, sl15, rfl, l15, c15⟩, k15⟩
  have b15 := F15.binds (ps := P_is_folk_of) fun _ _ _ _ _ us hl => match us, hl with | [_, _], _ => rfl
  have F16 : FunC K "is_tuple_of" "is_tuple_of" s_is_tuple_of f16 _ cd16 := ⟨⟨oc16, od16, kV16, dc16, pm16, an16, ct16, sl16, rfl, l16, c16⟩, k16⟩
  have b16 := F16.binds (ps := P_is_tuple_of) fun _ _ _ _ _ us hl => match us, hl with | [_, _], _ => rfl
  have F17 : FunC K "is_man" "is_man" s_is_man f17 _ cd17 := ⟨⟨oc17, od17, kV17, dc17, pm17, an17, ct17, sl17, rfl, l17, c17⟩, k17⟩
  have b17 := F17.binds (ps := P_is_man) fun _ _ _ _ _ us hl => match us, hl with | [_, _], _ => rfl
  have F18 : FunC K "may_await" "may_await" s_may_await f18 _ cd18 := ⟨⟨oc18, od18, kV18, dc18, pm18, an18, ct18, sl18, rfl, l18, c18⟩, k18⟩
  have b18 := F18.binds (ps := P_may_await) fun _ _ _ _ _ us hl => match us, hl with | [_, _, _, _], _ => rfl
  have F19 : FunC K "is_news" "is_news" s_is_news f19 _ cd19 := ⟨⟨oc19, od19, kV19, dc19, pm19, an19, ct19, sl19, rfl, l19, c19⟩, k19⟩
  have b19 := F19.binds (ps := P_is_news) fun _ _ _ _ _ us hl => match us, hl with | [_, _], _ => rfl
  have F20 : FunC K "is_rising" "is_rising" s_is_rising f20 _ cd20 := ⟨⟨oc20, od20, kV20, dc20, pm20, an20, ct20, sl20, rfl, l20, c20⟩, k20⟩
  have b20 := F20.binds (ps := P_is_rising) fun _ _ _ _ _ us hl => match us, hl with | [_], _ => rfl
  have F21 : FunC K "is_book" "is_book" s_is_book f21 _ cd21 := ⟨⟨oc21, od21, kV21, dc21, pm21, an21, ct21, sl21, rfl, l21, c21⟩, k21⟩
  have b21 := F21.binds (ps := P_is_book) fun _ _ _ _ _ us hl => match us, hl with | [_, _], _ => rfl
  have F22 : FunC K "lines_of" "lines_of" s_lines_of f22 _ cd22 := ⟨⟨oc22, od22, kV22, dc22, pm22, an22, ct22, sl22, rfl, l22, c22⟩, k22⟩
  have b22 := F22.binds (ps := P_lines_of) fun _ _ _ _ _ us hl => match us, hl with | [_], _ => rfl
  have F23 : FunC K "is_written_number" "is_written_number" s_is_written_number f23 _ cd23 := ⟨⟨oc23, od23, kV23, dc23, pm23, an23, ct23, sl23, rfl, l23, c23⟩, k23⟩
  have b23 := F23.binds (ps := P_is_written_number) fun _ _ _ _ _ us hl => match us, hl with | [_], _ => rfl
  have F24 : FunC K "is_written_who" "is_written_who" s_is_written_who f24 _ cd24 := ⟨⟨oc24, od24, kV24, dc24, pm24, an24, ct24, sl24, rfl, l24, c24⟩, k24⟩
  have b24 := F24.binds (ps := P_is_written_who) fun _ _ _ _ _ us hl => match us, hl with | [_], _ => rfl
  have F25 : FunC K "number_of" "number_of" s_number_of f25 _ cd25 := ⟨⟨oc25, od25, kV25, dc25, pm25, an25, ct25, sl25, rfl, l25, c25⟩, k25⟩
  have b25 := F25.binds (ps := P_number_of) fun _ _ _ _ _ us hl => match us, hl with | [_], _ => rfl
  have F26 : FunC K "who_of" "who_of" s_who_of f26 _ cd26 := ⟨⟨oc26, od26, kV26, dc26, pm26, an26, ct26, sl26, rfl, l26, c26⟩, k26⟩
  have b26 := F26.binds (ps := P_who_of) fun _ _ _ _ _ us hl => match us, hl with | [_], _ => rfl
  have F27 : FunC K "news_of" "news_of" s_news_of f27 _ cd27 := ⟨⟨oc27, od27, kV27, dc27, pm27, an27, ct27, sl27, rfl, l27, c27⟩, k27⟩
  have b27 := F27.binds (ps := P_news_of) fun _ _ _ _ _ us hl => match us, hl with | [_], _ => rfl
  have F28 : FunC K "read_book" "read_book" s_read_book f28 _ cd28 := ⟨⟨oc28, od28, kV28, dc28, pm28, an28, ct28, sl28, rfl, l28, c28⟩, k28⟩
  have b28 := F28.binds (ps := P_read_book) fun _ _ _ _ _ us hl => match us, hl with | [_, _], _ => rfl
  have F29 : FunC K "folk_of" "folk_of" s_folk_of f29 _ cd29 := ⟨⟨oc29, od29, kV29, dc29, pm29, an29, ct29, sl29, rfl, l29, c29⟩, k29⟩
  have b29 := F29.binds (ps := P_folk_of) fun _ _ _ _ _ us hl => match us, hl with | [_], _ => rfl
  have F30 : FunC K "parent_fits" "parent_fits" s_parent_fits f30 _ cd30 := ⟨⟨oc30, od30, kV30, dc30, pm30, an30, ct30, sl30, rfl, l30, c30⟩, k30⟩
  have b30 := F30.binds (ps := P_parent_fits) fun _ _ _ _ _ us hl => match us, hl with | [_, _, _, _], _ => rfl
  have F31 : FunC K "fits_in" "fits_in" s_fits_in f31 _ cd31 := ⟨⟨oc31, od31, kV31, dc31, pm31, an31, ct31, sl31, rfl, l31, c31⟩, k31⟩
  have b31 := F31.binds (ps := P_fits_in) fun _ _ _ _ _ us hl => match us, hl with | [_, _], _ => rfl
  have F32 : FunC K "has_folk_form" "has_folk_form" s_has_folk_form f32 _ cd32 := ⟨⟨oc32, od32, kV32, dc32, pm32, an32, ct32, sl32, rfl, l32, c32⟩, k32⟩
  have b32 := F32.binds (ps := P_has_folk_form) fun _ _ _ _ _ us hl => match us, hl with | [_], _ => rfl
  have F33 : FunC K "is_house" "is_house" s_is_house f33 _ cd33 := ⟨⟨oc33, od33, kV33, dc33, pm33, an33, ct33, sl33, rfl, l33, c33⟩, k33⟩
  have b33 := F33.binds (ps := P_is_house) fun _ _ _ _ _ us hl => match us, hl with | [_], _ => rfl
  have F34 : FunC K "read_house" "read_house" s_read_house f34 _ cd34 := ⟨⟨oc34, od34, kV34, dc34, pm34, an34, ct34, sl34, rfl, l34, c34⟩, k34⟩
  have b34 := F34.binds (ps := P_read_house) fun _ _ _ _ _ us hl => match us, hl with | [_], _ => rfl
  have F35 : FunC K "is_row" "is_row" s_is_row f35 _ cd35 := ⟨⟨oc35, od35, kV35, dc35, pm35, an35, ct35, sl35, rfl, l35, c35⟩, k35⟩
  have b35 := F35.binds (ps := P_is_row) fun _ _ _ _ _ us hl => match us, hl with | [_, _], _ => rfl
  have F36 : FunC K "is_rule" "is_rule" s_is_rule f36 _ cd36 := ⟨⟨oc36, od36, kV36, dc36, pm36, an36, ct36, sl36, rfl, l36, c36⟩, k36⟩
  have b36 := F36.binds (ps := P_is_rule) fun _ _ _ _ _ us hl => match us, hl with | [_, _], _ => rfl
  have F37 : FunC K "row_of" "row_of" s_row_of f37 _ cd37 := ⟨⟨oc37, od37, kV37, dc37, pm37, an37, ct37, sl37, rfl, l37, c37⟩, k37⟩
  have b37 := F37.binds (ps := P_row_of) fun _ _ _ _ _ us hl => match us, hl with | [_], _ => rfl
  have F38 : FunC K "read_rule" "read_rule" s_read_rule f38 _ cd38 := ⟨⟨oc38, od38, kV38, dc38, pm38, an38, ct38, sl38, rfl, l38, c38⟩, k38⟩
  have b38 := F38.binds (ps := P_read_rule) fun _ _ _ _ _ us hl => match us, hl with | [_, _], _ => rfl
  have F39 : FunC K "row_line" "row_line" s_row_line f39 _ cd39 := ⟨⟨oc39, od39, kV39, dc39, pm39, an39, ct39, sl39, rfl, l39, c39⟩, k39⟩
  have b39 := F39.binds (ps := P_row_line) fun _ _ _ _ _ us hl => match us, hl with | [_], _ => rfl
  have F40 : FunC K "rule_text" "rule_text" s_rule_text f40 _ cd40 := ⟨⟨oc40, od40, kV40, dc40, pm40, an40, ct40, sl40, rfl, l40, c40⟩, k40⟩
  have b40 := F40.binds (ps := P_rule_text) fun _ _ _ _ _ us hl => match us, hl with | [_], _ => rfl
  have F41 : FunC K "_law_right" "_law_right" s_right f41 _ cd41 := ⟨⟨oc41, od41, kV41, dc41, pm41, an41, ct41, sl41, rfl, l41, c41⟩, k41⟩
  have b41 := F41.binds (ps := P_right) fun _ _ _ _ _ us hl => match us, hl with | [_, _, _], _ => rfl
  have F42 : FunC K "_law_take" "_law_take" s_take f42 _ cd42 := ⟨⟨oc42, od42, kV42, dc42, pm42, an42, ct42, sl42, rfl, l42, c42⟩, k42⟩
  have b42 := F42.binds (ps := P_take) fun _ _ _ _ _ us hl => match us, hl with | [_, _], _ => rfl
  have F43 : FunC K "_law_row" "_law_row" s_row f43 _ cd43 := ⟨⟨oc43, od43, kV43, dc43, pm43, an43, ct43, sl43, rfl, l43, c43⟩, k43⟩
  have b43 := F43.binds (ps := P_row) fun _ _ _ _ _ us hl => match us, hl with | [_, _], _ => rfl
  have F44 : FunC K "_law_rows" "_law_rows" s_rows f44 _ cd44 := ⟨⟨oc44, od44, kV44, dc44, pm44, an44, ct44, sl44, rfl, l44, c44⟩, k44⟩
  have b44 := F44.binds (ps := P_rows) fun _ _ _ _ _ us hl => match us, hl with | [_, _], _ => rfl
  have F45 : FunC K "_law_news" "_law_news" s_news f45 _ cd45 := ⟨⟨oc45, od45, kV45, dc45, pm45, an45, ct45, sl45, rfl, l45, c45⟩, k45⟩
  have b45 := F45.binds (ps := P_news) fun _ _ _ _ _ us hl => match us, hl with | [_, _], _ => rfl
  have F46 : FunC K "_law_book" "_law_book" s_book f46 _ cd46 := ⟨⟨oc46, od46, kV46, dc46, pm46, an46, ct46, sl46, rfl, l46, c46⟩, k46⟩
  have b46 := F46.binds (ps := P_book) fun _ _ _ _ _ us hl => match us, hl with | [_, _, _], _ => rfl
  have F47 : FunC K "_law_day" "_law_day" s_day f47 _ cd47 := ⟨⟨oc47, od47, kV47, dc47, pm47, an47, ct47, sl47, rfl, l47, c47⟩, k47⟩
  have b47 := F47.binds (ps := P_day) fun _ _ _ _ _ us hl => match us, hl with | [_, _], _ => rfl
  have F48 : FunC K "_law_parent" "_law_parent" s_parent f48 _ cd48 := ⟨⟨oc48, od48, kV48, dc48, pm48, an48, ct48, sl48, rfl, l48, c48⟩, k48⟩
  have b48 := F48.binds (ps := P_parent) fun _ _ _ _ _ us hl => match us, hl with | [_, _, _, _], _ => rfl
  have F49 : FunC K "_law_house" "_law_house" s_house f49 _ cd49 := ⟨⟨oc49, od49, kV49, dc49, pm49, an49, ct49, sl49, rfl, l49, c49⟩, k49⟩
  have b49 := F49.binds (ps := P_house) fun _ _ _ _ _ us hl => match us, hl with | [_, _], _ => rfl
  have F50 : FunC K "_law_some" "_law_some" s_some f50 _ cd50 := ⟨⟨oc50, od50, kV50, dc50, pm50, an50, ct50, sl50, rfl, l50, c50⟩, k50⟩
  have b50 := F50.binds (ps := P_some) fun _ _ _ _ _ us hl => match us, hl with | [_, _], _ => rfl
  have F51 : FunC K "law" "law" s_law f51 _ cd51 := ⟨⟨oc51, od51, kV51, dc51, pm51, an51, ct51, sl51, rfl, l51, c51⟩, k51⟩
  have b51 := F51.binds (ps := P_law) fun _ _ _ _ _ us hl => match us, hl with | [_], _ => rfl
  have tt_is_rising := tt_is_rising (Pv.tab_in a20 l20 cc_is_rising ti_is_rising vv_is_rising)
  have tt_is_book := tt_is_book (Pv.tab_in a21 l21 cc_is_book ti_is_book vv_is_book)
  have tt_is_written_number := tt_is_written_number (Pv.tab_in a23 l23 cc_is_written_number ti_is_written_number vv_is_written_number)
  have tt_read_book := tt_read_book (Pv.tab_in a28 l28 cc_read_book ti_read_book vv_read_book)
  have tt_has_folk_form := tt_has_folk_form (Pv.tab_in a32 l32 cc_has_folk_form ti_has_folk_form vv_has_folk_form)
  have tt_is_house := tt_is_house (Pv.tab_in a33 l33 cc_is_house ti_is_house vv_is_house)
  have tt_read_house := tt_read_house (Pv.tab_in a34 l34 cc_read_house ti_read_house vv_read_house)
  have tt_is_rule := tt_is_rule (Pv.tab_in a36 l36 cc_is_rule ti_is_rule vv_is_rule)
  have tt_read_rule := tt_read_rule (Pv.tab_in a38 l38 cc_read_rule ti_read_rule vv_read_rule)
  let C : Ctx K mg ([(co_is_rising, tb_is_rising), (co_is_book, tb_is_book), (co_is_written_number, tb_is_written_number), (co_read_book, tb_read_book), (co_has_folk_form, tb_has_folk_form), (co_is_house, tb_is_house), (co_read_house, tb_read_house), (co_is_rule, tb_is_rule), (co_read_rule, tb_read_rule)].map (·.2)) := { f_name := f0, fd_name := _, cd_name := cd0, F_name := F0, b_name := b0, g_name := PySem.W.mg_of X G a0, f_news_words := f1, fd_news_words := _, cd_news_words := cd1, F_news_words := F1, b_news_words := b1, g_news_words := PySem.W.mg_of X G a1, f_text := f2, fd_text := _, cd_text := cd2, F_text := F2, b_text := b2, g_text := PySem.W.mg_of X G a2, f_l_book_text := f3, fd_l_book_text := _, cd_l_book_text := cd3, F_l_book_text := F3, b_l_book_text := b3, g_l_book_text := PySem.W.mg_of X G a3, f_l_house_text := f4, fd_l_house_text := _, cd_l_house_text := cd4, F_l_house_text := F4, b_l_house_text := b4, g_l_house_text := PySem.W.mg_of X G a4, f_is_plain := f5, fd_is_plain := _, cd_is_plain := cd5, F_is_plain := F5, b_is_plain := b5, g_is_plain := PySem.W.mg_of X G a5, f_rows_text := f6, fd_rows_text := _, cd_rows_text := cd6, F_rows_text := F6, b_rows_text := b6, g_rows_text := PySem.W.mg_of X G a6, f_who_word := f7, fd_who_word := _, cd_who_word := cd7, F_who_word := F7, b_who_word := b7, g_who_word := PySem.W.mg_of X G a7, f_news_line := f8, fd_news_line := _, cd_news_line := cd8, F_news_line := F8, b_news_line := b8, g_news_line := PySem.W.mg_of X G a8, f_text_of := f9, fd_text_of := _, cd_text_of := cd9, F_text_of := F9, b_text_of := b9, g_text_of := PySem.W.mg_of X G a9, f_book_text := f10, fd_book_text := _, cd_book_text := cd10, F_book_text := F10, b_book_text := b10, g_book_text := PySem.W.mg_of X G a10, f_folk_line := f11, fd_folk_line := _, cd_folk_line := cd11, F_folk_line := F11, b_folk_line := b11, g_folk_line := PySem.W.mg_of X G a11, f_house_text := f12, fd_house_text := _, cd_house_text := cd12, F_house_text := F12, b_house_text := b12, g_house_text := PySem.W.mg_of X G a12, f_day_of := f13, fd_day_of := _, cd_day_of := cd13, F_day_of := F13, b_day_of := b13, g_day_of := PySem.W.mg_of X G a13, f_is_number := f14, fd_is_number := _, cd_is_number := cd14, F_is_number := F14, b_is_number := b14, g_is_number := PySem.W.mg_of X G a14, f_is_folk_of := f15, fd_is_folk_of := _, cd_is_folk_of := cd15, F_is_folk_of := F15, b_is_folk_of := b15, g_is_folk_of := PySem.W.mg_of X G a15, f_is_tuple_of := f16, fd_is_tuple_of := _, cd_is_tuple_of := cd16, F_is_tuple_of := F16, b_is_tuple_of := b16, g_is_tuple_of := PySem.W.mg_of X G a16, f_is_man := f17, fd_is_man := _, cd_is_man := cd17, F_is_man := F17, b_is_man := b17, g_is_man := PySem.W.mg_of X G a17, f_may_await := f18, fd_may_await := _, cd_may_await := cd18, F_may_await := F18, b_may_await := b18, g_may_await := PySem.W.mg_of X G a18, f_is_news := f19, fd_is_news := _, cd_is_news := cd19, F_is_news := F19, b_is_news := b19, g_is_news := PySem.W.mg_of X G a19, f_is_rising := f20, fd_is_rising := _, cd_is_rising := cd20, F_is_rising := F20, b_is_rising := b20, g_is_rising := PySem.W.mg_of X G a20, co_is_rising := co_is_rising, tb_is_rising := tb_is_rising, c_is_rising := cc_is_rising, m_is_rising := ⟨(by simp), (notL_of (.inl (tabIn_none no_by_nearness)) (.inl (tabIn_none no_to_join)))⟩, f_is_book := f21, fd_is_book := _, cd_is_book := cd21, F_is_book := F21, b_is_book := b21, g_is_book := PySem.W.mg_of X G a21, co_is_book := co_is_book, tb_is_book := tb_is_book, c_is_book := cc_is_book, m_is_book := ⟨(by simp), (notL_of (.inl (tabIn_none no_by_nearness)) (.inl (tabIn_none no_to_join)))⟩, f_lines_of := f22, fd_lines_of := _, cd_lines_of := cd22, F_lines_of := F22, b_lines_of := b22, g_lines_of := PySem.W.mg_of X G a22, f_is_written_number := f23, fd_is_written_number := _, cd_is_written_number := cd23, F_is_written_number := F23, b_is_written_number := b23, g_is_written_number := PySem.W.mg_of X G a23, co_is_written_number := co_is_written_number, tb_is_written_number := tb_is_written_number, c_is_written_number := cc_is_written_number, m_is_written_number := ⟨(by simp), (notL_of (.inl (tabIn_none no_by_nearness)) (.inl (tabIn_none no_to_join)))⟩, f_is_written_who := f24, fd_is_written_who := _, cd_is_written_who := cd24, F_is_written_who := F24, b_is_written_who := b24, g_is_written_who := PySem.W.mg_of X G a24, f_number_of := f25, fd_number_of := _, cd_number_of := cd25, F_number_of := F25, b_number_of := b25, g_number_of := PySem.W.mg_of X G a25, f_who_of := f26, fd_who_of := _, cd_who_of := cd26, F_who_of := F26, b_who_of := b26, g_who_of := PySem.W.mg_of X G a26, f_news_of := f27, fd_news_of := _, cd_news_of := cd27, F_news_of := F27, b_news_of := b27, g_news_of := PySem.W.mg_of X G a27, f_read_book := f28, fd_read_book := _, cd_read_book := cd28, F_read_book := F28, b_read_book := b28, g_read_book := PySem.W.mg_of X G a28, co_read_book := co_read_book, tb_read_book := tb_read_book, c_read_book := cc_read_book, m_read_book := ⟨(by simp), (notL_of (.inl (tabIn_none no_by_nearness)) (.inl (tabIn_none no_to_join)))⟩, f_folk_of := f29, fd_folk_of := _, cd_folk_of := cd29, F_folk_of := F29, b_folk_of := b29, g_folk_of := PySem.W.mg_of X G a29, f_parent_fits := f30, fd_parent_fits := _, cd_parent_fits := cd30, F_parent_fits := F30, b_parent_fits := b30, g_parent_fits := PySem.W.mg_of X G a30, f_fits_in := f31, fd_fits_in := _, cd_fits_in := cd31, F_fits_in := F31, b_fits_in := b31, g_fits_in := PySem.W.mg_of X G a31, f_has_folk_form := f32, fd_has_folk_form := _, cd_has_folk_form := cd32, F_has_folk_form := F32, b_has_folk_form := b32, g_has_folk_form := PySem.W.mg_of X G a32, co_has_folk_form := co_has_folk_form, tb_has_folk_form := tb_has_folk_form, c_has_folk_form := cc_has_folk_form, m_has_folk_form := ⟨(by simp), (notL_of (.inl (tabIn_none no_by_nearness)) (.inl (tabIn_none no_to_join)))⟩, f_is_house := f33, fd_is_house := _, cd_is_house := cd33, F_is_house := F33, b_is_house := b33, g_is_house := PySem.W.mg_of X G a33, co_is_house := co_is_house, tb_is_house := tb_is_house, c_is_house := cc_is_house, m_is_house := ⟨(by simp), (notL_of (.inl (tabIn_none no_by_nearness)) (.inl (tabIn_none no_to_join)))⟩, f_read_house := f34, fd_read_house := _, cd_read_house := cd34, F_read_house := F34, b_read_house := b34, g_read_house := PySem.W.mg_of X G a34, co_read_house := co_read_house, tb_read_house := tb_read_house, c_read_house := cc_read_house, m_read_house := ⟨(by simp), (notL_of (.inl (tabIn_none no_by_nearness)) (.inl (tabIn_none no_to_join)))⟩, f_is_row := f35, fd_is_row := _, cd_is_row := cd35, F_is_row := F35, b_is_row := b35, g_is_row := PySem.W.mg_of X G a35, f_is_rule := f36, fd_is_rule := _, cd_is_rule := cd36, F_is_rule := F36, b_is_rule := b36, g_is_rule := PySem.W.mg_of X G a36, co_is_rule := co_is_rule, tb_is_rule := tb_is_rule, c_is_rule := cc_is_rule, m_is_rule := ⟨(by simp), (notL_of (.inl (tabIn_none no_by_nearness)) (.inl (tabIn_none no_to_join)))⟩, f_row_of := f37, fd_row_of := _, cd_row_of := cd37, F_row_of := F37, b_row_of := b37, g_row_of := PySem.W.mg_of X G a37, f_read_rule := f38, fd_read_rule := _, cd_read_rule := cd38, F_read_rule := F38, b_read_rule := b38, g_read_rule := PySem.W.mg_of X G a38, co_read_rule := co_read_rule, tb_read_rule := tb_read_rule, c_read_rule := cc_read_rule, m_read_rule := ⟨(by simp), (notL_of (.inl (tabIn_none no_by_nearness)) (.inl (tabIn_none no_to_join)))⟩, f_row_line := f39, fd_row_line := _, cd_row_line := cd39, F_row_line := F39, b_row_line := b39, g_row_line := PySem.W.mg_of X G a39, f_rule_text := f40, fd_rule_text := _, cd_rule_text := cd40, F_rule_text := F40, b_rule_text := b40, g_rule_text := PySem.W.mg_of X G a40, f_right := f41, fd_right := _, cd_right := cd41, F_right := F41, b_right := b41, g_right := PySem.W.mg_of X G a41, f_take := f42, fd_take := _, cd_take := cd42, F_take := F42, b_take := b42, g_take := PySem.W.mg_of X G a42, f_row := f43, fd_row := _, cd_row := cd43, F_row := F43, b_row := b43, g_row := PySem.W.mg_of X G a43, f_rows := f44, fd_rows := _, cd_rows := cd44, F_rows := F44, b_rows := b44, g_rows := PySem.W.mg_of X G a44, f_news := f45, fd_news := _, cd_news := cd45, F_news := F45, b_news := b45, g_news := PySem.W.mg_of X G a45, f_book := f46, fd_book := _, cd_book := cd46, F_book := F46, b_book := b46, g_book := PySem.W.mg_of X G a46, f_day := f47, fd_day := _, cd_day := cd47, F_day := F47, b_day := b47, g_day := PySem.W.mg_of X G a47, f_parent := f48, fd_parent := _, cd_parent := cd48, F_parent := F48, b_parent := b48, g_parent := PySem.W.mg_of X G a48, f_house := f49, fd_house := _, cd_house := cd49, F_house := F49, b_house := b49, g_house := PySem.W.mg_of X G a49, f_some := f50, fd_some := _, cd_some := cd50, F_some := F50, b_some := b50, g_some := PySem.W.mg_of X G a50, f_law := f51, fd_law := _, cd_law := cd51, F_law := F51, b_law := b51, g_law := PySem.W.mg_of X G a51, z_all := PySem.W.mg_none_of X G z_all, z_bool := PySem.W.mg_none_of X G z_bool, z_int := PySem.W.mg_none_of X G z_int, z_isinstance := PySem.W.mg_none_of X G z_isinstance, z_len := PySem.W.mg_none_of X G z_len, z_max := PySem.W.mg_none_of X G z_max, z_min := PySem.W.mg_none_of X G z_min, z_range := PySem.W.mg_none_of X G z_range, z_set := PySem.W.mg_none_of X G z_set, z_sorted := PySem.W.mg_none_of X G z_sorted, z_str := PySem.W.mg_none_of X G z_str, z_tuple := PySem.W.mg_none_of X G z_tuple, v_BIRTHS := ⟨a_BIRTHS, _, _, _, PySem.W.mg_of X G v_BIRTHS, w_BIRTHS, rfl, rfl, (by simp), (.cons ⟨_, rfl⟩ (.cons ⟨_, rfl⟩ .nil)), rfl⟩, v_COUNTED := ⟨a_COUNTED, _, _, _, PySem.W.mg_of X G v_COUNTED, w_COUNTED, rfl, rfl, (by simp), (.cons ⟨_, rfl⟩ (.cons ⟨_, rfl⟩ .nil)), rfl⟩, v_LAST_DAY := ⟨_, PySem.W.mg_of X G v_LAST_DAY, ⟨_, rfl⟩⟩, v_MEN := ⟨a_MEN, _, _, _, PySem.W.mg_of X G v_MEN, w_MEN, rfl, rfl, (by simp), (.cons ⟨_, rfl⟩ (.cons ⟨_, rfl⟩ (.cons ⟨_, rfl⟩ .nil))), rfl⟩, v_MOST_FIGURES := ⟨_, PySem.W.mg_of X G v_MOST_FIGURES, ⟨_, rfl⟩⟩, v_MOST_FOLK := ⟨_, PySem.W.mg_of X G v_MOST_FOLK, ⟨_, rfl⟩⟩, v_MOST_NEWS := ⟨_, PySem.W.mg_of X G v_MOST_NEWS, ⟨_, rfl⟩⟩, v_MOST_ROWS := ⟨_, PySem.W.mg_of X G v_MOST_ROWS, ⟨_, rfl⟩⟩, v_NOBODY := ⟨_, PySem.W.mg_of X G v_NOBODY, ⟨_, rfl⟩⟩, v_SEXES := ⟨a_SEXES, _, _, _, PySem.W.mg_of X G v_SEXES, w_SEXES, rfl, rfl, (by simp), (.cons ⟨_, rfl⟩ (.cons ⟨_, rfl⟩ .nil)), rfl⟩, v_WAYS := ⟨a_WAYS, _, _, _, PySem.W.mg_of X G v_WAYS, w_WAYS, rfl, rfl, (by simp), (.cons ⟨_, rfl⟩ (.cons ⟨_, rfl⟩ (.cons ⟨_, rfl⟩ .nil))), rfl⟩, v_WORDS := ⟨a_WORDS, _, _, _, PySem.W.mg_of X G v_WORDS, w_WORDS, rfl, rfl, (by simp), (.cons ⟨_, rfl⟩ (.cons ⟨_, rfl⟩ (.cons ⟨_, rfl⟩ (.cons ⟨_, rfl⟩ (.cons ⟨_, rfl⟩ .nil))))), rfl⟩ }
  exact ⟨_, [(co_is_rising, tb_is_rising), (co_is_book, tb_is_book), (co_is_written_number, tb_is_written_number), (co_read_book, tb_read_book), (co_has_folk_form, tb_has_folk_form), (co_is_house, tb_is_house), (co_read_house, tb_read_house), (co_is_rule, tb_is_rule), (co_read_rule, tb_read_rule)], (fun p hp => by (rcases List.mem_cons.mp hp with z | hp; (· rw [z]; exact tt_is_rising.2); (· (rcases List.mem_cons.mp hp with z | hp; (· rw [z]; exact tt_is_book.2); (· (rcases List.mem_cons.mp hp with z | hp; (· rw [z]; exact tt_is_written_number.2); (· (rcases List.mem_cons.mp hp with z | hp; (· rw [z]; exact tt_read_book.2); (· (rcases List.mem_cons.mp hp with z | hp; (· rw [z]; exact tt_has_folk_form.2); (· (rcases List.mem_cons.mp hp with z | hp; (· rw [z]; exact tt_is_house.2); (· (rcases List.mem_cons.mp hp with z | hp; (· rw [z]; exact tt_read_house.2); (· (rcases List.mem_cons.mp hp with z | hp; (· rw [z]; exact tt_is_rule.2); (· (rcases List.mem_cons.mp hp with z | hp; (· rw [z]; exact tt_read_rule.2); (· cases hp))))))))))))))))))), (fun p hp => by (rcases List.mem_cons.mp hp with z | hp; (· rw [z]; exact nk_is_rising); (· (rcases List.mem_cons.mp hp with z | hp; (· rw [z]; exact nk_is_book); (· (rcases List.mem_cons.mp hp with z | hp; (· rw [z]; exact nk_is_written_number); (· (rcases List.mem_cons.mp hp with z | hp; (· rw [z]; exact nk_read_book); (· (rcases List.mem_cons.mp hp with z | hp; (· rw [z]; exact nk_has_folk_form); (· (rcases List.mem_cons.mp hp with z | hp; (· rw [z]; exact nk_is_house); (· (rcases List.mem_cons.mp hp with z | hp; (· rw [z]; exact nk_read_house); (· (rcases List.mem_cons.mp hp with z | hp; (· rw [z]; exact nk_is_rule); (· (rcases List.mem_cons.mp hp with z | hp; (· rw [z]; exact nk_read_rule); (· cases hp))))))))))))))))))), (fun p hp => by (rcases List.mem_cons.mp hp with z | hp; (· rw [z]; exact tt_is_rising.1); (· (rcases List.mem_cons.mp hp with z | hp; (· rw [z]; exact tt_is_book.1); (· (rcases List.mem_cons.mp hp with z | hp; (· rw [z]; exact tt_is_written_number.1); (· (rcases List.mem_cons.mp hp with z | hp; (· rw [z]; exact tt_read_book.1); (· (rcases List.mem_cons.mp hp with z | hp; (· rw [z]; exact tt_has_folk_form.1); (· (rcases List.mem_cons.mp hp with z | hp; (· rw [z]; exact tt_is_house.1); (· (rcases List.mem_cons.mp hp with z | hp; (· rw [z]; exact tt_read_house.1); (· (rcases List.mem_cons.mp hp with z | hp; (· rw [z]; exact tt_is_rule.1); (· (rcases List.mem_cons.mp hp with z | hp; (· rw [z]; exact tt_read_rule.1); (· cases hp))))))))))))))))))), fun s u => .of_eq rfl, fun base _ _ hT => by rw [isLaw]; exact ok_law C (hT (co_is_rising, tb_is_rising) (by simp)) (hT (co_is_book, tb_is_book) (by simp)) (hT (co_is_written_number, tb_is_written_number) (by simp)) (hT (co_read_book, tb_read_book) (by simp)) (hT (co_has_folk_form, tb_has_folk_form) (by simp)) (hT (co_is_house, tb_is_house) (by simp)) (hT (co_read_house, tb_read_house) (by simp)) (hT (co_is_rule, tb_is_rule) (by simp)) (hT (co_read_rule, tb_read_rule) (by simp))⟩
end K92
open PySem PySem.W PyProof.Rows
set_option maxHeartbeats 0 in
theorem PySem.Challenge.cw_thronewalk_k92_texts_read_holds : PySem.Challenge.rw_thronewalk_k92_texts_read.Holds := by
  w_on; o_law; k_head; (case hw => w_witness2)
  k_fill
  refine Pw.walkG (l := PySem.Challenge.rw_thronewalk_k92_texts_read) (n := 63) (k := 9) (x := "_law_script") (F := K92.F_law) rfl (by decide) rfl ⟨rfl, by decide, by decide⟩ (fun w h Y => by first | exact PySem.W.kIn_of Y | exact PySem.W.km_in_of Y) ?F K92.holds
  case F =>
    intro w mg fa h KX G hmg tabs
    refine' K92.all_mk KX G hmg ?a0 ?l0 ?c0 ?k0 ?a1 ?l1 ?c1 ?k1 ?a2 ?l2 ?c2 ?k2 ?a3 ?l3 ?c3 ?k3 ?a4 ?l4 ?c4 ?k4 ?a5 ?l5 ?c5 ?k5 ?a6 ?l6 ?c6 ?k6 ?a7 ?l7 ?c7 ?k7 ?a8 ?l8 ?c8 ?k8 ?a9 ?l9 ?c9 ?k9 ?a10 ?l10 ?c10 ?k10 ?a11 ?l11 ?c11 ?k11 ?a12 ?l12 ?c12 ?k12 ?a13 ?l13 ?c13 ?k13 ?a14 ?l14 ?c14 ?k14 ?a15 ?l15 ?c15 ?k15 ?a16 ?l16 ?c16 ?k16 ?a17 ?l17 ?c17 ?k17 ?a18 ?l18 ?c18 ?k18 ?a19 ?l19 ?c19 ?k19 ?a20 ?l20 ?c20 ?k20 ?a21 ?l21 ?c21 ?k21 ?a22 ?l22 ?c22 ?k22 ?a23 ?l23 ?c23 ?k23 ?a24 ?l24 ?c24 ?k24 ?a25 ?l25 ?c25 ?k25 ?a26 ?l26 ?c26 ?k26 ?a27 ?l27 ?c27 ?k27 ?a28 ?l28 ?c28 ?k28 ?a29 ?l29 ?c29 ?k29 ?a30 ?l30 ?c30 ?k30 ?a31 ?l31 ?c31 ?k31 ?a32 ?l32 ?c32 ?k32 ?a33 ?l33 ?c33 ?k33 ?a34 ?l34 ?c34 ?k34 ?a35 ?l35 ?c35 ?k35 ?a36 ?l36 ?c36 ?k36 ?a37 ?l37 ?c37 ?k37 ?a38 ?l38 ?c38 ?k38 ?a39 ?l39 ?c39 ?k39 ?a40 ?l40 ?c40 ?k40 ?a41 ?l41 ?c41 ?k41 ?a42 ?l42 ?c42 ?k42 ?a43 ?l43 ?c43 ?k43 ?a44 ?l44 ?c44 ?k44 ?a45 ?l45 ?c45 ?k45 ?a46 ?l46 ?c46 ?k46 ?a47 ?l47 ?c47 ?k47 ?a48 ?l48 ?c48 ?k48 ?a49 ?l49 ?c49 ?k49 ?a50 ?l50 ?c50 ?k50 ?a51 ?l51 ?c51 ?k51 ?cc_is_rising ?ti_is_rising ?vv_is_rising ?nk_is_rising ?tt_is_rising ?cc_is_book ?ti_is_book ?vv_is_book ?nk_is_book ?tt_is_book ?cc_is_written_number ?ti_is_written_number ?vv_is_written_number ?nk_is_written_number ?tt_is_written_number ?cc_read_book ?ti_read_book ?vv_read_book ?nk_read_book ?tt_read_book ?cc_has_folk_form ?ti_has_folk_form ?vv_has_folk_form ?nk_has_folk_form ?tt_has_folk_form ?cc_is_house ?ti_is_house ?vv_is_house ?nk_is_house ?tt_is_house ?cc_read_house ?ti_read_house ?vv_read_house ?nk_read_house ?tt_read_house ?cc_is_rule ?ti_is_rule ?vv_is_rule ?nk_is_rule ?tt_is_rule ?cc_read_rule ?ti_read_rule ?vv_read_rule ?nk_read_rule ?tt_read_rule ?z_all ?z_bool ?z_int ?z_isinstance ?z_len ?z_max ?z_min ?z_range ?z_set ?z_sorted ?z_str ?z_tuple ?no_by_nearness ?no_to_join ?v_BIRTHS ?w_BIRTHS ?v_COUNTED ?w_COUNTED ?v_LAST_DAY ?v_MEN ?w_MEN ?v_MOST_FIGURES ?v_MOST_FOLK ?v_MOST_NEWS ?v_MOST_ROWS ?v_NOBODY ?v_SEXES ?w_SEXES ?v_WAYS ?w_WAYS ?v_WORDS ?w_WORDS
    (case a0 => k_is)
    (case l0 => k_is)
    (case c0 => k_is)
    (case k0 => k_is)
    (case a1 => k_is)
    (case l1 => k_is)
    (case c1 => k_is)
    (case k1 => k_is)
    (case a2 => k_is)
    (case l2 => k_is)
    (case c2 => k_is)
    (case k2 => k_is)
    (case a3 => k_is)
    (case l3 => k_is)
    (case c3 => k_is)
    (case k3 => k_is)
    (case a4 => k_is)
    (case l4 => k_is)
    (case c4 => k_is)
    (case k4 => k_is)
    (case a5 => k_is)
    (case l5 => k_is)
    (case c5 => k_is)
    (case k5 => k_is)
    (case a6 => k_is)
    (case l6 => k_is)
    (case c6 => k_is)
    (case k6 => k_is)
    (case a7 => k_is)
    (case l7 => k_is)
    (case c7 => k_is)
    (case k7 => k_is)
    (case a8 => k_is)
    (case l8 => k_is)
    (case c8 => k_is)
    (case k8 => k_is)
    (case a9 => k_is)
    (case l9 => k_is)
    (case c9 => k_is)
    (case k9 => k_is)
    (case a10 => k_is)
    (case l10 => k_is)
    (case c10 => k_is)
    (case k10 => k_is)
    (case a11 => k_is)
    (case l11 => k_is)
    (case c11 => k_is)
    (case k11 => k_is)
    (case a12 => k_is)
    (case l12 => k_is)
    (case c12 => k_is)
    (case k12 => k_is)
    (case a13 => k_is)
    (case l13 => k_is)
    (case c13 => k_is)
    (case k13 => k_is)
    (case a14 => k_is)
    (case l14 => k_is)
    (case c14 => k_is)
    (case k14 => k_is)
    (case a15 => k_is)
    (case l15 => k_is)
    (case c15 => k_is)
    (case k15 => k_is)
    (case a16 => k_is)
    (case l16 => k_is)
    (case c16 => k_is)
    (case k16 => k_is)
    (case a17 => k_is)
    (case l17 => k_is)
    (case c17 => k_is)
    (case k17 => k_is)
    (case a18 => k_is)
    (case l18 => k_is)
    (case c18 => k_is)
    (case k18 => k_is)
    (case a19 => k_is)
    (case l19 => k_is)
    (case c19 => k_is)
    (case k19 => k_is)
    (case a20 => k_is)
    (case l20 => k_is)
    (case c20 => k_is)
    (case k20 => k_is)
    (case a21 => k_is)
    (case l21 => k_is)
    (case c21 => k_is)
    (case k21 => k_is)
    (case a22 => k_is)
    (case l22 => k_is)
    (case c22 => k_is)
    (case k22 => k_is)
    (case a23 => k_is)
    (case l23 => k_is)
    (case c23 => k_is)
    (case k23 => k_is)
    (case a24 => k_is)
    (case l24 => k_is)
    (case c24 => k_is)
    (case k24 => k_is)
    (case a25 => k_is)
    (case l25 => k_is)
    (case c25 => k_is)
    (case k25 => k_is)
    (case a26 => k_is)
    (case l26 => k_is)
    (case c26 => k_is)
    (case k26 => k_is)
    (case a27 => k_is)
    (case l27 => k_is)
    (case c27 => k_is)
    (case k27 => k_is)
    (case a28 => k_is)
    (case l28 => k_is)
    (case c28 => k_is)
    (case k28 => k_is)
    (case a29 => k_is)
    (case l29 => k_is)
    (case c29 => k_is)
    (case k29 => k_is)
    (case a30 => k_is)
    (case l30 => k_is)
    (case c30 => k_is)
    (case k30 => k_is)
    (case a31 => k_is)
    (case l31 => k_is)
    (case c31 => k_is)
    (case k31 => k_is)
    (case a32 => k_is)
    (case l32 => k_is)
    (case c32 => k_is)
    (case k32 => k_is)
    (case a33 => k_is)
    (case l33 => k_is)
    (case c33 => k_is)
    (case k33 => k_is)
    (case a34 => k_is)
    (case l34 => k_is)
    (case c34 => k_is)
    (case k34 => k_is)
    (case a35 => k_is)
    (case l35 => k_is)
    (case c35 => k_is)
    (case k35 => k_is)
    (case a36 => k_is)
    (case l36 => k_is)
    (case c36 => k_is)
    (case k36 => k_is)
    (case a37 => k_is)
    (case l37 => k_is)
    (case c37 => k_is)
    (case k37 => k_is)
    (case a38 => k_is)
    (case l38 => k_is)
    (case c38 => k_is)
    (case k38 => k_is)
    (case a39 => k_is)
    (case l39 => k_is)
    (case c39 => k_is)
    (case k39 => k_is)
    (case a40 => k_is)
    (case l40 => k_is)
    (case c40 => k_is)
    (case k40 => k_is)
    (case a41 => k_is)
    (case l41 => k_is)
    (case c41 => k_is)
    (case k41 => k_is)
    (case a42 => k_is)
    (case l42 => k_is)
    (case c42 => k_is)
    (case k42 => k_is)
    (case a43 => k_is)
    (case l43 => k_is)
    (case c43 => k_is)
    (case k43 => k_is)
    (case a44 => k_is)
    (case l44 => k_is)
    (case c44 => k_is)
    (case k44 => k_is)
    (case a45 => k_is)
    (case l45 => k_is)
    (case c45 => k_is)
    (case k45 => k_is)
    (case a46 => k_is)
    (case l46 => k_is)
    (case c46 => k_is)
    (case k46 => k_is)
    (case a47 => k_is)
    (case l47 => k_is)
    (case c47 => k_is)
    (case k47 => k_is)
    (case a48 => k_is)
    (case l48 => k_is)
    (case c48 => k_is)
    (case k48 => k_is)
    (case a49 => k_is)
    (case l49 => k_is)
    (case c49 => k_is)
    (case k49 => k_is)
    (case a50 => k_is)
    (case l50 => k_is)
    (case c50 => k_is)
    (case k50 => k_is)
    (case a51 => k_is)
    (case l51 => k_is)
    (case c51 => k_is)
    (case k51 => k_is)
    (case cc_is_rising => rfl)
    (case ti_is_rising => k_is)
    (case vv_is_rising => rfl)
    (case nk_is_rising => first | rfl | decide +kernel)
    (case tt_is_rising => exact tabs "is_rising" _ _ _ rfl)
    (case cc_is_book => rfl)
    (case ti_is_book => k_is)
    (case vv_is_book => rfl)
    (case nk_is_book => first | rfl | decide +kernel)
    (case tt_is_book => exact tabs "is_book" _ _ _ rfl)
    (case cc_is_written_number => rfl)
    (case ti_is_written_number => k_is)
    (case vv_is_written_number => rfl)
    (case nk_is_written_number => first | rfl | decide +kernel)
    (case tt_is_written_number => exact tabs "is_written_number" _ _ _ rfl)
    (case cc_read_book => rfl)
    (case ti_read_book => k_is)
    (case vv_read_book => rfl)
    (case nk_read_book => first | rfl | decide +kernel)
    (case tt_read_book => exact tabs "read_book" _ _ _ rfl)
    (case cc_has_folk_form => rfl)
    (case ti_has_folk_form => k_is)
    (case vv_has_folk_form => rfl)
    (case nk_has_folk_form => first | rfl | decide +kernel)
    (case tt_has_folk_form => exact tabs "has_folk_form" _ _ _ rfl)
    (case cc_is_house => rfl)
    (case ti_is_house => k_is)
    (case vv_is_house => rfl)
    (case nk_is_house => first | rfl | decide +kernel)
    (case tt_is_house => exact tabs "is_house" _ _ _ rfl)
    (case cc_read_house => rfl)
    (case ti_read_house => k_is)
    (case vv_read_house => rfl)
    (case nk_read_house => first | rfl | decide +kernel)
    (case tt_read_house => exact tabs "read_house" _ _ _ rfl)
    (case cc_is_rule => rfl)
    (case ti_is_rule => k_is)
    (case vv_is_rule => rfl)
    (case nk_is_rule => first | rfl | decide +kernel)
    (case tt_is_rule => exact tabs "is_rule" _ _ _ rfl)
    (case cc_read_rule => rfl)
    (case ti_read_rule => k_is)
    (case vv_read_rule => rfl)
    (case nk_read_rule => first | rfl | decide +kernel)
    (case tt_read_rule => exact tabs "read_rule" _ _ _ rfl)
    (case z_all => k_is)
    (case z_bool => k_is)
    (case z_int => k_is)
    (case z_isinstance => k_is)
    (case z_len => k_is)
    (case z_max => k_is)
    (case z_min => k_is)
    (case z_range => k_is)
    (case z_set => k_is)
    (case z_sorted => k_is)
    (case z_str => k_is)
    (case z_tuple => k_is)
    (case no_by_nearness => k_is)
    (case no_to_join => k_is)
    (case v_BIRTHS => k_is)
    (case w_BIRTHS => k_is)
    (case v_COUNTED => k_is)
    (case w_COUNTED => k_is)
    (case v_LAST_DAY => k_is)
    (case v_MEN => k_is)
    (case w_MEN => k_is)
    (case v_MOST_FIGURES => k_is)
    (case v_MOST_FOLK => k_is)
    (case v_MOST_NEWS => k_is)
    (case v_MOST_ROWS => k_is)
    (case v_NOBODY => k_is)
    (case v_SEXES => k_is)
    (case w_SEXES => k_is)
    (case v_WAYS => k_is)
    (case w_WAYS => k_is)
    (case v_WORDS => k_is)
    (case w_WORDS => k_is)
end
