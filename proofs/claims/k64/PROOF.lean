import PyProof.Rows.All
import HandS.ForMost
import HandS.Flow
import HandS.SortInts
import HandS.TupAny
import HandS.EndTab
import HandS.AnyAll
import HandS.Lambda
import HandS.Records
import KE.KMinKey
import HandS.SortKw
import HandS.Deep
import HandS.Strs
import HandS.SetFor
import KE.KSortTupG
import HandS.TupSets
import KE.KSortTupUse
import KE.LtData
import PyProof.TupleOfGen
import HandS.Conv
import HandS.More
import HandS.Style
import PyProof.Rows.MinMaxN
import HandS.DictComp
import HandS.Rev
import HandS.GenOver
import HandS.GenBody
import PyProof.GenQ
import HandS.GenList
import HandS.Zip
import HandS.IsInst
import HandS.IterVal
import HandS.NoneIn
import HandS.Text
import HandS.TupLe
import KE.KSortTup
import KE.GoesMore
import HandS.Iter
import KE.SortKeyHeap
import KE.DataMinKey
import KE.SortData
import PyProof.SeqRoads
import HandS.Dict
import PyProof.EqAt
import PyProof.ReprRoads
import PyProof.NeKinds
import PyProof.P3Eq
import KE.DataEq
import HandS.TupMul
import PySem.Challenge.RW_thronewalk_k64_joins_said
import Wide.All
import OpenK.AllK
import Wide.FinOn
section
set_option Elab.async false
set_option linter.all false
set_option maxRecDepth 100000
set_option maxHeartbeats 1000000
namespace Pw
open PySem PySem.Spec PyProof.Rows L2
inductive D where
  | non | bl (b : Bool) | int (i : Int) | str (x : Str) | tup (xs : List D) | tx (xs : List D) | fl (xs : List D) | lst (xs : List D) | dk (kvs : List (Key × D)) | dt (kvs : List (List Key × D)) | rl (b k : Nat)
inductive MO where
  | lst (xs : List D)
  | dk (kvs : List (Key × D))
  | dt (kvs : List (List Key × D))
  | rl (b k : Nat)
inductive W where
  | v (d : D) | r (n : Nat) | f (d : D)
abbrev Mem := List MO
abbrev Env := List (Option W)
abbrev FRG := PySem.W.Frag
def Fz (K : FRG) (H : Hp) (a : Addr) (vs : List V) : Prop :=
  (∃ o, H a = some (.frz o (.lst vs))) ∨
    ∃ (o : Obj) (its : Array Value) (n : Nat), K.lookup a = some o ∧ o.cls = .type "list" ∧ o.dict = none ∧ o.data = .seq its n ∧ its.size ≤ sizeLine ∧ Vals vs its.toList
theorem Fz.sq {K : FRG} {H : Hp} {a : Addr} {vs : List V} (h : Fz K H a vs) : SqL K H a vs := by
  rcases h with ⟨o, h⟩ | h
  · exact .inl (.inr ⟨o, h⟩)
  · exact .inr h
def kyV : List V → Bool
  | .str _ :: .int _ :: _ => true
  | _ => false
def SqN (K : FRG) (H : Hp) (a : Addr) (vs : List V) : Prop := SqT K H a vs ∧ (kyV vs = true → H a = some (.tup vs))
theorem SqN.of {K : FRG} {H : Hp} {a : Addr} {vs : List V} (h : H a = some (.tup vs)) : SqN K H a vs := ⟨SqT.of h, fun _ => h⟩
theorem SqN.no {K : FRG} {H : Hp} {a : Addr} {vs : List V} (h : SqT K H a vs) (n : kyV vs = false) : SqN K H a vs := ⟨h, fun z => by rw [n] at z; cases z⟩
theorem kyV_no : ∀ {vs : List V}, (∀ x, V.str x ∉ vs) → kyV vs = false
  | [], _ => rfl
  | v :: vs, h => by
    cases v with
    | str x => exact absurd List.mem_cons_self (h x)
    | _ => rfl
def Tz (H : Hp) (a : Addr) (vs : List V) : Prop := ∃ o : Obj, H a = some (.frz o (.tup vs)) ∧ o.dict = none ∧ ∀ x, V.str x ∉ vs
theorem Tz.sq {K : FRG} {H : Hp} {a : Addr} {vs : List V} (h : Tz H a vs) : SqT K H a vs := by
  obtain ⟨o, h, _⟩ := h
  exact .inl (.inr ⟨o, h⟩)
theorem Tz.no {H : Hp} {a : Addr} {vs : List V} (h : Tz H a vs) : ∀ x, V.str x ∉ vs := h.choose_spec.2.2
mutual
inductive Rep (K : FRG) (φ ψ : List Addr) (H : Hp) : D → V → Prop
  | non : Rep K φ ψ H .non .non
  | bl (b : Bool) : Rep K φ ψ H (.bl b) (.bl b)
  | int (i : Int) : Rep K φ ψ H (.int i) (.int i)
  | str (x : Str) : Rep K φ ψ H (.str x) (.str x)
  | tup {a : Addr} {vs : List V} {ds : List D} : SqN K H a vs → Reps K φ ψ H ds vs → Rep K φ ψ H (.tup ds) (.ref a)
  | tx {a : Addr} {vs : List V} {ds : List D} : Tz H a vs → Reps K φ ψ H ds vs → Rep K φ ψ H (.tx ds) (.ref a)
  | fl {a : Addr} {vs : List V} {ds : List D} : Fz K H a vs → Reps K φ ψ H ds vs → Rep K φ ψ H (.fl ds) (.ref a)
  | lst {a : Addr} {vs : List V} {ds : List D} : a ∉ φ → a ∉ ψ → H a = some (.lst vs) → Reps K φ ψ H ds vs → Rep K φ ψ H (.lst ds) (.ref a)
  | dk {a : Addr} {vs : List (Key × V)} {kvs : List (Key × D)} : a ∉ φ → a ∉ ψ → Rd H a (.dK vs) → kvs.map (·.1) = vs.map (·.1) → Reps K φ ψ H (kvs.map (·.2)) (vs.map (·.2)) → Rep K φ ψ H (.dk kvs) (.ref a)
  | dt {a : Addr} {vs : List (List Key × V)} {kvs : List (List Key × D)} : a ∉ φ → a ∉ ψ → H a = some (.dT vs) → kvs.map (·.1) = vs.map (·.1) → Reps K φ ψ H (kvs.map (·.2)) (vs.map (·.2)) → Rep K φ ψ H (.dt kvs) (.ref a)
inductive Reps (K : FRG) (φ ψ : List Addr) (H : Hp) : List D → List V → Prop
  | nil : Reps K φ ψ H [] []
  | cons {d : D} {v : V} {ds : List D} {vs : List V} : Rep K φ ψ H d v → Reps K φ ψ H ds vs → Reps K φ ψ H (d :: ds) (v :: vs)
end
def ObjR (K : FRG) (φ ψ : List Addr) (H : Hp) (a : Addr) : MO → Prop
  | .lst ds => ∃ vs, H a = some (.lst vs) ∧ Reps K φ ψ H ds vs
  | .dk kvs => ∃ vs : List (Key × V), H a = some (.dK vs) ∧ kvs.map (·.1) = vs.map (·.1) ∧ Reps K φ ψ H (kvs.map (·.2)) (vs.map (·.2))
  | .dt kvs => ∃ vs : List (List Key × V), H a = some (.dT vs) ∧ kvs.map (·.1) = vs.map (·.1) ∧ Reps K φ ψ H (kvs.map (·.2)) (vs.map (·.2))
  | .rl b k => H a = some (.lst ((List.range k).map fun i => .ref (φ.getD (b + i) 0))) ∧ φ[b + k]? = some a
def lamDefs : List Str := ["by_nearness", "to_join"]
def lamQ (x : Str) : Str := x ++ ".<locals>." ++ "<lambda>"
def TabL (K : FRG) (H : Hp) (P : Addr) : Prop := ∀ x ∈ lamDefs, ∀ c, PySem.W.tabIn K x = some (c, P) → LamX.TabS H P (lamQ x)
def NotL (K : FRG) (P : Addr) : Prop := ∀ x ∈ lamDefs, ∀ c, PySem.W.tabIn K x ≠ some (c, P)
def InTb (K : FRG) (tb : List Addr) (P : Addr) : Prop := P ∈ tb ∧ NotL K P
theorem TabL.of {K : FRG} {H H' : Hp} {P : Addr} (h : TabL K H P) (e : H' P = H P) (k : ∀ c φ, H c = some (.ext φ) → H' c = H c) : TabL K H' P := fun x hx c hc => by
  obtain ⟨ps, h1, h2, h3⟩ := h x hx c hc
  refine ⟨ps, e.trans h1, h2, fun pos cv hcv => ?_⟩
  obtain ⟨d, e1, e2⟩ := h3 pos cv hcv
  exact ⟨d, e1, (k d _ e2).trans e2⟩
theorem TabL.upd {K : FRG} {H : Hp} {P a : Addr} {o : HO} (h : TabL K H P) (n : P ≠ a) (x : ∀ φ, H a ≠ some (.ext φ)) : TabL K (upd H a o) P :=
  h.of (upd_ne n) fun c φ e => upd_ne fun z => x φ (by rw [← z]; exact e)
structure Rel (K : FRG) (tb : List Addr) (φ ψ : List Addr) (H : Hp) (m : Mem) : Prop where
  len : φ.length = m.length
  nd : φ.Nodup
  obj : ∀ (n : Nat) (mo : MO) (a : Addr), m[n]? = some mo → φ[n]? = some a → ObjR K φ ψ H a mo
  tab : ∀ p ∈ tb, GxR.TabG H p
  sd : ∀ p ∈ ψ, H p ≠ none
  ap : ∀ p ∈ ψ, p ∉ φ
  lam : ∀ p ∈ tb, TabL K H p
def Kp (ψ : List Addr) (H' : Hp) (b : Addr) (o : HO) : Prop := H' b = some o ∨ (b ∉ ψ ∧ ∃ kvs od, o = .dK kvs ∧ H' b = some (.frz od o))
theorem Kp.ex {ψ : List Addr} {H' : Hp} {b : Addr} {o : HO} (h : Kp ψ H' b o) (n : ∀ kvs, o ≠ .dK kvs) : H' b = some o := by
  rcases h with h | ⟨_, kvs, _, e, _⟩
  · exact h
  · exact absurd e (n kvs)
theorem Kp.own {ψ : List Addr} {H' : Hp} {b : Addr} {o : HO} (h : Kp ψ H' b o) (n : b ∈ ψ) : H' b = some o := by
  rcases h with h | ⟨z, _⟩
  · exact h
  · exact absurd n z
structure Post (φ ψ : List Addr) (H : Hp) (φ' ψ' : List Addr) (H' : Hp) : Prop where
  pre : φ <+: φ'
  new : ∀ a ∈ φ', a ∈ φ ∨ H a = none
  side : ∀ a ∈ ψ', a ∈ ψ ∨ H a = none
  frm : ∀ b o, b ∉ φ → H b = some o → (∀ ps, o ≠ .tbl ps) → Kp ψ H' b o
  kp : ∀ b, H' b = none → H b = none
  sub : ∀ a ∈ ψ, a ∈ ψ'
section
variable {K : FRG} {tb φ φ1 φ2 φ' ψ ψ1 ψ2 ψ' : List Addr} {H H1 H2 H' : Hp} {m : Mem}
theorem Post.refl : Post φ ψ H φ ψ H := ⟨List.prefix_refl _, fun _ h => .inl h, fun _ h => .inl h, fun _ _ _ h _ => .inl h, fun _ h => h, fun _ h => h⟩
theorem Post.trans (p : Post φ ψ H φ1 ψ1 H1) (q : Post φ1 ψ1 H1 φ2 ψ2 H2) : Post φ ψ H φ2 ψ2 H2 := by
  refine ⟨p.pre.trans q.pre, fun a h => ?_, fun a h => ?_, fun b o hb e ht => ?_, fun b h => p.kp b (q.kp b h), fun a h => q.sub a (p.sub a h)⟩
  · rcases q.new a h with z | z
    · exact p.new a z
    · exact .inr (p.kp a z)
  · rcases q.side a h with z | z
    · exact p.side a z
    · exact .inr (p.kp a z)
  · have nb : b ∉ φ1 := fun z => by
      rcases p.new b z with y | y
      · exact hb y
      · rw [y] at e; cases e
    rcases p.frm b o hb e ht with h1 | ⟨h0, kvs, od, rfl, h1⟩
    · rcases q.frm b o nb h1 ht with h2 | ⟨h3, h2⟩
      · exact .inl h2
      · exact .inr ⟨fun z => h3 (p.sub b z), h2⟩
    · exact .inr ⟨h0, kvs, od, rfl, (q.frm b _ nb h1 fun _ z => nomatch z).ex fun _ z => nomatch z⟩
theorem Rel.mut {a : Addr} (R : Rel K tb φ ψ H m) (h : a ∈ φ) : (∃ vs, H a = some (.lst vs)) ∨ (∃ vs, H a = some (.dK vs)) ∨ ∃ vs, H a = some (.dT vs) := by
  obtain ⟨n, hn, e⟩ := List.getElem_of_mem h
  have e' : φ[n]? = some a := by rw [List.getElem?_eq_getElem hn, e]
  have hm : n < m.length := by rw [← R.len]; exact hn
  have q := R.obj n m[n] a (List.getElem?_eq_getElem hm) e'
  cases z : m[n] with
  | lst ds => rw [z] at q; obtain ⟨vs, q, _⟩ := q; exact .inl ⟨vs, q⟩
  | dk kvs => rw [z] at q; obtain ⟨vs, q, _⟩ := q; exact .inr (.inl ⟨vs, q⟩)
  | dt kvs => rw [z] at q; obtain ⟨vs, q, _⟩ := q; exact .inr (.inr ⟨vs, q⟩)
  | rl b k => rw [z] at q; exact .inl ⟨_, q.1⟩
theorem Rel.trk {a : Addr} (R : Rel K tb φ ψ H m) (h : a ∈ φ) : H a ≠ none := by
  rcases R.mut h with ⟨vs, e⟩ | ⟨vs, e⟩ | ⟨vs, e⟩ <;> (rw [e]; exact fun z => nomatch z)
theorem Rel.fresh {a : Addr} (R : Rel K tb φ ψ H m) (h : H a = none) : a ∉ φ := fun z => R.trk z h
theorem Rel.freshS {a : Addr} (R : Rel K tb φ ψ H m) (h : H a = none) : a ∉ ψ := fun z => R.sd a z h
theorem Rel.ntup {a : Addr} {xs : List V} (R : Rel K tb φ ψ H m) (h : H a = some (.tup xs)) : a ∉ φ := fun z => by
  rcases R.mut z with ⟨vs, e⟩ | ⟨vs, e⟩ | ⟨vs, e⟩ <;> (rw [h] at e; cases e)
theorem Rel.nfrz {a : Addr} {o : Obj} {u : HO} (R : Rel K tb φ ψ H m) (h : H a = some (.frz o u)) : a ∉ φ := fun z => by
  rcases R.mut z with ⟨vs, e⟩ | ⟨vs, e⟩ | ⟨vs, e⟩ <;> (rw [h] at e; cases e)
theorem Rel.ntbl {a : Addr} {ps : Array Value} (R : Rel K tb φ ψ H m) (h : H a = some (.tbl ps)) : a ∉ φ := fun z => by
  rcases R.mut z with ⟨vs, e⟩ | ⟨vs, e⟩ | ⟨vs, e⟩ <;> (rw [h] at e; cases e)
theorem Post.sqT {a : Addr} {xs : List V} (p : Post φ ψ H φ' ψ' H') (R : Rel K tb φ ψ H m) (h : SqT K H a xs) : SqT K H' a xs := by
  rcases h with (h | ⟨o, h⟩) | h
  · exact .inl (.inl ((p.frm _ _ (R.ntup h) h fun _ z => nomatch z).ex fun _ z => nomatch z))
  · exact .inl (.inr ⟨o, (p.frm _ _ (R.nfrz h) h fun _ z => nomatch z).ex fun _ z => nomatch z⟩)
  · exact .inr h
theorem Post.sqN {a : Addr} {xs : List V} (p : Post φ ψ H φ' ψ' H') (R : Rel K tb φ ψ H m) (h : SqN K H a xs) : SqN K H' a xs := ⟨p.sqT R h.1, fun z => (p.frm _ _ (R.ntup (h.2 z)) (h.2 z) fun _ z => nomatch z).ex fun _ z => nomatch z⟩
theorem Post.off {a : Addr} {o : HO} (p : Post φ ψ H φ' ψ' H') (h1 : a ∉ φ) (h2 : a ∉ ψ) (h : H a = some o) (ht : ∀ ps, o ≠ .tbl ps) (hk : ∀ kvs, o ≠ .dK kvs) : a ∉ φ' ∧ a ∉ ψ' ∧ H' a = some o := by
  refine ⟨fun z => ?_, fun z => ?_, (p.frm a o h1 h ht).ex hk⟩
  · rcases p.new a z with y | y
    · exact h1 y
    · rw [h] at y; cases y
  · rcases p.side a z with y | y
    · exact h2 y
    · rw [h] at y; cases y
theorem Post.offD {a : Addr} {kvs : List (Key × V)} (p : Post φ ψ H φ' ψ' H') (R : Rel K tb φ ψ H m) (h1 : a ∉ φ) (h2 : a ∉ ψ) (h : Rd H a (.dK kvs)) : a ∉ φ' ∧ a ∉ ψ' ∧ Rd H' a (.dK kvs) := by
  have n : H a ≠ none := fun z => by rcases h with h | ⟨o, h⟩ <;> (rw [z] at h; cases h)
  refine ⟨fun z => ?_, fun z => ?_, ?_⟩
  · rcases p.new a z with y | y
    · exact h1 y
    · exact n y
  · rcases p.side a z with y | y
    · exact h2 y
    · exact n y
  · rcases h with h | ⟨o, h⟩
    · rcases p.frm a _ h1 h fun _ z => nomatch z with q | ⟨_, _, od, _, q⟩
      · exact .inl q
      · exact .inr ⟨od, q⟩
    · exact .inr ⟨o, (p.frm a _ h1 h fun _ z => nomatch z).ex fun _ z => nomatch z⟩
theorem Post.fz {a : Addr} {xs : List V} (p : Post φ ψ H φ' ψ' H') (R : Rel K tb φ ψ H m) (h : Fz K H a xs) : Fz K H' a xs := by
  rcases h with ⟨o, h⟩ | h
  · exact .inl ⟨o, (p.frm _ _ (R.nfrz h) h fun _ z => nomatch z).ex fun _ z => nomatch z⟩
  · exact .inr h
theorem Post.tz {a : Addr} {xs : List V} (p : Post φ ψ H φ' ψ' H') (R : Rel K tb φ ψ H m) (h : Tz H a xs) : Tz H' a xs := by
  obtain ⟨o, h, d⟩ := h
  exact ⟨o, (p.frm _ _ (R.nfrz h) h fun _ z => nomatch z).ex (fun _ z => nomatch z), d⟩
theorem pre_get {n : Nat} {a : Addr} (p : φ <+: φ') (h : φ[n]? = some a) : φ'[n]? = some a := by
  obtain ⟨t, rfl⟩ := p
  obtain ⟨hn, _⟩ := List.getElem?_eq_some_iff.mp h
  rw [List.getElem?_append_left hn]; exact h
mutual
theorem Rep.map (ht : ∀ a xs, SqN K H a xs → SqN K H' a xs) (hz : ∀ a xs, Tz H a xs → Tz H' a xs) (hf : ∀ a xs, Fz K H a xs → Fz K H' a xs) (hd : ∀ a o, a ∉ φ → a ∉ ψ → H a = some o → (∀ ps, o ≠ .tbl ps) → (∀ kvs, o ≠ .dK kvs) → a ∉ φ' ∧ a ∉ ψ' ∧ H' a = some o) (hD : ∀ a kvs, a ∉ φ → a ∉ ψ → Rd H a (.dK kvs) → a ∉ φ' ∧ a ∉ ψ' ∧ Rd H' a (.dK kvs)) : ∀ {d : D} {v : V}, Rep K φ ψ H d v → Rep K φ' ψ' H' d v
  | _, _, .non => .non
  | _, _, .bl b => .bl b
  | _, _, .int i => .int i
  | _, _, .str x => .str x
  | _, _, .tup h r => .tup (ht _ _ h) (Reps.map ht hz hf hd hD r)
  | _, _, .tx h r => .tx (hz _ _ h) (Reps.map ht hz hf hd hD r)
  | _, _, .fl h r => .fl (hf _ _ h) (Reps.map ht hz hf hd hD r)
  | _, _, .lst h1 h2 h3 r => let z := hd _ _ h1 h2 h3 (fun _ z => nomatch z) fun _ z => nomatch z; .lst z.1 z.2.1 z.2.2 (Reps.map ht hz hf hd hD r)
  | _, _, .dk h1 h2 h3 h4 r => let z := hD _ _ h1 h2 h3; .dk z.1 z.2.1 z.2.2 h4 (Reps.map ht hz hf hd hD r)
  | _, _, .dt h1 h2 h3 h4 r => let z := hd _ _ h1 h2 h3 (fun _ z => nomatch z) fun _ z => nomatch z; .dt z.1 z.2.1 z.2.2 h4 (Reps.map ht hz hf hd hD r)
theorem Reps.map (ht : ∀ a xs, SqN K H a xs → SqN K H' a xs) (hz : ∀ a xs, Tz H a xs → Tz H' a xs) (hf : ∀ a xs, Fz K H a xs → Fz K H' a xs) (hd : ∀ a o, a ∉ φ → a ∉ ψ → H a = some o → (∀ ps, o ≠ .tbl ps) → (∀ kvs, o ≠ .dK kvs) → a ∉ φ' ∧ a ∉ ψ' ∧ H' a = some o) (hD : ∀ a kvs, a ∉ φ → a ∉ ψ → Rd H a (.dK kvs) → a ∉ φ' ∧ a ∉ ψ' ∧ Rd H' a (.dK kvs)) : ∀ {ds : List D} {vs : List V}, Reps K φ ψ H ds vs → Reps K φ' ψ' H' ds vs
  | _, _, .nil => .nil
  | _, _, .cons h r => .cons (Rep.map ht hz hf hd hD h) (Reps.map ht hz hf hd hD r)
end
theorem Rep.mono (p : Post φ ψ H φ' ψ' H') (R : Rel K tb φ ψ H m) {d : D} {v : V} (h : Rep K φ ψ H d v) : Rep K φ' ψ' H' d v := h.map (fun _ _ => p.sqN R) (fun _ _ => p.tz R) (fun _ _ => p.fz R) (fun _ _ h1 h2 h3 h4 h5 => p.off h1 h2 h3 h4 h5) fun _ _ h1 h2 h3 => p.offD R h1 h2 h3
theorem Reps.mono (p : Post φ ψ H φ' ψ' H') (R : Rel K tb φ ψ H m) {ds : List D} {vs : List V} (h : Reps K φ ψ H ds vs) : Reps K φ' ψ' H' ds vs := h.map (fun _ _ => p.sqN R) (fun _ _ => p.tz R) (fun _ _ => p.fz R) (fun _ _ h1 h2 h3 h4 h5 => p.off h1 h2 h3 h4 h5) fun _ _ h1 h2 h3 => p.offD R h1 h2 h3
theorem Rep.fewer (h : ∀ a, a ∉ φ → a ∉ ψ → a ∉ φ' ∧ a ∉ ψ') {d : D} {v : V} (q : Rep K φ ψ H d v) : Rep K φ' ψ' H d v := q.map (fun _ _ z => z) (fun _ _ z => z) (fun _ _ z => z) (fun a _ h1 h2 z _ _ => ⟨(h a h1 h2).1, (h a h1 h2).2, z⟩) fun a _ h1 h2 z => ⟨(h a h1 h2).1, (h a h1 h2).2, z⟩
theorem Reps.fewer (h : ∀ a, a ∉ φ → a ∉ ψ → a ∉ φ' ∧ a ∉ ψ') {d : List D} {v : List V} (q : Reps K φ ψ H d v) : Reps K φ' ψ' H d v := q.map (fun _ _ z => z) (fun _ _ z => z) (fun _ _ z => z) (fun a _ h1 h2 z _ _ => ⟨(h a h1 h2).1, (h a h1 h2).2, z⟩) fun a _ h1 h2 z => ⟨(h a h1 h2).1, (h a h1 h2).2, z⟩
theorem getD_of {l l' : List Addr} {i : Nat} (h : l'[i]? = l[i]?) : l'.getD i 0 = l.getD i 0 := by
  rw [List.getD_eq_getElem?_getD, List.getD_eq_getElem?_getD, h]
theorem ObjR.fewer (h : ∀ a, a ∉ φ → a ∉ ψ → a ∉ φ' ∧ a ∉ ψ') {a : Addr} {mo : MO} (q : ObjR K φ ψ H a mo) (hφ : (∃ b k, mo = .rl b k) → ∀ n : Nat, φ[n]? = some a → ∀ i : Nat, i ≤ n → φ'[i]? = φ[i]? := by first | exact (fun _ _ _ _ _ => rfl)) : ObjR K φ' ψ' H a mo := by
  cases mo with
  | rl b k =>
    have hh := hφ ⟨b, k, rfl⟩ _ q.2
    refine ⟨q.1.trans ?_, (hh _ (Nat.le_refl _)).trans q.2⟩
    congr 2
    refine List.map_congr_left fun i hi => ?_
    rw [getD_of (hh (b + i) (by have := List.mem_range.mp hi; omega))]
  | lst ds => obtain ⟨vs, q1, q2⟩ := q; exact ⟨vs, q1, q2.fewer h⟩
  | dk kvs => obtain ⟨vs, q1, q2, q3⟩ := q; exact ⟨vs, q1, q2, q3.fewer h⟩
  | dt kvs => obtain ⟨vs, q1, q2, q3⟩ := q; exact ⟨vs, q1, q2, q3.fewer h⟩
theorem Reps.length : ∀ {ds : List D} {vs : List V}, Reps K φ ψ H ds vs → ds.length = vs.length
  | _, _, .nil => rfl
  | _, _, .cons _ r => by simp [Reps.length r]
theorem Reps.get : ∀ {ds : List D} {vs : List V} {i : Nat} {d : D}, Reps K φ ψ H ds vs → ds[i]? = some d → ∃ v, vs[i]? = some v ∧ Rep K φ ψ H d v
  | _, _, _, _, .nil, e => by simp at e
  | _, _, 0, _, .cons h _, e => by simp at e; subst e; exact ⟨_, rfl, h⟩
  | _, _, i + 1, d, .cons _ r, e => by
    obtain ⟨v, h1, h2⟩ := Reps.get (i := i) (d := d) r (by simpa using e)
    exact ⟨v, by simpa using h1, h2⟩
theorem Reps.app : ∀ {ds es : List D} {vs ws : List V}, Reps K φ ψ H ds vs → Reps K φ ψ H es ws → Reps K φ ψ H (ds ++ es) (vs ++ ws)
  | _, _, _, _, .nil, s => s
  | _, _, _, _, .cons h r, s => .cons h (Reps.app r s)
theorem Reps.set {d : D} {v : V} (h : Rep K φ ψ H d v) : ∀ {ds : List D} {vs : List V} (i : Nat), Reps K φ ψ H ds vs → Reps K φ ψ H (ds.set i d) (vs.set i v)
  | _, _, _, .nil => .nil
  | _, _, 0, .cons _ r => .cons h r
  | _, _, i + 1, .cons q r => .cons q (Reps.set h i r)
theorem Reps.take : ∀ {ds : List D} {vs : List V} (n : Nat), Reps K φ ψ H ds vs → Reps K φ ψ H (ds.take n) (vs.take n)
  | _, _, 0, _ => .nil
  | _, _, _ + 1, .nil => .nil
  | _, _, n + 1, .cons h r => .cons h (Reps.take n r)
theorem Reps.drop : ∀ {ds : List D} {vs : List V} (n : Nat), Reps K φ ψ H ds vs → Reps K φ ψ H (ds.drop n) (vs.drop n)
  | _, _, 0, r => r
  | _, _, _ + 1, .nil => .nil
  | _, _, n + 1, .cons _ r => Reps.drop n r
theorem Reps.snoc {ds : List D} {vs : List V} {d : D} {v : V} (r : Reps K φ ψ H ds vs) (h : Rep K φ ψ H d v) : Reps K φ ψ H (ds ++ [d]) (vs ++ [v]) := r.app (.cons h .nil)
theorem Reps.rev : ∀ {ds : List D} {vs : List V}, Reps K φ ψ H ds vs → Reps K φ ψ H ds.reverse vs.reverse
  | _, _, .nil => .nil
  | _, _, .cons h r => by rw [List.reverse_cons, List.reverse_cons]; exact (Reps.rev r).snoc h
theorem ObjR.mono {a : Addr} {mo : MO} (p : Post φ ψ H φ' ψ' H') (R : Rel K tb φ ψ H m) (q : ObjR K φ ψ H a mo) (e : H' a = H a) : ObjR K φ' ψ' H' a mo := by
  cases mo with
  | rl b k =>
    have q' : ObjR K φ' ψ' H' a (.rl b k) := by
      obtain ⟨t, rfl⟩ := p.pre
      have hl := (List.getElem?_eq_some_iff.mp q.2).1
      refine ⟨(e.trans q.1).trans ?_, by rw [List.getElem?_append_left hl]; exact q.2⟩
      congr 2
      refine List.map_congr_left fun i hi => ?_
      rw [getD_of (l := φ) (l' := φ ++ t) (List.getElem?_append_left (by have := List.mem_range.mp hi; omega))]
    exact q'
  | lst ds => obtain ⟨vs, q1, q2⟩ := q; exact ⟨vs, e.trans q1, q2.mono p R⟩
  | dk kvs => obtain ⟨vs, q1, q2, q3⟩ := q; exact ⟨vs, e.trans q1, q2, q3.mono p R⟩
  | dt kvs => obtain ⟨vs, q1, q2, q3⟩ := q; exact ⟨vs, e.trans q1, q2, q3.mono p R⟩
theorem TabG.keep {p : Addr} (h : GxR.TabG H p) (e : H' p = H p) : GxR.TabG H' p := by
  obtain ⟨ps, q, r⟩ := h; exact ⟨ps, e.trans q, r⟩
theorem Rel.tsome {p : Addr} (R : Rel K tb φ ψ H m) (h : p ∈ tb) : H p ≠ none := by
  obtain ⟨ps, q, _⟩ := R.tab p h; rw [q]; exact fun z => nomatch z
theorem Rel.tnot {p : Addr} (R : Rel K tb φ ψ H m) (h : p ∈ tb) : p ∉ φ := by
  obtain ⟨ps, q, _⟩ := R.tab p h; exact R.ntbl q
theorem Post.lay {p : Addr} {o : HO} (h : H p = none) : Post φ ψ H φ ψ (upd H p o) :=
  ⟨List.prefix_refl _, fun _ z => .inl z, fun _ z => .inl z, fun b u _ e _ => .inl (by rw [upd_ne (ne_of_none e h)]; exact e), (fun b z => by
    by_cases hb : b = p
    · rw [hb]; exact h
    · rw [upd_ne hb] at z; exact z), fun _ z => z⟩
theorem Rel.lay {p : Addr} {o : HO} (R : Rel K tb φ ψ H m) (h : H p = none) : Rel K tb φ ψ (upd H p o) m := by
  refine ⟨R.len, R.nd, fun n mo a e1 e2 => ?_, fun q hq => TabG.keep (R.tab q hq) (upd_ne fun z => R.tsome hq (z ▸ h)), fun q hq z => R.sd q hq ((Post.lay (φ := φ) (ψ := ψ) h).kp q z), R.ap, fun q hq => (R.lam q hq).upd (fun z => R.tsome hq (z ▸ h)) fun _ e => by rw [h] at e; cases e⟩
  exact (R.obj n mo a e1 e2).mono (Post.lay h) R (upd_ne fun z => R.trk (List.mem_of_getElem? e2) (z ▸ h))
theorem Post.nw {p : Addr} {o : HO} (h : H p = none) : Post φ ψ H φ (p :: ψ) (upd H p o) :=
  ⟨List.prefix_refl _, fun _ z => .inl z, fun a z => by
    rcases List.mem_cons.mp z with z | z
    · rw [z]; exact .inr h
    · exact .inl z, (Post.lay (φ := φ) (ψ := ψ) h).frm, (Post.lay (φ := φ) (ψ := ψ) h).kp, fun _ z => List.mem_cons_of_mem _ z⟩
theorem Rel.nw {p : Addr} {o : HO} (R : Rel K tb φ ψ H m) (h : H p = none) : Rel K tb φ (p :: ψ) (upd H p o) m := by
  refine ⟨R.len, R.nd, fun n mo a e1 e2 => ?_, (R.lay (o := o) h).tab, fun q hq => ?_, fun q hq => ?_, (R.lay (o := o) h).lam⟩
  · exact (R.obj n mo a e1 e2).mono (Post.nw h) R (upd_ne fun z => R.trk (List.mem_of_getElem? e2) (z ▸ h))
  · rcases List.mem_cons.mp hq with z | z
    · rw [z, upd_same]; exact fun z => nomatch z
    · exact (R.lay (o := o) h).sd q z
  · rcases List.mem_cons.mp hq with z | z
    · rw [z]; exact R.fresh h
    · exact R.ap q z
theorem Rel.weak {p : Addr} (R : Rel K tb φ (p :: ψ) H m) : Rel K tb φ ψ H m :=
  ⟨R.len, R.nd, fun n mo a e1 e2 => (R.obj n mo a e1 e2).fewer fun b h1 h2 => ⟨h1, fun z => h2 (List.mem_cons_of_mem _ z)⟩, R.tab, fun q hq => R.sd q (List.mem_cons_of_mem _ hq), fun q hq => R.ap q (List.mem_cons_of_mem _ hq), R.lam⟩
theorem Post.weak {p : Addr} (P : Post φ ψ H φ' (p :: ψ') H') (hp : p ∉ ψ) : Post φ ψ H φ' ψ' H' := ⟨P.pre, P.new, fun a z => P.side a (List.mem_cons_of_mem _ z), P.frm, P.kp, fun a z => by
  rcases List.mem_cons.mp (P.sub a z) with y | y
  · exact absurd (y ▸ z) hp
  · exact y⟩
theorem Rep.weak {p : Addr} {d : D} {v : V} (h : Rep K φ (p :: ψ) H d v) : Rep K φ ψ H d v := h.fewer fun b h1 h2 => ⟨h1, fun z => h2 (List.mem_cons_of_mem _ z)⟩
theorem Reps.weak {p : Addr} {d : List D} {v : List V} (h : Reps K φ (p :: ψ) H d v) : Reps K φ ψ H d v := h.fewer fun b h1 h2 => ⟨h1, fun z => h2 (List.mem_cons_of_mem _ z)⟩
theorem nodup_snoc {p : Addr} (nd : φ.Nodup) (h : p ∉ φ) : (φ ++ [p]).Nodup := by
  rw [List.nodup_append]
  exact ⟨nd, by simp, fun a ha b hb => by rw [List.mem_singleton.mp hb]; exact fun z => h (z ▸ ha)⟩
theorem own_off {p : Addr} : ∀ a, a ∉ φ → a ∉ p :: ψ → a ∉ φ ++ [p] ∧ a ∉ ψ := fun a h1 h2 => ⟨fun z => by
    rcases List.mem_append.mp z with z | z
    · exact h1 z
    · rw [List.mem_singleton.mp z] at h2; exact h2 List.mem_cons_self, fun z => h2 (List.mem_cons_of_mem _ z)⟩
theorem Rel.own {p : Addr} {mo : MO} (R : Rel K tb φ (p :: ψ) H m) (hp : p ∉ ψ) (q : ObjR K φ (p :: ψ) H p mo) : Rel K tb (φ ++ [p]) ψ H (m ++ [mo]) := by
  have np := R.ap p List.mem_cons_self
  refine ⟨by simp [R.len], nodup_snoc R.nd np, fun n mo' a e1 e2 => ?_, R.tab, fun q hq => R.sd q (List.mem_cons_of_mem _ hq), fun q hq z => ?_, R.lam⟩
  · rcases Nat.lt_trichotomy n m.length with hn | hn | hn
    · rw [List.getElem?_append_left hn] at e1
      rw [List.getElem?_append_left (by rw [R.len]; exact hn)] at e2
      exact (R.obj n mo' a e1 e2).fewer own_off fun _ k hk i hi => List.getElem?_append_left (by have := (List.getElem?_eq_some_iff.mp hk).1; omega)
    · subst hn
      rw [List.getElem?_append_right (Nat.le_refl _), Nat.sub_self] at e1
      rw [← R.len, List.getElem?_append_right (Nat.le_refl _), Nat.sub_self] at e2
      have e1' : mo = mo' := Option.some.inj e1
      have e2' : p = a := Option.some.inj e2
      rw [← e1', ← e2']; exact q.fewer own_off fun _ k hk => absurd (List.mem_of_getElem? hk) np
    · rw [List.getElem?_eq_none (by simp; omega)] at e1; cases e1
  · rcases List.mem_append.mp z with z | z
    · exact R.ap q (List.mem_cons_of_mem _ hq) z
    · rw [List.mem_singleton.mp z] at hq; exact hp hq
theorem Post.own {p : Addr} (P : Post φ ψ H φ' (p :: ψ) H') (hp : p ∉ ψ) : Post φ ψ H (φ' ++ [p]) ψ H' :=
  ⟨P.pre.trans (List.prefix_append _ _), fun a z => by
    rcases List.mem_append.mp z with z | z
    · exact P.new a z
    · rw [List.mem_singleton.mp z]
      rcases P.side p List.mem_cons_self with y | y
      · exact absurd y hp
      · exact .inr y, fun a z => .inl z, P.frm, P.kp, fun _ z => z⟩
theorem Post.wr {a : Addr} {o : HO} (h : a ∈ φ) (hs : H a ≠ none) : Post φ ψ H φ ψ (upd H a o) :=
  ⟨List.prefix_refl _, fun _ z => .inl z, fun _ z => .inl z, fun b u hb e _ => .inl (by rw [upd_ne (fun z => hb (by rw [z]; exact h))]; exact e), (fun b z => by
    by_cases hb : b = a
    · rw [hb, upd_same] at z; cases z
    · rw [upd_ne hb] at z; exact z), fun _ z => z⟩
theorem Rel.wr {a : Addr} {n : Nat} {o : HO} {mo : MO} (R : Rel K tb φ ψ H m) (h : φ[n]? = some a) (q : ObjR K φ ψ (upd H a o) a mo) : Rel K tb φ ψ (upd H a o) (m.set n mo) := by
  have ha : a ∈ φ := List.mem_of_getElem? h
  have P : Post φ ψ H φ ψ (upd H a o) := Post.wr (o := o) ha (R.trk ha)
  obtain ⟨hn, en⟩ := List.getElem?_eq_some_iff.mp h
  refine ⟨by simp [R.len], R.nd, fun k mo' b e1 e2 => ?_, fun q hq => TabG.keep (R.tab q hq) (upd_ne fun z => R.tnot hq (z ▸ ha)), fun q hq z => R.sd q hq (P.kp q z), R.ap, fun q hq => (R.lam q hq).upd (fun z => R.tnot hq (z ▸ ha)) fun _ e => by rcases R.mut ha with ⟨_, y⟩ | ⟨_, y⟩ | ⟨_, y⟩ <;> (rw [y] at e; cases e)⟩
  by_cases hk : k = n
  · subst hk
    rw [h] at e2; cases e2
    rw [List.getElem?_set_self (by rw [← R.len]; exact hn)] at e1
    cases e1; exact q
  · rw [List.getElem?_set_ne (Ne.symm hk)] at e1
    refine (R.obj k mo' b e1 e2).mono P R (upd_ne fun z => hk ?_)
    obtain ⟨hk2, ek⟩ := List.getElem?_eq_some_iff.mp e2
    exact (List.getElem_inj R.nd).mp (ek.trans (z.trans en.symm))
theorem Rel.wrL {a : Addr} {n : Nat} {ds : List D} {vs : List V} (R : Rel K tb φ ψ H m) (h : φ[n]? = some a) (r : Reps K φ ψ H ds vs) : Rel K tb φ ψ (upd H a (.lst vs)) (m.set n (.lst ds)) :=
  R.wr h ⟨vs, upd_same, r.mono (Post.wr (List.mem_of_getElem? h) (R.trk (List.mem_of_getElem? h))) R⟩
theorem Post.sdw {p : Addr} {o : HO} (h : p ∈ ψ) (hp : p ∉ φ) (hs : H p ≠ none) : ∀ {φ0 ψ0 : List Addr} {H0 : Hp}, Post φ0 ψ0 H0 φ ψ H → H0 p = none → Post φ0 ψ0 H0 φ ψ (upd H p o) := fun {φ0 ψ0 H0} P h0 =>
  ⟨P.pre, P.new, P.side, fun b u hb e ht => by unfold Kp; rw [upd_ne (ne_of_none e h0)]; exact P.frm b u hb e ht, (fun b z => by
    by_cases hb : b = p
    · rw [hb, upd_same] at z; cases z
    · rw [upd_ne hb] at z; exact P.kp b z), P.sub⟩
theorem sd_sqT {p a : Addr} {vs xs : List V} {o : HO} (h : H p = some (.lst vs)) (q : SqT K H a xs) : SqT K (upd H p o) a xs := by
  rcases q with (q | ⟨o, q⟩) | q
  · exact .inl (.inl (by rw [upd_ne fun z => by rw [z, h] at q; cases q]; exact q))
  · exact .inl (.inr ⟨o, by rw [upd_ne fun z => by rw [z, h] at q; cases q]; exact q⟩)
  · exact .inr q
theorem sd_sqN {p a : Addr} {vs xs : List V} {o : HO} (h : H p = some (.lst vs)) (q : SqN K H a xs) : SqN K (upd H p o) a xs := ⟨sd_sqT h q.1, fun z => by rw [upd_ne fun y => by have := q.2 z; rw [y, h] at this; cases this]; exact q.2 z⟩
theorem sd_tz {p a : Addr} {vs xs : List V} {o : HO} (h : H p = some (.lst vs)) (q : Tz H a xs) : Tz (upd H p o) a xs := by
  obtain ⟨u, q, d⟩ := q
  exact ⟨u, by rw [upd_ne fun z => by rw [z, h] at q; cases q]; exact q, d⟩
theorem sd_fz {p a : Addr} {vs xs : List V} {o : HO} (h : H p = some (.lst vs)) (q : Fz K H a xs) : Fz K (upd H p o) a xs := by
  rcases q with ⟨u, q⟩ | q
  · exact .inl ⟨u, by rw [upd_ne fun z => by rw [z, h] at q; cases q]; exact q⟩
  · exact .inr q
theorem Reps.sdw {p : Addr} {vs : List V} {o : HO} (hp : p ∈ ψ) (h : H p = some (.lst vs)) {ds : List D} {us : List V} (r : Reps K φ ψ H ds us) : Reps K φ ψ (upd H p o) ds us :=
  r.map (fun _ _ => sd_sqN h) (fun _ _ => sd_tz h) (fun _ _ => sd_fz h) (fun a xs h1 h2 q _ _ => ⟨h1, h2, by rw [upd_ne (fun z => h2 (by rw [z]; exact hp))]; exact q⟩) fun a xs h1 h2 q => ⟨h1, h2, by unfold Rd at q ⊢; rw [upd_ne (fun z => h2 (by rw [z]; exact hp))]; exact q⟩
theorem Rep.sdw {p : Addr} {vs : List V} {o : HO} (hp : p ∈ ψ) (h : H p = some (.lst vs)) {d : D} {u : V} (r : Rep K φ ψ H d u) : Rep K φ ψ (upd H p o) d u :=
  r.map (fun _ _ => sd_sqN h) (fun _ _ => sd_tz h) (fun _ _ => sd_fz h) (fun a xs h1 h2 q _ _ => ⟨h1, h2, by rw [upd_ne (fun z => h2 (by rw [z]; exact hp))]; exact q⟩) fun a xs h1 h2 q => ⟨h1, h2, by unfold Rd at q ⊢; rw [upd_ne (fun z => h2 (by rw [z]; exact hp))]; exact q⟩
theorem Rel.sdw {p : Addr} {vs : List V} {o : HO} (R : Rel K tb φ ψ H m) (hp : p ∈ ψ) (h : H p = some (.lst vs)) : Rel K tb φ ψ (upd H p o) m := by
  refine ⟨R.len, R.nd, fun n mo a e1 e2 => ?_, fun q hq => TabG.keep (R.tab q hq) (upd_ne fun z => by
    obtain ⟨ps, e, _⟩ := R.tab q hq
    rw [z, h] at e; cases e), fun q hq z => ?_, R.ap, fun q hq => (R.lam q hq).upd (fun z => by
    obtain ⟨ps, e, _⟩ := R.tab q hq
    rw [z, h] at e; cases e) fun _ e => by rw [h] at e; cases e⟩
  · have ne : a ≠ p := fun z => R.ap p hp (z ▸ List.mem_of_getElem? e2)
    have q := R.obj n mo a e1 e2
    cases mo with
    | lst ds => obtain ⟨vs', q1, q2⟩ := q; exact ⟨vs', by rw [upd_ne ne]; exact q1, q2.sdw hp h⟩
    | dk kvs => obtain ⟨vs', q1, q2, q3⟩ := q; exact ⟨vs', by rw [upd_ne ne]; exact q1, q2, q3.sdw hp h⟩
    | dt kvs => obtain ⟨vs', q1, q2, q3⟩ := q; exact ⟨vs', by rw [upd_ne ne]; exact q1, q2, q3.sdw hp h⟩
    | rl b k => exact ⟨by rw [upd_ne ne]; exact q.1, q.2⟩
  · by_cases hb : q = p
    · rw [hb, upd_same] at z; cases z
    · rw [upd_ne hb] at z; exact R.sd q hq z
end
def stl : W → W
  | .f d => .v d
  | w => w
def RepS (K : FRG) (φ ψ : List Addr) (H : Hp) : W → V → Prop
  | .v d, v => Rep K φ ψ H d v
  | .f d, v => Rep K φ ψ H d v
  | .r n, v => ∃ a, φ[n]? = some a ∧ v = .ref a
def moD : MO → D
  | .lst ds => .lst ds
  | .dk kvs => .dk kvs
  | .dt kvs => .dt kvs
  | .rl b k => .rl b k
def dMO : D → Option MO
  | .lst ds => some (.lst ds)
  | .dk kvs => some (.dk kvs)
  | .dt kvs => some (.dt kvs)
  | _ => none
def RepW (K : FRG) (φ ψ ψ' : List Addr) (H : Hp) : W → V → Prop
  | .v d, v => ψ' = ψ ∧ Rep K φ ψ H d v
  | .r n, v => ψ' = ψ ∧ ∃ a, φ[n]? = some a ∧ v = .ref a
  | .f d, v => ∃ p mo, v = .ref p ∧ ψ' = p :: ψ ∧ p ∉ ψ ∧ d = moD mo ∧ ObjR K φ (p :: ψ) H p mo
section
variable {K : FRG} {tb φ φ1 φ2 φ' ψ ψ1 ψ2 ψ' : List Addr} {H H1 H2 H' : Hp} {m : Mem} {w : W} {v : V}
theorem ObjR.rep {p : Addr} {mo : MO} (h1 : p ∉ φ) (h2 : p ∉ ψ) (q : ObjR K φ ψ H p mo) : Rep K φ ψ H (moD mo) (.ref p) := by
  cases mo with
  | lst ds => obtain ⟨vs, q1, q2⟩ := q; exact .lst h1 h2 q1 q2
  | dk kvs => obtain ⟨vs, q1, q2, q3⟩ := q; exact .dk h1 h2 (.inl q1) q2 q3
  | dt kvs => obtain ⟨vs, q1, q2, q3⟩ := q; exact .dt h1 h2 q1 q2 q3
  | rl b k => exact absurd (List.mem_of_getElem? q.2) h1
theorem RepW.rel (h : RepW K φ ψ ψ' H w v) (R : Rel K tb φ ψ' H m) : Rel K tb φ ψ H m := by
  cases w with
  | v d => obtain ⟨rfl, _⟩ := h; exact R
  | r n => obtain ⟨rfl, _⟩ := h; exact R
  | f d => obtain ⟨p, mo, _, rfl, _⟩ := h; exact R.weak
theorem RepW.post {φ0 : List Addr} {H0 : Hp} (h : RepW K φ ψ ψ' H w v) (P : Post φ0 ψ H0 φ ψ' H) : Post φ0 ψ H0 φ ψ H := by
  cases w with
  | v d => obtain ⟨rfl, _⟩ := h; exact P
  | r n => obtain ⟨rfl, _⟩ := h; exact P
  | f d => obtain ⟨p, mo, _, rfl, np, _⟩ := h; exact P.weak np
theorem RepW.s (h : RepW K φ ψ ψ' H w v) (R : Rel K tb φ ψ' H m) : RepS K φ ψ H w v := by
  cases w with
  | v d => exact h.2
  | r n => exact h.2
  | f d =>
    obtain ⟨p, mo, rfl, rfl, np, rfl, q⟩ := h
    exact (q.fewer fun b h1 h2 => ⟨h1, fun z => h2 (List.mem_cons_of_mem _ z)⟩).rep (R.ap p List.mem_cons_self) np
theorem RepS.stl (h : RepS K φ ψ H w v) : RepS K φ ψ H (Pw.stl w) v := by cases w <;> exact h
theorem RepS.mono (p : Post φ ψ H φ' ψ' H') (R : Rel K tb φ ψ H m) (h : RepS K φ ψ H w v) : RepS K φ' ψ' H' w v := by
  cases w with
  | v d => exact Rep.mono p R h
  | f d => exact Rep.mono p R h
  | r n => obtain ⟨a, e, q⟩ := h; exact ⟨a, pre_get p.pre e, q⟩
theorem RepS.fewer (h : ∀ a, a ∉ φ → a ∉ ψ → a ∉ φ ∧ a ∉ ψ') (q : RepS K φ ψ H w v) : RepS K φ ψ' H w v := by
  cases w with
  | v d => exact Rep.fewer h q
  | f d => exact Rep.fewer h q
  | r n => exact q
end
inductive RepSs (K : FRG) (φ ψ : List Addr) (H : Hp) : List W → List V → Prop
  | nil : RepSs K φ ψ H [] []
  | cons {w : W} {v : V} {ws : List W} {vs : List V} : RepS K φ ψ H w v → RepSs K φ ψ H ws vs → RepSs K φ ψ H (w :: ws) (v :: vs)
theorem RepSs.mono {K : FRG} {tb φ φ' ψ ψ' : List Addr} {H H' : Hp} {m : Mem} (p : Post φ ψ H φ' ψ' H') (R : Rel K tb φ ψ H m) {ws : List W} {vs : List V} (h : RepSs K φ ψ H ws vs) : RepSs K φ' ψ' H' ws vs := by
  induction h with
  | nil => exact .nil
  | cons h r ih => exact .cons (h.mono p R) ih
theorem RepSs.length {K : FRG} {φ ψ : List Addr} {H : Hp} {ws : List W} {vs : List V} (h : RepSs K φ ψ H ws vs) : ws.length = vs.length := by
  induction h with
  | nil => rfl
  | cons h r ih => simp [ih]
theorem RepSs.get {K : FRG} {φ ψ : List Addr} {H : Hp} {ws : List W} {vs : List V} (h : RepSs K φ ψ H ws vs) : ∀ {i : Nat} {w : W}, ws[i]? = some w → ∃ v, vs[i]? = some v ∧ RepS K φ ψ H w v := by
  induction h with
  | nil => intro i w e; simp at e
  | cons h r ih =>
    intro i w e
    cases i with
    | zero => simp at e; subst e; exact ⟨_, rfl, h⟩
    | succ i => obtain ⟨v, h1, h2⟩ := ih (i := i) (w := w) (by simpa using e); exact ⟨v, by simpa using h1, h2⟩
def gt : W → Mem → Option D
  | .v d, _ => some d
  | .f d, _ => some d
  | .r n, m => (m[n]?).map moD
def RepC (K : FRG) (φ ψ : List Addr) (H : Hp) (d : D) (v : V) : Prop := Rep K φ ψ H d v ∨ ∃ a mo, v = .ref a ∧ d = moD mo ∧ ObjR K φ ψ H a mo
section
variable {K : FRG} {tb φ ψ : List Addr} {H : Hp} {m : Mem} {w : W} {v : V} {d : D}
theorem gt_c (R : Rel K tb φ ψ H m) (h : RepS K φ ψ H w v) (e : gt w m = some d) : RepC K φ ψ H d v := by
  cases w with
  | v d' => cases e; exact .inl h
  | f d' => cases e; exact .inl h
  | r n =>
    obtain ⟨a, e1, rfl⟩ := h
    obtain ⟨mo, e2, rfl⟩ := Option.map_eq_some_iff.mp e
    exact .inr ⟨a, mo, rfl, rfl, R.obj n mo a e2 e1⟩
theorem RepC.lst {ds : List D} (h : RepC K φ ψ H (.lst ds) v) : ∃ a vs, v = .ref a ∧ H a = some (.lst vs) ∧ Reps K φ ψ H ds vs := by
  rcases h with h | ⟨a, mo, rfl, e, q⟩
  · cases h with
    | lst h1 h2 h3 r => exact ⟨_, _, rfl, h3, r⟩
  · cases mo with
    | lst es => cases e; obtain ⟨vs, q1, q2⟩ := q; exact ⟨_, _, rfl, q1, q2⟩
    | dk es => cases e
    | dt es => cases e
    | rl b k => cases e
theorem RepC.fl {ds : List D} (h : RepC K φ ψ H (.fl ds) v) : ∃ a vs, v = .ref a ∧ SqL K H a vs ∧ Reps K φ ψ H ds vs := by
  rcases h with h | ⟨a, mo, rfl, e, q⟩
  · cases h with
    | fl h r => exact ⟨_, _, rfl, h.sq, r⟩
  · cases mo <;> cases e
theorem RepC.tup {ds : List D} (h : RepC K φ ψ H (.tup ds) v) : ∃ a vs, v = .ref a ∧ SqT K H a vs ∧ Reps K φ ψ H ds vs := by
  rcases h with h | ⟨a, mo, rfl, e, q⟩
  · cases h with
    | tup h r => exact ⟨_, _, rfl, h.1, r⟩
  · cases mo <;> cases e
theorem RepC.tupN {ds : List D} (h : RepC K φ ψ H (.tup ds) v) : ∃ a vs, v = .ref a ∧ SqN K H a vs ∧ Reps K φ ψ H ds vs := by
  rcases h with h | ⟨a, mo, rfl, e, q⟩
  · cases h with
    | tup h r => exact ⟨_, _, rfl, h, r⟩
  · cases mo <;> cases e
theorem RepC.dk {kvs : List (Key × D)} (h : RepC K φ ψ H (.dk kvs) v) : ∃ (a : Addr) (vs : List (Key × V)), v = .ref a ∧ Rd H a (.dK vs) ∧ kvs.map (·.1) = vs.map (·.1) ∧ Reps K φ ψ H (kvs.map (·.2)) (vs.map (·.2)) := by
  rcases h with h | ⟨a, mo, rfl, e, q⟩
  · cases h with
    | dk h1 h2 h3 h4 r => exact ⟨_, _, rfl, h3, h4, r⟩
  · cases mo with
    | lst es => cases e
    | dk es => cases e; obtain ⟨vs, q1, q2, q3⟩ := q; exact ⟨_, _, rfl, .inl q1, q2, q3⟩
    | dt es => cases e
    | rl b k => cases e
theorem RepC.dt {kvs : List (List Key × D)} (h : RepC K φ ψ H (.dt kvs) v) : ∃ (a : Addr) (vs : List (List Key × V)), v = .ref a ∧ H a = some (.dT vs) ∧ kvs.map (·.1) = vs.map (·.1) ∧ Reps K φ ψ H (kvs.map (·.2)) (vs.map (·.2)) := by
  rcases h with h | ⟨a, mo, rfl, e, q⟩
  · cases h with
    | dt h1 h2 h3 h4 r => exact ⟨_, _, rfl, h3, h4, r⟩
  · cases mo with
    | lst es => cases e
    | dk es => cases e
    | dt es => cases e; obtain ⟨vs, q1, q2, q3⟩ := q; exact ⟨_, _, rfl, q1, q2, q3⟩
    | rl b k => cases e
theorem RepC.int {i : Int} (h : RepC K φ ψ H (.int i) v) : v = .int i := by
  rcases h with h | ⟨a, mo, rfl, e, q⟩
  · cases h; rfl
  · cases mo <;> cases e
theorem RepC.bl {i : Bool} (h : RepC K φ ψ H (.bl i) v) : v = .bl i := by
  rcases h with h | ⟨a, mo, rfl, e, q⟩
  · cases h; rfl
  · cases mo <;> cases e
theorem RepC.str {i : Str} (h : RepC K φ ψ H (.str i) v) : v = .str i := by
  rcases h with h | ⟨a, mo, rfl, e, q⟩
  · cases h; rfl
  · cases mo <;> cases e
theorem RepC.non (h : RepC K φ ψ H .non v) : v = .non := by
  rcases h with h | ⟨a, mo, rfl, e, q⟩
  · cases h; rfl
  · cases mo <;> cases e
end
abbrev Ex := Env → Mem → Option (W × Mem)
abbrev Tx := Env → Mem → Option (Bool × Mem)
abbrev Ax := Env → Mem → Option (List W × Mem)
inductive Out where
  | nx | ret (w : W) | bk | ct
abbrev Sx := Env → Mem → Option (Out × Env × Mem)
structure RE (K : FRG) (φ ψ : List Addr) (H : Hp) (ρ : Env) (σ : L2.St) : Prop where
  val : ∀ (i : Nat) (w : W), ρ[i]? = some (some w) → ∃ v, σ[i]? = some (some v) ∧ RepS K φ ψ H w v
  len : ρ.length = σ.length
theorem RE.mono {K : FRG} {tb φ φ' ψ ψ' : List Addr} {H H' : Hp} {m : Mem} {ρ : Env} {σ : L2.St} (p : Post φ ψ H φ' ψ' H') (R : Rel K tb φ ψ H m) (e : RE K φ ψ H ρ σ) : RE K φ' ψ' H' ρ σ :=
  ⟨fun i d h => let ⟨v, h1, h2⟩ := e.val i d h; ⟨v, h1, h2.mono p R⟩, e.len⟩
theorem RE.set {K : FRG} {φ ψ : List Addr} {H : Hp} {ρ : Env} {σ : L2.St} {d : W} {v : V} (e : RE K φ ψ H ρ σ) (i : Nat) (h : RepS K φ ψ H d v) : RE K φ ψ H (ρ.set i (some d)) (σ.set i (some v)) := by
  refine ⟨fun j x hj => ?_, by simp [e.len]⟩
  by_cases hij : i = j
  · subst hij
    have hl : i < (ρ.set i (some d)).length := (List.getElem?_eq_some_iff.mp hj).1
    rw [List.length_set] at hl
    rw [List.getElem?_set_self hl] at hj
    cases hj
    exact ⟨v, by rw [List.getElem?_set_self (by rw [← e.len]; exact hl)], h⟩
  · rw [List.getElem?_set_ne hij] at hj
    rw [List.getElem?_set_ne hij]
    exact e.val j x hj
theorem RE.wipe1 {K : FRG} {φ ψ : List Addr} {H : Hp} {ρ : Env} {σ : L2.St} (e : RE K φ ψ H ρ σ) (i : Nat) : RE K φ ψ H (ρ.set i none) (σ.set i none) := by
  refine ⟨fun j x hj => ?_, by simp [e.len]⟩
  by_cases hij : i = j
  · subst hij
    have hl : i < (ρ.set i none).length := (List.getElem?_eq_some_iff.mp hj).1
    rw [List.length_set] at hl
    rw [List.getElem?_set_self hl] at hj
    cases hj
  · rw [List.getElem?_set_ne hij] at hj
    rw [List.getElem?_set_ne hij]
    exact e.val j x hj
theorem RE.fog1 {K : FRG} {φ ψ : List Addr} {H : Hp} {ρ : Env} {σ : L2.St} (e : RE K φ ψ H ρ σ) (i : Nat) : RE K φ ψ H (ρ.set i none) σ := by
  refine ⟨fun j x hj => ?_, by simp [e.len]⟩
  by_cases hij : i = j
  · subst hij
    have hl : i < (ρ.set i none).length := (List.getElem?_eq_some_iff.mp hj).1
    rw [List.length_set] at hl
    rw [List.getElem?_set_self hl] at hj
    cases hj
  · rw [List.getElem?_set_ne hij] at hj
    exact e.val j x hj
def wipeD (ρ : Env) : List Nat → Env
  | [] => ρ
  | v :: vs => (wipeD ρ vs).set v none
theorem RE.wipe {K : FRG} {φ ψ : List Addr} {H : Hp} {ρ : Env} {σ : L2.St} (e : RE K φ ψ H ρ σ) : ∀ vs : List Nat, RE K φ ψ H (wipeD ρ vs) (L2.wipe σ vs)
  | [] => e
  | v :: vs => (RE.wipe e vs).wipe1 v
theorem RE.fog {K : FRG} {φ ψ : List Addr} {H : Hp} {ρ : Env} {σ : L2.St} (e : RE K φ ψ H ρ σ) : ∀ vs : List Nat, RE K φ ψ H (wipeD ρ vs) σ
  | [] => e
  | v :: vs => (RE.fog e vs).fog1 v
section
variable (K : FRG) (tb : List Addr)
abbrev Go (φ ψ : List Addr) (H : Hp) (m' : Mem) (w : W) (Q : VK) : Prop := ∀ φ' ψ' H' v, Post φ ψ H φ' ψ' H' → Rel K tb φ' ψ' H' m' → RepW K φ' ψ ψ' H' w v → Q v H'
abbrev GoT (φ ψ : List Addr) (H : Hp) (m' : Mem) (b : Bool) (Q : Bool → Hp → Prop) : Prop := ∀ φ' H', Post φ ψ H φ' ψ H' → Rel K tb φ' ψ H' m' → Q b H'
abbrev GoA (φ ψ : List Addr) (H : Hp) (m' : Mem) (ds : List W) (Q : List V → Hp → Prop) : Prop := ∀ φ' H' vs, Post φ ψ H φ' ψ H' → Rel K tb φ' ψ H' m' → RepSs K φ' ψ H' ds vs → Q vs H'
def T (f : Ex) : TE := fun σ H Q => ∃ φ ψ ρ m w m', Rel K tb φ ψ H m ∧ RE K φ ψ H ρ σ ∧ f ρ m = some (w, m') ∧ Go K tb φ ψ H m' w Q
def Tt (f : Tx) : TT := fun σ H Q => ∃ φ ψ ρ m b m', Rel K tb φ ψ H m ∧ RE K φ ψ H ρ σ ∧ f ρ m = some (b, m') ∧ GoT K tb φ ψ H m' b Q
def Ta (f : Ax) : TA := fun σ H Q => ∃ φ ψ ρ m ds m', Rel K tb φ ψ H m ∧ RE K φ ψ H ρ σ ∧ f ρ m = some (ds, m') ∧ GoA K tb φ ψ H m' ds Q
def OutK (φ' ψ ψ' : List Addr) (H' : Hp) (E : Ends) (ρ' : Env) : Out → Prop
  | .nx => ψ' = ψ → ∀ σ', RE K φ' ψ H' ρ' σ' → E.nx σ' H'
  | .bk => ψ' = ψ → ∀ σ', RE K φ' ψ H' ρ' σ' → E.bk σ' H'
  | .ct => ψ' = ψ → ∀ σ', RE K φ' ψ H' ρ' σ' → E.ct σ' H'
  | .ret w => ∀ v, RepW K φ' ψ ψ' H' w v → E.rt v H'
def Ts (g : Sx) : TS := fun E σ H => ∃ φ ψ ρ m o ρ' m', Rel K tb φ ψ H m ∧ RE K φ ψ H ρ σ ∧ g ρ m = some (o, ρ', m') ∧ ∀ φ' ψ' H', Post φ ψ H φ' ψ' H' → Rel K tb φ' ψ' H' m' → OutK K φ' ψ ψ' H' E ρ' o
end
theorem pe_mono {X : Cx} {e : Expr} {t t' : TE} (h : PE X e t) (i : ∀ σ H Q, t' σ H Q → t σ H Q) : PE X e t' := ⟨fun pins s σ H Q I q => h.run pins s σ H Q I (i σ H Q q)⟩
theorem pt_mono {X : Cx} {e : Expr} {t t' : TT} (h : PT X e t) (i : ∀ σ H Q, t' σ H Q → t σ H Q) : PT X e t' := ⟨fun pins s σ H Q I q => h.run pins s σ H Q I (i σ H Q q)⟩
theorem pa_mono {X : Cx} {e : List Expr} {t t' : TA} (h : PA X e t) (i : ∀ σ H Q, t' σ H Q → t σ H Q) : PA X e t' := ⟨fun pos pins s σ H Q I q => h.run pos pins s σ H Q I (i σ H Q q)⟩
theorem ps_mono {X : Cx} {e : Stmt} {t t' : TS} (h : PS X e t) (i : ∀ D σ H, t' D σ H → t D σ H) : PS X e t' := ⟨fun pins s σ H D I q => h.run pins s σ H D I (i D σ H q)⟩
theorem pss_mono {X : Cx} {e : List Stmt} {t t' : TS} (h : PSs X e t) (i : ∀ D σ H, t' D σ H → t D σ H) : PSs X e t' := ⟨fun pins s σ H D I q => h.run pins s σ H D I (i D σ H q)⟩
end Pw
end
section
set_option Elab.async false
set_option linter.all false
set_option maxRecDepth 100000
set_option maxHeartbeats 1000000
namespace Pw
open PySem PySem.Spec PyProof.Rows L2
theorem small {n : Nat} (h : n ≤ 1000000) : n ≤ sizeLine := Nat.le_trans h (by rw [sizeLine_eq]; decide)
theorem smallT {n : Nat} (h : n < 1000000) : n < sizeLine := Nat.lt_of_lt_of_le h (by rw [sizeLine_eq]; decide)
theorem bnd {α β : Type} {o : Option α} {f : α → Option β} {b : β} (h : o.bind f = some b) : ∃ a, o = some a ∧ f a = some b := Option.bind_eq_some_iff.mp h
inductive RepCs (K : FRG) (φ ψ : List Addr) (H : Hp) : List D → List V → Prop
  | nil : RepCs K φ ψ H [] []
  | cons {d : D} {v : V} {ds : List D} {vs : List V} : RepC K φ ψ H d v → RepCs K φ ψ H ds vs → RepCs K φ ψ H (d :: ds) (v :: vs)
def gts : List W → Mem → Option (List D)
  | [], _ => some []
  | w :: ws, m => (gt w m).bind fun d => (gts ws m).bind fun ds => some (d :: ds)
def vls : List W → Option (List D)
  | [] => some []
  | .v d :: ws => (vls ws).bind fun ds => some (d :: ds)
  | .f d :: ws => (vls ws).bind fun ds => some (d :: ds)
  | .r _ :: _ => none
section
variable {K : FRG} {tb φ ψ : List Addr} {H : Hp} {m : Mem}
theorem gts_c (R : Rel K tb φ ψ H m) {ws : List W} {vs : List V} (h : RepSs K φ ψ H ws vs) : ∀ {ds : List D}, gts ws m = some ds → RepCs K φ ψ H ds vs := by
  induction h with
  | nil => intro ds e; cases e; exact .nil
  | cons h r ih =>
    intro ds e
    obtain ⟨d, e1, e⟩ := bnd e
    obtain ⟨es, e2, e⟩ := bnd e
    cases e
    exact .cons (gt_c R h e1) (ih e2)
theorem vls_c {ws : List W} {vs : List V} (h : RepSs K φ ψ H ws vs) : ∀ {ds : List D}, vls ws = some ds → Reps K φ ψ H ds vs := by
  induction h with
  | nil => intro ds e; cases e; exact .nil
  | @cons w v ws vs h r ih =>
    intro ds e
    cases w with
    | v d => obtain ⟨es, e2, e⟩ := bnd (show (vls ws).bind _ = _ from e); cases e; exact .cons h (ih e2)
    | f d => obtain ⟨es, e2, e⟩ := bnd (show (vls ws).bind _ = _ from e); cases e; exact .cons h (ih e2)
    | r n => cases e
end
section
variable (K : FRG) (tb : List Addr)
def OpS (r : R2) (g : D → D → Option W) : Prop := ∀ φ ψ H m x y dx dy w Q, Rel K tb φ ψ H m → RepC K φ ψ H dx x → RepC K φ ψ H dy y → g dx dy = some w → Go K tb φ ψ H m w Q → r x y H Q
def UnS (r : V → Hp → VK → Prop) (g : D → Option W) : Prop := ∀ φ ψ H m x dx w Q, Rel K tb φ ψ H m → RepC K φ ψ H dx x → g dx = some w → Go K tb φ ψ H m w Q → r x H Q
def CallS (r : List V → Hp → VK → Prop) (g : List D → Option W) : Prop := ∀ φ ψ H m vs ds w Q, Rel K tb φ ψ H m → RepCs K φ ψ H ds vs → g ds = some w → Go K tb φ ψ H m w Q → r vs H Q
def MtS (r : V → List V → Hp → VK → Prop) (g : W → List W → Mem → Option (W × Mem)) : Prop := ∀ φ ψ H m x vs w ws w' m' Q, Rel K tb φ ψ H m → RepS K φ ψ H w x → RepSs K φ ψ H ws vs → g w ws m = some (w', m') → Go K tb φ ψ H m' w' Q → r x vs H Q
end
section
variable {K : FRG} {tb φ ψ : List Addr} {H : Hp} {m : Mem} {Q : VK}
theorem Go.val {d : D} {v : V} (k : Go K tb φ ψ H m (.v d) Q) (R : Rel K tb φ ψ H m) (h : Rep K φ ψ H d v) : Q v H := k φ ψ H v .refl R ⟨rfl, h⟩
theorem Go.tup {ds : List D} {vs : List V} {p : Addr} (k : Go K tb φ ψ H m (.v (.tup ds)) Q) (R : Rel K tb φ ψ H m) (h : Reps K φ ψ H ds vs) (hp : H p = none) : Q (.ref p) (upd H p (.tup vs)) :=
  k φ ψ _ _ (Post.lay hp) (R.lay hp) ⟨rfl, .tup (SqN.of upd_same) (h.mono (Post.lay hp) R)⟩
theorem Go.lst {ds : List D} {vs : List V} {p : Addr} (k : Go K tb φ ψ H m (.f (.lst ds)) Q) (R : Rel K tb φ ψ H m) (h : Reps K φ ψ H ds vs) (hp : H p = none) : Q (.ref p) (upd H p (.lst vs)) :=
  k φ (p :: ψ) _ _ (Post.nw hp) (R.nw hp) ⟨p, .lst ds, rfl, rfl, R.freshS hp, rfl, vs, upd_same, h.mono (Post.nw hp) R⟩
theorem Go.dt {kvs : List (List Key × D)} {vs : List (List Key × V)} {p : Addr} (k : Go K tb φ ψ H m (.f (.dt kvs)) Q) (R : Rel K tb φ ψ H m) (hk : kvs.map (·.1) = vs.map (·.1)) (h : Reps K φ ψ H (kvs.map (·.2)) (vs.map (·.2))) (hp : H p = none) : Q (.ref p) (upd H p (.dT vs)) :=
  k φ (p :: ψ) _ _ (Post.nw hp) (R.nw hp) ⟨p, .dt kvs, rfl, rfl, R.freshS hp, rfl, vs, upd_same, hk, h.mono (Post.nw hp) R⟩
theorem Go.dk {kvs : List (Key × D)} {vs : List (Key × V)} {p : Addr} (k : Go K tb φ ψ H m (.f (.dk kvs)) Q) (R : Rel K tb φ ψ H m) (hk : kvs.map (·.1) = vs.map (·.1)) (h : Reps K φ ψ H (kvs.map (·.2)) (vs.map (·.2))) (hp : H p = none) : Q (.ref p) (upd H p (.dK vs)) :=
  k φ (p :: ψ) _ _ (Post.nw hp) (R.nw hp) ⟨p, .dk kvs, rfl, rfl, R.freshS hp, rfl, vs, upd_same, hk, h.mono (Post.nw hp) R⟩
end
def eVar (i : Nat) : Ex := fun ρ m => match ρ[i]? with
  | some (some w) => some (stl w, m)
  | _ => none
def eC (d : D) : Ex := fun _ m => some (.v d, m)
def eOp (g : D → D → Option W) (a b : Ex) : Ex := fun ρ m => (a ρ m).bind fun p => (b ρ p.2).bind fun q => (gt p.1 q.2).bind fun x => (gt q.1 q.2).bind fun y => (g x y).bind fun w => some (w, q.2)
def eUn (g : D → Option W) (a : Ex) : Ex := fun ρ m => (a ρ m).bind fun p => (gt p.1 p.2).bind fun x => (g x).bind fun w => some (w, p.2)
def aNil : Ax := fun _ m => some ([], m)
def aCons (a : Ex) (b : Ax) : Ax := fun ρ m => (a ρ m).bind fun p => (b ρ p.2).bind fun q => some (stl p.1 :: q.1, q.2)
def eCB (g : List D → Option W) (a : Ax) : Ex := fun ρ m => (a ρ m).bind fun p => (gts p.1 p.2).bind fun ds => (g ds).bind fun w => some (w, p.2)
def eMt (ck : W → Mem → Bool) (g : W → List W → Mem → Option (W × Mem)) (o : Ex) (a : Ax) : Ex := fun ρ m => (o ρ m).bind fun p => if ck p.1 p.2 = true then (a ρ p.2).bind fun q => g p.1 q.1 q.2 else none
def eTup (a : Ax) : Ex := fun ρ m => (a ρ m).bind fun p => (vls p.1).bind fun ds => if ds.length ≤ 1000000 then some (.v (.tup ds), p.2) else none
def eLst (a : Ax) : Ex := fun ρ m => (a ρ m).bind fun p => (vls p.1).bind fun ds => if ds.length ≤ 1000000 then some (.f (.lst ds), p.2) else none
def blD : D → Option Bool
  | .bl b => some b
  | _ => none
def tVal (a : Ex) : Tx := fun ρ m => (a ρ m).bind fun p => (gt p.1 p.2).bind fun d => (blD d).bind fun b => some (b, p.2)
def truD : D → Option Bool
  | .non => some false
  | .bl b => some b
  | .int i => some (i != 0)
  | .tup ds => some (!ds.isEmpty)
  | .fl ds => some (!ds.isEmpty)
  | .lst ds => some (!ds.isEmpty)
  | .dk kvs => some (!kvs.isEmpty)
  | _ => none
def tTru (a : Ex) : Tx := fun ρ m => (a ρ m).bind fun p => (gt p.1 p.2).bind fun d => (truD d).bind fun b => some (b, p.2)
def tAnd' (a b : Tx) : Tx := fun ρ m => (a ρ m).bind fun p => if p.1 = true then b ρ p.2 else some (false, p.2)
def tOr' (a b : Tx) : Tx := fun ρ m => (a ρ m).bind fun p => if p.1 = true then some (true, p.2) else b ρ p.2
def tNot' (a : Tx) : Tx := fun ρ m => (a ρ m).bind fun p => some (!p.1, p.2)
def eIf (t : Tx) (a b : Ex) : Ex := fun ρ m => (t ρ m).bind fun p => if p.1 = true then a ρ p.2 else b ρ p.2
def eAnd (a b : Ex) : Ex := fun ρ m => (tVal a ρ m).bind fun p => if p.1 = true then b ρ p.2 else some (.v (.bl false), p.2)
def eNot (a : Ex) : Ex := fun ρ m => (tVal a ρ m).bind fun p => some (.v (.bl (!p.1)), p.2)
section
variable {X : Cx} {tb : List Addr} {a b c : Expr} {fa fb fc : Ex} {ta : Tx} {tb' : Tx} {pos : Pos}
theorem RepS.w {K : FRG} {φ ψ : List Addr} {H : Hp} {w : W} {v : V} (h : RepS K φ ψ H w v) : RepW K φ ψ ψ H (Pw.stl w) v := by
  cases w with
  | v d => exact ⟨rfl, h⟩
  | f d => exact ⟨rfl, h⟩
  | r n => exact ⟨rfl, h⟩
theorem ex_var (i : Nat) {x : Str} (hN : X.N[i]? = some x := by rfl) (hv : Vis X.env.scope x := by first | exact Or.inl rfl | exact Or.inr (Or.inl rfl) | exact Or.inr (Or.inr rfl)) (hd : (x == ("__debug__" : Str)) = false := by decide)
    (hcd : (x == ("__classdict__" : Str)) = false := by decide) : PE X (.Name x pos) (T X.K tb (eVar i)) := by
  refine pe_mono (pe_var hN hv hd hcd) fun σ H Q h => ?_
  obtain ⟨φ, ψ, ρ, m, w, m', R, E, e, k⟩ := h
  unfold eVar at e
  split at e
  · rename_i w' hw
    cases e
    obtain ⟨v, h1, h2⟩ := E.val i _ hw
    exact ⟨v, h1, k φ ψ H v .refl R h2.w⟩
  · cases e
theorem ex_int {i : Int} {j : Nat} : PE X (.Constant (.int i) j pos) (T X.K tb (eC (.int i))) := pe_mono pe_int fun σ H Q ⟨φ, ψ, ρ, m, w, m', R, E, e, k⟩ => by
  cases e; exact Go.val k R (.int i)
theorem ex_bl {i : Bool} {j : Nat} : PE X (.Constant (.bool i) j pos) (T X.K tb (eC (.bl i))) := pe_mono pe_bl fun σ H Q ⟨φ, ψ, ρ, m, w, m', R, E, e, k⟩ => by
  cases e; exact Go.val k R (.bl i)
theorem ex_str {i : Str} {j : Nat} : PE X (.Constant (.str i) j pos) (T X.K tb (eC (.str i))) := pe_mono pe_str fun σ H Q ⟨φ, ψ, ρ, m, w, m', R, E, e, k⟩ => by
  cases e; exact Go.val k R (.str i)
theorem ex_non {j : Nat} : PE X (.Constant .none j pos) (T X.K tb (eC .non)) := pe_mono pe_non fun σ H Q ⟨φ, ψ, ρ, m, w, m', R, E, e, k⟩ => by
  cases e; exact Go.val k R .non
theorem op_go {r : R2} {g : D → D → Option W} (hs : OpS X.K tb r g) {σ : L2.St} {H : Hp} {Q : VK} (h : T X.K tb (eOp g fa fb) σ H Q) : tOp r (T X.K tb fa) (T X.K tb fb) σ H Q := by
  obtain ⟨φ, ψ, ρ, m, w, m', R, E, e, k⟩ := h
  obtain ⟨⟨w1, m1⟩, e1, e⟩ := bnd e
  obtain ⟨⟨w2, m2⟩, e2, e⟩ := bnd e
  obtain ⟨x, ex, e⟩ := bnd e
  obtain ⟨y, ey, e⟩ := bnd e
  obtain ⟨w3, eg, e⟩ := bnd e
  cases e
  refine ⟨φ, ψ, ρ, m, w1, m1, R, E, e1, fun φ1 ψ1 H1 xv P1 R1 V1 => ⟨φ1, ψ, ρ, m1, w2, m2, V1.rel R1, E.mono (V1.post P1) R, e2, fun φ2 ψ2 H2 yv P2 R2 V2 => ?_⟩⟩
  have R2' := V2.rel R2
  have P2' := V2.post P2
  exact hs φ2 ψ H2 m2 xv yv x y w Q R2' (gt_c R2' ((V1.s R1).mono P2' (V1.rel R1)) ex) (gt_c R2' (V2.s R2) ey) eg fun φ3 ψ3 H3 v P3 R3 V3 => k φ3 ψ3 H3 v ((V1.post P1).trans (P2'.trans P3)) R3 V3
theorem ex_op {op : Operator} {r : R2} {g : D → D → Option W} (ho : OpR X (binaryOp op) r) (hs : OpS X.K tb r g) (ha : PE X a (T X.K tb fa)) (hb : PE X b (T X.K tb fb)) : PE X (.BinOp a op b pos) (T X.K tb (eOp g fa fb)) :=
  pe_mono (pe_op ho ha hb) fun _ _ _ h => op_go hs h
theorem ex_cmp {op : CmpOp} {r : R2} {g : D → D → Option W} (ho : OpR X (compareOp op) r) (hs : OpS X.K tb r g) (ha : PE X a (T X.K tb fa)) (hb : PE X b (T X.K tb fb)) (hm : behindInMarks op b = false) : PE X (.Compare a [op] [b] pos) (T X.K tb (eOp g fa fb)) :=
  pe_mono (pe_cmpR ho ha hb hm) fun _ _ _ h => op_go hs h
theorem blD_v {K : FRG} {φ ψ : List Addr} {H : Hp} {d : D} {v : V} {b : Bool} (h : RepC K φ ψ H d v) (e : blD d = some b) : v = .bl b := by
  unfold blD at e
  split at e
  · cases e; exact h.bl
  · cases e
theorem val_go {f : Ex} {σ : L2.St} {H : Hp} {Q : Bool → Hp → Prop} (h : Tt X.K tb (tVal f) σ H Q) : T X.K tb f σ H fun x H' => ∃ k, x = .bl k ∧ Q k H' := by
  obtain ⟨φ, ψ, ρ, m, w, m', R, E, e, k⟩ := h
  obtain ⟨⟨w1, m1⟩, e1, e⟩ := bnd e
  obtain ⟨d, ed, e⟩ := bnd e
  obtain ⟨b, eb, e⟩ := bnd e
  cases e
  exact ⟨φ, ψ, ρ, m, w1, _, R, E, e1, fun φ1 ψ1 H1 x P1 R1 V1 => ⟨_, blD_v (gt_c (V1.rel R1) (V1.s R1) ed) eb, k φ1 H1 (V1.post P1) (V1.rel R1)⟩⟩
theorem tx_cmp {op : CmpOp} {r : R2} {g : D → D → Option W} (ho : OpR X (compareOp op) r) (hs : OpS X.K tb r g) (ha : PE X a (T X.K tb fa)) (hb : PE X b (T X.K tb fb)) (hm : behindInMarks op b = false) : PT X (.Compare a [op] [b] pos) (Tt X.K tb (tVal (eOp g fa fb))) :=
  pt_mono (pt_cmpR ho ha hb hm) fun _ _ _ h => op_go hs (val_go h)
theorem un_go {r : V → Hp → VK → Prop} {g : D → Option W} (hs : UnS X.K tb r g) {σ : L2.St} {H : Hp} {Q : VK} (h : T X.K tb (eUn g fa) σ H Q) : tUn r (T X.K tb fa) σ H Q := by
  obtain ⟨φ, ψ, ρ, m, w, m', R, E, e, k⟩ := h
  obtain ⟨⟨w1, m1⟩, e1, e⟩ := bnd e
  obtain ⟨x, ex, e⟩ := bnd e
  obtain ⟨w2, eg, e⟩ := bnd e
  cases e
  exact ⟨φ, ψ, ρ, m, w1, _, R, E, e1, fun φ1 ψ1 H1 xv P1 R1 V1 => hs φ1 ψ H1 _ xv x w Q (V1.rel R1) (gt_c (V1.rel R1) (V1.s R1) ex) eg fun φ3 ψ3 H3 v P3 R3 V3 => k φ3 ψ3 H3 v ((V1.post P1).trans P3) R3 V3⟩
theorem ex_un {op : UnaryOp} {r : V → Hp → VK → Prop} {g : D → Option W} (ho : UnR X (unaryOp op) r) (hs : UnS X.K tb r g) (ha : PE X a (T X.K tb fa)) : PE X (.UnaryOp op a pos) (T X.K tb (eUn g fa)) := pe_mono (pe_un ho ha) fun _ _ _ h => un_go hs h
theorem ax_nil : PA X [] (Ta X.K tb aNil) := pa_mono pa_nil fun σ H Q ⟨φ, ψ, ρ, m, ds, m', R, E, e, k⟩ => by
  cases e; exact k φ H [] .refl R .nil
theorem ax_cons {es : List Expr} {f : Ax} (ha : PE X a (T X.K tb fa)) (hr : PA X es (Ta X.K tb f)) (hs : starEach (a :: es) X.env = (false, eval a X.env) :: starEach es X.env := by rfl) : PA X (a :: es) (Ta X.K tb (aCons fa f)) := by
  refine pa_mono (pa_cons ha hr hs) fun σ H Q ⟨φ, ψ, ρ, m, ds, m', R, E, e, k⟩ => ?_
  obtain ⟨⟨w1, m1⟩, e1, e⟩ := bnd e
  obtain ⟨⟨w2, m2⟩, e2, e⟩ := bnd e
  cases e
  exact ⟨φ, ψ, ρ, m, w1, m1, R, E, e1, fun φ1 ψ1 H1 x P1 R1 V1 => ⟨φ1, ψ, ρ, m1, w2, _, V1.rel R1, E.mono (V1.post P1) R, e2, fun φ2 H2 y P2 R2 V2 => k φ2 H2 _ ((V1.post P1).trans P2) R2 (.cons ((V1.s R1).mono P2 (V1.rel R1)).stl V2)⟩⟩
theorem cb_go {f : Ax} {r : List V → Hp → VK → Prop} {g : List D → Option W} (hs : CallS X.K tb r g) {σ : L2.St} {H : Hp} {Q : VK} (h : T X.K tb (eCB g f) σ H Q) : tCB r (Ta X.K tb f) σ H Q := by
  obtain ⟨φ, ψ, ρ, m, w, m', R, E, e, k⟩ := h
  obtain ⟨⟨ws, m1⟩, e1, e⟩ := bnd e
  obtain ⟨ds, ed, e⟩ := bnd e
  obtain ⟨w2, eg, e⟩ := bnd e
  cases e
  exact ⟨φ, ψ, ρ, m, ws, _, R, E, e1, fun φ1 H1 vs P1 R1 V1 => hs φ1 ψ H1 _ vs ds w Q R1 (gts_c R1 V1 ed) eg fun φ3 ψ3 H3 v P3 R3 V3 => k φ3 ψ3 H3 v (P1.trans P3) R3 V3⟩
theorem ex_callB {x : Str} {p : Pos} {es : List Expr} {id : String} {f : Ax} {r : List V → Hp → VK → Prop} {g : List D → Option W} (hs : CallS X.K tb r g) (hc : CallR X (.builtin id) r) (hg : Gl X x) (hm : X.mg x = none) (hv : bootBuiltins x = some (.builtin id)) (ha : PA X (a :: es) (Ta X.K tb f))
    (hn : x ≠ "__name__" := by decide) (hdb : (x == ("__debug__" : Str)) = false := by decide) (he : starEach (a :: es) X.env = (false, eval a X.env) :: starEach es X.env := by rfl) (hpl : (backTo pos (starEach es X.env)).any (·.1) = false := by rfl) :
    PE X (.Call (.Name x p) (a :: es) [] pos) (T X.K tb (eCB g f)) := pe_mono (pe_callB hc hg hm hv ha hn hdb he hpl) fun _ _ _ h => cb_go hs h
theorem ex_callTy {x : Str} {p : Pos} {es : List Expr} {id : String} {f : Ax} {r : List V → Hp → VK → Prop} {g : List D → Option W} (hs : CallS X.K tb r g) (hc : CallR X (.type id) r) (hg : Gl X x) (hm : X.mg x = none) (hv : bootBuiltins x = some (.type id)) (ha : PA X (a :: es) (Ta X.K tb f))
    (hn : x ≠ "__name__" := by decide) (hdb : (x == ("__debug__" : Str)) = false := by decide) (he : starEach (a :: es) X.env = (false, eval a X.env) :: starEach es X.env := by rfl) (hpl : (backTo pos (starEach es X.env)).any (·.1) = false := by rfl) :
    PE X (.Call (.Name x p) (a :: es) [] pos) (T X.K tb (eCB g f)) := pe_mono (pe_callTy hc hg hm hv ha hn hdb he hpl) fun _ _ _ h => cb_go hs h
theorem ex_tup {es : List Expr} {f : Ax} {x1} (h : PA X es (Ta X.K tb f)) : PE X (.Tuple es x1 pos) (T X.K tb (eTup f)) := by
  refine pe_mono (pe_tup h) fun σ H Q ⟨φ, ψ, ρ, m, w, m', R, E, e, k⟩ => ?_
  obtain ⟨⟨ws, m1⟩, e1, e⟩ := bnd e
  obtain ⟨ds, ed, e⟩ := bnd e
  refine ⟨φ, ψ, ρ, m, ws, m1, R, E, e1, fun φ1 H1 vs P1 R1 V1 => ?_⟩
  split at e
  · rename_i hl
    cases e
    have r := vls_c V1 ed
    exact ⟨small (by rw [← r.length]; exact hl), fun p hp => Go.tup (fun φ3 ψ3 H3 v P3 R3 V3 => k φ3 ψ3 H3 v (P1.trans P3) R3 V3) R1 r hp⟩
  · cases e
theorem ex_lst {es : List Expr} {f : Ax} (h : PA X es (Ta X.K tb f)) : PE X (.List es pos) (T X.K tb (eLst f)) := by
  refine pe_mono (pe_lst h) fun σ H Q ⟨φ, ψ, ρ, m, w, m', R, E, e, k⟩ => ?_
  obtain ⟨⟨ws, m1⟩, e1, e⟩ := bnd e
  obtain ⟨ds, ed, e⟩ := bnd e
  refine ⟨φ, ψ, ρ, m, ws, m1, R, E, e1, fun φ1 H1 vs P1 R1 V1 => ?_⟩
  split at e
  · rename_i hl
    cases e
    have r := vls_c V1 ed
    exact ⟨small (by rw [← r.length]; exact hl), fun p hp => Go.lst (fun φ3 ψ3 H3 v P3 R3 V3 => k φ3 ψ3 H3 v (P1.trans P3) R3 V3) R1 r hp⟩
  · cases e
theorem ex_mt {T' id : String} {name : Str} {apos cpos : Pos} {es : List Expr} {fo : Ex} {f : Ax} {r : V → List V → Hp → VK → Prop} {g : W → List W → Mem → Option (W × Mem)} {ck : W → Mem → Bool} {o : Expr}
    (hck : ∀ φ ψ H m d v, Rel X.K tb φ ψ H m → RepS X.K φ ψ H d v → ck d m = true → tyV X.K T' v H) (hs : MtS X.K tb r g)
    (pa : PlainAttrs T') (slot : Slot T' name id) (hty : typeOf (.builtin id) = pure (.type "method_descriptor")) (hm : MtR X id r) (ho : PE X o (T X.K tb fo)) (ha : PA X (a :: es) (Ta X.K tb f))
    (hbase : attributeBase o name X.env (eval o X.env) = eval o X.env := by rfl)
    (hfew : ((backTo cpos (starEach (a :: es) X.env)).all (fun x => !x.1) && (backToKw cpos (keywordEach [] X.env)).all (fun x => x.1.isSome)
      && decide ((a :: es).length + ([] : List Keyword).length + (if ([] : List Keyword).isEmpty then 0 else 1) < 30)) = true := by rfl)
    (hline : (apos.endLine == cpos.line) = true := by rfl) (hst : starEach (a :: es) X.env = (false, eval a X.env) :: starEach es X.env := by rfl) (hplain : (backTo cpos (starEach es X.env)).any (·.1) = false := by rfl) :
    PE X (.Call (.Attribute o name apos) (a :: es) [] cpos) (T X.K tb (eMt ck g fo f)) := by
  refine pe_mono (pe_bm pa slot hty hm ho ha hbase hfew hline hst hplain) fun σ H Q ⟨φ, ψ, ρ, m, w, m', R, E, e, k⟩ => ?_
  obtain ⟨⟨w1, m1⟩, e1, e⟩ := bnd e
  split at e
  · rename_i hc
    obtain ⟨⟨ws, m2⟩, e2, e⟩ := bnd e
    refine ⟨φ, ψ, ρ, m, w1, m1, R, E, e1, fun φ1 ψ1 H1 x P1 R1 V1 => ⟨hck φ1 ψ H1 m1 w1 x (V1.rel R1) (V1.s R1) hc, φ1, ψ, ρ, m1, ws, m2, V1.rel R1, E.mono (V1.post P1) R, e2, fun φ2 H2 vs P2 R2 V2 => ?_⟩⟩
    exact hs φ2 ψ H2 m2 x vs w1 ws w m' Q R2 ((V1.s R1).mono P2 (V1.rel R1)) V2 e fun φ3 ψ3 H3 v P3 R3 V3 => k φ3 ψ3 H3 v ((V1.post P1).trans (P2.trans P3)) R3 V3
  · cases e
theorem pt_or {X : Cx} {e : Expr} {t t' : TT} (h : PT X e t) (h' : PT X e t') : PT X e (fun σ H Q => t σ H Q ∨ t' σ H Q) := ⟨fun pins s σ H Q I q => q.elim (h.run pins s σ H Q I) (h'.run pins s σ H Q I)⟩
theorem tru_rd {X : Cx} : TruR X (fun x H Q => ∃ a kvs, x = V.ref a ∧ Rd H a (.dK kvs) ∧ Q (!kvs.isEmpty) H) := by
  intro pins s σ H x v Q I rx h
  obtain ⟨a, kvs, rfl, e, q⟩ := h
  cases rx
  exact d_truth I e fun s' I' => ⟨H, I', q⟩
theorem tx_tru {e : Expr} {f : Ex} (h : PE X e (T X.K tb f)) (he : ∀ whole, isTrue e X.env whole = (do let v ← whole; standAt e.pos; holding [v] (truthy v)) := by intro _; rfl) : PT X e (Tt X.K tb (tTru f)) := by
  refine pt_mono (pt_or (pt_truth h he) (pt_truthR h tru_rd he)) fun σ H Q ⟨φ, ψ, ρ, m, b, m', R, E, e, k⟩ => ?_
  obtain ⟨⟨w1, m1⟩, e1, e⟩ := bnd e
  obtain ⟨d, ed, e⟩ := bnd e
  obtain ⟨b1, e2, e⟩ := bnd e
  cases e
  by_cases hdk : ∃ kvs, d = .dk kvs
  · right
    obtain ⟨kvs, rfl⟩ := hdk
    cases e2
    refine ⟨φ, ψ, ρ, m, w1, m1, R, E, e1, fun φ1 ψ1 H1 x P1 R1 V1 => ?_⟩
    obtain ⟨a, vs, rfl, h, r1, r2⟩ := (gt_c (V1.rel R1) (V1.s R1) ed).dk
    refine ⟨a, vs, rfl, h, ?_⟩
    have : kvs.length = vs.length := by simpa using congrArg List.length r1
    have eb : (!kvs.isEmpty) = !vs.isEmpty := by cases kvs <;> cases vs <;> simp_all
    rw [← eb]
    exact k φ1 H1 (V1.post P1) (V1.rel R1)
  left
  refine ⟨φ, ψ, ρ, m, w1, m1, R, E, e1, fun φ1 ψ1 H1 x P1 R1 V1 => ⟨b, ?_, k φ1 H1 (V1.post P1) (V1.rel R1)⟩⟩
  have C := gt_c (V1.rel R1) (V1.s R1) ed
  cases d with
  | non => cases e2; rw [C.non]; rfl
  | bl b => cases e2; rw [C.bl]; rfl
  | int i => cases e2; rw [C.int]; rfl
  | str x => cases e2
  | tup ds => cases e2; obtain ⟨a, vs, rfl, h, r⟩ := C.tup; exact .inr (.inl ⟨_, h, by cases r <;> rfl⟩)
  | tx ds => cases e2
  | fl ds => cases e2; obtain ⟨a, vs, rfl, h, r⟩ := C.fl; exact .inl ⟨_, h, by cases r <;> rfl⟩
  | lst ds => cases e2; obtain ⟨a, vs, rfl, h, r⟩ := C.lst; exact .inl ⟨_, SqL.of h, by cases r <;> rfl⟩
  | dk kvs => exact absurd ⟨kvs, rfl⟩ hdk
  | dt kvs => cases e2
  | rl b k => cases e2
def pwt {e : Expr} {t : TT} (h : PW X e t) : PT X e t := h.pt
theorem tw_and1 (ha : PT X a (Tt X.K tb ta)) : PW X (.BoolOp .And [a] pos) (Tt X.K tb ta) := pw_and1 ha
theorem tw_or1 (ha : PT X a (Tt X.K tb ta)) : PW X (.BoolOp .Or [a] pos) (Tt X.K tb ta) := pw_or1 ha
theorem pw_mono {e : Expr} {t t' : TT} (h : PW X e t) (i : ∀ σ H Q, t' σ H Q → t σ H Q) : PW X e t' := ⟨fun w pins s σ H Q I q => h.run w pins s σ H Q I (i σ H Q q)⟩
theorem tw_and {rest : List Expr} (ha : PT X a (Tt X.K tb ta)) (hb : PW X (.BoolOp .And (b :: rest) pos) (Tt X.K tb tb')) : PW X (.BoolOp .And (a :: b :: rest) pos) (Tt X.K tb (tAnd' ta tb')) := by
  refine pw_mono (pw_and ha hb) fun σ H Q ⟨φ, ψ, ρ, m, d, m', R, E, e, k⟩ => ?_
  obtain ⟨⟨b1, m1⟩, e1, e⟩ := bnd e
  refine ⟨φ, ψ, ρ, m, b1, m1, R, E, e1, fun φ1 H1 P1 R1 => ?_⟩
  cases b1 with
  | true => exact iteT ⟨φ1, ψ, ρ, m1, d, m', R1, E.mono P1 R, e, fun φ2 H2 P2 R2 => k φ2 H2 (P1.trans P2) R2⟩
  | false => cases e; exact iteF (k φ1 H1 P1 R1)
theorem tw_or {rest : List Expr} (ha : PT X a (Tt X.K tb ta)) (hb : PW X (.BoolOp .Or (b :: rest) pos) (Tt X.K tb tb')) : PW X (.BoolOp .Or (a :: b :: rest) pos) (Tt X.K tb (tOr' ta tb')) := by
  refine pw_mono (pw_or ha hb) fun σ H Q ⟨φ, ψ, ρ, m, d, m', R, E, e, k⟩ => ?_
  obtain ⟨⟨b1, m1⟩, e1, e⟩ := bnd e
  refine ⟨φ, ψ, ρ, m, b1, m1, R, E, e1, fun φ1 H1 P1 R1 => ?_⟩
  cases b1 with
  | false => exact iteF ⟨φ1, ψ, ρ, m1, d, m', R1, E.mono P1 R, e, fun φ2 H2 P2 R2 => k φ2 H2 (P1.trans P2) R2⟩
  | true => cases e; exact iteT (k φ1 H1 P1 R1)
theorem tx_not (ha : PT X a (Tt X.K tb ta)) : PT X (.UnaryOp .Not a pos) (Tt X.K tb (tNot' ta)) := by
  refine pt_mono (pt_not ha) fun σ H Q ⟨φ, ψ, ρ, m, d, m', R, E, e, k⟩ => ?_
  obtain ⟨⟨b1, m1⟩, e1, e⟩ := bnd e
  cases e
  exact ⟨φ, ψ, ρ, m, b1, _, R, E, e1, fun φ1 H1 P1 R1 => k φ1 H1 P1 R1⟩
theorem ex_if (hc : PT X c (Tt X.K tb ta)) (ha : PE X a (T X.K tb fa)) (hb : PE X b (T X.K tb fb)) : PE X (.IfExp c a b pos) (T X.K tb (eIf ta fa fb)) := by
  refine pe_mono (pe_ifExp hc ha hb) fun σ H Q ⟨φ, ψ, ρ, m, d, m', R, E, e, k⟩ => ?_
  obtain ⟨⟨b1, m1⟩, e1, e⟩ := bnd e
  refine ⟨φ, ψ, ρ, m, b1, m1, R, E, e1, fun φ1 H1 P1 R1 => ?_⟩
  cases b1 with
  | true => exact iteT ⟨φ1, ψ, ρ, m1, d, m', R1, E.mono P1 R, e, fun φ2 ψ2 H2 v P2 R2 => k φ2 ψ2 H2 v (P1.trans P2) R2⟩
  | false => exact iteF ⟨φ1, ψ, ρ, m1, d, m', R1, E.mono P1 R, e, fun φ2 ψ2 H2 v P2 R2 => k φ2 ψ2 H2 v (P1.trans P2) R2⟩
theorem ex_one {op} {f : Ex} (h : PE X a (T X.K tb f)) : PE X (.BoolOp op [a] pos) (T X.K tb f) := pe_one h
theorem ex_and {rest : List Expr} (ha : PE X a (T X.K tb fa)) (hb : PE X (.BoolOp .And (b :: rest) pos) (T X.K tb fb)) : PE X (.BoolOp .And (a :: b :: rest) pos) (T X.K tb (eAnd fa fb)) := by
  refine pe_mono (pe_and ha hb) fun σ H Q ⟨φ, ψ, ρ, m, d, m', R, E, e, k⟩ => ?_
  obtain ⟨⟨b1, m1⟩, e1, e⟩ := bnd e
  refine val_go (X := X) (Q := fun c H1 => if c = true then T X.K tb fb σ H1 Q else Q (.bl false) H1) ⟨φ, ψ, ρ, m, b1, m1, R, E, e1, fun φ1 H1 P1 R1 => ?_⟩
  cases b1 with
  | true => exact iteT ⟨φ1, ψ, ρ, m1, d, m', R1, E.mono P1 R, e, fun φ2 ψ2 H2 v P2 R2 => k φ2 ψ2 H2 v (P1.trans P2) R2⟩
  | false => cases e; exact iteF (k φ1 ψ H1 _ P1 R1 ⟨rfl, .bl false⟩)
theorem ex_not (ha : PE X a (T X.K tb fa)) : PE X (.UnaryOp .Not a pos) (T X.K tb (eNot fa)) := by
  refine pe_mono (pe_not ha) fun σ H Q ⟨φ, ψ, ρ, m, d, m', R, E, e, k⟩ => ?_
  obtain ⟨⟨b1, m1⟩, e1, e⟩ := bnd e
  cases e
  exact val_go (X := X) (Q := fun c H1 => Q (.bl (!c)) H1) ⟨φ, ψ, ρ, m, b1, _, R, E, e1, fun φ1 H1 P1 R1 => k φ1 ψ H1 _ P1 R1 ⟨rfl, .bl _⟩⟩
end
end Pw
end
section
set_option Elab.async false
set_option linter.all false
set_option maxRecDepth 100000
set_option maxHeartbeats 1000000
namespace Pw
open PySem PySem.Spec PyProof.Rows L2
def subD : D → D → Option W
  | .int i, .int j => some (.v (.int (i - j)))
  | _, _ => none
def cmpD (p : Int → Int → Bool) : D → D → Option W
  | .int i, .int j => some (.v (.bl (p i j)))
  | _, _ => none
def ltI (i j : Int) : Bool := decide (i < j)
def leI (i j : Int) : Bool := decide (i ≤ j)
def gtI (i j : Int) : Bool := decide (j < i)
def geI (i j : Int) : Bool := decide (j ≤ i)
open Classical in
noncomputable def intC (C : Int → Int → Prop) (g : Int → Int → Int) : D → D → Option W
  | .int i, .int j => if C i j then some (.v (.int (g i j))) else none
  | _, _ => none
def negD : D → Option W
  | .int i => some (.v (.int (-i)))
  | _ => none
def addD : D → D → Option W
  | .int i, .int j => some (.v (.int (i + j)))
  | .str i, .str j => if i.length + j.length ≤ 1000000 then some (.v (.str (i ++ j))) else none
  | .tup a, .tup b => if a.length + b.length ≤ 1000000 then some (.v (.tup (a ++ b))) else none
  | .lst a, .lst b => if a.length + b.length ≤ 1000000 then some (.f (.lst (a ++ b))) else none
  | _, _ => none
open Classical in
noncomputable def mulD : D → D → Option W
  | .int i, .int j => if CMul i j then some (.v (.int (i * j))) else none
  | .lst a, .int k => if -(2 ^ 63) ≤ k ∧ k < 2 ^ 63 ∧ a.length * k.toNat ≤ 1000000 then some (.f (.lst (List.replicate k.toNat a).flatten)) else none
  | _, _ => none
noncomputable def divD : D → D → Option W := intC CDiv fun i j => i / j
noncomputable def modD : D → D → Option W := intC (fun _ j => 0 < j) fun i j => i % j
noncomputable def powD : D → D → Option W := intC CPow fun i j => i ^ j.toNat
section
variable {K : FRG} {tb : List Addr}
theorem sub_s : OpS K tb (rI0 fun i j => .int (i - j)) subD := fun φ ψ H m x y dx dy w Q R hx hy e k => by
  unfold subD at e
  split at e
  · cases e; rw [hx.int, hy.int]
    exact ⟨_, _, rfl, rfl, Go.val k R (.int _)⟩
  · cases e
theorem cmp_s {p : Int → Int → Bool} : OpS K tb (rI0 fun i j => .bl (p i j)) (cmpD p) := fun φ ψ H m x y dx dy w Q R hx hy e k => by
  unfold cmpD at e
  split at e
  · cases e; rw [hx.int, hy.int]
    exact ⟨_, _, rfl, rfl, Go.val k R (.bl _)⟩
  · cases e
theorem intC_s {C : Int → Int → Prop} {g : Int → Int → Int} : OpS K tb (rI C fun i j => .int (g i j)) (intC C g) := fun φ ψ H m x y dx dy w Q R hx hy e k => by
  unfold intC at e
  split at e
  · split at e
    · rename_i hc
      cases e; rw [hx.int, hy.int]
      exact ⟨_, _, rfl, rfl, hc, Go.val k R (.int _)⟩
    · cases e
  · cases e
theorem neg_s : UnS K tb (rU fun i => .int (-i)) negD := fun φ ψ H m x dx w Q R hx e k => by
  unfold negD at e
  split at e
  · cases e; rw [hx.int]
    exact ⟨_, rfl, Go.val k R (.int _)⟩
  · cases e
abbrev rAdd (K : FRG) : R2 := fun x y H Q => (rI0 (fun i j => .int (i + j)) x y H Q) ∨ ((∃ i j, x = .str i ∧ y = .str j ∧ i.length + j.length ≤ sizeLine ∧ Q (.str (i ++ j)) H) ∨ (rCatA K x y H Q ∨ rCat x y H Q))
theorem op_addA {X : Cx} : OpR X (binaryOp .Add) (rAdd X.K) := op_add.or (op_add_str.or (op_catA.or op_cat))
theorem add_s : OpS K tb (rAdd K) addD := fun φ ψ H m x y dx dy w Q R hx hy e k => by
  unfold addD at e
  split at e
  · cases e; rw [hx.int, hy.int]
    exact .inl ⟨_, _, rfl, rfl, Go.val k R (.int _)⟩
  · split at e
    · rename_i hl
      cases e; rw [hx.str, hy.str]
      exact .inr (.inl ⟨_, _, rfl, rfl, small hl, Go.val k R (.str _)⟩)
    · cases e
  · split at e
    · rename_i hl
      cases e
      obtain ⟨a1, v1, rfl, h1, r1⟩ := hx.tupN
      obtain ⟨a2, v2, rfl, h2, r2⟩ := hy.tupN
      refine .inr (.inr (.inl ⟨_, _, _, _, rfl, rfl, h1.1, h2.1, small (by rw [← r1.length, ← r2.length]; exact hl), fun z => ?_, fun z1 z2 => ?_, fun z1 z2 p hp => Go.tup k R (r1.app r2) hp⟩))
      · subst z; cases r1; exact Go.val k R (.tup h2 r2)
      · subst z2; cases r2; rw [List.append_nil] at k; exact Go.val k R (.tup h1 r1)
    · cases e
  · split at e
    · rename_i hl
      cases e
      obtain ⟨a1, v1, rfl, h1, r1⟩ := hx.lst
      obtain ⟨a2, v2, rfl, h2, r2⟩ := hy.lst
      exact .inr (.inr (.inr ⟨_, _, _, _, rfl, rfl, h1, h2, small (by rw [← r1.length, ← r2.length]; exact hl), fun p hp => Go.lst k R (r1.app r2) hp⟩))
    · cases e
  · cases e
theorem Reps.rep : ∀ (n : Nat) {φ ψ : List Addr} {H : Hp} {ds : List D} {vs : List V}, Reps K φ ψ H ds vs → Reps K φ ψ H (List.replicate n ds).flatten (List.replicate n vs).flatten
  | 0, _, _, _, _, _, _ => .nil
  | n + 1, _, _, _, _, _, r => by
    rw [List.replicate_succ, List.replicate_succ, List.flatten_cons, List.flatten_cons]
    exact r.app (Reps.rep n r)
abbrev rMul : R2 := fun x y H Q => (rI CMul (fun i j => .int (i * j)) x y H Q) ∨ rRep x y H Q
theorem op_mulA {X : Cx} : OpR X (binaryOp .Mult) rMul := op_mul.or op_rep
theorem mul_s : OpS K tb rMul mulD := fun φ ψ H m x y dx dy w Q R hx hy e k => by
  unfold mulD at e
  split at e
  · split at e
    · rename_i hc
      cases e; rw [hx.int, hy.int]
      exact .inl ⟨_, _, rfl, rfl, hc, Go.val k R (.int _)⟩
    · cases e
  · split at e
    · rename_i hl
      cases e
      obtain ⟨a1, v1, rfl, h1, r1⟩ := hx.lst
      rw [hy.int]
      exact .inr ⟨_, _, _, rfl, rfl, h1, hl.1, hl.2.1, small (by rw [← r1.length]; exact hl.2.2), fun p hp => Go.lst k R (Reps.rep _ r1) hp⟩
    · cases e
  · cases e
theorem div_s : OpS K tb (rI CDiv fun i j => .int (i / j)) divD := intC_s
theorem mod_s : OpS K tb (rI (fun _ j => 0 < j) fun i j => .int (i % j)) modD := intC_s
theorem pow_s : OpS K tb (rI CPow fun i j => .int (i ^ j.toNat)) powD := intC_s
theorem lt_s : OpS K tb (rI0 fun i j => .bl (decide (i < j))) (cmpD ltI) := cmp_s
theorem gt_s : OpS K tb (rI0 fun i j => .bl (decide (j < i))) (cmpD gtI) := cmp_s
theorem ge_s : OpS K tb (rI0 fun i j => .bl (decide (j ≤ i))) (cmpD geI) := cmp_s
end
mutual
def pyD : D → Option PyData
  | .non => some .none
  | .bl b => some (.bool b)
  | .int i => some (.int i)
  | .str x => some (.str x)
  | .tup ds => (pyDs ds).bind fun ps => some (.tuple ps)
  | .fl ds => (pyDs ds).bind fun ps => some (.list ps)
  | .lst ds => (pyDs ds).bind fun ps => some (.list ps)
  | .tx _ => none
  | .dk _ => none
  | .dt _ => none
  | .rl _ _ => none
def pyDs : List D → Option (List PyData)
  | [] => some []
  | d :: ds => (pyD d).bind fun x => (pyDs ds).bind fun xs => some (x :: xs)
end
section
variable {K : FRG} {tb : List Addr}
mutual
theorem pyD_dp {φ ψ : List Addr} {H : Hp} : ∀ {d : D} {v : V} {p : PyData}, Rep K φ ψ H d v → pyD d = some p → Dp K H v p
  | .non, v, p, h, e => by cases h; rw [pyD] at e; cases e; exact .non
  | .bl b, v, p, h, e => by cases h; rw [pyD] at e; cases e; exact .bl b
  | .int i, v, p, h, e => by cases h; rw [pyD] at e; cases e; exact .int i
  | .str x, v, p, h, e => by cases h; rw [pyD] at e; cases e; exact .str x
  | .tup ds, v, p, h, e => by
    rw [pyD] at e
    obtain ⟨ps, e1, e⟩ := bnd e
    cases e
    cases h with
    | tup h r => exact .tup h.1 (pyDs_dp r e1)
  | .fl ds, v, p, h, e => by
    rw [pyD] at e
    obtain ⟨ps, e1, e⟩ := bnd e
    cases e
    cases h with
    | fl h r => exact .lst h.sq (pyDs_dp r e1)
  | .lst ds, v, p, h, e => by
    rw [pyD] at e
    obtain ⟨ps, e1, e⟩ := bnd e
    cases e
    cases h with
    | lst h1 h2 h r => exact .lst (SqL.of h) (pyDs_dp r e1)
  | .tx _, v, p, h, e => by rw [pyD] at e; cases e
  | .dk _, v, p, h, e => by rw [pyD] at e; cases e
  | .dt _, v, p, h, e => by rw [pyD] at e; cases e
  | .rl _ _, v, p, h, e => by rw [pyD] at e; cases e
theorem pyDs_dp {φ ψ : List Addr} {H : Hp} : ∀ {ds : List D} {vs : List V} {ps : List PyData}, Reps K φ ψ H ds vs → pyDs ds = some ps → DpAll K H vs ps
  | [], vs, ps, h, e => by cases h; rw [pyDs] at e; cases e; exact .nil
  | d :: ds, vs, ps, h, e => by
    rw [pyDs] at e
    obtain ⟨p, e1, e⟩ := bnd e
    obtain ⟨qs, e2, e⟩ := bnd e
    cases e
    cases h with
    | cons h r => exact .cons (pyD_dp h e1) (pyDs_dp r e2)
end
theorem RepC.dp {φ ψ : List Addr} {H : Hp} {d : D} {v : V} {p : PyData} (h : RepC K φ ψ H d v) (e : pyD d = some p) : Dp K H v p := by
  rcases h with h | ⟨a, mo, rfl, rfl, q⟩
  · exact pyD_dp h e
  · cases mo with
    | lst ds =>
      rw [moD, pyD] at e
      obtain ⟨ps, e1, e⟩ := bnd e
      cases e
      obtain ⟨vs, q1, q2⟩ := q
      exact .lst (SqL.of q1) (pyDs_dp q2 e1)
    | dk kvs => rw [moD, pyD] at e; cases e
    | dt kvs => rw [moD, pyD] at e; cases e
    | rl b k => rw [moD, pyD] at e; cases e
def sc : D → Option V
  | .non => some .non
  | .bl b => some (.bl b)
  | .int i => some (.int i)
  | .str x => some (.str x)
  | _ => none
theorem sc_rep {φ ψ : List Addr} {H : Hp} {d : D} {v w : V} (h : RepC K φ ψ H d v) (e : sc d = some w) : v = w := by
  cases d <;> first | (cases e; first | exact h.non | exact h.bl | exact h.int | exact h.str) | (cases e)
def eqB (neg : Bool) (dx dy : D) : Option Bool := match sc dx, sc dy with
  | some x, some y => if scal x y = true then some (decide (x = y) != neg) else none
  | _, _ => match pyD dx, pyD dy with
    | some p, some q => if SeqAt.shaped p = true ∧ SeqAt.shaped q = true then some (PyData.eqv p q != neg) else none
    | _, _ => none
def eqD (neg : Bool) : D → D → Option W := fun dx dy => (eqB neg dx dy).bind fun b => some (.v (.bl b))
abbrev rEqA (K : FRG) : R2 := fun x y H Q => rEq x y H Q ∨ rEqD K x y H Q
abbrev rNeA (K : FRG) : R2 := fun x y H Q => rNe x y H Q ∨ rNeD K x y H Q
theorem op_eqA {X : Cx} (hu : X.A.units + 64 < cLine) : OpR X (compareOp .Eq) (rEqA X.K) := op_eq.or (op_eqD hu)
theorem op_neA {X : Cx} (hu : X.A.units + 64 < cLine) : OpR X (compareOp .NotEq) (rNeA X.K) := op_ne.or (op_neD hu)
theorem eq_s : OpS K tb (rEqA K) (eqD false) := fun φ ψ H m x y dx dy w Q R hx hy e k => by
  obtain ⟨b, e1, e2⟩ := bnd e
  cases e2
  unfold eqB at e1
  split at e1
  · rename_i a c h1 h2
    split at e1
    · rename_i hs
      cases e1
      rw [sc_rep hx h1, sc_rep hy h2]
      exact .inl ⟨hs, Go.val k R (by rw [Bool.bne_false]; exact .bl _)⟩
    · cases e1
  · split at e1
    · rename_i p q h1 h2
      split at e1
      · rename_i hs
        cases e1
        exact .inr ⟨p, q, hx.dp h1, hy.dp h2, hs.1, hs.2, Go.val k R (by rw [Bool.bne_false]; exact .bl _)⟩
      · cases e1
    · cases e1
theorem ne_s : OpS K tb (rNeA K) (eqD true) := fun φ ψ H m x y dx dy w Q R hx hy e k => by
  obtain ⟨b, e1, e2⟩ := bnd e
  cases e2
  unfold eqB at e1
  split at e1
  · rename_i a c h1 h2
    split at e1
    · rename_i hs
      cases e1
      rw [sc_rep hx h1, sc_rep hy h2]
      exact .inl ⟨hs, Go.val k R (by rw [Bool.bne_true]; exact .bl _)⟩
    · cases e1
  · split at e1
    · rename_i p q h1 h2
      split at e1
      · rename_i hs
        cases e1
        exact .inr ⟨p, q, hx.dp h1, hy.dp h2, hs.1, hs.2, Go.val k R (by rw [Bool.bne_true]; exact .bl _)⟩
      · cases e1
    · cases e1
def ixD : D → D → Option W
  | .tup ds, .int i => (atI ds i).bind fun d => some (.v d)
  | .fl ds, .int i => (atI ds i).bind fun d => some (.v d)
  | .lst ds, .int i => (atI ds i).bind fun d => some (.v d)
  | _, _ => none
theorem Reps.at {φ ψ : List Addr} {H : Hp} {ds : List D} {vs : List V} {i : Int} {d : D} (r : Reps K φ ψ H ds vs) (e : atI ds i = some d) : ∃ v, atI vs i = some v ∧ Rep K φ ψ H d v := by
  unfold atI at e ⊢
  obtain ⟨j, e1, e2⟩ := bnd e
  obtain ⟨v, h1, h2⟩ := r.get e2
  exact ⟨v, by rw [← r.length, e1]; exact h1, h2⟩
abbrev rIxLT (K : FRG) : R2 := fun x y H Q => rIxL K x y H Q ∨ rIxT K x y H Q
theorem ix_lt {X : Cx} : IxR X (rIxLT X.K) := ix_list.or ix_tup
theorem ix_s : OpS K tb (rIxLT K) ixD := fun φ ψ H m x y dx dy w Q R hx hy e k => by
  unfold ixD at e
  split at e
  · obtain ⟨z, e1, e2⟩ := bnd e
    cases e2
    obtain ⟨a, vs, rfl, h, r⟩ := hx.tup
    rw [hy.int]
    obtain ⟨v, h1, h2⟩ := r.at e1
    exact .inr ⟨_, _, _, v, rfl, rfl, h, h1, Go.val k R h2⟩
  · obtain ⟨z, e1, e2⟩ := bnd e
    cases e2
    obtain ⟨a, vs, rfl, h, r⟩ := hx.fl
    rw [hy.int]
    obtain ⟨v, h1, h2⟩ := r.at e1
    exact .inl ⟨_, _, _, v, rfl, rfl, h, h1, Go.val k R h2⟩
  · obtain ⟨z, e1, e2⟩ := bnd e
    cases e2
    obtain ⟨a, vs, rfl, h, r⟩ := hx.lst
    rw [hy.int]
    obtain ⟨v, h1, h2⟩ := r.at e1
    exact .inl ⟨_, _, _, v, rfl, rfl, SqL.of h, h1, Go.val k R h2⟩
  · cases e
theorem ex_ix {X : Cx} {tb : List Addr} {a b : Expr} {fa fb : Ex} {pos : Pos} (ha : PE X a (T X.K tb fa)) (hb : PE X b (T X.K tb fb)) (hs : PlainIx b := by exact fun _ _ => rfl) : PE X (.Subscript a b pos) (T X.K tb (eOp ixD fa fb)) :=
  pe_mono (pe_ix ix_lt ha hb hs) fun _ _ _ h => op_go ix_s h
abbrev Ox := Env → Mem → Option (Option Int × Mem)
def To (K : FRG) (tb : List Addr) (f : Ox) : TO := fun σ H Q => ∃ φ ψ ρ m o m', Rel K tb φ ψ H m ∧ RE K φ ψ H ρ σ ∧ f ρ m = some (o, m') ∧ ∀ φ' H', Post φ ψ H φ' ψ H' → Rel K tb φ' ψ H' m' → Q o H'
def oNone : Ox := fun _ m => some (none, m)
def inD' : D → Option Int
  | .int i => some i
  | _ => none
def oSome (a : Ex) : Ox := fun ρ m => (a ρ m).bind fun p => (gt p.1 p.2).bind fun d => (inD' d).bind fun i => some (some i, p.2)
theorem inD_v {φ ψ : List Addr} {H : Hp} {d : D} {v : V} {i : Int} (h : RepC K φ ψ H d v) (e : inD' d = some i) : v = .int i := by
  unfold inD' at e
  split at e
  · cases e; exact h.int
  · cases e
theorem po_mono {X : Cx} {e : Option Expr} {t t' : TO} (h : PO X e t) (i : ∀ σ H Q, t' σ H Q → t σ H Q) : PO X e t' := ⟨fun pins s σ H Q I q => h.run pins s σ H Q I (i σ H Q q)⟩
theorem ox_none {X : Cx} {tb : List Addr} : PO X none (To X.K tb oNone) := po_mono po_none fun σ H Q ⟨φ, ψ, ρ, m, d, m', R, E, e, k⟩ => by
  cases e; exact k φ H .refl R
theorem ox_some {X : Cx} {tb : List Addr} {a : Expr} {fa : Ex} (ha : PE X a (T X.K tb fa)) : PO X (some a) (To X.K tb (oSome fa)) := by
  refine po_mono (po_some ha) fun σ H Q ⟨φ, ψ, ρ, m, d, m', R, E, e, k⟩ => ?_
  obtain ⟨⟨w1, m1⟩, e1, e⟩ := bnd e
  obtain ⟨d1, e2, e⟩ := bnd e
  obtain ⟨i, e3, e⟩ := bnd e
  cases e
  exact ⟨φ, ψ, ρ, m, w1, _, R, E, e1, fun φ1 ψ1 H1 x P1 R1 V1 => ⟨_, inD_v (gt_c (V1.rel R1) (V1.s R1) e2) e3, k φ1 H1 (V1.post P1) (V1.rel R1)⟩⟩
def cutD (ds : List D) (lo hi : Option Int) : List D := (ds.drop (HT.sIx ds.length 0 lo)).take (HT.sIx ds.length ds.length hi - HT.sIx ds.length 0 lo)
theorem Reps.cut {φ ψ : List Addr} {H : Hp} {ds : List D} {vs : List V} (r : Reps K φ ψ H ds vs) (lo hi : Option Int) : Reps K φ ψ H (cutD ds lo hi) (cutV vs lo hi) := by
  unfold cutD cutV
  rw [r.length]
  exact (r.drop _).take _
def slcD : D → Option Int → Option Int → Option W
  | .lst ds, lo, hi => some (.f (.lst (cutD ds lo hi)))
  | .fl ds, lo, hi => some (.f (.lst (cutD ds lo hi)))
  | .tup ds, lo, hi => some (.v (.tup (cutD ds lo hi)))
  | _, _, _ => none
def eSlc (a : Ex) (lo hi : Ox) : Ex := fun ρ m => (a ρ m).bind fun p => (lo ρ p.2).bind fun l => (hi ρ l.2).bind fun h => (gt p.1 h.2).bind fun d => (slcD d l.1 h.1).bind fun w => some (w, h.2)
abbrev rSlLT (K : FRG) : V → Option Int → Option Int → Hp → VK → Prop := fun x lo hi H Q => rSlL K x lo hi H Q ∨ rSlA K x lo hi H Q
theorem sl_lt {X : Cx} : SlR X (rSlLT X.K) := sl_list.or sl_tupA
theorem cut_whole {ds : List D} {lo hi : Option Int} (h : HT.sIx ds.length 0 lo = 0 ∧ HT.sIx ds.length ds.length hi = ds.length) : cutD ds lo hi = ds := by
  unfold cutD
  rw [h.1, h.2]
  simp
theorem ex_sl {X : Cx} {tb : List Addr} {a : Expr} {lo hi : Option Expr} {fa : Ex} {fl fh : Ox} {pos p2 : Pos} (ha : PE X a (T X.K tb fa)) (hl : PO X lo (To X.K tb fl)) (hh : PO X hi (To X.K tb fh)) : PE X (.Subscript a (.Slice lo hi none p2) pos) (T X.K tb (eSlc fa fl fh)) := by
  refine pe_mono (pe_slice sl_lt ha hl hh) fun σ H Q ⟨φ, ψ, ρ, m, w, m', R, E, e, k⟩ => ?_
  obtain ⟨⟨w1, m1⟩, e1, e⟩ := bnd e
  obtain ⟨⟨o2, m2⟩, e2, e⟩ := bnd e
  obtain ⟨⟨o3, m3⟩, e3, e⟩ := bnd e
  obtain ⟨d, ed, e⟩ := bnd e
  obtain ⟨w2, eg, e⟩ := bnd e
  cases e
  refine ⟨φ, ψ, ρ, m, w1, m1, R, E, e1, fun φ1 ψ1 H1 x P1 R1 V1 => ⟨φ1, ψ, ρ, m1, o2, m2, V1.rel R1, E.mono (V1.post P1) R, e2, fun φ2 H2 P2 R2 => ⟨φ2, ψ, ρ, m2, o3, _, R2, E.mono ((V1.post P1).trans P2) R, e3, fun φ3 H3 P3 R3 => ?_⟩⟩⟩
  have P := (V1.post P1).trans (P2.trans P3)
  have C := gt_c R3 ((V1.s R1).mono (P2.trans P3) (V1.rel R1)) ed
  have k' : Go X.K tb φ3 ψ H3 _ w Q := fun φ4 ψ4 H4 v P4 R4 V4 => k φ4 ψ4 H4 v (P.trans P4) R4 V4
  have e' : slcD d o2 o3 = some w := eg
  unfold slcD at e'
  split at e'
  · cases e'
    obtain ⟨q, vs, rfl, hq, r⟩ := C.lst
    exact .inl ⟨q, vs, rfl, SqL.of hq, fun p hp => Go.lst k' R3 (r.cut _ _) hp⟩
  · cases e'
    obtain ⟨q, vs, rfl, hq, r⟩ := C.fl
    exact .inl ⟨q, vs, rfl, hq, fun p hp => Go.lst k' R3 (r.cut _ _) hp⟩
  · cases e'
    obtain ⟨q, vs, rfl, hq, r⟩ := C.tupN
    refine .inr ⟨_, _, rfl, hq.1, fun z => ?_, fun z p hp => Go.tup k' R3 (r.cut _ _) hp⟩
    rw [← r.length] at z
    rw [cut_whole z] at k'
    exact Go.val k' R3 (.tup hq r)
  · cases e'
end
end Pw
end
section
set_option Elab.async false
set_option linter.all false
set_option maxRecDepth 100000
set_option maxHeartbeats 1000000
namespace Pw
open PySem PySem.Spec PyProof.Rows L2
def ownW : W → Mem → Option (W × Mem)
  | .f d, m => (dMO d).bind fun mo => some (.r m.length, m ++ [mo])
  | .r n, m => some (.r n, m)
  | .v _, _ => none
def eOwn (a : Ex) : Ex := fun ρ m => (a ρ m).bind fun p => ownW p.1 p.2
theorem own_go {K : FRG} {tb : List Addr} {f : Ex} {σ : L2.St} {H : Hp} {Q : VK} (h : T K tb (eOwn f) σ H Q) : T K tb f σ H Q := by
  obtain ⟨φ, ψ, ρ, m, w, m', R, E, e, k⟩ := h
  obtain ⟨⟨w1, m1⟩, e1, e⟩ := bnd e
  refine ⟨φ, ψ, ρ, m, w1, m1, R, E, e1, fun φ1 ψ1 H1 v P1 R1 V1 => ?_⟩
  cases w1 with
  | v d => cases e
  | r n => cases e; exact k φ1 ψ1 H1 v P1 R1 V1
  | f d =>
    obtain ⟨mo, e2, e⟩ := bnd (show (dMO d).bind _ = _ from e)
    cases e
    obtain ⟨p, mo', rfl, rfl, np, rfl, q⟩ := V1
    have : mo' = mo := by cases mo' <;> cases e2 <;> rfl
    subst this
    exact k (φ1 ++ [p]) ψ H1 _ (P1.own np) (R1.own np q) ⟨rfl, p, by rw [← R1.len]; simp, rfl⟩
theorem ex_own {X : Cx} {tb : List Addr} {a : Expr} {fa : Ex} (h : PE X a (T X.K tb fa)) : PE X a (T X.K tb (eOwn fa)) := pe_mono h fun _ _ _ => own_go
def sNil : Sx := fun ρ m => some (.nx, ρ, m)
def sSeq (a b : Sx) : Sx := fun ρ m => (a ρ m).bind fun r => match r.1 with
  | .nx => b r.2.1 r.2.2
  | o => some (o, r.2.1, r.2.2)
def sRet (a : Ex) : Sx := fun ρ m => (a ρ m).bind fun p => some (.ret p.1, ρ, p.2)
def sDrop (a : Ex) : Sx := fun ρ m => (a ρ m).bind fun p => some (.nx, ρ, p.2)
def sIf (t : Tx) (a b : Sx) : Sx := fun ρ m => (t ρ m).bind fun p => if p.1 = true then a ρ p.2 else b ρ p.2
def sSet (i : Nat) (a : Ex) : Sx := fun ρ m => (a ρ m).bind fun p => some (.nx, ρ.set i (some (stl p.1)), p.2)
def sFog (vs : List Nat) (a : Sx) : Sx := fun ρ m => (a ρ m).bind fun r => some (r.1, wipeD r.2.1 vs, r.2.2)
def vl : W → Option D
  | .v d => some d
  | .f d => some d
  | .r _ => none
theorem vl_rep {K : FRG} {φ ψ : List Addr} {H : Hp} {w : W} {v : V} {d : D} (h : RepS K φ ψ H w v) (e : vl w = some d) : Rep K φ ψ H d v := by
  cases w <;> first | (cases e; exact h) | (cases e)
def putD : W → D → D → Mem → Option Mem
  | .r n, .int i, d, m => match m[n]? with
    | some (.lst ds) => (ixN ds.length i).map fun j => m.set n (.lst (ds.set j d))
    | _ => none
  | _, _, _, _ => none
def sPut (o i a : Ex) : Sx := fun ρ m => (a ρ m).bind fun p => (o ρ p.2).bind fun q => (i ρ q.2).bind fun r => (vl p.1).bind fun d => (gt r.1 r.2).bind fun i => (putD q.1 i d r.2).bind fun m' => some (.nx, ρ, m')
section
variable {X : Cx} {tb : List Addr} {a b c : Expr} {fa fb fc : Ex} {ft : Tx} {st : Stmt} {rest rest' : List Stmt} {g h : Sx} {pos : Pos}
theorem bs_nil : PSs X [] (Ts X.K tb sNil) := pss_mono pss_nil fun D σ H ⟨φ, ψ, ρ, m, o, ρ', m', R, E, e, k⟩ => by
  cases e; exact k φ ψ H .refl R rfl σ E
theorem bs_cons (h1 : PS X st (Ts X.K tb g)) (h2 : PSs X rest (Ts X.K tb h)) : PSs X (st :: rest) (Ts X.K tb (sSeq g h)) := by
  refine pss_mono (pss_cons h1 h2) fun D σ H ⟨φ, ψ, ρ, m, o, ρ', m', R, E, e, k⟩ => ?_
  obtain ⟨⟨o1, ρ1, m1⟩, e1, e⟩ := bnd e
  refine ⟨φ, ψ, ρ, m, o1, ρ1, m1, R, E, e1, fun φ1 ψ1 H1 P1 R1 => ?_⟩
  cases o1 with
  | nx =>
    intro z σ1 E1
    subst z
    exact ⟨φ1, _, ρ1, m1, o, ρ', m', R1, E1, e, fun φ2 ψ2 H2 P2 R2 => k φ2 ψ2 H2 (P1.trans P2) R2⟩
  | bk => cases e; exact k φ1 ψ1 H1 P1 R1
  | ct => cases e; exact k φ1 ψ1 H1 P1 R1
  | ret d => cases e; exact k φ1 ψ1 H1 P1 R1
theorem bs_one (h1 : PS X st (Ts X.K tb g)) : PSs X [st] (Ts X.K tb g) := pss_one h1
theorem bs_fog (vs : List Nat) (h1 : PS X st (Ts X.K tb g)) : PS X st (Ts X.K tb (sFog vs g)) := by
  refine ps_mono h1 fun D σ H ⟨φ, ψ, ρ, m, o, ρ', m', R, E, e, k⟩ => ?_
  obtain ⟨⟨o1, ρ1, m1⟩, e1, e⟩ := bnd e
  cases e
  refine ⟨φ, ψ, ρ, m, o1, ρ1, _, R, E, e1, fun φ1 ψ1 H1 P1 R1 => ?_⟩
  have q := k φ1 ψ1 H1 P1 R1
  cases o1 with
  | nx => exact fun z σ1 E1 => q z σ1 (E1.fog vs)
  | bk => exact fun z σ1 E1 => q z σ1 (E1.fog vs)
  | ct => exact fun z σ1 E1 => q z σ1 (E1.fog vs)
  | ret d => exact q
theorem bs_ret (ha : PE X a (T X.K tb fa)) : PS X (.Return (some a) pos) (Ts X.K tb (sRet fa)) := by
  refine ps_mono (ps_ret ha) fun D σ H ⟨φ, ψ, ρ, m, o, ρ', m', R, E, e, k⟩ => ?_
  obtain ⟨⟨d1, m1⟩, e1, e⟩ := bnd e
  cases e
  exact ⟨φ, ψ, ρ, m, d1, _, R, E, e1, fun φ1 ψ1 H1 v P1 R1 V1 => k φ1 ψ1 H1 P1 R1 v V1⟩
theorem bs_drop (ha : PE X a (T X.K tb fa)) (hs : swapsWith a none pos.line X.env = pure false := by rfl) : PS X (.Expr a pos) (Ts X.K tb (sDrop fa)) := by
  refine ps_mono (ps_expr ha hs) fun D σ H ⟨φ, ψ, ρ, m, o, ρ', m', R, E, e, k⟩ => ?_
  obtain ⟨⟨d1, m1⟩, e1, e⟩ := bnd e
  cases e
  exact ⟨φ, ψ, ρ, m, d1, _, R, E, e1, fun φ1 ψ1 H1 v P1 R1 V1 => k φ1 ψ H1 (V1.post P1) (V1.rel R1) rfl σ (E.mono (V1.post P1) R)⟩
theorem bs_if (hc : PT X c (Tt X.K tb ft)) (h1 : PSs X rest (Ts X.K tb g)) (h2 : PSs X rest' (Ts X.K tb h)) : PS X (.If c rest rest' pos) (Ts X.K tb (sIf ft g h)) := by
  refine ps_mono (ps_if hc h1 h2) fun D σ H ⟨φ, ψ, ρ, m, o, ρ', m', R, E, e, k⟩ => ?_
  obtain ⟨⟨b1, m1⟩, e1, e⟩ := bnd e
  refine ⟨φ, ψ, ρ, m, b1, m1, R, E, e1, fun φ1 H1 P1 R1 => ?_⟩
  cases b1 with
  | true => exact iteT ⟨φ1, ψ, ρ, m1, o, ρ', m', R1, E.mono P1 R, e, fun φ2 ψ2 H2 P2 R2 => k φ2 ψ2 H2 (P1.trans P2) R2⟩
  | false => exact iteF ⟨φ1, ψ, ρ, m1, o, ρ', m', R1, E.mono P1 R, e, fun φ2 ψ2 H2 P2 R2 => k φ2 ψ2 H2 (P1.trans P2) R2⟩
theorem set_go {i : Nat} {D : Ends} {σ : L2.St} {H : Hp} (h : Ts X.K tb (sSet i fa) D σ H) : tAsg (T X.K tb fa) (gName i) D σ H := by
  obtain ⟨φ, ψ, ρ, m, o, ρ', m', R, E, e, k⟩ := h
  obtain ⟨⟨d1, m1⟩, e1, e⟩ := bnd e
  cases e
  exact ⟨φ, ψ, ρ, m, d1, _, R, E, e1, fun φ1 ψ1 H1 v P1 R1 V1 => k φ1 ψ H1 (V1.post P1) (V1.rel R1) rfl _ ((E.mono (V1.post P1) R).set i (V1.s R1).stl)⟩
theorem bs_set (i : Nat) {x : Str} {pos' : Pos} (hN : X.N.Nodup) (ha : PE X a (T X.K tb fa)) (hi : X.N[i]? = some x := by rfl) (hx : Loc X.env.scope x := by first | exact Or.inl rfl | exact Or.inr rfl) (hs : swapsWith a (some (.Name x pos')) pos.line X.env = pure false := by rfl)
    (hf : X.fn x = true ∨ X.env.scope.names.lookup x = some .local := by first | exact .inl rfl | exact .inr rfl | assumption) : PS X (.Assign [.Name x pos'] a pos) (Ts X.K tb (sSet i fa)) :=
  ps_mono (ps_set hN hi hx ha hs hf) fun _ _ _ h => set_go h
theorem bs_put {o i : Expr} {fo fi : Ex} {tpos : Pos} (ho : PE X o (T X.K tb fo)) (hi : PE X i (T X.K tb fi)) (ha : PE X a (T X.K tb fa))
    (hss : ∀ v, assign (.Subscript o i tpos) X.env v = (do
      let ov ← holding [v] (eval o X.env)
      let iv ← holding [v, ov] (eval i X.env)
      standAt tpos
      holding [v, ov, iv] (setItem ov iv v)
      release [v, ov, iv] []) := by intro _; rfl)
    (hs : swapsWithSole [.Subscript o i tpos] a pos.line X.env = pure false := by rfl) (hw : swappedStores [.Subscript o i tpos] a X.env = pure none := by rfl)
    (h1 : (assignEach [.Subscript o i tpos] X.env).map (·.2) = [assign (.Subscript o i tpos) X.env] := by rfl) : PS X (.Assign [.Subscript o i tpos] a pos) (Ts X.K tb (sPut fo fi fa)) := by
  refine ps_mono (ps_asg ha (pg_sub ho hi set_list hss) hs hw h1) fun D σ H ⟨φ, ψ, ρ, m, o', ρ', m', R, E, e, k⟩ => ?_
  obtain ⟨⟨w1, m1⟩, e1, e⟩ := bnd e
  obtain ⟨⟨w2, m2⟩, e2, e⟩ := bnd e
  obtain ⟨⟨w3, m3⟩, e3, e⟩ := bnd e
  obtain ⟨d1, ev, e⟩ := bnd e
  obtain ⟨d3, eg, e⟩ := bnd e
  obtain ⟨m4, e4, e⟩ := bnd e
  cases e
  refine ⟨φ, ψ, ρ, m, w1, m1, R, E, e1, fun φ1 ψ1 H1 v P1 R1 V1 => ⟨φ1, ψ, ρ, m1, w2, m2, V1.rel R1, E.mono (V1.post P1) R, e2, fun φ2 ψ2 H2 x P2 R2 V2 => ⟨φ2, ψ, ρ, m2, w3, m3, V2.rel R2, E.mono ((V1.post P1).trans (V2.post P2)) R, e3, fun φ3 ψ3 H3 y P3 R3 V3 => ?_⟩⟩⟩
  have R3' := V3.rel R3
  have P3' := V3.post P3
  have e4' : putD w2 d3 d1 m3 = some m' := e4
  have P123 := (V1.post P1).trans ((V2.post P2).trans P3')
  unfold putD at e4'
  split at e4'
  · rename_i n i _ _
    split at e4'
    · rename_i hm
      obtain ⟨j, hj, rfl⟩ := Option.map_eq_some_iff.mp e4'
      have hy := (gt_c R3' (V3.s R3) eg).int
      subst hy
      obtain ⟨q, h1, rfl⟩ := (V2.s R2).mono P3' (V2.rel R2)
      obtain ⟨vs, hq, r⟩ := R3'.obj _ _ q hm h1
      have V1' := (vl_rep (V1.s R1) ev).mono ((V2.post P2).trans P3') (V1.rel R1)
      have hmem := List.mem_of_getElem? h1
      have Pw : Post φ3 ψ H3 φ3 ψ _ := Post.wr (o := .lst (vs.set j v)) hmem (R3'.trk hmem)
      refine ⟨q, vs, _, j, rfl, rfl, hq, by rw [← r.length]; exact hj, ?_⟩
      have P := P123.trans Pw
      exact k φ3 ψ _ P (R3'.wrL h1 (r.set V1' j)) rfl σ (E.mono P R)
    · cases e4'
  · cases e4'
end
inductive Itm where
  | seq (ds : List D)
  | lst (n : Nat)
  | zip (a b : Itm)
def itemsAt : Itm → Mem → Option (List D)
  | .seq ds, _ => some ds
  | .lst n, m => match m[n]? with
    | some (.lst ds) => some ds
    | _ => none
  | .zip a b, m => (itemsAt a m).bind fun xs => (itemsAt b m).bind fun ys => some (List.zipWith (fun x y => D.tup [x, y]) xs ys)
abbrev Ix := Env → Mem → Option (Itm × Mem)
def ItR (K : FRG) (tb : List Addr) (φ' ψ : List Addr) (H' : Hp) (J : It) (it : Itm) : Prop := ∀ φ2 ψ2 H2 m2 xs, Post φ' ψ H' φ2 ψ2 H2 → Rel K tb φ2 ψ2 H2 m2 → itemsAt it m2 = some xs →
  (∀ (i : Nat) (d : D), xs[i]? = some d → J.go i H2 ∧ ∀ x H3, J.yld i H2 x H3 → Post φ2 ψ2 H2 φ2 ψ2 H3 ∧ Rel K tb φ2 ψ2 H3 m2 ∧ Rep K φ2 ψ2 H3 d x ∧ (∀ b o, H2 b = some o → H3 b = some o)) ∧ ∀ i, xs.length ≤ i → J.stop i H2
def Ti (K : FRG) (tb : List Addr) (f : Ix) : TI := fun σ H Q => ∃ φ ψ ρ m it m', Rel K tb φ ψ H m ∧ RE K φ ψ H ρ σ ∧ f ρ m = some (it, m') ∧ ∀ φ' H' J, Post φ ψ H φ' ψ H' → Rel K tb φ' ψ H' m' → ItR K tb φ' ψ H' J it → Q J H'
theorem pi_mono {X : Cx} {tg e : Expr} {t t' : TI} (h : PI X tg e t) (i : ∀ σ H Q, t' σ H Q → t σ H Q) : PI X tg e t' := ⟨fun pins s σ H Q I q => h.run pins s σ H Q I (i σ H Q q)⟩
theorem pi_or {X : Cx} {tg e : Expr} {t t' : TI} (h : PI X tg e t) (h' : PI X tg e t') : PI X tg e (fun σ H Q => t σ H Q ∨ t' σ H Q) := ⟨fun pins s σ H Q I q => q.elim (h.run pins s σ H Q I) (h'.run pins s σ H Q I)⟩
def srcV : D → Option Itm
  | .tup ds => some (.seq ds)
  | .fl ds => some (.seq ds)
  | .lst ds => some (.seq ds)
  | _ => none
def srcW : W → Mem → Option Itm
  | .v d, _ => srcV d
  | .f d, _ => srcV d
  | .r n, m => match m[n]? with
    | some (.lst _) => some (.lst n)
    | _ => none
def iSeq (a : Ex) : Ix := fun ρ m => (a ρ m).bind fun p => (srcW p.1 p.2).bind fun it => some (it, p.2)
theorem Rep.is {K : FRG} {φ ψ : List Addr} {H : Hp} {d : D} {v w : V} (h : Rep K φ ψ H d v) (e : v = w) : Rep K φ ψ H d w := e ▸ h
theorem ix_seq' {X : Cx} {tb : List Addr} {tg a : Expr} {fa : Ex} (ha : PE X a (T X.K tb fa)) : PI X tg a (Ti X.K tb (iSeq fa)) := by
  refine pi_mono (pi_or (pi_list ha) (pi_tup ha)) fun σ H Q ⟨φ, ψ, ρ, m, it, m', R, E, e, k⟩ => ?_
  obtain ⟨⟨w1, m1⟩, e1, e⟩ := bnd e
  obtain ⟨it', e2, e⟩ := bnd e
  obtain ⟨rfl, rfl⟩ : it' = it ∧ m1 = m' := by cases e; exact ⟨rfl, rfl⟩
  have e2' : srcW w1 m1 = some it' := e2
  have val : ∀ d, vl w1 = some d → srcV d = some it' → iList X.K (T X.K tb fa) σ H Q ∨ iTup X.K (T X.K tb fa) σ H Q := fun d hv hs => by
    unfold srcV at hs
    split at hs
    · cases hs
      refine .inr ⟨φ, ψ, ρ, m, _, m1, R, E, e1, fun φ1 ψ1 H1 v P1 R1 V1 => ?_⟩
      have R1' := V1.rel R1
      cases vl_rep (V1.s R1) hv with
      | tup h r =>
        refine ⟨_, rfl, ⟨_, h.1⟩, k φ1 H1 _ (V1.post P1) R1' fun φ2 ψ2 H2 m2 xs P2 R2 ex => ?_⟩
        cases ex
        have h2 := P2.sqT R1' h.1
        have r2 := r.mono P2 R1'
        refine ⟨fun i d hd => ?_, fun i hi => ⟨_, h2, by rw [← r2.length]; exact hi⟩⟩
        obtain ⟨w, hw, rw⟩ := r2.get hd
        refine ⟨⟨_, w, h2, hw⟩, fun x H3 hy => ?_⟩
        obtain ⟨rfl, hy⟩ := hy
        exact ⟨.refl, R2, rw.is (Option.some.inj (hw.symm.trans (hy _ h2))), fun _ _ z => z⟩
    · cases hs
      refine .inl ⟨φ, ψ, ρ, m, _, m1, R, E, e1, fun φ1 ψ1 H1 v P1 R1 V1 => ?_⟩
      have R1' := V1.rel R1
      cases vl_rep (V1.s R1) hv with
      | fl h r =>
        refine ⟨_, rfl, ⟨_, h.sq⟩, k φ1 H1 _ (V1.post P1) R1' fun φ2 ψ2 H2 m2 xs P2 R2 ex => ?_⟩
        cases ex
        have h2 := (P2.fz R1' h).sq
        have r2 := r.mono P2 R1'
        refine ⟨fun i d hd => ?_, fun i hi => ⟨_, h2, by rw [← r2.length]; exact hi⟩⟩
        obtain ⟨w, hw, rw⟩ := r2.get hd
        refine ⟨⟨_, w, h2, hw⟩, fun x H3 hy => ?_⟩
        obtain ⟨rfl, hy⟩ := hy
        exact ⟨.refl, R2, rw.is (Option.some.inj (hw.symm.trans (hy _ h2))), fun _ _ z => z⟩
    · cases hs
      refine .inl ⟨φ, ψ, ρ, m, _, m1, R, E, e1, fun φ1 ψ1 H1 v P1 R1 V1 => ?_⟩
      have R1' := V1.rel R1
      cases vl_rep (V1.s R1) hv with
      | lst g1 g2 h r =>
        refine ⟨_, rfl, ⟨_, SqL.of h⟩, k φ1 H1 _ (V1.post P1) R1' fun φ2 ψ2 H2 m2 xs P2 R2 ex => ?_⟩
        cases ex
        have h2 : SqL X.K H2 _ _ := SqL.of (P2.off g1 g2 h (fun _ z => nomatch z) fun _ z => nomatch z).2.2
        have r2 := r.mono P2 R1'
        refine ⟨fun i d hd => ?_, fun i hi => ⟨_, h2, by rw [← r2.length]; exact hi⟩⟩
        obtain ⟨w, hw, rw⟩ := r2.get hd
        refine ⟨⟨_, w, h2, hw⟩, fun x H3 hy => ?_⟩
        obtain ⟨rfl, hy⟩ := hy
        exact ⟨.refl, R2, rw.is (Option.some.inj (hw.symm.trans (hy _ h2))), fun _ _ z => z⟩
    · cases hs
  cases w1 with
  | v d => exact val d rfl e2'
  | f d => exact val d rfl e2'
  | r n =>
    unfold srcW at e2'
    simp only at e2'
    split at e2'
    · rename_i ds0 hm
      cases e2'
      refine .inl ⟨φ, ψ, ρ, m, _, m1, R, E, e1, fun φ1 ψ1 H1 v P1 R1 V1 => ?_⟩
      have R1' := V1.rel R1
      obtain ⟨q, h1, rfl⟩ := V1.s R1
      obtain ⟨vs, hq, r⟩ := R1'.obj n _ q hm h1
      refine ⟨q, rfl, ⟨_, SqL.of hq⟩, k φ1 H1 _ (V1.post P1) R1' fun φ2 ψ2 H2 m2 xs P2 R2 ex => ?_⟩
      have hm2 : m2[n]? = some (.lst xs) := by
        unfold itemsAt at ex
        split at ex
        · rename_i h9
          cases ex
          exact h9
        · cases ex
      obtain ⟨vs2, hq2, r2⟩ := R2.obj n _ q hm2 (pre_get P2.pre h1)
      have h2 : SqL X.K H2 q vs2 := SqL.of hq2
      refine ⟨fun i d hd => ?_, fun i hi => ⟨_, h2, by rw [← r2.length]; exact hi⟩⟩
      obtain ⟨w, hw, rw⟩ := r2.get hd
      refine ⟨⟨_, w, h2, hw⟩, fun x H3 hy => ?_⟩
      obtain ⟨rfl, hy⟩ := hy
      exact ⟨.refl, R2, rw.is (Option.some.inj (hw.symm.trans (hy _ h2))), fun _ _ z => z⟩
    · cases e2'
def rngD (lo : Int) (n : Nat) : List D := (List.range n).map fun (i : Nat) => D.int (lo + (i : Int))
def rngA : List D → Option (List D)
  | [.int j] => if -1000000000 ≤ j ∧ j ≤ 1000000000 then some (rngD 0 j.toNat) else none
  | _ => none
def iRngA (a : Ax) : Ix := fun ρ m => (a ρ m).bind fun p => (gts p.1 p.2).bind fun ds => (rngA ds).bind fun xs => some (.seq xs, p.2)
theorem itr_r {K : FRG} {tb φ ψ : List Addr} {H : Hp} {lo : Int} {n : Nat} : ItR K tb φ ψ H (Itr lo n) (.seq (rngD lo n)) := fun φ2 ψ2 H2 m2 xs P2 R2 ex => by
  cases ex
  have hl : (rngD lo n).length = n := by simp [rngD]
  refine ⟨fun i d hd => ?_, fun i hi => by rw [hl] at hi; exact hi⟩
  have hi : i < n := by rw [← hl]; exact (List.getElem?_eq_some_iff.mp hd).1
  refine ⟨hi, fun x H3 hy => ?_⟩
  obtain ⟨rfl, rfl⟩ := hy
  have e : (rngD lo n)[i]? = some (.int (lo + i)) := by simp [rngD, hi]
  rw [e] at hd
  cases hd
  exact ⟨.refl, R2, .int _, fun _ _ z => z⟩
theorem ix_rng1 {X : Cx} {tb : List Addr} {tg a : Expr} {f : Ax} {p pos : Pos} (hg : Gl X "range") (hm : X.mg "range" = none) (ha : PA X [a] (Ta X.K tb f)) (hs : starEach [a] X.env = [(false, eval a X.env)] := by rfl) : PI X tg (.Call (.Name "range" p) [a] [] pos) (Ti X.K tb (iRngA f)) := by
  refine pi_mono (pi_range1 hg hm ha hs) fun σ H Q ⟨φ, ψ, ρ, m, it, m', R, E, e, k⟩ => ?_
  obtain ⟨⟨ws, m1⟩, e1, e⟩ := bnd e
  obtain ⟨ds, e2, e⟩ := bnd e
  obtain ⟨xs, e3, e⟩ := bnd e
  cases e
  refine ⟨φ, ψ, ρ, m, ws, _, R, E, e1, fun φ1 H1 vs P1 R1 V1 => ?_⟩
  have C := gts_c R1 V1 e2
  have e3' : rngA ds = some xs := e3
  unfold rngA at e3'
  split at e3'
  · rename_i j
    split at e3'
    · rename_i hb
      cases e3'
      cases C with
      | cons h1 r1 =>
        cases r1
        rw [h1.int]
        exact ⟨j, rfl, by omega, by omega, k φ1 H1 _ P1 R1 itr_r⟩
    · cases e3'
  · cases e3'
abbrev Gx := D → Env → Option Env
def gN (i : Nat) : Gx := fun d ρ => some (ρ.set i (some (.v d)))
def gL : List Gx → List D → Env → Option Env
  | [], [], ρ => some ρ
  | g :: gs, d :: ds, ρ => (g d ρ).bind fun ρ1 => gL gs ds ρ1
  | _, _, _ => none
def gT (gs : List Gx) : Gx := fun d ρ => match d with
  | .tup ds => gL gs ds ρ
  | _ => none
def TgS (K : FRG) (tb : List Addr) (g : TG) (t : Gx) : Prop := ∀ φ ψ H m ρ σ d v ρ' (Q : L2.St → Hp → Prop), Rel K tb φ ψ H m → RE K φ ψ H ρ σ → Rep K φ ψ H d v → t d ρ = some ρ' → (∀ σ', RE K φ ψ H ρ' σ' → Q σ' H) → g v σ H Q
def TgsS (K : FRG) (tb : List Addr) (g : TGs) (t : List Gx) : Prop := ∀ φ ψ H m ρ σ ds vs ρ' (Q : L2.St → Hp → Prop), Rel K tb φ ψ H m → RE K φ ψ H ρ σ → Reps K φ ψ H ds vs → gL t ds ρ = some ρ' → (∀ σ', RE K φ ψ H ρ' σ' → Q σ' H) → g vs σ H Q
def TgW (g : TG) (vs : List Nat) : Prop := ∀ v σ H (Q : L2.St → Hp → Prop), g v σ H Q → g v σ H fun σ2 H2 => wipe σ2 vs = wipe σ vs ∧ Q σ2 H2
theorem wipe_set {σ : L2.St} {x : Option V} : ∀ {vs : List Nat} {i : Nat}, i ∈ vs → wipe (σ.set i x) vs = wipe σ vs
  | [], i, h => by simp at h
  | w :: ws, i, h => by
    unfold wipe
    by_cases hi : i ∈ ws
    · rw [wipe_set hi]
    · have e : i = w := by
        rcases List.mem_cons.mp h with z | z
        · exact z
        · exact absurd z hi
      subst e
      have comm : ∀ (ws : List Nat) (τ : L2.St), i ∉ ws → wipe (τ.set i x) ws = (wipe τ ws).set i x := by
        intro ws
        induction ws with
        | nil => intro τ _; rfl
        | cons u us ih =>
          intro τ hn
          unfold wipe
          rw [ih τ fun z => hn (List.mem_cons_of_mem _ z), List.set_comm _ _ fun z => hn (by rw [z]; exact List.mem_cons_self)]
      rw [comm ws σ hi]
      simp
theorem wipe_wipe {σ : L2.St} (vs : List Nat) : wipe (wipe σ vs) vs = wipe σ vs := by
  have gen : ∀ (ws : List Nat), (∀ i ∈ ws, i ∈ vs) → wipe (wipe σ ws) vs = wipe σ vs := by
    intro ws
    induction ws with
    | nil => intro _; rfl
    | cons u us ih =>
      intro h
      show wipe ((wipe σ us).set u none) vs = _
      rw [wipe_set (h u List.mem_cons_self)]
      exact ih fun i hi => h i (List.mem_cons_of_mem _ hi)
  exact gen vs fun _ h => h
theorem tg_name {K : FRG} {tb : List Addr} (i : Nat) : TgS K tb (gName i) (gN i) := fun φ ψ H m ρ σ d v ρ' Q R E V e k => by
  cases e; exact k _ (E.set i V)
theorem tw_name (i : Nat) {vs : List Nat} (h : i ∈ vs) : TgW (gName i) vs := fun v σ H Q q => ⟨wipe_set h, q⟩
theorem tgs_nil {K : FRG} {tb : List Addr} : TgsS K tb gNil [] := fun φ ψ H m ρ σ ds vs ρ' Q R E V e k => by
  cases V with
  | nil => cases e; exact ⟨rfl, k _ E⟩
  | cons h r => cases e
theorem tgs_cons {K : FRG} {tb : List Addr} {g : TG} {gs : TGs} {t : Gx} {ts : List Gx} (h1 : TgS K tb g t) (h2 : TgsS K tb gs ts) : TgsS K tb (gCons g gs) (t :: ts) := fun φ ψ H m ρ σ ds vs ρ' Q R E V e k => by
  cases V with
  | nil => cases e
  | cons h r =>
    obtain ⟨ρ1, e1, e2⟩ := bnd (show (t _ ρ).bind (fun ρ1 => gL ts _ ρ1) = some ρ' from e)
    refine ⟨_, _, rfl, h1 φ ψ H m ρ σ _ _ ρ1 _ R E h e1 fun σ1 E1 => ?_⟩
    exact h2 φ ψ H m ρ1 σ1 _ _ ρ' Q R E1 r e2 k
theorem gL_len : ∀ {ts : List Gx} {ds : List D} {ρ ρ' : Env}, gL ts ds ρ = some ρ' → ds.length = ts.length
  | [], [], _, _, _ => rfl
  | [], _ :: _, _, _, h => by cases h
  | _ :: _, [], _, _, h => by cases h
  | t :: ts, d :: ds, ρ, ρ', h => by
    obtain ⟨ρ1, e1, e2⟩ := bnd (show (t d ρ).bind (fun ρ1 => gL ts ds ρ1) = some ρ' from h)
    simp [gL_len e2]
theorem tg_tup {K : FRG} {tb : List Addr} {gs : TGs} {ts : List Gx} {n : Nat} (hn : ts.length = n) (h : TgsS K tb gs ts) : TgS K tb (gTup K n gs) (gT ts) := fun φ ψ H m ρ σ d v ρ' Q R E V e k => by
  cases V with
  | tup hq r => exact ⟨_, _, rfl, hq.1, by rw [← r.length, gL_len e]; exact hn, h φ ψ H m ρ σ _ _ ρ' Q R E r e k⟩
  | _ => cases e
def sAsg (t : Gx) (a : Ex) : Sx := fun ρ m => (a ρ m).bind fun p => (vl p.1).bind fun d => (t d ρ).bind fun ρ' => some (.nx, ρ', p.2)
theorem bs_asg {X : Cx} {tb : List Addr} {tg a : Expr} {fa : Ex} {g : TG} {t : Gx} {pos : Pos} (ht : TgS X.K tb g t) (ha : PE X a (T X.K tb fa)) (hg : PG X tg g) (hs : swapsWithSole [tg] a pos.line X.env = pure false := by rfl) (hw : swappedStores [tg] a X.env = pure none := by rfl)
    (h1 : (assignEach [tg] X.env).map (·.2) = [assign tg X.env] := by rfl) : PS X (.Assign [tg] a pos) (Ts X.K tb (sAsg t fa)) := by
  refine ps_mono (ps_asg ha hg hs hw h1) fun D σ H ⟨φ, ψ, ρ, m, o, ρ', m', R, E, e, k⟩ => ?_
  obtain ⟨⟨d1, m1⟩, e1, e⟩ := bnd e
  obtain ⟨d, ev, e⟩ := bnd e
  obtain ⟨ρ1, e2, e⟩ := bnd e
  cases e
  exact ⟨φ, ψ, ρ, m, d1, _, R, E, e1, fun φ1 ψ1 H1 v P1 R1 V1 => ht φ1 ψ H1 _ ρ σ d v _ _ (V1.rel R1) (E.mono (V1.post P1) R) (vl_rep (V1.s R1) ev) e2 fun σ' E' => k φ1 ψ H1 (V1.post P1) (V1.rel R1) rfl σ' E'⟩
open Classical in
noncomputable def forL (it : Itm) (xs : List D) (t : Gx) (b : Sx) (dd : List Nat) : List D → Sx
  | [], ρ, m => if itemsAt it m = some xs then some (.nx, ρ, m) else none
  | d :: ds, ρ, m => if itemsAt it m = some xs then (t d ρ).bind fun ρ1 => (b ρ1 m).bind fun r => match r.1 with
      | .nx => forL it xs t b dd ds (wipeD r.2.1 dd) r.2.2
      | .ct => forL it xs t b dd ds (wipeD r.2.1 dd) r.2.2
      | .bk => some (.nx, wipeD r.2.1 dd, r.2.2)
      | .ret d => some (.ret d, r.2.1, r.2.2)
    else none
noncomputable def sFor (src : Ix) (t : Gx) (b : Sx) (dd : List Nat) : Sx := fun ρ m => (src ρ m).bind fun p => (itemsAt p.1 p.2).bind fun xs => forL p.1 xs t b dd xs ρ p.2
theorem bs_for {X : Cx} {tb : List Addr} {tg iter : Expr} {body : List Stmt} {src : Ix} {g : TG} {t : Gx} {b : Sx} {dd : List Nat} {pos : Pos} (hc : X.calm = true) (ht : TgS X.K tb g t) (hp : PassesOwn (model X.prog X.w) X.A X.env X.xe) (hi : PI X tg iter (Ti X.K tb src)) (hg : PG X tg g) (hb : PSs X body (Ts X.K tb b))
    (hs : ∀ x, foldedSetIterable iter X.env x = pure x := by intro _; rfl) : PS X (.For tg iter body [] pos) (Ts X.K tb (sFor src t b dd)) := by
  refine ps_mono (ps_for hp hc hi hg hb hs) fun D σ H ⟨φ, ψ, ρ, m, o, ρF, mF, R, E, e, k⟩ => ?_
  obtain ⟨⟨it, m1⟩, e1, e⟩ := bnd e
  obtain ⟨xs, e2, e⟩ := bnd e
  refine ⟨φ, ψ, ρ, m, it, m1, R, E, e1, fun φ1 H1 J P1 R1 IR => ?_⟩
  refine ⟨fun i n σ2 H2 => n = xs.length - i ∧ i ≤ xs.length ∧ ∃ φ2 ρ2 m2, Post φ1 ψ H1 φ2 ψ H2 ∧ Rel X.K tb φ2 ψ H2 m2 ∧ RE X.K φ2 ψ H2 ρ2 σ2 ∧ forL it xs t b dd (xs.drop i) ρ2 m2 = some (o, ρF, mF),
    ⟨xs.length, by simp, Nat.zero_le _, φ1, ρ, m1, .refl, R1, E.mono P1 R, by simpa using e⟩, ?_⟩
  rintro i n σ2 H2 ⟨rfl, hi2, φ2, ρ2, m2, P2, R2, E2, ef⟩
  by_cases hlt : i < xs.length
  · rw [List.drop_eq_getElem_cons hlt] at ef
    unfold forL at ef
    split at ef
    · rename_i hx
      obtain ⟨ρ3, e3, ef⟩ := bnd ef
      obtain ⟨⟨o4, ρ4, m4⟩, e4, ef⟩ := bnd ef
      obtain ⟨hgo, hy⟩ := (IR φ2 ψ H2 m2 xs P2 R2 hx).1 i xs[i] (List.getElem?_eq_getElem hlt)
      refine .inr ⟨hgo, fun σ' H' => i + 1 ≤ xs.length ∧ ∃ φ2 ρ2 m2, Post φ1 ψ H1 φ2 ψ H' ∧ Rel X.K tb φ2 ψ H' m2 ∧ RE X.K φ2 ψ H' ρ2 σ' ∧ forL it xs t b dd (xs.drop (i + 1)) ρ2 m2 = some (o, ρF, mF), fun σ' H' q => ⟨xs.length - (i + 1), by omega, rfl, q⟩, fun x H3 y => ?_⟩
      obtain ⟨P3, R3, V3, _⟩ := hy x H3 y
      refine ht φ2 ψ H3 m2 ρ2 σ2 _ x ρ3 _ R3 (E2.mono P3 R2) V3 e3 fun σ3 E3 => ?_
      refine ⟨φ2, ψ, ρ3, m2, o4, ρ4, m4, R3, E3, e4, fun φ5 ψ5 H5 P5 R5 => ?_⟩
      have P15 : Post φ1 ψ H1 φ5 ψ5 H5 := P2.trans (P3.trans P5)
      cases o4 with
      | nx => exact fun z σ5 E5 => by subst z; exact ⟨hlt, φ5, _, m4, P15, R5, E5.fog dd, ef⟩
      | ct => exact fun z σ5 E5 => by subst z; exact ⟨hlt, φ5, _, m4, P15, R5, E5.fog dd, ef⟩
      | bk => cases ef; exact fun z σ5 E5 => by subst z; exact k φ5 _ H5 (P1.trans P15) R5 rfl σ5 (E5.fog dd)
      | ret d => cases ef; exact k φ5 ψ5 H5 (P1.trans P15) R5
    · cases ef
  · rw [List.drop_of_length_le (by omega)] at ef
    unfold forL at ef
    split at ef
    · rename_i hx
      cases ef
      exact .inl ⟨(IR φ2 ψ H2 _ xs P2 R2 hx).2 i (by omega), k φ2 ψ H2 (P1.trans P2) R2 rfl σ2 E2⟩
    · cases ef
open Classical in
noncomputable def lcL (it : Itm) (xs : List D) (t : Gx) (c : Tx) (f : Ex) (ρ : Env) : List D → List D → Mem → Option (List D × Mem)
  | [], acc, m => if itemsAt it m = some xs then some (acc, m) else none
  | d :: ds, acc, m => if itemsAt it m = some xs then (t d ρ).bind fun ρ1 => (c ρ1 m).bind fun p => if p.1 = true then (f ρ1 p.2).bind fun q => (vl q.1).bind fun y => if acc.length < 1000000 then lcL it xs t c f ρ ds (acc ++ [y]) q.2 else none else lcL it xs t c f ρ ds acc p.2
    else none
noncomputable def eLc (src : Ix) (t : Gx) (c : Tx) (f : Ex) (vs : List Nat) : Ex := fun ρ m => (src ρ m).bind fun p => (itemsAt p.1 p.2).bind fun xs => (lcL p.1 xs t c f (wipeD ρ vs) xs [] p.2).bind fun q => some (.f (.lst q.1), q.2)
theorem lc_go {K : FRG} {tb : List Addr} {src : Ix} {g : TG} {t : Gx} {c : Tx} {f : Ex} {vs : List Nat} {σ : L2.St} {H : Hp} {Q : VK} (ht : TgS K tb g t) (hw : TgW g vs) (h : T K tb (eLc src t c f vs) σ H Q) :
    tLc (Ti K tb src) g (Tt K tb c) (T K tb f) vs σ H Q := by
  obtain ⟨φ, ψ, ρ, m, d, mF, R, E, e, k⟩ := h
  obtain ⟨⟨it, m1⟩, e1, e⟩ := bnd e
  obtain ⟨xs, e2, e⟩ := bnd e
  obtain ⟨⟨accF, m9⟩, e3, e⟩ := bnd e
  cases e
  refine ⟨φ, ψ, ρ, m, it, m1, R, E, e1, fun φ1 H1 J P1 R1 IR A hA => ?_⟩
  have nAS : A ∉ ψ := R1.freshS hA
  let Z : Nat → Hp → Prop := fun i H2 => ∃ φ2 m2 acc accV, Post φ1 ψ H1 φ2 (A :: ψ) H2 ∧ Rel K tb φ2 (A :: ψ) H2 m2 ∧ H2 A = some (.lst accV) ∧ Reps K φ2 (A :: ψ) H2 acc accV ∧ lcL it xs t c f (wipeD ρ vs) (xs.drop i) acc m2 = some (accF, m9)
  refine ⟨fun i n H2 => n = xs.length - i ∧ i ≤ xs.length ∧ Z i H2, ⟨xs.length, by simp, Nat.zero_le _, φ1, m1, [], [], Post.nw hA, R1.nw hA, upd_same, .nil, by simpa using e3⟩, ?_⟩
  rintro i n H2 ⟨rfl, hi2, φ2, m2, acc, accV, P2, R2, hA2, rA, ef⟩
  by_cases hlt : i < xs.length
  · rw [List.drop_eq_getElem_cons hlt] at ef
    unfold lcL at ef
    split at ef
    · rename_i hx
      obtain ⟨ρ3, e3', ef⟩ := bnd ef
      obtain ⟨⟨b4, m4⟩, e4, ef⟩ := bnd ef
      obtain ⟨hgo, hy⟩ := (IR φ2 (A :: ψ) H2 m2 xs P2 R2 hx).1 i xs[i] (List.getElem?_eq_getElem hlt)
      refine .inr ⟨hgo, fun H' => i + 1 ≤ xs.length ∧ Z (i + 1) H', fun H' q => ⟨xs.length - (i + 1), by omega, rfl, q⟩, fun x H3 y => ?_⟩
      obtain ⟨P3, R3, V3, same⟩ := hy x H3 y
      have hA3 : H3 A = some (.lst accV) := same A _ hA2
      have rA3 := rA.mono P3 R2
      have E3 : RE K φ2 (A :: ψ) H3 (wipeD ρ vs) (wipe σ vs) := (E.mono (P1.trans (P2.trans P3)) R).wipe vs
      have st := ht φ2 (A :: ψ) H3 m2 (wipeD ρ vs) (wipe σ vs) _ x ρ3 (fun σ3 H3' => Tt K tb c σ3 H3' fun b H4 => if b = true then T K tb f σ3 H4 fun y H5 => ∃ acc, H5 A = some (.lst acc) ∧ acc.length < sizeLine ∧ (fun H' => i + 1 ≤ xs.length ∧ Z (i + 1) H') (upd H5 A (.lst (acc ++ [y]))) else (fun H' => i + 1 ≤ xs.length ∧ Z (i + 1) H') H4) R3 E3 V3 e3' fun σ3 E3' => ?_
      · have st2 := hw _ _ _ _ st
        simp only [wipe_wipe] at st2
        exact st2
      · refine ⟨φ2, A :: ψ, ρ3, m2, b4, m4, R3, E3', e4, fun φ4 H4 P4 R4 => ?_⟩
        have hA4 : H4 A = some (.lst accV) := (P4.frm A _ (R3.ap A List.mem_cons_self) hA3 fun _ z => nomatch z).ex fun _ z => nomatch z
        have rA4 := rA3.mono P4 R3
        have P14 := P2.trans (P3.trans P4)
        cases b4 with
        | false => exact iteF ⟨hlt, φ4, m4, acc, accV, P14, R4, hA4, rA4, ef⟩
        | true =>
          obtain ⟨⟨w5, m5⟩, e5, ef⟩ := bnd ef
          obtain ⟨y5, ev, ef⟩ := bnd ef
          split at ef
          · rename_i hl
            refine iteT ⟨φ4, A :: ψ, ρ3, m4, w5, m5, R4, E3'.mono P4 R3, e5, fun φ5 ψ5 H5 v P5 R5 V5 => ?_⟩
            have R5' := V5.rel R5
            have P5' := V5.post P5
            have hA5 : H5 A = some (.lst accV) := (P5'.frm A _ (R4.ap A List.mem_cons_self) hA4 fun _ z => nomatch z).ex fun _ z => nomatch z
            have rA5 := rA4.mono P5' R4
            have y5' := vl_rep (V5.s R5) ev
            exact ⟨accV, hA5, smallT (by rw [← rA5.length]; exact hl), hlt, φ5, m5, acc ++ [y5], accV ++ [v], Post.sdw List.mem_cons_self (R5'.ap A List.mem_cons_self) (R5'.sd A List.mem_cons_self) (P14.trans P5') hA, R5'.sdw List.mem_cons_self hA5, upd_same, (rA5.snoc y5').sdw List.mem_cons_self hA5, ef⟩
          · cases ef
    · cases ef
  · rw [List.drop_of_length_le (by omega)] at ef
    unfold lcL at ef
    split at ef
    · rename_i hx
      cases ef
      refine .inl ⟨(IR φ2 (A :: ψ) H2 _ xs P2 R2 hx).2 i (by omega), ?_⟩
      exact k φ2 (A :: ψ) H2 _ (P1.trans P2) R2 ⟨A, .lst accF, rfl, rfl, nAS, rfl, accV, hA2, rA⟩
    · cases ef
def tYes' : Tx := fun _ m => some (true, m)
theorem pts_mono {X : Cx} {e : List Expr} {t t' : TT} (h : PTs X e t) (i : ∀ σ H Q, t' σ H Q → t σ H Q) : PTs X e t' := ⟨fun pins s σ H Q I q => h.run pins s σ H Q I (i σ H Q q)⟩
theorem ts_nil {X : Cx} {tb : List Addr} : PTs X [] (Tt X.K tb tYes') := pts_mono pts_nil fun σ H Q ⟨φ, ψ, ρ, m, b, m', R, E, e, k⟩ => by
  cases e; exact k φ H .refl R
theorem ts_one {X : Cx} {tb : List Addr} {c : Expr} {ft : Tx} (h : PT X c (Tt X.K tb ft)) : PTs X [c] (Tt X.K tb ft) := pts_one h
end Pw
end
section
set_option Elab.async false
set_option linter.all false
set_option maxRecDepth 100000
set_option maxHeartbeats 1000000
namespace Pw
open PySem PySem.Spec PyProof.Rows L2
theorem ex_lc {X : Cx} {tb : List Addr} {elt tg iter : Expr} {ifs : List Expr} {scope : Scope} {own : List (Str × Nat)} {pos : Pos} {src : Ix} {g : TG} {t : Gx} {c : Tx} {f : Ex} (hc : X.calm = true) (hN : X.N.Nodup) (htg : TgS X.K tb g t) (hw : TgW g (own.map (·.2)))
    (hi : PI X tg iter (Ti X.K tb src)) (ok : BlkOk X.N X.env.scope scope own)
    (hg : ∀ (s : Shared) (H : Hp) (C : Addr) (cl : List (Str × Addr)) (fp : List Addr), PG (X.blk s H scope (compEnvC scope cl C X.env) fp) tg g) (ht : ∀ (s : Shared) (H : Hp) (C : Addr) (cl : List (Str × Addr)) (fp : List Addr), PTs (X.blk s H scope (compEnvC scope cl C X.env) fp) ifs (Tt X.K tb c))
    (he : ∀ (s : Shared) (H : Hp) (C : Addr) (cl : List (Str × Addr)) (fp : List Addr), PE (X.blk s H scope (compEnvC scope cl C X.env) fp) elt (T X.K tb f)) (hs : ∀ x, foldedSetIterable iter X.env x = pure x := by intro _; rfl) :
    PE X (.ListComp elt [⟨tg, iter, ifs, 0⟩] scope pos) (T X.K tb (eLc src t c f (own.map (·.2)))) :=
  pe_mono (pe_lc hc hN hi ok hg ht he hs) fun _ _ _ h => lc_go htg hw h
theorem bs_setLc {X : Cx} {tb : List Addr} (i : Nat) {y : Str} {py : Pos} {elt tg iter : Expr} {ifs : List Expr} {scope : Scope} {own : List (Str × Nat)} {pos spos : Pos} {src : Ix} {g : TG} {t : Gx} {c : Tx} {f : Ex} (hc : X.calm = true) (hN : X.N.Nodup) (htg : TgS X.K tb g t) (hw : TgW g (own.map (·.2)))
    (hi : PI X tg iter (Ti X.K tb src)) (ok : BlkOk X.N X.env.scope scope own)
    (hg : ∀ (s : Shared) (H : Hp) (C : Addr) (cl : List (Str × Addr)) (fp : List Addr), PG (X.blk s H scope (compEnvC scope cl C X.env) fp) tg g) (ht : ∀ (s : Shared) (H : Hp) (C : Addr) (cl : List (Str × Addr)) (fp : List Addr), PTs (X.blk s H scope (compEnvC scope cl C X.env) fp) ifs (Tt X.K tb c))
    (he : ∀ (s : Shared) (H : Hp) (C : Addr) (cl : List (Str × Addr)) (fp : List Addr), PE (X.blk s H scope (compEnvC scope cl C X.env) fp) elt (T X.K tb f))
    (hsw : swapsWith (.ListComp elt [⟨tg, iter, ifs, 0⟩] scope pos) (some (.Name y py)) spos.line X.env = pure true) (hy : X.N[i]? = some y := by rfl) (hyl : X.env.scope.names.lookup y = some .local := by rfl)
    (hs : ∀ x, foldedSetIterable iter X.env x = pure x := by intro _; rfl) :
    PS X (.Assign [.Name y py] (.ListComp elt [⟨tg, iter, ifs, 0⟩] scope pos) spos) (Ts X.K tb (sSet i (eLc src t c f (own.map (·.2))))) :=
  ps_mono (ps_setLc hc hN hy hyl hsw hi ok hg ht he hs) fun D σ H h => lc_go htg hw (set_go (X := X) h)
abbrev Fx := List W → Mem → Option (W × Mem)
def startD (n : Nat) (ws : List W) : Env := ws.map some ++ List.replicate (n - ws.length) none
def inner (m : Mem) (b : Nat) : Nat → Option (List D)
  | 0 => some []
  | c + 1 => (inner m b c).bind fun ds => match m[b + c]? with
    | some (.lst es) => some (ds ++ [.lst es])
    | _ => none
def outW (k : Nat) : W → Mem → Option (W × Mem)
  | .v d, m => some (.v d, m.take k)
  | .f d, m => some (.f d, m.take k)
  | .r n, m => if n < k then some (.r n, m.take k) else match m[n]? with
    | some (.rl b c) => if k ≤ b then (inner m b c).bind fun ds => some (.v (.lst ds), m.take k) else none
    | some mo => some (.f (moD mo), m.take k)
    | none => none
def runF (np n : Nat) (b : Sx) : Fx := fun ws m => if ws.length = np then (b (startD n ws) m).bind fun r => match r.1 with
  | .nx => some (.v .non, r.2.2.take m.length)
  | .ret w => outW m.length w r.2.2
  | _ => none
  else none
def spF (K : FRG) (tb : List Addr) (np : Nat) (F : Fx) : Sp := fun vs H Q _ => ∃ φ ψ ws m w m', Rel K tb φ ψ H m ∧ RepSs K φ ψ H ws vs ∧ ws.length = np ∧ F ws m = some (w, m') ∧ Go K tb φ ψ H m' w Q
theorem re_start {K : FRG} {φ ψ : List Addr} {H : Hp} {N : List Str} {ws : List W} {vs : List V} (r : RepSs K φ ψ H ws vs) : RE K φ ψ H (startD N.length ws) (start N vs) := by
  refine ⟨fun i d h => ?_, by simp [startD, L2.start, r.length]⟩
  unfold startD at h
  by_cases hi : i < ws.length
  · rw [List.getElem?_append_left (by simpa using hi), List.getElem?_map] at h
    cases e : ws[i]? with
    | none => rw [e] at h; cases h
    | some x =>
      rw [e] at h
      cases h
      obtain ⟨v, h1, h2⟩ := r.get e
      refine ⟨v, ?_, h2⟩
      unfold L2.start
      rw [List.getElem?_append_left (by rw [List.length_map, ← r.length]; exact hi), List.getElem?_map, h1]
      rfl
  · rw [List.getElem?_append_right (by simpa using hi), List.getElem?_replicate] at h
    split at h <;> cases h
section
variable {K : FRG} {tb φ φ1 ψ ψ1 : List Addr} {H H1 : Hp} {m m1 : Mem}
theorem Rel.cut (R : Rel K tb φ1 ψ1 H m1) (hp : φ <+: φ1) (hs : ∀ a ∈ ψ, a ∈ ψ1 ∨ (a ∈ φ1 ∧ a ∉ φ)) : Rel K tb φ ψ H (m1.take φ.length) := by
  obtain ⟨t, rfl⟩ := hp
  have hl := R.len
  rw [List.length_append] at hl
  have few : ∀ a, a ∉ φ ++ t → a ∉ ψ1 → a ∉ φ ∧ a ∉ ψ := fun a h1 h2 => ⟨fun z => h1 (List.mem_append_left _ z), fun z => (hs a z).elim h2 fun y => h1 y.1⟩
  refine ⟨by rw [List.length_take]; omega, (List.nodup_append.mp R.nd).1, fun n mo a e1 e2 => ?_, R.tab, fun p hp => ?_, fun p hp => ?_, R.lam⟩
  · have hn : n < φ.length := (List.getElem?_eq_some_iff.mp e2).1
    rw [List.getElem?_take_of_lt hn] at e1
    exact (R.obj n mo a e1 (by rw [List.getElem?_append_left hn]; exact e2)).fewer few fun _ k hk i hi => by
      have e2' : (φ ++ t)[n]? = some a := by rw [List.getElem?_append_left hn]; exact e2
      obtain ⟨h1, h2⟩ := List.getElem?_eq_some_iff.mp e2'
      obtain ⟨h3, h4⟩ := List.getElem?_eq_some_iff.mp hk
      have : k = n := (List.getElem_inj R.nd).mp (h4.trans h2.symm)
      exact (List.getElem?_append_left (by omega)).symm
  · rcases hs p hp with z | z
    · exact R.sd p z
    · exact R.trk z.1
  · rcases hs p hp with z | z
    · exact fun y => R.ap p z (List.mem_append_left _ y)
    · exact z.2
theorem out_go {w w' : W} {m' : Mem} {v : V} {Q : VK} (hl : φ.length = m.length) (P : Post φ ψ H φ1 ψ1 H1) (R : Rel K tb φ1 ψ1 H1 m1) (h : RepW K φ1 ψ ψ1 H1 w v) (e : outW m.length w m1 = some (w', m')) (k : Go K tb φ ψ H m' w' Q) : Q v H1 := by
  have few : ∀ (a : Addr), a ∉ φ1 → ∀ (ψ' : List Addr), a ∉ ψ' → a ∉ φ ∧ a ∉ ψ' := fun a h1 ψ' h2 => ⟨fun z => h1 (P.pre.subset z), h2⟩
  have post : ∀ (ψ' : List Addr), (∀ a ∈ ψ', a ∈ ψ ∨ H a = none) → (∀ a ∈ ψ, a ∈ ψ') → Post φ ψ H φ ψ' H1 := fun ψ' hs hb => ⟨List.prefix_refl _, fun _ z => .inl z, hs, P.frm, P.kp, hb⟩
  cases w with
  | v d =>
    cases e
    obtain ⟨rfl, h⟩ := h
    rw [← hl] at k
    exact k φ _ H1 v (post _ P.side P.sub) (R.cut P.pre fun _ z => .inl z) ⟨rfl, h.fewer fun a h1 h2 => few a h1 _ h2⟩
  | f d =>
    cases e
    obtain ⟨p, mo, rfl, rfl, np, rfl, q⟩ := h
    rw [← hl] at k
    exact k φ _ H1 _ (post _ P.side P.sub) (R.cut P.pre fun _ z => .inl z) ⟨p, mo, rfl, rfl, np, rfl, q.fewer (fun a h1 h2 => few a h1 _ h2) fun _ k hk => absurd (List.mem_of_getElem? hk) (R.ap p List.mem_cons_self)⟩
  | r n =>
    obtain ⟨rfl, a, ha, rfl⟩ := h
    unfold outW at e
    simp only at e
    split at e
    · rename_i hn
      cases e
      rw [← hl] at k
      refine k φ _ H1 _ (post _ P.side P.sub) (R.cut P.pre fun _ z => .inl z) ⟨rfl, a, ?_, rfl⟩
      obtain ⟨t, rfl⟩ := P.pre
      rw [List.getElem?_append_left (by rw [hl]; exact hn)] at ha
      exact ha
    · rename_i hn
      have mem : a ∈ φ1 := List.mem_of_getElem? ha
      have nA : a ∉ φ := fun z => by
        obtain ⟨t, rfl⟩ := P.pre
        rw [List.getElem?_append_right (by rw [hl]; omega)] at ha
        exact (List.nodup_append.mp R.nd).2.2 a z a (List.mem_of_getElem? ha) rfl
      have h0 : H a = none := (P.new a mem).resolve_left nA
      have nP : a ∉ ψ1 := fun z => R.ap a z mem
      have hk : ∀ j, m.length ≤ j → ∀ c, φ1[j]? = some c → c ∉ φ := fun j hj c hc z => by
        obtain ⟨t, rfl⟩ := P.pre
        rw [List.getElem?_append_right (by rw [hl]; exact hj)] at hc
        exact (List.nodup_append.mp R.nd).2.2 c z c (List.mem_of_getElem? hc) rfl
      have isRl : ∀ b c, m1[n]? = some (.rl b c) → outW m.length (.r n) m1 = some (w', m') → Q (.ref a) H1 := fun b c e1 e => by
        unfold outW at e
        simp only [e1, if_neg hn] at e
        split at e
        · rename_i hb
          obtain ⟨ds, ed, e⟩ := bnd e
          cases e
          obtain ⟨o1, o2⟩ := R.obj n _ a e1 ha
          have hlen := (List.getElem?_eq_some_iff.mp o2).1
          have rs : ∀ c', c' ≤ c → ∀ ds, inner m1 b c' = some ds → Reps K φ ψ1 H1 ds ((List.range c').map fun i => V.ref (φ1.getD (b + i) 0)) := by
            intro c'
            induction c' with
            | zero => intro _ ds e; cases e; exact .nil
            | succ c' ih =>
              intro hc ds e
              obtain ⟨ds', e3, e⟩ := bnd e
              split at e
              · rename_i es e4
                cases e
                rw [List.range_succ, List.map_append]
                have hj : b + c' < φ1.length := by omega
                have e5 : φ1[b + c']? = some φ1[b + c'] := List.getElem?_eq_getElem hj
                obtain ⟨us, u1, u2⟩ := R.obj _ _ _ e4 e5
                have e6 : φ1.getD (b + c') 0 = φ1[b + c'] := by rw [List.getD_eq_getElem?_getD, e5]; rfl
                refine (ih (by omega) ds' e3).snoc ?_
                show Rep K φ ψ1 H1 (D.lst es) (V.ref (φ1.getD (b + c') 0))
                rw [e6]
                exact .lst (hk _ (by omega) _ e5) (fun z => R.ap _ z (List.mem_of_getElem? e5)) u1 (u2.fewer fun x h1 h2 => few x h1 _ h2)
              · cases e
          rw [← hl] at k
          exact k φ ψ1 H1 _ (post _ P.side P.sub) (R.cut P.pre fun _ z => .inl z) ⟨rfl, .lst nA nP o1 (rs c (Nat.le_refl _) ds ed)⟩
        · cases e
      by_cases hr : ∃ b c, m1[n]? = some (.rl b c)
      · obtain ⟨b, c, e1⟩ := hr
        refine isRl b c e1 ?_
        unfold outW
        simp only [if_neg hn]
        exact e
      have e' : ∃ mo, m1[n]? = some mo ∧ some (W.f (moD mo), m1.take m.length) = some (w', m') := by
        split at e
        · rename_i b c e1; exact absurd ⟨b, c, e1⟩ hr
        · rename_i mo e1 _; exact ⟨mo, by assumption, e⟩
        · cases e
      obtain ⟨mo, e1, e⟩ := e'
      cases e
      rw [← hl] at k
      refine k φ (a :: ψ1) H1 _ (post _ (fun b hb => ?_) fun b hb => List.mem_cons_of_mem _ hb) (R.cut P.pre fun b hb => ?_) ⟨a, mo, rfl, rfl, nP, rfl, (R.obj n mo a e1 ha).fewer (fun b h1 h2 => few b h1 _ fun z => ?_) fun ⟨b, c, z⟩ => absurd ⟨b, c, by rw [← z]; exact e1⟩ hr⟩
      · rcases List.mem_cons.mp hb with z | z
        · rw [z]; exact .inr h0
        · exact .inl z
      · rcases List.mem_cons.mp hb with z | z
        · rw [z]; exact .inr ⟨mem, nA⟩
        · exact .inl z
      · rcases List.mem_cons.mp z with y | y
        · rw [y] at h1; exact h1 mem
        · exact h2 y
end
theorem body_go {K : FRG} {tb : List Addr} {np : Nat} {N : List Str} {b : Sx} {vs : List V} {H : Hp} {Q : VK} {E : XK} (h : spF K tb np (runF np N.length b) vs H Q E) : Ts K tb b { nx := fun _ H' => Q .non H', rt := Q } (start N vs) H := by
  obtain ⟨φ, ψ, ws, m, w, m', R, r, hl, e, k⟩ := h
  unfold runF at e
  rw [if_pos hl] at e
  obtain ⟨⟨o, ρ', m1⟩, e1, e⟩ := bnd e
  refine ⟨φ, ψ, _, m, o, ρ', m1, R, re_start r, e1, fun φ1 ψ1 H1 P1 R1 => ?_⟩
  cases o with
  | nx =>
    intro z σ1 E1
    subst z
    exact out_go (w := .v .non) R.len P1 R1 ⟨rfl, .non⟩ e k
  | ret x => exact fun v V => out_go R.len P1 R1 V e k
  | bk => cases e
  | ct => cases e
def eCall (F : Fx) (a : Ax) : Ex := fun ρ m => (a ρ m).bind fun p => F p.1 p.2
theorem call_s {X : Cx} {tb : List Addr} {np : Nat} {F : Fx} {f : Ax} {σ : L2.St} {H : Hp} {Q : VK} (hn : ∀ ds m r, F ds m = some r → ds.length = np) (h : T X.K tb (eCall F f) σ H Q) : tCall (spF X.K tb np F) [] E0 (Ta X.K tb f) σ H Q := by
  obtain ⟨φ, ψ, ρ, m, w, m', R, E, e, k⟩ := h
  obtain ⟨⟨ws, m1⟩, e1, e⟩ := bnd e
  refine ⟨φ, ψ, ρ, m, ws, m1, R, E, e1, fun φ1 H1 vs P1 R1 V1 => ?_⟩
  show spF X.K tb np F (vs ++ []) H1 Q E0
  rw [List.append_nil]
  exact ⟨φ1, ψ, ws, m1, w, m', R1, V1, hn _ _ _ e, e, fun φ3 ψ3 H3 v P3 R3 V3 => k φ3 ψ3 H3 v (P1.trans P3) R3 V3⟩
theorem runF_len {np n : Nat} {b : Sx} {ws : List W} {m : Mem} {r : W × Mem} (h : runF np n b ws m = some r) : ws.length = np := by
  unfold runF at h
  split at h
  · assumption
  · cases h
structure FnG (P : Program) (w : World) (K : FRG) (mg : Str → Option Value) (base : Heap) (k : Nat) (f : Addr) (fd : FuncData) (ps : List Str) (sp : Sp) : Prop where
  len : ∀ vs H Q E, sp vs H Q E → vs.length = ps.length
  run : ∀ (A : Around) (outer : List PySem.Env) (s : Shared) (H : Hp) (args : Args) (us : List Value) (vs : List V) (Q : VK) (E : XK), A.guards = some [] → Room k A → Env0 P w K mg base A outer s H → BindsTo s fd args (ps.zip us) → Vals vs us → sp vs H Q E →
    codeAny (model P w) A (.call (.ref f) args) (CR CX0 outer P w H s Q E) s
structure FunC (K : FRG) (x qual : Str) (st : Stmt) (f : Addr) (fd : FuncData) (cdv : Value) : Prop where
  ex : ∃ (oc : Value) (od : Option Addr) (kV doc pm : Value) (an : Option Addr) (ct : Value) (osl : Array (Option Value)),
    fd = PySem.W.fnOf x qual (defArgs st) (defBody st) (defScope st) .none kV doc pm an cdv ct ∧ K.lookup f = some ⟨oc, od, .func fd, osl⟩ ∧ PySem.W.codeIn K cdv qual = true
  kp : PySem.W.keepIn K (.ref f) = true
theorem okG {P : Program} {w : World} {K : FRG} {mg : Str → Option Value} {base : Heap} {tb : List Addr} {x qual : Str} {st : Stmt} {f : Addr} {fd : FuncData} {cdv : Value} {N ps : List Str} {k : Nat} {b : Sx} (F : FunC K x qual st f fd cdv) (S : FnScope N ps (defScope st))
    (hb : ∀ (A : Around) (outer : List PySem.Env) (s : Shared) (H : Hp) (E : XK), A.guards = some [] → Room k (A.deeper (envOfC qual (defScope st) s.heap.objs.size f cdv)) → PSs (cxOf CX0 P w K mg base N qual (defScope st) f cdv A outer s H E).nox (defBody st) (Ts K tb b)) :
    FnG P w K mg base (k + 1) f fd ps (spF K tb ps.length (runF ps.length N.length b)) := by
  obtain ⟨oc, od, kV, doc, pm, an, ct, osl, rfl, known, isCode⟩ := F.ex
  have many : ∀ vs H Q E, spF K tb ps.length (runF ps.length N.length b) vs H Q E → vs.length = ps.length := fun vs H Q E q => by
    obtain ⟨φ, ψ, ws, m, d, m', R, r, hl, e, go⟩ := q
    rw [← r.length]; exact hl
  refine ⟨many, fun A outer s H args us vs Q E noG room entry bound rel want => ?_⟩
  have inK : K.In s.heap := entry.mod.kin.keeps fun c o e => (entry.bs c o e).1
  have free : s.heap.NoLimit := entry.mod.nolimit.keeps fun c o e => (entry.bs c o e).1
  have kinds : ∀ y ∈ ps.zip us, (defScope st).names.lookup y.1 = some .local ∨ ((defScope st).names.lookup y.1 = some .cell ∧ ((cellsFrom (s.heap.objs.size + 1) (defScope st).names []).lookup y.1).isSome = true) := by
    rintro ⟨nm, val⟩ mem
    rcases S.par nm (List.of_mem_zip mem).1 with z | z
    · exact Or.inl z
    · exact Or.inr ⟨z, PySem.W.cellsFrom_some _ _ _ (Or.inl z)⟩
  refine codeAny_call_function room.depth (inK _ _ known) rfl S.co S.gen rfl (PySem.W.codeRec_of inK isCode) (bound _ _ _ _ ?_)
  refine wpAny_newFunctionEnv_cells S.kind kinds fun here isHere t inCall => ?_
  subst isHere
  refine ⟨free.keeps inCall.toInCall.keep, codeAny_func ?_⟩
  have J : Inv (cxOf CX0 P w K mg base N qual (defScope st) f cdv A outer s H E) [] (L2.start N vs) H t := inv_start S room.hd entry (many _ _ _ _ want) rel inCall
  have body := (hb A outer s H E noG (room.deeper _)).nox
  refine wpAny_mono (body.run [] t (L2.start N vs) H _ J (body_go want)) (fun flow t' ends => ?_) fun _ _ z => z
  cases flow with
  | ret u =>
    obtain ⟨v, τ, H', J', rv, q⟩ := ends
    exact ⟨v, H', J'.os, J'.bare, J'.base, J'.hok, rv, q⟩
  | next =>
    obtain ⟨τ, H', J', q⟩ := ends
    exact ⟨.non, H', J'.os, J'.bare, J'.base, J'.hok, rfl, q⟩
  | brk => obtain ⟨_, _, _, z⟩ := ends; exact z.elim
  | cont => obtain ⟨_, _, _, z⟩ := ends; exact z.elim
theorem runG {X : Cx} {k : Nat} {f : Addr} {fd : FuncData} {ps : List Str} {sp : Sp} {pins : List (Addr × Obj)} {σ : L2.St} {H : Hp} {s : Shared} {Q : VK} {us : List Value} {vs : List V} (F : FnG X.prog X.w X.K X.mg X.base k f fd ps sp) (hg : X.A.guards = some []) (hr : Room k X.A) (hb : Binds X.K fd ps [])
    (I : Inv X pins σ H s) (r : Vals vs us) (h : sp vs H Q E0) : wpAny (model X.prog X.w) X.A (call (.ref f) us) (EP X pins σ Q) X.xe s := by
  have hl : us.length = ps.length := r.length.symm.trans (F.len _ _ _ _ h)
  have bound := hb s us I.kIn (by rw [List.append_nil]; exact hl)
  rw [List.append_nil] at bound
  refine wpAny_call (codeAny_mono (F.run X.A X.stack s H ⟨us, []⟩ us vs Q E0 hg hr I.env0 bound r h) fun res t ends => ?_)
  match res, ends with
  | .ok (.ret u), z => exact I.after z
theorem ex_callG {X : Cx} {tb : List Addr} {k : Nat} {f : Addr} {fd : FuncData} {ps : List Str} {x : Str} {p pos : Pos} {e : Expr} {es : List Expr} {fa : Ax} {F : Fx} (hn : ∀ ds m r, F ds m = some r → ds.length = ps.length) (G : FnG X.prog X.w X.K X.mg X.base k f fd ps (spF X.K tb ps.length F)) (hgd : X.A.guards = some []) (hr : Room k X.A) (hg : Gl X x) (hm : X.mg x = some (.ref f)) (hk : PySem.W.keepIn X.K (.ref f) = true) (hb : Binds X.K fd ps [])
    (ha : PA X (e :: es) (Ta X.K tb fa)) (hdb : (x == ("__debug__" : Str)) = false := by decide) (he : starEach (e :: es) X.env = (false, eval e X.env) :: starEach es X.env := by rfl) (hpl : (backTo pos (starEach es X.env)).any (·.1) = false := by rfl) :
    PE X (.Call (.Name x p) (e :: es) [] pos) (T X.K tb (eCall F fa)) := by
  constructor
  intro pins s σ H Q I want
  have h := call_s hn want
  refine wpAny_Call_Name_kw (ld_glob I hg hm ?_ hdb)
  refine PySem.W.callWith_K (h₀ := X.base) I.ok.mod.kin hk (thn (ha.run pos pins s σ H _ I h) fun us t ⟨vs, H1, I1, r, q⟩ => ⟨I1.kIn, ?_⟩) he hpl
  have q' : spF X.K tb ps.length F (vs ++ []) H1 Q E0 := q
  rw [List.append_nil] at q'
  exact runG G hgd hr hb I1 r q'
theorem FunC.binds {K : FRG} {x qual : Str} {st : Stmt} {f : Addr} {fd : FuncData} {cdv : Value} {ps : List Str} (F : FunC K x qual st f fd cdv)
    (h : ∀ (kV doc pm : Value) (an : Option Addr) (ct : Value) (us : List Value), us.length = ps.length → bindArgs (PySem.W.fnOf x qual (defArgs st) (defBody st) (defScope st) .none kV doc pm an cdv ct) ⟨us, []⟩ = pure (ps.zip us)) : Binds K fd ps [] := by
  obtain ⟨oc, od, kV, doc, pm, an, ct, osl, rfl, lk, hcd⟩ := F.ex
  exact .all (h kV doc pm an ct)
end Pw
end
section
set_option Elab.async false
set_option linter.all false
set_option maxRecDepth 100000
set_option maxHeartbeats 1000000
namespace Pv
open PySem PySem.Spec PyProof.Rows L2
def bst_max (b : Option Int) (x : Int) : Option Int := match b with
  | none => some x
  | some y => if x > y then some x else some y
def cell2 (b : Option (Int × Tok)) : Array Value := match b with
  | none => #[]
  | some (y, t) => #[.int y t, .int y t]
section
variable {prog : Program} {w : World} {A : Around} {E : Value → Shared → Prop} {R : Result → Shared → Prop} {I : Addr} {fp wr : List Addr} {n : Nat} {P : Nat → Value → Prop} {St : Nat → Heap → Prop}
theorem max_turns (W : Walks prog w A.in1 I fp wr n P St) (f : Nat → Int) (hP : ∀ i v, P i v → ∃ t, v = .int (f i) t) (B : Addr) (hB : B ∉ fp) (dv : Value) : ∀ (k i : Nat) (s : Shared) (b : Option (Int × Tok)) (c : Nat), n - i = k → i ≤ n → St i s.heap →
    s.heap.get? B = some { cls := .type "list", dict := none, data := .seq (cell2 b) c, slots := #[] } →
    (∀ v h' tk, (match ((List.range' i k).map f).foldl bst_max (b.map (·.1)) with | none => v = dv | some y => ∃ t, v = .int y t) → (∀ a o, a ∉ wr → a ≠ B → s.heap.get? a = some o → h'.get? a = some o) → R (.ok (.ret v)) { s with heap := h', toks := tk }) →
    codeAny (model prog w) A (.builtin "max.loop" ⟨[.ref I, .none, .ref B], [(Str.ofString "default", dv)]⟩) R s := by
  have hw : B ∉ wr := fun z => hB (W.sub _ z)
  have nm : (toString "max" ++ toString ".loop" : String) = "max.loop" := by decide
  intro k
  induction k with
  | zero =>
    intro i s b c hk hi st at0 fin
    obtain rfl : i = n := by omega
    refine codeAny_builtin F.entry_max_loop ?_
    rw [Around.under_plainId F.plain_max_loop _]
    show wpAny _ A.in1 (seqItems? (.ref B) >>= _) _ _ _
    refine wpAny_bind (wpAny_seqItems at0 rfl ?_)
    show wpAny _ A.in1 (tryCatch (pyNext (.ref I)) _ >>= _) _ _ _
    refine wpAny_bind (wpAny_tryCatch (W.done s _ _ st fun h' tk kp => ?_))
    cases b with
    | none =>
      refine wpAny_bind (wpAny_rule ?_)
      exact wpAny_pure (fin dv h' tk (by exact rfl) fun a o q1 _ q3 => kp a o q1 q3)
    | some p =>
      obtain ⟨y, t⟩ := p
      show wpAny _ A.in1 (updateSeq B (fun _ => #[]) >>= _) _ _ _
      have at1 : h'.get? B = some { cls := .type "list", dict := none, data := .seq #[.int y t, .int y t] c, slots := #[] } := kp B _ hw at0
      refine wpAny_bind (wpAny_updateSeq at1 rfl (wpAny_bind (wpAny_letGo (wpAny_pure ?_))))
      exact fin (.int y t) _ tk ⟨t, rfl⟩ fun a o q1 q2 q3 => (Heap.get?_update_other _ _ (Ne.symm q2)).trans (kp a o q1 q3)
  | succ k ih =>
    intro i s b c hk hi st at0 fin
    have lt : i < n := by omega
    refine codeAny_builtin F.entry_max_loop ?_
    rw [Around.under_plainId F.plain_max_loop _]
    show wpAny _ A.in1 (seqItems? (.ref B) >>= _) _ _ _
    refine wpAny_bind (wpAny_seqItems at0 rfl ?_)
    show wpAny _ A.in1 (tryCatch (pyNext (.ref I)) _ >>= _) _ _ _
    refine wpAny_bind (wpAny_tryCatch (W.item i s _ _ lt st fun v h' tk pv st' kp => ?_))
    have at1 := kp B _ hw at0
    obtain ⟨tv, rfl⟩ := hP i v pv
    cases b with
    | none =>
      have at1 : h'.get? B = some { cls := .type "list", dict := none, data := .seq #[] c, slots := #[] } := kp B _ hw at0
      refine wpAny_bind (m := pure (Value.int (f i) tv)) (wpAny_pure ?_)
      show wpAny _ A.in1 (updateSeq B (fun _ => #[.int (f i) tv, .int (f i) tv]) >>= _) _ _ _
      refine wpAny_bind (wpAny_updateSeq at1 rfl ?_)
      rw [nm]
      refine wpAny_pure ⟨plainId_quiet F.plain_max_loop _, ih (i + 1) _ (some (f i, tv)) _ (by omega) lt (W.frame _ _ _ st' fun a ha o e => ?_) (Heap.get?_update_self _ at1 rfl) fun v h2 tk2 q hk2 => ?_⟩
      · exact (Heap.get?_update_other _ _ (fun z : B = a => hB (by rw [z]; exact ha))).trans e
      · exact fin v h2 tk2 (by simpa [List.range'_succ, bst_max] using q) fun a o q1 q2 q3 => hk2 a o q1 q2 ((Heap.get?_update_other _ _ (Ne.symm q2)).trans (kp a o q1 q3))
    | some p =>
      obtain ⟨y, t⟩ := p
      have at1 : h'.get? B = some { cls := .type "list", dict := none, data := .seq #[.int y t, .int y t] c, slots := #[] } := kp B _ hw at0
      refine wpAny_bind (m := pure (Value.int (f i) tv)) (wpAny_pure ?_)
      show wpAny _ A.in1 (tryCatch (holding [Value.int (f i) tv, Value.int (f i) tv] (richCompare .Gt (Value.int (f i) tv) (Value.int y t) >>= _)) _ >>= _) _ _ _
      refine wpAny_bind (wpAny_tryCatch (wpAny_holding (wpAny_bind ?_)))
      refine CmpOf.ints_gt (P := fun j v => ∃ t, v = .int (if j = 0 then f i else y) t) (fun j => if j = 0 then f i else y) (fun _ _ h => h) 0 1 _ _ _ _ _ ⟨tv, rfl⟩ ⟨t, rfl⟩ ?_
      refine wpAny_bind (wpAny_holding (wpAny_truthy_bool ?_))
      refine wpAny_bind (wpAny_letGo (wpAny_pure ?_))
      by_cases hb : f i > y
      · refine wp_if_pos (by simpa using hb) ?_
        show wpAny _ A.in1 (updateSeq B (fun _ => #[.int (f i) tv, .int (f i) tv]) >>= _) _ _ _
        refine wpAny_bind (wpAny_updateSeq at1 rfl (wpAny_bind (wpAny_letGo ?_)))
        rw [nm]
        refine wpAny_pure ⟨plainId_quiet F.plain_max_loop _, ih (i + 1) _ (some (f i, tv)) _ (by omega) lt (W.frame _ _ _ st' fun a ha o e => ?_) (Heap.get?_update_self _ at1 rfl) fun v h2 tk2 q hk2 => ?_⟩
        · exact (Heap.get?_update_other _ _ (fun z : B = a => hB (by rw [z]; exact ha))).trans e
        · exact fin v h2 tk2 (by simpa [List.range'_succ, bst_max, hb] using q) fun a o q1 q2 q3 => hk2 a o q1 q2 ((Heap.get?_update_other _ _ (Ne.symm q2)).trans (kp a o q1 q3))
      · refine wp_if_neg (by simpa using hb) ?_
        refine wpAny_bind (wpAny_letGo ?_)
        rw [nm]
        refine wpAny_pure ⟨plainId_quiet F.plain_max_loop _, ih (i + 1) _ (some (y, t)) _ (by omega) lt st' at1 fun v h2 tk2 q hk2 => ?_⟩
        exact fin v h2 tk2 (by simpa [List.range'_succ, bst_max, hb] using q) fun a o q1 q2 q3 => hk2 a o q1 q2 (kp a o q1 q3)
theorem args_maxd (a d : Value) : argsOk "max" ⟨[a], [(Str.ofString "default", d)]⟩ := by unfold argsOk; kernel_rfl
theorem max_def {s : Shared} {l : Addr} {its : List Value} {ns : List Int} {dv : Value} {Q : Value → Shared → Prop} (hh : A.handled = none) (hl : s.heap.IsList l its.toArray) (hi : IntsAre its ns)
    (h : ∀ v h' tk, (match ns.foldl bst_max none with | none => v = dv | some y => ∃ t, v = .int y t) → (∀ b o, s.heap.get? b = some o → h'.get? b = some o) → Q v { s with heap := h', toks := tk }) :
    wpAny (model prog w) A (call (.builtin "max") [.ref l] [(Str.ofString "default", dv)]) Q E s := by
  have nm : (toString "max" ++ toString ".loop" : String) = "max.loop" := by decide
  obtain ⟨ol, hol, hcl⟩ := id hl
  have lt : l < s.heap.objs.size := Heap.lt_size hol
  refine PyProof.Rows.kmk_tree F.kind_max F.plain_max F.entry_max (args_maxd _ _) ?_
  refine wpAny_bind (m := Builtin.Builtins.bindParams "max" ["key", "default"] 0 ⟨[], [(Str.ofString "default", dv)]⟩) (wpAny_of_eq (t := Builtin.Builtins.bindParams "max" ["key", "default"] 0 ⟨[], [(Str.ofString "default", dv)]⟩) (a := [none, some dv]) rfl ?_)
  refine wpAny_bind (m := pure (Value.ref l)) (wpAny_pure ?_)
  refine wpAny_bind (wpAny_pyIter_list hl ?_)
  refine wpAny_bind (wpAny_newList ?_ (Nat.zero_le _))
  rw [nm]
  let it : Obj := { cls := .type "list_iterator", data := .fields #[.ref l, .int 0 0] }
  have sz : (s.heap.push it).objs.size = s.heap.objs.size + 1 := PyProof.Rows.size_push' ..
  have Wk := Walks.list (prog := prog) (w := w) (A := A.in1) hh s.heap.objs.size l (Nat.ne_of_lt lt) its.toArray
  have hlen : its.toArray.size = ns.length := by rw [List.size_toArray]; exact hi.length
  have hB : (s.heap.push it).objs.size ∉ [s.heap.objs.size, l] := by
    rw [sz]
    intro z
    rcases List.mem_cons.mp z with z | z
    · omega
    · exact Nat.ne_of_gt (Nat.lt_succ_of_lt lt) (List.mem_singleton.mp z)
  refine wpAny_pure ⟨plainId_quiet F.plain_max_loop _, max_turns Wk (fun i => ns.getD i 0) (fun i v hv => ?_) _ hB dv its.toArray.size 0 _ none 0 (Nat.sub_zero _) (Nat.zero_le _) ⟨⟨_, Heap.get?_push_of_some _ (Heap.get?_push_size _ rfl), rfl, rfl⟩, (hl.push _).push _⟩ (Heap.get?_push_size _ rfl) fun v h' tk q kp => ?_⟩
  · exact PyProof.Rows.IntsAre.int_at hi i v (by simpa using hv)
  · refine h v h' tk ?_ fun b o e => ?_
    · have e : (List.range' 0 its.toArray.size).map (fun i => ns.getD i 0) = ns := by
        rw [hlen]
        refine List.ext_getElem (by simp) fun i h1 h2 => ?_
        simp [List.getElem_range', h2]
      rw [e] at q
      exact q
    · have lb := Heap.lt_size e
      refine kp b o (fun z => ?_) (fun z => ?_) (Heap.get?_push_of_some _ (Heap.get?_push_of_some _ e))
      · exact Nat.ne_of_lt lb (List.mem_singleton.mp z)
      · have z' : b = (s.heap.push it).objs.size := z
        rw [sz] at z'; exact Nat.ne_of_lt (Nat.lt_succ_of_lt lb) z'
end
def bst_min (b : Option Int) (x : Int) : Option Int := match b with
  | none => some x
  | some y => if x < y then some x else some y
section
variable {prog : Program} {w : World} {A : Around} {E : Value → Shared → Prop} {R : Result → Shared → Prop} {I : Addr} {fp wr : List Addr} {n : Nat} {P : Nat → Value → Prop} {St : Nat → Heap → Prop}
theorem min_turns (W : Walks prog w A.in1 I fp wr n P St) (f : Nat → Int) (hP : ∀ i v, P i v → ∃ t, v = .int (f i) t) (B : Addr) (hB : B ∉ fp) (dv : Value) : ∀ (k i : Nat) (s : Shared) (b : Option (Int × Tok)) (c : Nat), n - i = k → i ≤ n → St i s.heap →
    s.heap.get? B = some { cls := .type "list", dict := none, data := .seq (cell2 b) c, slots := #[] } →
    (∀ v h' tk, (match ((List.range' i k).map f).foldl bst_min (b.map (·.1)) with | none => v = dv | some y => ∃ t, v = .int y t) → (∀ a o, a ∉ wr → a ≠ B → s.heap.get? a = some o → h'.get? a = some o) → R (.ok (.ret v)) { s with heap := h', toks := tk }) →
    codeAny (model prog w) A (.builtin "min.loop" ⟨[.ref I, .none, .ref B], [(Str.ofString "default", dv)]⟩) R s := by
  have hw : B ∉ wr := fun z => hB (W.sub _ z)
  have nm : (toString "min" ++ toString ".loop" : String) = "min.loop" := by decide
  intro k
  induction k with
  | zero =>
    intro i s b c hk hi st at0 fin
    obtain rfl : i = n := by omega
    refine codeAny_builtin F.entry_min_loop ?_
    rw [Around.under_plainId F.plain_min_loop _]
    show wpAny _ A.in1 (seqItems? (.ref B) >>= _) _ _ _
    refine wpAny_bind (wpAny_seqItems at0 rfl ?_)
    show wpAny _ A.in1 (tryCatch (pyNext (.ref I)) _ >>= _) _ _ _
    refine wpAny_bind (wpAny_tryCatch (W.done s _ _ st fun h' tk kp => ?_))
    cases b with
    | none =>
      refine wpAny_bind (wpAny_rule ?_)
      exact wpAny_pure (fin dv h' tk (by exact rfl) fun a o q1 _ q3 => kp a o q1 q3)
    | some p =>
      obtain ⟨y, t⟩ := p
      show wpAny _ A.in1 (updateSeq B (fun _ => #[]) >>= _) _ _ _
      have at1 : h'.get? B = some { cls := .type "list", dict := none, data := .seq #[.int y t, .int y t] c, slots := #[] } := kp B _ hw at0
      refine wpAny_bind (wpAny_updateSeq at1 rfl (wpAny_bind (wpAny_letGo (wpAny_pure ?_))))
      exact fin (.int y t) _ tk ⟨t, rfl⟩ fun a o q1 q2 q3 => (Heap.get?_update_other _ _ (Ne.symm q2)).trans (kp a o q1 q3)
  | succ k ih =>
    intro i s b c hk hi st at0 fin
    have lt : i < n := by omega
    refine codeAny_builtin F.entry_min_loop ?_
    rw [Around.under_plainId F.plain_min_loop _]
    show wpAny _ A.in1 (seqItems? (.ref B) >>= _) _ _ _
    refine wpAny_bind (wpAny_seqItems at0 rfl ?_)
    show wpAny _ A.in1 (tryCatch (pyNext (.ref I)) _ >>= _) _ _ _
    refine wpAny_bind (wpAny_tryCatch (W.item i s _ _ lt st fun v h' tk pv st' kp => ?_))
    have at1 := kp B _ hw at0
    obtain ⟨tv, rfl⟩ := hP i v pv
    cases b with
    | none =>
      have at1 : h'.get? B = some { cls := .type "list", dict := none, data := .seq #[] c, slots := #[] } := kp B _ hw at0
      refine wpAny_bind (m := pure (Value.int (f i) tv)) (wpAny_pure ?_)
      show wpAny _ A.in1 (updateSeq B (fun _ => #[.int (f i) tv, .int (f i) tv]) >>= _) _ _ _
      refine wpAny_bind (wpAny_updateSeq at1 rfl ?_)
      rw [nm]
      refine wpAny_pure ⟨plainId_quiet F.plain_min_loop _, ih (i + 1) _ (some (f i, tv)) _ (by omega) lt (W.frame _ _ _ st' fun a ha o e => ?_) (Heap.get?_update_self _ at1 rfl) fun v h2 tk2 q hk2 => ?_⟩
      · exact (Heap.get?_update_other _ _ (fun z : B = a => hB (by rw [z]; exact ha))).trans e
      · exact fin v h2 tk2 (by simpa [List.range'_succ, bst_min] using q) fun a o q1 q2 q3 => hk2 a o q1 q2 ((Heap.get?_update_other _ _ (Ne.symm q2)).trans (kp a o q1 q3))
    | some p =>
      obtain ⟨y, t⟩ := p
      have at1 : h'.get? B = some { cls := .type "list", dict := none, data := .seq #[.int y t, .int y t] c, slots := #[] } := kp B _ hw at0
      refine wpAny_bind (m := pure (Value.int (f i) tv)) (wpAny_pure ?_)
      show wpAny _ A.in1 (tryCatch (holding [Value.int (f i) tv, Value.int (f i) tv] (richCompare .Lt (Value.int (f i) tv) (Value.int y t) >>= _)) _ >>= _) _ _ _
      refine wpAny_bind (wpAny_tryCatch (wpAny_holding (wpAny_bind ?_)))
      refine CmpOf.ints_lt (P := fun j v => ∃ t, v = .int (if j = 0 then f i else y) t) (fun j => if j = 0 then f i else y) (fun _ _ h => h) 0 1 _ _ _ _ _ ⟨tv, rfl⟩ ⟨t, rfl⟩ ?_
      refine wpAny_bind (wpAny_holding (wpAny_truthy_bool ?_))
      refine wpAny_bind (wpAny_letGo (wpAny_pure ?_))
      by_cases hb : f i < y
      · refine wp_if_pos (by simpa using hb) ?_
        show wpAny _ A.in1 (updateSeq B (fun _ => #[.int (f i) tv, .int (f i) tv]) >>= _) _ _ _
        refine wpAny_bind (wpAny_updateSeq at1 rfl (wpAny_bind (wpAny_letGo ?_)))
        rw [nm]
        refine wpAny_pure ⟨plainId_quiet F.plain_min_loop _, ih (i + 1) _ (some (f i, tv)) _ (by omega) lt (W.frame _ _ _ st' fun a ha o e => ?_) (Heap.get?_update_self _ at1 rfl) fun v h2 tk2 q hk2 => ?_⟩
        · exact (Heap.get?_update_other _ _ (fun z : B = a => hB (by rw [z]; exact ha))).trans e
        · exact fin v h2 tk2 (by simpa [List.range'_succ, bst_min, hb] using q) fun a o q1 q2 q3 => hk2 a o q1 q2 ((Heap.get?_update_other _ _ (Ne.symm q2)).trans (kp a o q1 q3))
      · refine wp_if_neg (by simpa using hb) ?_
        refine wpAny_bind (wpAny_letGo ?_)
        rw [nm]
        refine wpAny_pure ⟨plainId_quiet F.plain_min_loop _, ih (i + 1) _ (some (y, t)) _ (by omega) lt st' at1 fun v h2 tk2 q hk2 => ?_⟩
        exact fin v h2 tk2 (by simpa [List.range'_succ, bst_min, hb] using q) fun a o q1 q2 q3 => hk2 a o q1 q2 (kp a o q1 q3)
theorem args_mind (a d : Value) : argsOk "min" ⟨[a], [(Str.ofString "default", d)]⟩ := by unfold argsOk; kernel_rfl
theorem min_def {s : Shared} {l : Addr} {its : List Value} {ns : List Int} {dv : Value} {Q : Value → Shared → Prop} (hh : A.handled = none) (hl : s.heap.IsList l its.toArray) (hi : IntsAre its ns)
    (h : ∀ v h' tk, (match ns.foldl bst_min none with | none => v = dv | some y => ∃ t, v = .int y t) → (∀ b o, s.heap.get? b = some o → h'.get? b = some o) → Q v { s with heap := h', toks := tk }) :
    wpAny (model prog w) A (call (.builtin "min") [.ref l] [(Str.ofString "default", dv)]) Q E s := by
  have nm : (toString "min" ++ toString ".loop" : String) = "min.loop" := by decide
  obtain ⟨ol, hol, hcl⟩ := id hl
  have lt : l < s.heap.objs.size := Heap.lt_size hol
  refine PyProof.Rows.kmk_tree F.kind_min F.plain_min F.entry_min (args_mind _ _) ?_
  refine wpAny_bind (m := Builtin.Builtins.bindParams "min" ["key", "default"] 0 ⟨[], [(Str.ofString "default", dv)]⟩) (wpAny_of_eq (t := Builtin.Builtins.bindParams "min" ["key", "default"] 0 ⟨[], [(Str.ofString "default", dv)]⟩) (a := [none, some dv]) rfl ?_)
  refine wpAny_bind (m := pure (Value.ref l)) (wpAny_pure ?_)
  refine wpAny_bind (wpAny_pyIter_list hl ?_)
  refine wpAny_bind (wpAny_newList ?_ (Nat.zero_le _))
  rw [nm]
  let it : Obj := { cls := .type "list_iterator", data := .fields #[.ref l, .int 0 0] }
  have sz : (s.heap.push it).objs.size = s.heap.objs.size + 1 := PyProof.Rows.size_push' ..
  have Wk := Walks.list (prog := prog) (w := w) (A := A.in1) hh s.heap.objs.size l (Nat.ne_of_lt lt) its.toArray
  have hlen : its.toArray.size = ns.length := by rw [List.size_toArray]; exact hi.length
  have hB : (s.heap.push it).objs.size ∉ [s.heap.objs.size, l] := by
    rw [sz]
    intro z
    rcases List.mem_cons.mp z with z | z
    · omega
    · exact Nat.ne_of_gt (Nat.lt_succ_of_lt lt) (List.mem_singleton.mp z)
  refine wpAny_pure ⟨plainId_quiet F.plain_min_loop _, min_turns Wk (fun i => ns.getD i 0) (fun i v hv => ?_) _ hB dv its.toArray.size 0 _ none 0 (Nat.sub_zero _) (Nat.zero_le _) ⟨⟨_, Heap.get?_push_of_some _ (Heap.get?_push_size _ rfl), rfl, rfl⟩, (hl.push _).push _⟩ (Heap.get?_push_size _ rfl) fun v h' tk q kp => ?_⟩
  · exact PyProof.Rows.IntsAre.int_at hi i v (by simpa using hv)
  · refine h v h' tk ?_ fun b o e => ?_
    · have e : (List.range' 0 its.toArray.size).map (fun i => ns.getD i 0) = ns := by
        rw [hlen]
        refine List.ext_getElem (by simp) fun i h1 h2 => ?_
        simp [List.getElem_range', h2]
      rw [e] at q
      exact q
    · have lb := Heap.lt_size e
      refine kp b o (fun z => ?_) (fun z => ?_) (Heap.get?_push_of_some _ (Heap.get?_push_of_some _ e))
      · exact Nat.ne_of_lt lb (List.mem_singleton.mp z)
      · have z' : b = (s.heap.push it).objs.size := z
        rw [sz] at z'; exact Nat.ne_of_lt (Nat.lt_succ_of_lt lb) z'
end
end Pv
end
section
set_option Elab.async false
set_option linter.all false
set_option maxRecDepth 100000
set_option maxHeartbeats 3200000
namespace Pv
open PySem PySem.Spec PyProof.Rows L2
abbrev nso (w : World) : Obj := { cls := .type "set", dict := none, data := .set #[] 0 (.fresh 0 0 (!w.params.followText "set-order")) }
abbrev Kps (h h' : Heap) : Prop := ∀ b o, h.get? b = some o → h'.get? b = some o
section
variable {P : Program} {w : World} {A : Around} {E : Value → Shared → Prop} {s : Shared}
structure Fills (P : Program) (w : World) (h0 : Heap) (S : Addr) (Pv : Nat → Value → Prop) (J : Nat → Heap → Prop) (u : Nat) : Prop where
  keep : ∀ i h h', J i h → (∀ o, h.get? S = some o → h'.get? S = some o) → Kps h0 h' → J i h'
  step : ∀ i v (A : Around) (E : Value → Shared → Prop) (s : Shared) (Q : Bool → Shared → Prop), Pv i v → A.units < u → J i s.heap → Kps h0 s.heap →
    (∀ r h' tk, s.toks ≤ tk → Heap.SameBut S s.heap h' → J (i + 1) h' → Q r { s with heap := h', toks := tk }) → wpAny (model P w) A (setAdd S v) Q E s
theorem fill_turns {I S : Addr} {fp wr : List Addr} {G : Array GenState → Array GenState → Prop} {n u : Nat} {Pv : Nat → Value → Prop} {St : Nat → Shared → Prop} {R : Result → Shared → Prop} {h0 : Heap} {J : Nat → Heap → Prop}
    (W : WalksS P w A.in1 I fp wr G n Pv St) (hf : S ∉ fp) (F0 : Fills P w h0 S Pv J u) (hu : A.in1.units < u) (hS : h0.get? S = none) (hw : ∀ b ∈ wr, h0.get? b = none) : ∀ (k i : Nat) (s : Shared), n - i = k → i ≤ n → St i s → Kps h0 s.heap → J i s.heap →
      (∀ s', Moved (S :: wr) G s s' → J n s'.heap → Kps h0 s'.heap → R (.ok (.ret .none)) s') → codeAny (model P w) A (.builtin "set.update.loop" ⟨[.ref S, .ref I], []⟩) R s := by
  have hsw : S ∉ wr := fun z => hf (W.sub _ z)
  have mv : ∀ {s s' : Shared}, Moved wr G s s' → Kps h0 s.heap → Kps h0 s'.heap := fun m k b o e => m.heap b o (fun z => by rw [hw b z] at e; cases e) (k b o e)
  intro k
  induction k with
  | zero =>
    intro i s hk hi st kp j fin
    obtain rfl : i = n := by omega
    refine codeAny_builtin F.entry_set_update_loop ?_
    rw [Around.under_plainId F.plain_set_update_loop _]
    show wpAny _ A.in1 (pyNext (.ref I) >>= _) _ _ s
    refine wpAny_bind (W.done s _ _ st fun s' m => ?_)
    show wpAny _ A.in1 (ret Value.none) _ _ s'
    exact wpAny_pure (fin s' (m.mono fun b hb => List.mem_cons_of_mem _ hb) (F0.keep _ _ _ j (fun o e => m.heap S o hsw e) (mv m kp)) (mv m kp))
  | succ k ih =>
    intro i s hk hi st kp j fin
    have lt : i < n := by omega
    refine codeAny_builtin F.entry_set_update_loop ?_
    rw [Around.under_plainId F.plain_set_update_loop _]
    show wpAny _ A.in1 (pyNext (.ref I) >>= _) _ _ s
    refine wpAny_bind (W.item i s _ _ lt st fun v s' pv st' m => ?_)
    have kp1 := mv m kp
    show wpAny _ A.in1 (holding [v] (setAdd S v) >>= _) _ _ s'
    refine wpAny_bind (wpAny_holding ?_)
    refine F0.step i v _ _ s' _ pv hu (F0.keep _ _ _ j (fun o e => m.heap S o hsw e) kp1) kp1 fun r h' tk ht sb j' => ?_
    have kp2 : Kps h0 h' := fun b o e => (sb.2 b (fun z => by rw [z, hS] at e; cases e)).trans (kp1 b o e)
    refine wpAny_pure ⟨plainId_quiet F.plain_set_update_loop _, ih (i + 1) _ (by omega) lt (W.frame _ s' _ _ st' ht fun b hb o e => ?_) kp2 j' fun s2 m2 j2 kp3 => ?_⟩
    · rw [sb.2 b (fun z : b = S => hf (by rw [← z]; exact hb))]; exact e
    · refine fin s2 (Moved.trans W.gtrans ((m.mono fun b hb => List.mem_cons_of_mem _ hb).then_heap ht fun b o hb e => ?_) m2) j2 kp3
      rw [sb.2 b (fun z : b = S => hb (by rw [z]; exact List.mem_cons_self))]; exact e
theorem get_none {h : Heap} {b : Addr} (hb : h.objs.size ≤ b) : h.get? b = none := by
  cases q : h.get? b with
  | none => rfl
  | some o => exact absurd (Nat.lt_of_lt_of_le (Heap.lt_size q) hb) (Nat.lt_irrefl _)
theorem call_set_any {l : Addr} {items : Array Value} {u : Nat} {J : Nat → Heap → Prop} {Q : Value → Shared → Prop} (hh : A.handled = none) (hl : s.heap.IsList l items ∨ s.heap.IsTuple l items)
    (F0 : Fills P w s.heap s.heap.objs.size (fun i v => items[i]? = some v) J u) (hu : A.units + 3 < u) (hJ0 : ∀ h, h.get? s.heap.objs.size = some (nso w) → Kps s.heap h → J 0 h)
    (h : ∀ (h' : Heap) (tk : Nat), J items.size h' → Kps s.heap h' → Q (.ref s.heap.objs.size) { s with heap := h', toks := tk }) :
    wpAny (model P w) A (call (.type "set") [.ref l]) Q E s := by
  obtain ⟨c, tl, hmro⟩ := F.called_set.mro
  have hmade := F.called_set.made
  have hsub := F.called_set.sub
  refine wpAny_call (codeAny_of_tree ?_)
  show wpAny _ _ (callAny (.type "set") _) _ _ _
  refine wpAny_pure ⟨Code.quiet_builtin _ (by decide +kernel), codeAny_builtin F.entry_type_call ?_⟩
  rw [Around.under_plain (weight_type_call_type "set" [.ref l] []) rfl]
  have g1 := F.called_set.notType
  have g2 := F.called_set.canCreate
  have g3 := F.typeCall_set_1 (.ref l)
  repeat (any_goals (first | assumption | wp_step))
  refine codeAny_mono (code_set_led1 (.ref l) (E := E) (Q₁ := fun x s1 => x = .ref s.heap.objs.size ∧ s1 = { s with heap := s.heap.push (nso w) }) ⟨rfl, rfl⟩) fun r s1 hr => ?_
  cases r with
  | error e => exact hr
  | ok fl =>
    cases fl with
    | ret x =>
      obtain ⟨rfl, rfl⟩ := hr
      have at0 : (s.heap.push (nso w)).get? s.heap.objs.size = some (nso w) := Heap.get?_push_size _ rfl
      have ty : Shared.TypeIs { s with heap := s.heap.push (nso w) } (.ref s.heap.objs.size) "set" := ⟨_, at0, rfl⟩
      have g4 := F.called_set.init.lookup
      have g5 := F.called_set.init.bind (.ref s.heap.objs.size)
      repeat (any_goals (first | assumption | wp_step))
      refine codeAny_mono (codeAny_call_builtin (R := wants (fun r s2 => r = .none ∧ ∃ h' tk, s2 = { s with heap := h', toks := tk } ∧ J items.size h' ∧ Kps s.heap h') E) F.called_set.init.plain F.entry_set_init (check_set_init_1 ty ?_)) fun r2 s2 hr2 => ?_
      · have hh3 : A.in1.in1.in1.handled = none := by simp [hh]
        rcases hl with hl | hl
        · obtain ⟨ol, hol, hcl, nl, hdl⟩ := hl
          obtain ⟨ocls, odict, odata, oslots⟩ := ol
          simp only at hcl hdl
          subst hcl; subst hdl
          have q0 : (s.heap.push (nso w)).get? l = some { cls := .type "list", dict := odict, data := .seq items nl, slots := oslots } := Heap.get?_push_of_some _ hol
          have q1 := F.sub_list_set
          have q2 := F.sub_list_frozenset
          have q3 : (Value.type "list" == Value.type "dict") = false := by decide
          have q4 : (s.heap.push (nso w)).IsList l items := ⟨_, q0, rfl, nl, rfl⟩
          unfold Builtin.«set.__init__» noKeywords Builtin.Frozenset.updateFrom
          generalize hPI : pyIter = PI
          wp_walk
          subst hPI
          refine wpAny_pyIter_list q4 ?_
          refine wpAny_bind (wpAny_runValue ?_)
          have ll : l < s.heap.objs.size := Heap.lt_size hol
          have ni : l ≠ (s.heap.push (nso w)).objs.size := by rw [Heap.size_push]; exact Nat.ne_of_lt (Nat.lt_succ_of_lt ll)
          have nf : s.heap.objs.size ∉ [(s.heap.push (nso w)).objs.size, l] := by
            rw [Heap.size_push]; simp only [List.mem_cons, List.mem_singleton, List.not_mem_nil, or_false, not_or]
            exact ⟨Nat.ne_of_lt (Nat.lt_succ_self _), Nat.ne_of_gt ll⟩
          refine fill_turns ((Walks.list hh3 _ l ni items).toS) nf F0 hu (get_none (Nat.le_refl _)) (fun b hb => get_none (by rw [List.mem_singleton.mp hb, Heap.size_push]; exact Nat.le_succ _)) (items.size - 0) 0 _ rfl (Nat.zero_le _)
            ⟨⟨_, Heap.get?_push_size _ rfl, rfl, rfl⟩, (q4.push _)⟩ (fun b o e => Heap.get?_push_of_some _ (Heap.get?_push_of_some _ e)) (hJ0 _ (Heap.get?_push_of_some _ at0) fun b o e => Heap.get?_push_of_some _ (Heap.get?_push_of_some _ e)) ?_
          intro s' m j kp
          obtain ⟨h', gg, dd, tk', oo⟩ := s'
          obtain rfl : gg = s.gens := m.gens
          obtain rfl : dd = s.drawn := m.drawn
          obtain rfl : oo = s.os := m.os
          show wpAny _ _ _ _ _ _
          refine wpAny_pure ?_
          show wpAny _ _ (ret Value.none) _ _ _
          exact wpAny_pure ⟨rfl, h', tk', rfl, j, kp⟩
        · obtain ⟨ol, hol, hcl, nl, hdl⟩ := hl
          obtain ⟨ocls, odict, odata, oslots⟩ := ol
          simp only at hcl hdl
          subst hcl; subst hdl
          have q0 : (s.heap.push (nso w)).get? l = some { cls := .type "tuple", dict := odict, data := .seq items nl, slots := oslots } := Heap.get?_push_of_some _ hol
          have q1 := F.sub_tuple_set
          have q2 := F.sub_tuple_frozenset
          have q3 : (Value.type "tuple" == Value.type "dict") = false := by decide
          have q4 : (s.heap.push (nso w)).IsTuple l items := ⟨_, q0, rfl, nl, rfl⟩
          unfold Builtin.«set.__init__» noKeywords Builtin.Frozenset.updateFrom
          generalize hPI : pyIter = PI
          wp_walk
          subst hPI
          refine wpAny_pyIter_tuple q4 ?_
          refine wpAny_bind (wpAny_runValue ?_)
          have ll : l < s.heap.objs.size := Heap.lt_size hol
          have ni : l ≠ (s.heap.push (nso w)).objs.size := by rw [Heap.size_push]; exact Nat.ne_of_lt (Nat.lt_succ_of_lt ll)
          have nf : s.heap.objs.size ∉ [(s.heap.push (nso w)).objs.size, l] := by
            rw [Heap.size_push]; simp only [List.mem_cons, List.mem_singleton, List.not_mem_nil, or_false, not_or]
            exact ⟨Nat.ne_of_lt (Nat.lt_succ_self _), Nat.ne_of_gt ll⟩
          refine fill_turns ((Walks.tuple hh3 _ l ni items).toS) nf F0 hu (get_none (Nat.le_refl _)) (fun b hb => get_none (by rw [List.mem_singleton.mp hb, Heap.size_push]; exact Nat.le_succ _)) (items.size - 0) 0 _ rfl (Nat.zero_le _)
            ⟨⟨_, Heap.get?_push_size _ rfl, rfl, rfl⟩, (q4.push _)⟩ (fun b o e => Heap.get?_push_of_some _ (Heap.get?_push_of_some _ e)) (hJ0 _ (Heap.get?_push_of_some _ at0) fun b o e => Heap.get?_push_of_some _ (Heap.get?_push_of_some _ e)) ?_
          intro s' m j kp
          obtain ⟨h', gg, dd, tk', oo⟩ := s'
          obtain rfl : gg = s.gens := m.gens
          obtain rfl : dd = s.drawn := m.drawn
          obtain rfl : oo = s.os := m.os
          show wpAny _ _ _ _ _ _
          refine wpAny_pure ?_
          show wpAny _ _ (ret Value.none) _ _ _
          exact wpAny_pure ⟨rfl, h', tk', rfl, j, kp⟩
      · cases r2 with
        | error e => exact hr2
        | ok f2 =>
          cases f2 with
          | ret r =>
            obtain ⟨rfl, h', tk, rfl, j, kp⟩ := hr2
            repeat (any_goals (first | assumption | wp_step))
            exact h _ _ j kp
          | _ => exact hr2.elim
    | _ => exact hr.elim
end
end Pv
end
section
set_option Elab.async false
set_option linter.all false
set_option maxRecDepth 100000
set_option maxHeartbeats 1000000
namespace Pv
open PySem PySem.Spec PyProof.Rows L2
section
variable {α : Type} [DecidableEq α] {lt : α → α → Bool}
def insU (lt : α → α → Bool) (x : α) : List α → List α
  | [] => [x]
  | y :: ys => if x = y then y :: ys else if lt x y = true then x :: y :: ys else y :: insU lt x ys
def sortU (lt : α → α → Bool) (xs : List α) : List α := xs.foldr (insU lt) []
structure Lin (lt : α → α → Bool) : Prop where
  irr : ∀ x, lt x x = false
  tr : ∀ x y z, lt x y = true → lt y z = true → lt x z = true
  tot : ∀ x y, lt x y = false → lt y x = false → x = y
theorem mem_insU {x y : α} : ∀ {l : List α}, y ∈ insU lt x l ↔ y = x ∨ y ∈ l
  | [] => by simp [insU]
  | z :: l => by
    unfold insU
    split
    · rename_i h; subst h; simp
    · split
      · simp
      · rw [List.mem_cons, mem_insU (l := l), List.mem_cons]
        constructor
        · rintro (h | h | h)
          · exact .inr (.inl h)
          · exact .inl h
          · exact .inr (.inr h)
        · rintro (h | h | h)
          · exact .inr (.inl h)
          · exact .inl h
          · exact .inr (.inr h)
theorem mem_sortU {y : α} : ∀ {xs : List α}, y ∈ sortU lt xs ↔ y ∈ xs
  | [] => by simp [sortU]
  | x :: xs => by
    show y ∈ insU lt x (sortU lt xs) ↔ _
    rw [mem_insU, mem_sortU, List.mem_cons]
theorem insU_sorted (L : Lin lt) {x : α} : ∀ {l : List α}, l.Pairwise (fun a b => lt a b = true) → (insU lt x l).Pairwise (fun a b => lt a b = true)
  | [], _ => by simp [insU]
  | y :: l, h => by
    obtain ⟨h1, h2⟩ := List.pairwise_cons.mp h
    unfold insU
    split
    · exact h
    · rename_i ne
      split
      · rename_i hl
        refine List.pairwise_cons.mpr ⟨fun z hz => ?_, h⟩
        rcases List.mem_cons.mp hz with rfl | hz
        · exact hl
        · exact L.tr _ _ _ hl (h1 z hz)
      · rename_i hl
        refine List.pairwise_cons.mpr ⟨fun z hz => ?_, insU_sorted L h2⟩
        rcases mem_insU.mp hz with rfl | hz
        · cases q : lt y z with
          | true => rfl
          | false => exact absurd (L.tot _ _ (by simpa using hl) q) ne
        · exact h1 z hz
theorem sortU_sorted (L : Lin lt) : ∀ (xs : List α), (sortU lt xs).Pairwise (fun a b => lt a b = true)
  | [] => List.Pairwise.nil
  | x :: xs => insU_sorted L (sortU_sorted L xs)
theorem sorted_uniq (L : Lin lt) : ∀ {a b : List α}, a.Pairwise (fun x y => lt x y = true) → b.Pairwise (fun x y => lt x y = true) → (∀ x, x ∈ a ↔ x ∈ b) → a = b
  | [], [], _, _, _ => rfl
  | [], y :: b, _, _, h => absurd ((h y).mpr List.mem_cons_self) (by simp)
  | x :: a, [], _, _, h => absurd ((h x).mp List.mem_cons_self) (by simp)
  | x :: a, y :: b, ha, hb, h => by
    obtain ⟨a1, a2⟩ := List.pairwise_cons.mp ha
    obtain ⟨b1, b2⟩ := List.pairwise_cons.mp hb
    have e : x = y := by
      rcases List.mem_cons.mp ((h x).mp List.mem_cons_self) with e | hx
      · exact e
      · rcases List.mem_cons.mp ((h y).mpr List.mem_cons_self) with e | hy
        · exact e.symm
        · exact absurd (L.tr _ _ _ (a1 y hy) (b1 x hx)) (by rw [L.irr]; decide)
    subst e
    congr 1
    refine sorted_uniq L a2 b2 fun z => ⟨fun hz => ?_, fun hz => ?_⟩
    · rcases List.mem_cons.mp ((h z).mp (List.mem_cons_of_mem _ hz)) with e | q
      · exact absurd (a1 z hz) (by rw [e, L.irr]; decide)
      · exact q
    · rcases List.mem_cons.mp ((h z).mpr (List.mem_cons_of_mem _ hz)) with e | q
      · exact absurd (b1 z hz) (by rw [e, L.irr]; decide)
      · exact q
theorem insU_len {x : α} : ∀ {l : List α}, (insU lt x l).length ≤ l.length + 1
  | [] => by simp [insU]
  | y :: l => by
    unfold insU
    split
    · simp
    · split
      · simp
      · have := insU_len (x := x) (l := l); simp; omega
theorem sortU_len : ∀ (xs : List α), (sortU lt xs).length ≤ xs.length
  | [] => Nat.le_refl _
  | x :: xs => by
    show (insU lt x (sortU lt xs)).length ≤ _
    have := insU_len (lt := lt) (x := x) (l := sortU lt xs)
    have := sortU_len xs
    simp; omega
end
def iLt (a b : Int) : Bool := decide (a < b)
theorem lin_i : Lin iLt := by
  refine ⟨fun x => ?_, fun x y z h1 h2 => ?_, fun x y h1 h2 => ?_⟩
  · simp [iLt]
  · simp only [iLt, decide_eq_true_eq] at h1 h2 ⊢; omega
  · simp only [iLt, decide_eq_false_iff_not] at h1 h2; omega
section
variable {P : Program} {w : World} {A : Around} {E : Value → Shared → Prop} {s : Shared} {a : Addr}
theorem sorted_setR {S : Int → Bool} {n : Nat} {Q : Value → Shared → Prop} (R : SetR w s.heap a S n) (hh : A.handled = none)
    (fin : ∀ s' p (out : List Value) (c : Nat) (ns : List Int), (∀ b o, s.heap.get? b = some o → s'.heap.get? b = some o) → s'.gens = s.gens → s'.os = s.os → s.heap.objs.size ≤ p →
      s'.heap.get? p = some (seqObj "list" out.toArray c) → IntsAre out ns → ns.Pairwise (fun x y => iLt x y = true) → (∀ k, k ∈ ns ↔ S k = true) → ns.length ≤ 4096 → Q (.ref p) s') : wpAny (model P w) A (call (.builtin "sorted") [.ref a]) Q E s := by
  obtain ⟨o, es, ep, t, ho, hex, hd, g, nd, hm, hb, hf, hn, hr, hl⟩ := R
  refine Calls.call_function_entry kind_sorted plain_sorted entry_sorted (args_sorted1 _) ?_
  unfold Builtin.«sorted»
  refine wpAny_bind (m := checkCount "sorted" 1 1 _) (wpAny_pure ?_)
  refine wpAny_bind (collect_set (A := A.in1) hh ⟨o, ho, hex.1, hd⟩ hf hb hr hl fun s1 vs k1 hz g1 o1 pm => ?_)
  have vl : vs.length ≤ 4096 := by
    rw [pm.length_eq, List.length_map, Array.length_toList]
    have : scanBound = 4096 := rfl
    omega
  have vi : ∀ v ∈ vs, ∃ i t, v = Value.int i t := fun v hv => by
    obtain ⟨e, he, q⟩ := List.mem_map.mp (pm.mem_iff.mp hv)
    obtain ⟨k, tk, z, _⟩ := g e he
    exact ⟨k, tk, by rw [← q]; exact z⟩
  have hI := SrtO.ints_iv vi
  have ke : ∀ v ∈ es.toList.map (·.2), SrtO.iv v = Builtin.Re.reRawOf v := fun v hv => by
    obtain ⟨i, t, rfl⟩ := vi v (pm.mem_iff.mpr hv)
    rfl
  have pk : (vs.map SrtO.iv).Perm (es.toList.map keyOf) := by
    have q := pm.map SrtO.iv
    rw [List.map_map] at q
    refine q.trans (List.Perm.of_eq (List.map_congr_left fun e he => ?_))
    exact ke e.2 (List.mem_map.mpr ⟨e, he, rfl⟩)
  refine wpAny_bind (wpAny_newList ?_ (by rw [sizeLine_eq]; omega))
  have at1 : (s1.heap.push (seqObj "list" vs.toArray 0)).get? s1.heap.objs.size = some (seqObj "list" vs.toArray 0) := Heap.get?_push_size _ rfl
  refine wpAny_bind (wpAny_holding (wpAny_call_entry slot_list_sort ⟨_, at1, rfl⟩ entry_list_sort
    (SrtO.list_sort_ord SrtO.swo_int at1 (by rw [sizeLine_eq]; omega) (fun h2 => SrtO.ints_sortable hI h2) fun out h1 h2 => ⟨.none, rfl, ?_⟩) (args_list_sort _)))
  obtain ⟨c1, c2, c3⟩ := SrtO.ints_out hI h1 h2
  obtain ⟨c, hc⟩ := sortedHeap_at (vs := vs) (out := out.toArray) at1
  have pn : (out.map SrtO.iv).Perm (es.toList.map keyOf) := c2.trans pk
  refine wpAny_pure ⟨_, rfl, fin _ s1.heap.objs.size out c _ (fun b u e => ?_) g1 o1 hz hc c1 ?_ (fun k => by rw [pn.mem_iff, ← hm k]) ?_⟩
  · have q := k1 b u e
    have hlt := Heap.lt_size q
    show (sortedHeap (s1.heap.push (seqObj "list" vs.toArray 0)) s1.heap.objs.size vs out.toArray).get? b = some u
    rw [sortedHeap_old (Nat.ne_of_lt hlt) (by rw [size_push']; exact Nat.lt_succ_of_lt hlt)]
    exact Heap.get?_push_of_some _ q
  · exact (lt_of_le_nodup _ c3 (pn.nodup_iff.mpr nd)).imp fun {x y} h => decide_eq_true h
  · rw [c2.length_eq, List.length_map]; exact vl
end
section
variable {X : Cx}
def rSortedSA (w : World) : List V → Hp → VK → Prop := fun vs H Q => ∃ (a : Addr) (S : Int → Bool) (n : Nat), vs = [V.ref a] ∧ H a = some (SetO w a S n) ∧
  ∀ (ns : List Int) (p : Addr), ns.Pairwise (fun x y => iLt x y = true) → (∀ k : Int, k ∈ ns ↔ S k = true) → H p = none → Q (.ref p) (upd H p (.lst (ns.map V.int)))
theorem cr_sortedSA (hc : X.calm = true) : CallR X (.builtin "sorted") (rSortedSA X.w) := by
  intro pins s σ H vs us Q I r h
  obtain ⟨a, S, n, rfl, ha, q⟩ := h
  rw [Vals.ref1 r]
  refine sorted_setR (setO_get I ha) (I.ok.hd hc) fun s' p out c ns k g o hp hg hi hs hm hl => ?_
  have hn : H p = none := I.hok.fresh hp
  have hlen : (ns.map V.int).length ≤ sizeLine := by rw [List.length_map, sizeLine_eq]; omega
  have J : Inv X pins σ (upd H p (.lst (ns.map V.int))) { s with heap := s'.heap, gens := s'.gens, drawn := s'.drawn, toks := s'.toks } :=
    I.call (ch := []) (Un.laid k hp hn) (I.hok.laid k hp ⟨hlen, out, c, vals_of_ints hi, hg⟩) (by rw [g]; exact I.bare) (fun _ z => nomatch z)
  have e : s' = { s with heap := s'.heap, gens := s'.gens, drawn := s'.drawn, toks := s'.toks } := by
    cases s'; cases s; cases o; rfl
  rw [e]
  exact ⟨.ref p, _, J, rfl, q ns p hs hm hn⟩
end
end Pv
end
section
set_option Elab.async false
set_option linter.all false
set_option maxRecDepth 100000
set_option maxHeartbeats 1000000
namespace Pv
open PySem PySem.Spec PyProof.Rows L2
abbrev KT' := List L2.Key
abbrev Ent := Addr × KT'
abbrev IsM (P : Program) (w : World) (h : Heap) (k : KT') (b : Addr) : Prop := IsTupleKey (mixKind P w) h k b
abbrev mh (P : Program) (w : World) (k : KT') : Int := tupleKeyHash (mixKind P w) k
abbrev hsE (P : Program) (w : World) (e : Ent) : Int := mh P w e.2
abbrev rowE (P : Program) (w : World) (e : Ent) : Int × Value := (mh P w e.2, Value.ref e.1)
section
variable {P : Program} {w : World} {A : Around} {E : Value → Shared → Prop} {s : Shared}
theorem mix_items {k : KT'} {vs : List Value} (h : ItemsAre (mixKind P w) k vs) : ∀ v ∈ vs, (∃ i t, v = Value.int i t) ∨ ∃ x t, v = Value.str x t := by
  induction h with
  | nil => intro v hv; cases hv
  | @cons k0 v0 ks vs h1 _ ih =>
    intro v hv
    rcases List.mem_cons.mp hv with rfl | hv
    · rcases keyIs_shape (k := k0) (v := v) h1 with ⟨i, t, _, e⟩ | ⟨x, t, _, e⟩
      · exact .inl ⟨i, t, e⟩
      · exact .inr ⟨x, t, e⟩
    · exact ih v hv
theorem ofCls_str (n : Nat) (x : Str) (t : Tok) : ofAClassStatement n (.str x t) = pure false := by cases n <;> rfl
theorem byVal_str (n : Nat) (x : Str) (t : Tok) : hashByValue n (.str x t) = pure false := by cases n <;> rfl
theorem ofCls_mix {k : KT'} {b : Addr} {Q : Bool → Shared → Prop} (hk : IsM P w s.heap k b) (h : Q false s) : wpAny (model P w) A (ofAClassStatement 8 (.ref b)) Q E s := by
  have ty := hk.typeIs
  obtain ⟨o, items, n, ho, _, hd, hi⟩ := hk
  unfold ofAClassStatement
  refine wpAny_bind (wpAny_typeOf ty ?_)
  dsimp only
  simp only [show (("tuple" : String) == "tuple") = true by decide, if_true, Bool.not_true, Bool.false_eq_true, if_false]
  try refine wpAny_bind (wpAny_pure ?_)
  try simp only [Bool.not_true, Bool.false_eq_true, if_false]
  show wpAny _ _ (seqItems? (.ref b) >>= _) _ _ s
  refine wpAny_bind (wpAny_seqItems ho hd ?_)
  dsimp only
  refine wpAny_bind ?_
  show wpAny _ _ (forIn items _ _) _ _ s
  rw [← Array.forIn_toList]
  refine wpAny_forIn_list _ (fun l r s' => r.1 = none ∧ s' = s ∧ ∀ v ∈ l, (∃ i t, v = Value.int i t) ∨ ∃ x t, v = Value.str x t) _ ?_ ?_ _ _ ⟨rfl, rfl, mix_items hi⟩
  · rintro v l r s' ⟨_, rfl, q⟩
    have ql : ∀ u ∈ l, (∃ i t, u = Value.int i t) ∨ ∃ x t, u = Value.str x t := fun u hu => q u (List.mem_cons_of_mem _ hu)
    rcases q v List.mem_cons_self with ⟨i, t, rfl⟩ | ⟨x, t, rfl⟩
    · rw [ofAClass_int]
      refine wpAny_bind (wpAny_pure ?_)
      simp only [Bool.false_eq_true, if_false]
      exact wpAny_pure ⟨rfl, rfl, ql⟩
    · rw [ofCls_str]
      refine wpAny_bind (wpAny_pure ?_)
      simp only [Bool.false_eq_true, if_false]
      exact wpAny_pure ⟨rfl, rfl, ql⟩
  · rintro ⟨r1, r2⟩ s' ⟨q, rfl, _⟩
    simp only at q
    subst q
    exact wpAny_pure h
theorem byVal_mix {k : KT'} {b : Addr} {Q : Bool → Shared → Prop} (hk : IsM P w s.heap k b) (h : ∀ r, Q r s) : wpAny (model P w) A (hashByValue 8 (.ref b)) Q E s := by
  have ty := hk.typeIs
  obtain ⟨o, items, n, ho, _, hd, hi⟩ := hk
  unfold hashByValue
  refine wpAny_bind (wpAny_specialOf ty F.slot_tuple_hash.lookup ?_)
  show wpAny _ _ (seqItems? (.ref b) >>= _) _ _ s
  refine wpAny_bind (wpAny_seqItems ho hd ?_)
  refine wpAny_bind ?_
  show wpAny _ _ (forIn items _ _) _ _ s
  rw [← Array.forIn_toList]
  refine wpAny_forIn_list _ (fun l r s' => r.1 = none ∧ s' = s ∧ ∀ v ∈ l, (∃ i t, v = Value.int i t) ∨ ∃ x t, v = Value.str x t) _ ?_ ?_ _ _ ⟨rfl, rfl, mix_items hi⟩
  · rintro v l r s' ⟨_, rfl, q⟩
    have ql : ∀ u ∈ l, (∃ i t, u = Value.int i t) ∨ ∃ x t, u = Value.str x t := fun u hu => q u (List.mem_cons_of_mem _ hu)
    rcases q v List.mem_cons_self with ⟨i, t, rfl⟩ | ⟨x, t, rfl⟩
    · rw [hashBy_int]
      refine wpAny_bind (wpAny_pure ?_)
      simp only [Bool.not_true, Bool.false_eq_true, if_false]
      exact wpAny_pure ⟨rfl, rfl, ql⟩
    · rw [byVal_str]
      refine wpAny_bind (wpAny_pure ?_)
      simp only [Bool.not_false, if_true]
      exact wpAny_pure (wpAny_pure (h false))
  · rintro ⟨r1, r2⟩ s' ⟨q, rfl, _⟩
    simp only at q
    subst q
    exact wpAny_pure (h true)
theorem unseen_mix {k : KT'} {b : Addr} {Q : Bool → Shared → Prop} (hk : IsM P w s.heap k b) {ys : List Value} (hy : ∀ y ∈ ys, ∃ k' c, y = Value.ref c ∧ IsM P w s.heap k' c) (h : Q false s) :
    wpAny (model P w) A (searchCouldBeSeen (.ref b) ys) Q E s := by
  unfold searchCouldBeSeen
  refine wpAny_bind ?_
  refine wpAny_forIn_list _ (fun l r s' => r.1 = none ∧ s' = s ∧ ∀ y ∈ l, ∃ k' c, y = Value.ref c ∧ IsM P w s.heap k' c) _ ?_ ?_ _ _ ⟨rfl, rfl, hy⟩
  · rintro v l r s' ⟨_, rfl, q⟩
    obtain ⟨k', c, rfl, hc⟩ := q v List.mem_cons_self
    have ql : ∀ y ∈ l, ∃ k' c, y = Value.ref c ∧ IsM P w s'.heap k' c := fun u hu => q u (List.mem_cons_of_mem _ hu)
    dsimp only
    by_cases hv : (b == c || (carriedByValue (.ref b) && carriedByValue (.ref c))) = true
    · exact wp_if_pos hv (wpAny_pure ⟨rfl, rfl, ql⟩)
    · refine wp_if_neg hv ?_
      refine wpAny_bind (wpAny_eqIsQuiet_tuple hk ?_)
      simp only [Bool.not_true, Bool.false_eq_true, if_false]
      refine wpAny_bind (wpAny_eqIsQuiet_tuple hc ?_)
      simp only [Bool.not_true, Bool.false_eq_true, if_false]
      refine wpAny_bind (ofCls_mix hk ?_)
      simp only [Bool.false_eq_true, if_false]
      refine wpAny_bind (ofCls_mix hc ?_)
      simp only [Bool.false_eq_true, if_false]
      exact wpAny_pure ⟨rfl, rfl, ql⟩
  · rintro ⟨r1, r2⟩ s' ⟨q, rfl, _⟩
    simp only at q
    subst q
    exact wpAny_pure h
structure MS (P : Program) (w : World) (h : Heap) (a : Addr) (L : List Ent) (es : Array (Int × Value)) (ep : Nat) (t : SetTable) : Prop where
  ob : ∃ o, h.get? a = some o ∧ o.ExactSet ∧ o.data = .set es ep t
  rw' : es.toList = L.map (rowE P w)
  tb : TabOk t (L.map (hsE P w))
  nd : (L.map (·.2)).Nodup
  tu : ∀ e ∈ L, IsM P w h e.2 e.1
  ld : w.params.followText "set-order" = true ∨ t.led = true
  rm : L.length * 5 < t.mask * 3
  fw : L.length < 64
variable {a : Addr} {L : List Ent} {es : Array (Int × Value)} {ep : Nat} {t : SetTable}
theorem rows_size (r : es.toList = L.map (rowE P w)) : es.size = L.length := by
  have := congrArg List.length r
  simpa using this
theorem rows_at (r : es.toList = L.map (rowE P w)) {i : Nat} {e : Ent} (h : L[i]? = some e) : es[i]? = some (rowE P w e) := by
  rw [← Array.getElem?_toList, r, List.getElem?_map, h]; rfl
theorem MS.fit (R : MS P w s.heap a L es ep t) : t.fits es.size = true := by
  have q1 := R.tb.sz
  rw [List.length_map] at q1
  have q2 := rows_size R.rw'
  have q3 := R.rm
  unfold SetTable.fits SetTable.fill
  rw [R.tb.dm, Bool.and_eq_true, beq_iff_eq, decide_eq_true_eq]
  show t.place.size = es.size ∧ t.place.size + 0 ≤ t.mask
  omega
theorem MS.nogw (R : MS P w s.heap a L es ep t) : ¬ t.gaveWay = true := by
  unfold SetTable.gaveWay
  rw [mask_odd R.tb.mok]; decide
abbrev stp (t : SetTable) (h : Int) (c : Nat) : SetTable.Probe := nth t.mask (runAt t.mask (SetTable.bits h % (t.mask + 1)) (SetTable.bits h)) c
theorem stp_dummy (t : SetTable) (h : Int) (c : Nat) : (stp t h c).dummy = none := by
  have key : ∀ (n : Nat) (p : SetTable.Probe), p.dummy = none → (nth t.mask p n).dummy = none := by
    intro n
    induction n with
    | zero => exact fun _ q => q
    | succ n ih => exact fun p q => ih (adv t.mask p) (by unfold adv; split <;> exact q)
  exact key c _ rfl
theorem stp_add (t : SetTable) (h : Int) (c q : Nat) : nth t.mask (stp t h c) q = stp t h (c + q) := (nth_add t.mask c _ q).symm
theorem ms_find (R : MS P w s.heap a L es ep t) {x : Addr} {k : KT'} (hx : IsM P w s.heap k x) (hu : A.units < cLine) {K : Nat} (k1 : K < 10 * SetTable.turns t.mask)
    (k2 : way t.mask (mh P w k) K ∉ t.place.toList) (k3 : ∀ c, c < K → way t.mask (mh P w k) c ∈ t.place.toList) {Q : SetFound → Shared → Prop}
    (yes : k ∈ L.map (·.2) → Q (.there none) s) (no : k ∉ L.map (·.2) → Q (.free (way t.mask (mh P w k) K) false) s) :
    ∀ (f c : Nat) (st : Option SetTable.Probe), st.getD (t.probeStart (mh P w k)) = stp t (mh P w k) c → c ≤ K → K - c < f →
      (∀ (i : Nat) e, L[i]? = some e → e.2 = k → ∃ d, c ≤ d ∧ d < K ∧ t.place.toList[i]? = some (way t.mask (mh P w k) d)) →
      wpAny (model P w) A (setSearchFrom a (.ref x) (mh P w k) true f st) Q E s
  | 0, c, st, _, _, hf, _ => absurd hf (Nat.not_lt_zero _)
  | f + 1, c, st, e0, hc, hf, left => by
    obtain ⟨o, ho, hex, hd⟩ := R.ob
    rw [setSearchFrom_succ]
    refine wpAny_bind (wpAny_setState_of ho hd R.fit ?_)
    dsimp only
    refine wp_if_neg R.nogw ?_
    try refine wpAny_bind (wpAny_pure ?_)
    have jat : ∀ q, (nth t.mask (stp t (mh P w k) c) q).j = way t.mask (mh P w k) (c + q) := fun q => congrArg SetTable.Probe.j (stp_add t _ c q)
    have sp := go_spec t R.tb.ris R.tb.dm (fun i => (es[i]?.map (·.1)).getD 0) (mh P w k) (10 * SetTable.turns t.mask) (K - c) (stp t (mh P w k) c) (stp_dummy _ _ _) (by omega)
      (fun q hq => by rw [jat]; exact k3 (c + q) (by omega)) (by rw [jat, show c + (K - c) = K by omega]; exact k2)
    have hat : ∀ (i : Nat) e, L[i]? = some e → (es[i]?.map (·.1)).getD 0 = mh P w e.2 := fun i e he => by rw [rows_at R.rw' he]; rfl
    rcases sp with ⟨q, i, hq, hi, hh, hno, hp⟩ | ⟨hno, hp⟩
    · have hp' : t.probe (fun i => (es[i]?.map (·.1)).getD 0) (mh P w k) (st.getD (t.probeStart (mh P w k))) = some (.candidate (way t.mask (mh P w k) (c + q)) i (stp t (mh P w k) (c + (q + 1)))) := by
        rw [e0, ← jat, ← stp_add]; exact hp
      rw [hp']
      dsimp only
      rw [jat] at hi
      have il : i < L.length := by
        have z1 : i < t.place.toList.length := (List.getElem?_eq_some_iff.mp hi).1
        have z2 := R.tb.sz
        rw [List.length_map] at z2
        rw [Array.length_toList] at z1
        omega
      obtain ⟨e, he⟩ : ∃ e, L[i]? = some e := ⟨L[i], List.getElem?_eq_getElem il⟩
      have em : e ∈ L := List.mem_of_getElem? he
      have et := R.tu e em
      have tail : wpAny (model P w) A (searchRest a (.ref x) (mh P w k) true f es t (way t.mask (mh P w k) (c + q)) i (stp t (mh P w k) (c + (q + 1)))) Q E s := by
        unfold searchRest
        rw [rows_at R.rw' he]
        dsimp only
        refine wpAny_bind (wpAny_holding (wpAny_eqBool_tuple hu et hx ?_))
        refine wpAny_bind (wpAny_setState_of ho hd R.fit ?_)
        dsimp only
        by_cases hk : e.2 = k
        · exact wp_if_pos (by simp [hk]) (wpAny_pure (yes (List.mem_map.mpr ⟨e, em, hk⟩)))
        · refine wp_if_neg (by simp [hk]) ?_
          try refine wpAny_bind (wpAny_pure ?_)
          rw [sameMem]
          dsimp only
          have sl : t.slot (way t.mask (mh P w k) (c + q)) = .live i := slot_live R.tb.ris hi
          simp only [if_true, sl, rows_at R.rw' he]
          refine wpAny_bind (wpAny_isSame_ref_self (wpAny_bind (wpAny_pure ?_)))
          simp only [if_true]
          refine wp_if_neg (by simp [hk]) ?_
          refine ms_find R hx hu k1 k2 k3 yes no f (c + (q + 1)) _ rfl (by omega) (by omega) fun i0 e1 z1 z2 => ?_
          obtain ⟨d, d1, d2, d3⟩ := left i0 e1 z1 z2
          refine ⟨d, ?_, d2, d3⟩
          rcases Nat.lt_trichotomy d (c + q) with z | z | z
          · exfalso
            exact hno (d - c) i0 (by omega) (by rw [jat, show c + (d - c) = d by omega]; exact d3) ((hat i0 e1 z1).trans (congrArg (mh P w) z2))
          · exfalso
            rw [z] at d3
            have s0 := slot_live R.tb.ris d3
            rw [sl] at s0
            injection s0 with s0
            rw [← s0, he] at z1
            exact hk ((congrArg Prod.snd (Option.some.inj z1)).trans z2)
          · omega
      by_cases hl : t.led = true
      · refine wp_if_neg (by simp [hl]) ?_
        try refine wpAny_bind (wpAny_pure ?_)
        exact tail
      · refine wp_if_pos (by simp [hl]) ?_
        refine wpAny_bind (unseen_mix hx (fun y hy => ?_) ?_)
        · obtain ⟨r, hr, er⟩ := List.mem_map.mp hy
          have hr1 : r ∈ es ∧ r.1 = mh P w k := by simpa using hr
          have hr2 : r ∈ es.toList := by simpa using hr1.1
          rw [R.rw'] at hr2
          obtain ⟨e2, m2, e3⟩ := List.mem_map.mp hr2
          exact ⟨e2.2, e2.1, by rw [← er, ← e3], R.tu e2 m2⟩
        · refine wp_if_neg (by decide) ?_
          try refine wpAny_bind (wpAny_pure ?_)
          exact tail
    · have hp' : t.probe (fun i => (es[i]?.map (·.1)).getD 0) (mh P w k) (st.getD (t.probeStart (mh P w k))) = some (.empty (way t.mask (mh P w k) K) none) := by
        have z : way t.mask (mh P w k) K = (nth t.mask (stp t (mh P w k) c) (K - c)).j := by rw [jat, show c + (K - c) = K by omega]
        rw [e0, z]; exact hp
      rw [hp']
      dsimp only
      refine wpAny_pure (no fun hm => ?_)
      obtain ⟨e, em, ek⟩ := List.mem_map.mp hm
      obtain ⟨i0, hi0, ei⟩ := List.getElem_of_mem em
      have z1 : L[i0]? = some e := by rw [List.getElem?_eq_getElem hi0, ei]
      obtain ⟨d, d1, d2, d3⟩ := left i0 e z1 ek
      exact hno (d - c) i0 (by omega) (by rw [jat, show c + (d - c) = d by omega]; exact d3) ((hat i0 e z1).trans (congrArg (mh P w) ek))
theorem ms_search (R : MS P w s.heap a L es ep t) {x : Addr} {k : KT'} (hx : IsM P w s.heap k x) (hu : A.units < cLine) {Q : SetFound → Shared → Prop} (yes : k ∈ L.map (·.2) → Q (.there none) s)
    (no : ∀ K, k ∉ L.map (·.2) → way t.mask (mh P w k) K ∉ t.place.toList → (∀ c, c < K → way t.mask (mh P w k) c ∈ t.place.toList) → Q (.free (way t.mask (mh P w k) K) false) s) :
    wpAny (model P w) A (setSearch a (.ref x) (mh P w k) true) Q E s := by
  have rm := R.rm
  obtain ⟨K, k1, k2, k3⟩ := R.tb.first (by rw [List.length_map]; omega) (mh P w k)
  have k4 : K < 100000 := by
    have : 10 * SetTable.turns t.mask ≤ 1420 := by
      unfold SetTable.turns
      rcases R.tb.mok with e | e | e <;> omega
    omega
  unfold setSearch
  refine ms_find R hx hu k1 k2 k3 yes (fun n => no K n k2 k3) 100000 0 none rfl (Nat.zero_le _) (by omega) fun i e he hk => ?_
  have z1 : (L.map (hsE P w))[i]? = some (mh P w k) := by rw [List.getElem?_map, he, ← hk]; rfl
  have z2 : i < t.place.toList.length := by
    have q1 : i < L.length := (List.getElem?_eq_some_iff.mp he).1
    have q2 := R.tb.sz
    rw [List.length_map] at q2
    rw [Array.length_toList]; omega
  have z3 := List.getElem?_eq_getElem z2
  obtain ⟨d, d1, d2⟩ := R.tb.before k2 z1 z3
  exact ⟨d, Nat.zero_le _, d1, by rw [z3, d2]⟩
end
end Pv
end
section
set_option Elab.async false
set_option linter.all false
set_option maxRecDepth 100000
set_option maxHeartbeats 1000000
namespace Pv
open PySem PySem.Spec PyProof.Rows L2
section
variable {P : Program} {w : World} {A : Around} {E : Value → Shared → Prop} {s : Shared} {a : Addr} {L : List Ent} {es : Array (Int × Value)} {ep : Nat} {t : SetTable}
theorem pick_map {α : Type} (l : List α) (d : α) : ∀ is : List Nat, (∀ i ∈ is, i < l.length) → is.filterMap (fun i => l[i]?) = is.map fun i => l.getD i d
  | [], _ => rfl
  | i :: is, h => by
    have hi := h i List.mem_cons_self
    rw [List.filterMap_cons_some (List.getElem?_eq_getElem hi), List.map_cons, pick_map l d is fun j hj => h j (List.mem_cons_of_mem _ hj), List.getD_eq_getElem?_getD, List.getElem?_eq_getElem hi]; rfl
theorem pick_all {α : Type} (l : List α) (d : α) : (List.range l.length).map (fun i => l.getD i d) = l := by
  refine List.ext_getElem (by simp) fun i h1 h2 => ?_
  simp [h2]
theorem reorder {es : Array (Int × Value)} (r : es.toList = L.map (rowE P w)) {ord : Array Nat} (hp : ord.toList.Perm (List.range L.length)) :
    ∃ L2 : List Ent, (ord.filterMap (es[·]?)).toList = L2.map (rowE P w) ∧ L2.Perm L ∧ L2.map (hsE P w) = ord.toList.map fun i => (es.map (·.1)).getD i 0 := by
  have hb : ∀ i ∈ ord.toList, i < L.length := fun i hi => List.mem_range.mp (hp.mem_iff.mp hi)
  refine ⟨ord.toList.filterMap fun i => L[i]?, ?_, ?_, ?_⟩
  · have e : (fun i : Nat => es[i]?) = fun i : Nat => (L[i]?).map (rowE P w) := by
      funext i
      rw [← Array.getElem?_toList, r, List.getElem?_map]
    rw [Array.toList_filterMap, e, List.map_filterMap]
  · have z := hp.filterMap fun i => L[i]?
    have e2 : (List.range L.length).filterMap (fun i => L[i]?) = L := by
      rw [pick_map L ((0 : Addr), []) _ fun i hi => List.mem_range.mp hi, pick_all]
    rw [e2] at z
    exact z
  · rw [pick_map L ((0 : Addr), []) _ hb, List.map_map]
    refine List.map_congr_left fun i hi => ?_
    have hl := hb i hi
    have e1 : es[i]? = some (rowE P w L[i]) := rows_at r (List.getElem?_eq_getElem hl)
    have e2 : (es.map (·.1)).getD i 0 = mh P w (L[i]).2 := by
      have e3 : (es.map (·.1))[i]? = some (mh P w (L[i]).2) := by rw [Array.getElem?_map, e1]; rfl
      simp [Array.getD_eq_getD_getElem?, e3]
    rw [e2]
    show hsE P w (L.getD i ((0 : Addr), [])) = _
    rw [List.getD_eq_getElem?_getD, List.getElem?_eq_getElem hl]; rfl
theorem mix_apart {h h' : Heap} {k : KT'} {b : Addr} {o : Obj} (hb : IsM P w h k b) (ho : h.get? a = some o) (hd : o.data = .set es ep t) (sb : Heap.SameBut a h h') : IsM P w h' k b := by
  obtain ⟨o', its, n, e, r1, r2, r3⟩ := hb
  have ne : b ≠ a := by
    rintro rfl
    obtain rfl : o' = o := Option.some.inj (e.symm.trans ho)
    rw [hd] at r2
    exact nomatch r2
  exact ⟨o', its, n, (sb.2 b ne).trans e, r1, r2, r3⟩
theorem mix_keep {h h' : Heap} {k : KT'} {b : Addr} (x : IsM P w h k b) (hk : Kps h h') : IsM P w h' k b := by
  obtain ⟨o, its, n, e, r⟩ := x
  exact ⟨o, its, n, hk b o e, r⟩
theorem ms_relay {o : Obj} (ho : s.heap.get? a = some o) (hex : o.ExactSet) (hd : o.data = .set es ep t) (r : es.toList = L.map (rowE P w)) (z1 : t.place.size = es.size) (z2 : t.dummies = #[]) (z3 : es.size ≤ t.mask)
    (nd : (L.map (·.2)).Nodup) (tu : ∀ e ∈ L, IsM P w s.heap e.2 e.1) (ld : w.params.followText "set-order" = true ∨ t.led = true) (fw : L.length < 64) {wd M : Nat}
    (m1 : SetTable.sizeAbove wd - 1 = M) (m2 : MaskOk M) (m3 : SetTable.sizeAbove wd ≤ 128) (m4 : L.length * 5 < M * 3) {Q : Unit → Shared → Prop}
    (fin : ∀ h' L' es' ep' t', Heap.SameBut a s.heap h' → MS P w h' a L' es' ep' t' → L'.Perm L → Q () { s with heap := h' }) : wpAny (model P w) A (setRelay a wd) Q E s := by
  have sl := rows_size r
  have ft : t.fits es.size = true := by
    unfold SetTable.fits SetTable.fill
    rw [z2, Bool.and_eq_true, beq_iff_eq, decide_eq_true_eq]
    show t.place.size = es.size ∧ t.place.size + 0 ≤ t.mask
    omega
  obtain ⟨t', ord, e, hp, T, em, el, _, _⟩ := relaid_ok t (hs := es.map (·.1)) (wanted := wd) m1 m2 (by rw [Array.size_map, sl]; omega)
  rw [Array.size_map, sl] at hp
  obtain ⟨L2, r1, r2, r3⟩ := reorder r hp
  rw [← r3] at T
  have s2 : (ord.filterMap (es[·]?)).size = es.size := by
    rw [rows_size r1, r2.length_eq, sl]
  rw [setRelay_eq]
  refine wpAny_bind (wpAny_setState_of ho hd ft ?_)
  dsimp only
  refine wp_if_neg (by rw [sizeLine_eq]; omega) ?_
  try refine wpAny_bind (wpAny_pure ?_)
  rw [e]
  dsimp only
  refine wpAny_bind ?_
  refine wp_if_neg (by rw [s2]; simp) ?_
  try refine wpAny_bind (wpAny_pure ?_)
  refine wpAny_pure ?_
  dsimp only
  refine wpAny_storeSet_of ho hd ?_ (by rw [s2, sl, sizeLine_eq]; omega)
  have sb : Heap.SameBut a s.heap (s.heap.update a (Obj.putSet (ord.filterMap (es[·]?)) t')) := Heap.SameBut.update ..
  refine fin _ L2 (ord.filterMap (es[·]?)) (ep + 1) t' sb ⟨⟨_, store_at ho hd, ⟨hex.1, hex.2.1, hex.2.2⟩, rfl⟩, r1, T, (r2.map (·.2)).nodup_iff.mpr nd, fun e he => mix_apart (tu e (r2.mem_iff.mp he)) ho hd sb, by rw [el]; exact ld, ?_, by rw [r2.length_eq]; exact fw⟩ r2
  rw [r2.length_eq, em]; exact m4
theorem tab_plain {t : SetTable} {hs : List Int} (T : TabOk t hs) (b : Bool) : TabOk { t with plain := b } hs := ⟨T.ris, T.dm, T.sz, T.mok, T.bd, T.reach⟩
theorem ms_add (R : MS P w s.heap a L es ep t) {x : Addr} {k : KT'} (hx : IsM P w s.heap k x) (hu : A.units < cLine) (fw : L.length + 1 < 64) {Q : Bool → Shared → Prop}
    (fin : ∀ b h' L' es' ep' t', Heap.SameBut a s.heap h' → MS P w h' a L' es' ep' t' → (k ∈ L.map (·.2) → L' = L) → (k ∉ L.map (·.2) → L'.Perm ((x, k) :: L)) → Q b { s with heap := h' }) :
    wpAny (model P w) A (setAddHashed a (.ref x) (mh P w k)) Q E s := by
  obtain ⟨o, ho, hex, hd⟩ := R.ob
  have sl := rows_size R.rw'
  have rm := R.rm
  unfold setAddHashed
  refine wpAny_holding ?_
  rw [show (100000 : Nat) = 99999 + 1 from rfl, setAddHashedIn_succ]
  refine wpAny_bind (wpAny_setState_of ho hd R.fit ?_)
  dsimp only
  refine wp_if_neg (by simp [byScan, Value.scannable]) ?_
  try refine wpAny_bind (wpAny_pure ?_)
  refine wpAny_bind (ms_search R hx hu (fun hm => ?_) fun K hm k2 k3 => ?_)
  · dsimp only
    exact wpAny_pure (fin false s.heap L es ep t (Heap.SameBut.refl a s.heap) R (fun _ => rfl) fun z => absurd hm z)
  · dsimp only
    refine wpAny_bind (wpAny_setState_of ho hd R.fit ?_)
    dsimp only
    obtain ⟨q1, q2, q3, q4, q5, _, _, _, q9⟩ := R.tb.put k2 k3
    have hin : (SetTable.insertAt es (SetTable.below t.place (way t.mask (mh P w k) K)) (mh P w k, Value.ref x)).toList = (L.take (SetTable.below t.place (way t.mask (mh P w k) K)) ++ (x, k) :: L.drop (SetTable.below t.place (way t.mask (mh P w k) K))).map (rowE P w) := by
      rw [SetTable.toList_insertAt, R.rw', List.map_append, List.map_cons, List.map_take, List.map_drop]
    generalize hpt : t.put (way t.mask (mh P w k) K) = pt at q1 q3 q4 q5 q9 ⊢
    obtain ⟨t0, p⟩ := pt
    dsimp only at q1 q3 q4 q5 q9 ⊢
    subst q1
    generalize SetTable.below t.place (way t.mask (mh P w k) K) = p at q2 q3 hin ⊢
    have pm : (L.take p ++ (x, k) :: L.drop p).Perm ((x, k) :: L) := put_perm L p (x, k)
    have ln : (L.take p ++ (x, k) :: L.drop p).length = L.length + 1 := pm.length_eq
    have hh : (L.map (hsE P w)).take p ++ mh P w k :: (L.map (hsE P w)).drop p = (L.take p ++ (x, k) :: L.drop p).map (hsE P w) := by
      rw [List.map_append, List.map_cons, List.map_take, List.map_drop]
    rw [hh] at q3
    have nd1 : ((L.take p ++ (x, k) :: L.drop p).map (·.2)).Nodup := (pm.map (·.2)).nodup_iff.mpr (List.nodup_cons.mpr ⟨hm, R.nd⟩)
    have es1 : (SetTable.insertAt es p (mh P w k, Value.ref x)).size = L.length + 1 := by rw [rows_size hin, ln]
    generalize SetTable.insertAt es p (mh P w k, Value.ref x) = fs at hin es1 ⊢
    generalize L.take p ++ (x, k) :: L.drop p = L1 at pm ln q3 nd1 hin
    have go : ∀ pb : Bool, wpAny (model P w) A (storeSet a fs { t0 with plain := pb } >>= fun _ => if (!false && SetTable.tooFull { t0 with plain := pb }) = true then (setRelay a (SetTable.grown (es.size + 1)) >>= fun _ => pure true) else pure true) Q E s := fun pb => by
      have T1 := tab_plain q3 pb
      refine wpAny_bind (wpAny_storeSet_of ho hd ?_ (by rw [es1, sizeLine_eq]; omega))
      have sb : Heap.SameBut a s.heap (s.heap.update a (Obj.putSet fs { t0 with plain := pb })) := Heap.SameBut.update ..
      have ho1 := store_at (es' := fs) (t' := { t0 with plain := pb }) ho hd
      generalize s.heap.update a (Obj.putSet fs { t0 with plain := pb }) = h1 at sb ho1 ⊢
      have tu1 : ∀ e ∈ L1, IsM P w h1 e.2 e.1 := fun e he => by
        rcases List.mem_cons.mp (pm.mem_iff.mp he) with z | z
        · rw [z]; exact mix_apart hx ho hd sb
        · exact mix_apart (R.tu e z) ho hd sb
      have ld1 : w.params.followText "set-order" = true ∨ ({ t0 with plain := pb } : SetTable).led = true := by
        show _ ∨ t0.led = true
        rw [q5]; exact R.ld
      have mk1 : ({ t0 with plain := pb } : SetTable).mask = t.mask := q4
      have fl1 : ({ t0 with plain := pb } : SetTable).fill = (L.map (hsE P w)).length + 1 := q9
      generalize ({ t0 with plain := pb } : SetTable) = t1 at T1 ho1 ld1 mk1 fl1 ⊢
      by_cases hf : t1.tooFull = true
      · have full : (L.length + 1) * 5 ≥ t1.mask * 3 := by
          have z := hf
          unfold SetTable.tooFull at z
          rw [decide_eq_true_eq, fl1, List.length_map] at z
          exact z
        have sz1 : t1.place.size = fs.size := by
          have z := T1.sz
          rw [List.length_map, ln] at z
          rw [z, es1]
        have two : (t.mask = 7 ∧ L.length = 4) ∨ (t.mask = 31 ∧ L.length = 18) := by
          rcases R.tb.mok with e | e | e
          · left; rw [mk1, e] at full; rw [e] at rm; exact ⟨e, by omega⟩
          · right; rw [mk1, e] at full; rw [e] at rm; exact ⟨e, by omega⟩
          · exfalso; rw [mk1, e] at full; omega
        rw [sl]
        refine wp_if_pos (by simp [hf]) (wpAny_bind ?_)
        have rel : ∀ M, SetTable.sizeAbove (SetTable.grown (L.length + 1)) - 1 = M → MaskOk M → SetTable.sizeAbove (SetTable.grown (L.length + 1)) ≤ 128 → (L.length + 1) * 5 < M * 3 →
            wpAny (model P w) A (setRelay a (SetTable.grown (L.length + 1))) (fun _ s' => wpAny (model P w) A (pure true) Q E s') E { s with heap := h1 } := fun M g1 g2 g3 g4 =>
          ms_relay (s := { s with heap := h1 }) ho1 ⟨hex.1, hex.2.1, hex.2.2⟩ rfl hin sz1 T1.dm (by rw [es1, mk1]; rcases two with ⟨e, e2⟩ | ⟨e, e2⟩ <;> omega) nd1 tu1 ld1 (by rw [ln]; exact fw) g1 g2 g3 (by rw [ln]; exact g4)
            fun h2 L2 es2 ep2 t2 sb2 R2 pm2 => wpAny_pure (fin true h2 L2 es2 ep2 t2 (sb.trans sb2) R2 (fun z => absurd z hm) fun _ => pm2.trans pm)
        rcases two with ⟨_, e2⟩ | ⟨_, e2⟩
        · exact rel 31 (by rw [e2, size_20]) (.inr (.inl rfl)) (by rw [e2, size_20]; decide) (by omega)
        · exact rel 127 (by rw [e2, size_76]) (.inr (.inr rfl)) (by rw [e2, size_76]; decide) (by omega)
      · refine wp_if_neg (by simp [hf]) ?_
        refine wpAny_pure (fin true h1 L1 fs (ep + 1) t1 sb ⟨⟨_, ho1, ⟨hex.1, hex.2.1, hex.2.2⟩, rfl⟩, hin, T1, nd1, tu1, ld1, ?_, by rw [ln]; exact fw⟩ (fun z => absurd z hm) fun _ => pm)
        have z := hf
        unfold SetTable.tooFull at z
        rw [decide_eq_true_eq, fl1, List.length_map] at z
        rw [ln]; omega
    have fin2 : ∀ b : Bool, wpAny (model P w) A (storeSet a fs (if b = true then t0 else { t0 with plain := false }) >>= fun _ => if (!false && SetTable.tooFull (if b = true then t0 else { t0 with plain := false })) = true then (setRelay a (SetTable.grown (es.size + 1)) >>= fun _ => pure true) else pure true) Q E s := fun b => by
      cases b with
      | true => exact go t0.plain
      | false => exact go false
    by_cases hpl : t0.plain = true
    · first
        | (refine wpAny_bind ?_; refine wp_if_pos hpl ?_; exact byVal_mix hx fun b => fin2 b)
        | exact wp_if_pos hpl (wpAny_bind (byVal_mix hx fun b => fin2 b))
    · first
        | (refine wpAny_bind ?_; refine wp_if_neg hpl ?_; exact wpAny_pure (fin2 true))
        | exact wp_if_neg hpl (fin2 true)
end
end Pv
end
section
set_option Elab.async false
set_option linter.all false
set_option maxRecDepth 100000
set_option maxHeartbeats 1000000
namespace Pv
open PySem PySem.Spec PyProof.Rows L2
def ck : L2.Key → Int ⊕ List Nat
  | .inl i => .inl i
  | .inr x => .inr x.cps.toList
theorem ck_inj : ∀ {a b : L2.Key}, ck a = ck b → a = b
  | .inl _, .inl _, h => by simpa [ck] using h
  | .inl _, .inr _, h => by simp [ck] at h
  | .inr _, .inl _, h => by simp [ck] at h
  | .inr _, .inr _, h => by
    have : _ = _ := Sum.inr.inj h
    rw [PySem.W.str_of_cps this]
theorem cks_inj : ∀ {a b : KT'}, a.map ck = b.map ck → a = b
  | [], [], _ => rfl
  | [], _ :: _, h => by simp at h
  | _ :: _, [], h => by simp at h
  | x :: a, y :: b, h => by
    simp only [List.map_cons, List.cons.injEq] at h
    rw [ck_inj h.1, cks_inj h.2]
def kLt (a b : KT') : Bool := PyProof.Rows.lexLt itemOrd (a.map ck) (b.map ck)
theorem lin_k : Lin kLt := ⟨fun _ => lex_irrefl _, fun _ _ _ => lex_trans _ _ _, fun _ _ h1 h2 => cks_inj (lex_total _ _ h1 h2)⟩
abbrev refE (e : Ent) : Value := Value.ref e.1
abbrev shp (sh : List Bool) : Nat → Bool := fun i => sh.getD i false
theorem perm_lift {α β : Type} (f : α → β) : ∀ {l : List β} {L : List α}, l.Perm (L.map f) → ∃ L' : List α, l = L'.map f ∧ L'.Perm L
  | [], L, h => ⟨[], rfl, by
      have := h.length_eq
      simp at this
      rw [List.eq_nil_of_length_eq_zero this.symm]⟩
  | x :: l, L, h => by
    obtain ⟨e, he, rfl⟩ := List.mem_map.mp (h.mem_iff.mp List.mem_cons_self)
    obtain ⟨A, B, rfl⟩ := List.append_of_mem he
    have h2 : l.Perm ((A ++ B).map f) := by
      refine List.Perm.cons_inv (h.trans ?_)
      rw [List.map_append, List.map_cons, List.map_append]
      exact List.perm_middle
    obtain ⟨L', rfl, p⟩ := perm_lift f h2
    exact ⟨e :: L', rfl, (p.cons e).trans List.perm_middle.symm⟩
section
variable {P : Program} {w : World} {A : Around} {E : Value → Shared → Prop} {s : Shared} {a : Addr} {L : List Ent} {sh : List Bool}
theorem tupItems_mix : ∀ {k : KT'} {vs : List Value} (f : Nat → Bool) (i : Nat), ItemsAre (mixKind P w) k vs → (∀ j b, (k.map Sum.isRight)[j]? = some b → f (i + j) = b) → tupItems f i vs = some (k.map ck)
  | _, _, _, _, .nil, _ => rfl
  | _, _, f, i, .cons (k := k0) (ks := ks) (vs := vs) h1 h2, hf => by
    have f0 := hf 0 _ rfl
    have ih := tupItems_mix f (i + 1) h2 fun j b hb => by
      have := hf (j + 1) b (by simpa using hb)
      rw [← this]; congr 1; omega
    rcases keyIs_shape (k := k0) h1 with ⟨n, t, rfl, rfl⟩ | ⟨x, t, rfl, rfl⟩
    · unfold tupItems
      have f1 : f i = false := f0
      rw [f1, ih]; rfl
    · unfold tupItems
      have f1 : f i = true := f0
      rw [f1, ih]; rfl
theorem key_mix {h : Heap} {k : KT'} {b : Addr} (x : IsM P w h k b) (e : k.map Sum.isRight = sh) : G.tupKeyC h (shp sh) (.ref b) = some (k.map ck) := by
  obtain ⟨o, its, n, ho, hc, hd, hi⟩ := x
  refine G.tupKeyC_of ho hc hd (tupItems_mix _ 0 hi fun j b hb => ?_)
  rw [e] at hb
  simp [shp, List.getD_eq_getElem?_getD, hb]
theorem tups_mix {h : Heap} (hne : sh ≠ []) : ∀ {L : List Ent}, (∀ e ∈ L, IsM P w h e.2 e.1) → (∀ e ∈ L, e.2.map Sum.isRight = sh) → ∃ fs, TupsOf h (shp sh) (L.map refE) fs
  | [], _, _ => ⟨[], .nil⟩
  | e :: L, ht, hs => by
    obtain ⟨fs, r⟩ := tups_mix hne (L := L) (fun x hx => ht x (List.mem_cons_of_mem _ hx)) fun x hx => hs x (List.mem_cons_of_mem _ hx)
    obtain ⟨o, its, n, ho, hc, hd, hi⟩ := ht e List.mem_cons_self
    have hse := hs e List.mem_cons_self
    cases hk : e.2 with
    | nil => rw [hk] at hse; exact absurd hse.symm hne
    | cons k0 ks =>
      rw [hk] at hi hse
      cases hv : its.toList with
      | nil => rw [hv] at hi; cases hi
      | cons v vs =>
        rw [hv] at hi
        cases hi with
        | cons h1 h2 =>
          have at0 : its[0]? = some v := by rw [← Array.getElem?_toList, hv]; rfl
          have s0 : shp sh 0 = k0.isRight := by rw [← hse]; rfl
          refine ⟨v :: fs, .cons ⟨e.1, o, its, n, rfl, ho, hc, hd, at0, fun z => ?_, fun z => ?_⟩ r⟩
          · rcases keyIs_shape (k := k0) h1 with ⟨i, t, rfl, rfl⟩ | ⟨x, t, rfl, rfl⟩
            · exact ⟨i, t, rfl⟩
            · rw [s0] at z; cases z
          · rcases keyIs_shape (k := k0) h1 with ⟨i, t, rfl, rfl⟩ | ⟨x, t, rfl, rfl⟩
            · rw [s0] at z; cases z
            · exact ⟨x, t, rfl⟩
theorem zip_two : ∀ L : List Ent, (L.map refE).zip (L.map refE) = L.map fun e => (refE e, refE e)
  | [] => rfl
  | e :: L => by rw [List.map_cons, List.zip_cons_cons, zip_two L]; rfl
theorem sort_mix {n : Nat} {R : PySem.Fin → Shared → Prop} (ho : s.heap.get? a = some (seqObj "list" (L.map refE).toArray n)) (ht : ∀ e ∈ L, IsM P w s.heap e.2 e.1) (hs : ∀ e ∈ L, e.2.map Sum.isRight = sh) (hne : sh ≠ [])
    (hz : L.length ≤ sizeLine) (fin : ∀ L' : List Ent, L'.Perm L → L'.Pairwise (fun e f => kLt f.2 e.2 = false) → R (.done (.ret .none)) { s with heap := sortedHeap s.heap a (L.map refE) (L'.map refE).toArray }) :
    wpAny (model P w) A (Builtin.«list.sort» ⟨[.ref a], []⟩) R E s := by
  obtain ⟨fs, tf⟩ := tups_mix hne ht hs
  refine G.list_sort_tups ho tf (fun v hv => ?_) (by rw [List.length_map]; exact hz) fun st h1 h2 h3 => ?_
  · obtain ⟨e, he, rfl⟩ := List.mem_map.mp hv
    exact ⟨_, key_mix (ht e he) (hs e he)⟩
  · have hl : (arrOf st).toList.Perm ((L.map refE).zip (L.map refE)) := by rw [← pairsOf_toList]; exact Array.perm_iff_toList_perm.mp h1
    have hz2 : (L.map refE).zip (L.map refE) = L.map fun e => (refE e, refE e) := zip_two L
    rw [hz2] at hl
    obtain ⟨L', e1, p1⟩ := perm_lift _ hl
    have e2 : ((arrOf st).map (·.2)) = (L'.map refE).toArray := by
      refine Array.ext' ?_
      rw [Array.toList_map, e1, List.map_map]; rfl
    rw [e2]
    refine fin L' p1 (List.pairwise_iff_getElem.mpr fun i j hi hj hij => ?_)
    have hsz : (pairsOf (L.map refE)).size = L'.length := by rw [pairsOf_size, List.length_map, p1.length_eq]
    have q := h2 i j (Nat.le_of_lt hij) (by rw [hsz]; exact hj)
    have kk : ∀ (m : Nat) (hm : m < L'.length), KK (G.tupKindC s.heap (shp sh)) (arrOf st) m = (L'[m]).2.map ck := fun m hm => by
      have at1 : (arrOf st)[m]? = some (refE L'[m], refE L'[m]) := by
        rw [← Array.getElem?_toList, e1, List.getElem?_map, List.getElem?_eq_getElem hm]; rfl
      have me : L'[m] ∈ L := p1.mem_iff.mp (List.getElem_mem hm)
      unfold KK
      rw [at1]
      show (G.tupKeyC s.heap (shp sh) (.ref (L'[m]).1)).getD [] = _
      rw [key_mix (ht _ me) (hs _ me)]; rfl
    rw [kk i hi, kk j hj] at q
    exact q
end
end Pv
end
section
set_option Elab.async false
set_option linter.all false
set_option maxRecDepth 100000
set_option maxHeartbeats 1000000
namespace Pv
open PySem PySem.Spec PyProof.Rows L2
section
variable {P : Program} {w : World} {A : Around} {E : Value → Shared → Prop} {s : Shared}
theorem fillsI {items : Array Value} {ns : List Int} {h0 : Heap} {S : Addr} {u : Nat} (hi : IntsAre items.toList ns) (hb : ns.length + 1 < 4096) :
    Fills P w h0 S (fun i v => items[i]? = some v) (fun i h => ∃ c, c ≤ i ∧ SetR w h S (fun j => decide (j ∈ ns.take i)) c) u where
  keep := fun i h h' ⟨c, hc, R⟩ k1 _ => ⟨c, hc, R.at k1⟩
  step := fun i v A E s Q hv _ ⟨c, hc, R⟩ _ fin => by
    have hl : items.toList.length = ns.length := hi.length
    have il : i < ns.length := by rw [← hl, Array.length_toList]; exact (Array.getElem?_eq_some_iff.mp hv).1
    obtain ⟨t, rfl⟩ := PyProof.Rows.IntsAre.int_at hi i v (by rw [Array.getElem?_toList]; exact hv)
    have hz : ns[i]? = some (ns.getD i 0) := by rw [List.getD_eq_getElem?_getD, List.getElem?_eq_getElem il]; rfl
    generalize ns.getD i 0 = z at hz
    unfold setAdd
    refine wpAny_holding ?_
    refine wpAny_bind ((intKind P w).pyHash (k := z) (intKind_is _ _ _ _) ?_)
    refine setR_add_hashed (s := { s with toks := s.toks + 1 }) R (by show c + 1 < 4096; omega) fun h' sb R2 => ?_
    refine fin _ h' (s.toks + 1) (Nat.le_succ _) sb ⟨_, ?_, R2.congr fun j => ?_⟩
    · split <;> omega
    · rw [List.take_add_one, hz]; simp [List.mem_append]
structure GotE (ks : List Ent) (i : Nat) (L : List Ent) : Prop where
  sub : ∀ e ∈ L, e ∈ ks.take i
  all : ∀ e ∈ ks.take i, e.2 ∈ L.map (·.2)
  len : L.length ≤ i
theorem fillsM {items : Array Value} {ks : List Ent} {h0 : Heap} {S : Addr} (hit : items.toList = ks.map refE) (hk : ∀ e ∈ ks, IsM P w h0 e.2 e.1) (hf : ks.length < 64) :
    Fills P w h0 S (fun i v => items[i]? = some v) (fun i h => ∃ L es ep t, MS P w h S L es ep t ∧ GotE ks i L) cLine where
  keep := fun i h h' ⟨L, es, ep, t, R, g⟩ k1 k2 => by
    obtain ⟨o, ho, r⟩ := R.ob
    exact ⟨L, es, ep, t, ⟨⟨o, k1 o ho, r⟩, R.rw', R.tb, R.nd, fun e he => mix_keep (hk e (List.mem_of_mem_take (g.sub e he))) k2, R.ld, R.rm, R.fw⟩, g⟩
  step := fun i v A E s Q hv hu ⟨L, es, ep, t, R, g⟩ kp fin => by
    have q : items.toList[i]? = some v := by rw [Array.getElem?_toList]; exact hv
    rw [hit, List.getElem?_map] at q
    cases hq : ks[i]? with
    | none => rw [hq] at q; cases q
    | some e =>
      rw [hq] at q
      obtain rfl : refE e = v := Option.some.inj q
      have il : i < ks.length := (List.getElem?_eq_some_iff.mp hq).1
      have hx : IsM P w s.heap e.2 e.1 := mix_keep (hk e (List.mem_of_getElem? hq)) kp
      have tk : ks.take (i + 1) = ks.take i ++ [e] := by rw [List.take_succ, hq]; rfl
      unfold setAdd
      refine wpAny_holding ?_
      refine wpAny_bind (wpAny_pyHash_tuple hu hx ?_)
      refine ms_add (s := { s with toks := s.toks + (e.2.length + 1) }) R hx hu (by have := g.len; omega) fun b h' L' es' ep' t' sb R2 c1 c2 => ?_
      refine fin b h' _ (Nat.le_add_right _ _) sb ⟨L', es', ep', t', R2, ?_⟩
      rcases Classical.em (e.2 ∈ L.map (·.2)) with c | c
      · obtain rfl := c1 c
        refine ⟨fun x hx => by rw [tk]; exact List.mem_append_left _ (g.sub x hx), fun x hx => ?_, Nat.le_succ_of_le g.len⟩
        rw [tk] at hx
        rcases List.mem_append.mp hx with z | z
        · exact g.all x z
        · rw [List.mem_singleton.mp z]; exact c
      · have pm := c2 c
        refine ⟨fun x hx => ?_, fun x hx => ?_, by rw [pm.length_eq, List.length_cons]; have := g.len; omega⟩
        · rw [tk]
          rcases List.mem_cons.mp (pm.mem_iff.mp hx) with z | z
          · rw [z]; exact List.mem_append_right _ (List.mem_singleton.mpr rfl)
          · exact List.mem_append_left _ (g.sub x z)
        · rw [(pm.map (·.2)).mem_iff, List.map_cons]
          rw [tk] at hx
          rcases List.mem_append.mp hx with z | z
          · exact List.mem_cons_of_mem _ (g.all x z)
          · rw [List.mem_singleton.mp z]; exact List.mem_cons_self
theorem ms_new {h : Heap} {a : Addr} (ho : h.get? a = some (nso w)) : MS P w h a [] #[] 0 (.fresh 0 0 (!w.params.followText "set-order")) where
  ob := ⟨_, ho, ⟨rfl, rfl, rfl⟩, rfl⟩
  rw' := rfl
  tb := ⟨List.Pairwise.nil, rfl, rfl, .inl rfl, fun x hx => (by cases hx), fun i h j hi => (by simp at hi)⟩
  nd := List.nodup_nil
  tu := fun e he => (by cases he)
  ld := by
    show _ ∨ (!w.params.followText "set-order") = true
    cases w.params.followText "set-order"
    · exact .inr rfl
    · exact .inl rfl
  rm := by show 0 * 5 < 7 * 3; decide
  fw := by show 0 < 64; decide
def MS0 (P : Program) (w : World) (h : Heap) (a : Addr) (L : List Ent) : Prop := ∃ (es : Array (Int × Value)) (ep : Nat) (t : SetTable), (∃ o, h.get? a = some o ∧ o.ExactSet ∧ o.data = .set es ep t) ∧ es.toList = L.map (rowE P w) ∧ TabOk t (L.map (hsE P w)) ∧
  (L.map (·.2)).Nodup ∧ (w.params.followText "set-order" = true ∨ t.led = true) ∧ L.length * 5 < t.mask * 3 ∧ L.length < 64
def SetM (P : Program) (w : World) (a : Addr) (L : List Ent) : HO := .ext fun h => MS0 P w h a L
theorem setM_new {H : Hp} {h : Heap} {a : Addr} {L : List Ent} {es : Array (Int × Value)} {ep : Nat} {t : SetTable} (R : MS P w h a L es ep t) : ObjOk P w H h a (SetM P w a L) := by
  obtain ⟨o, ho, r⟩ := R.ob
  refine ⟨⟨es, ep, t, ⟨o, ho, r⟩, R.rw', R.tb, R.nd, R.ld, R.rm, R.fw⟩, ⟨o, ho⟩, fun h1 h2 p k => ?_⟩
  obtain ⟨es', ep', t', ⟨o', ho', r'⟩, q⟩ := p
  exact ⟨es', ep', t', ⟨o', k o' ho', r'⟩, q⟩
theorem items_mix : ∀ {k : KT'} {us : List Value}, Vals (k.map kV) us → ItemsAre (mixKind P w) k us
  | [], _, .nil => .nil
  | .inl i :: k, _, .cons r t => by
    obtain ⟨tk, rfl⟩ := r
    exact .cons (k := Sum.inl i) (by show keyIs (Sum.inl i) (Value.int i tk) = true; simp [keyIs, Value.isInt]) (items_mix t)
  | .inr x :: k, _, .cons r t => by
    obtain ⟨tk, rfl⟩ := r
    exact .cons (k := Sum.inr x) (by show keyIs (Sum.inr x) (Value.str x tk) = true; simp [keyIs, Value.isStrOf]) (items_mix t)
theorem refs_mix : ∀ {ks : List Ent} {us : List Value}, Vals (ks.map fun e => V.ref e.1) us → us = ks.map refE
  | [], _, .nil => rfl
  | e :: ks, _, .cons r t => by
    cases r
    rw [refs_mix t]; rfl
theorem vals_mix : ∀ (ks : List Ent), Vals (ks.map fun e => V.ref e.1) (ks.map refE)
  | [] => .nil
  | e :: ks => .cons rfl (vals_mix ks)
end
section
variable {X : Cx}
theorem inv_mix {pins : List (Addr × Obj)} {σ : L2.St} {H : Hp} {s : Shared} {b : Addr} {k : KT'} (I : Inv X pins σ H s) (h : SqT X.K H b (k.map kV)) : IsM X.prog X.w s.heap k b := by
  obtain ⟨its, r, ⟨o, ho, hc, n, hd⟩, _⟩ := I.tuple h
  exact ⟨o, its.toArray, n, ho, hc, hd, by simpa using items_mix r⟩
def Sq (K : PySem.W.Frag) (H : Hp) (l : Addr) (vs : List V) : Prop := SqL K H l vs ∨ SqT K H l vs
theorem inv_sq {pins : List (Addr × Obj)} {σ : L2.St} {H : Hp} {s : Shared} {l : Addr} {vs : List V} (I : Inv X pins σ H s) (h : Sq X.K H l vs) : ∃ its : List Value, Vals vs its ∧ (s.heap.IsList l its.toArray ∨ s.heap.IsTuple l its.toArray) := by
  rcases h with h | h
  · obtain ⟨its, r, pl, _⟩ := I.list h
    exact ⟨its, r, .inl pl.isList⟩
  · obtain ⟨its, r, ⟨o, ho, hc, n, hd⟩, _⟩ := I.tuple h
    exact ⟨its, r, .inr ⟨o, ho, hc, n, hd⟩⟩
def rSetA (K : PySem.W.Frag) (P : Program) (w : World) : List V → Hp → VK → Prop := fun xs H Q => ∃ l, xs = [V.ref l] ∧
  ((∃ ns : List Int, Sq K H l (ns.map V.int) ∧ ns.length + 1 < 4096 ∧ ∀ a n, H a = none → Q (.ref a) (upd H a (SetO w a (fun j => decide (j ∈ ns)) n))) ∨
   (∃ ks : List Ent, Sq K H l (ks.map fun e => V.ref e.1) ∧ (∀ e ∈ ks, SqT K H e.1 (e.2.map kV)) ∧ ks.length < 64 ∧ ∀ a L, H a = none → (∀ e ∈ L, e ∈ ks) → (∀ e ∈ ks, e.2 ∈ L.map (·.2)) → Q (.ref a) (upd H a (SetM P w a L))))
theorem cr_setA (hc : X.calm = true) (hu : X.A.units + 64 < cLine) : CallR X (.type "set") (rSetA X.K X.prog X.w) := by
  intro pins s σ H xs us Q I r h
  obtain ⟨l, rfl, h⟩ := h
  rw [Vals.ref1 r]
  have hn : H s.heap.objs.size = none := I.hok.fresh (Nat.le_refl _)
  rcases h with ⟨ns, hl, hb, q⟩ | ⟨ks, hl, hk, hf, q⟩
  · obtain ⟨its, rv, pl⟩ := inv_sq I hl
    have hi : IntsAre its ns := rv.ints
    refine call_set_any (P := X.prog) (w := X.w) (u := X.A.units + 4) (I.ok.hd hc) pl (fillsI (ns := ns) (by simpa using hi) hb) (by omega) (fun h ho _ => ⟨0, Nat.le_refl _, setR_new_at ho⟩) fun h' tk ⟨c, hc', R⟩ k => ?_
    have e : ns.take its.toArray.size = ns := List.take_of_length_le (by rw [List.size_toArray, hi.length]; exact Nat.le_refl _)
    rw [e] at R
    exact ⟨.ref s.heap.objs.size, _, I.laid (t' := tk) k (Nat.le_refl _) (setO_new R), rfl, q _ c hn⟩
  · obtain ⟨its, rv, pl⟩ := inv_sq I hl
    have hi := refs_mix rv
    subst hi
    refine call_set_any (P := X.prog) (w := X.w) (u := cLine) (I.ok.hd hc) pl (fillsM (ks := ks) (by simp) (fun e he => inv_mix I (hk e he)) hf) (by omega) (fun h ho _ => ⟨[], #[], 0, _, ms_new ho, ⟨fun e he => (by cases he), fun e he => (by simp at he), Nat.le_refl _⟩⟩) fun h' tk ⟨L, es, ep, t, R, g⟩ k => ?_
    have e : ks.take (ks.map refE).toArray.size = ks := List.take_of_length_le (by simp)
    exact ⟨.ref s.heap.objs.size, _, I.laid (t' := tk) k (Nat.le_refl _) (setM_new R), rfl, q _ L hn (fun x hx => List.mem_of_mem_take (g.sub x hx)) fun x hx => g.all x (by rw [e]; exact hx)⟩
def rSortedM (K : PySem.W.Frag) (P : Program) (w : World) : List V → Hp → VK → Prop := fun vs H Q => ∃ (a : Addr) (L : List Ent) (sh : List Bool), vs = [V.ref a] ∧ H a = some (SetM P w a L) ∧ (∀ e ∈ L, SqT K H e.1 (e.2.map kV)) ∧ sh ≠ [] ∧ (∀ e ∈ L, e.2.map Sum.isRight = sh) ∧
  ∀ (L' : List Ent) (p : Addr), L'.Perm L → L'.Pairwise (fun e f => kLt e.2 f.2 = true) → H p = none → Q (.ref p) (upd H p (.lst (L'.map fun e => V.ref e.1)))
theorem cr_sortedM (hc : X.calm = true) : CallR X (.builtin "sorted") (rSortedM X.K X.prog X.w) := by
  intro pins s σ H vs us Q I r h
  obtain ⟨a, L, sh, rfl, ha, hk, hne, hs, q⟩ := h
  rw [Vals.ref1 r]
  have R0 : MS0 X.prog X.w s.heap a L := (I.hok a _ ha).1
  obtain ⟨es, ep, t, ⟨o, ho, hex, hd⟩, rw', tb, nd, ld, rm, fw⟩ := R0
  have R : MS X.prog X.w s.heap a L es ep t := ⟨⟨o, ho, hex, hd⟩, rw', tb, nd, fun e he => inv_mix I (hk e he), ld, rm, fw⟩
  refine Calls.call_function_entry kind_sorted plain_sorted entry_sorted (args_sorted1 _) ?_
  unfold Builtin.«sorted»
  refine wpAny_bind (m := checkCount "sorted" 1 1 _) (wpAny_pure ?_)
  have ez := rows_size rw'
  refine wpAny_bind (collect_set (A := X.A.in1) (I.ok.hd hc) ⟨o, ho, hex.1, hd⟩ R.fit (by rw [ez]; show L.length < 4096; omega) tb.ris ld fun s1 vs k1 hz g1 o1 pm => ?_)
  have hes : es.toList.map (·.2) = L.map refE := by rw [rw', List.map_map]; rfl
  rw [hes] at pm
  obtain ⟨L1, rfl, p1⟩ := perm_lift refE pm
  have l1 : L1.length < 64 := by rw [p1.length_eq]; exact fw
  refine wpAny_bind (wpAny_newList ?_ (by rw [List.length_map, sizeLine_eq]; omega))
  have at1 : (s1.heap.push (seqObj "list" (L1.map refE).toArray 0)).get? s1.heap.objs.size = some (seqObj "list" (L1.map refE).toArray 0) := Heap.get?_push_size _ rfl
  refine wpAny_bind (wpAny_holding (wpAny_call_entry slot_list_sort ⟨_, at1, rfl⟩ entry_list_sort
    (sort_mix (P := X.prog) (w := X.w) (s := { s1 with heap := s1.heap.push (seqObj "list" (L1.map refE).toArray 0) }) at1 (fun e he => mix_keep (R.tu e (p1.mem_iff.mp he)) fun b o e => Heap.get?_push_of_some _ (k1 b o e)) (fun e he => hs e (p1.mem_iff.mp he)) hne (by rw [sizeLine_eq]; omega)
      fun L' p2 pw => ⟨.none, rfl, ?_⟩) (args_list_sort _)))
  obtain ⟨c, hc'⟩ := sortedHeap_at (vs := L1.map refE) (out := (L'.map refE).toArray) at1
  have p3 := p2.trans p1
  have hn : H s1.heap.objs.size = none := I.hok.fresh hz
  have kp : Kps s.heap (sortedHeap (s1.heap.push (seqObj "list" (L1.map refE).toArray 0)) s1.heap.objs.size (L1.map refE) (L'.map refE).toArray) := fun b u e => by
    have q := k1 b u e
    have hlt := Heap.lt_size q
    rw [sortedHeap_old (Nat.ne_of_lt hlt) (by rw [size_push']; exact Nat.lt_succ_of_lt hlt)]
    exact Heap.get?_push_of_some _ q
  have J : Inv X pins σ (upd H s1.heap.objs.size (.lst (L'.map fun e => V.ref e.1))) { s with heap := sortedHeap (s1.heap.push (seqObj "list" (L1.map refE).toArray 0)) s1.heap.objs.size (L1.map refE) (L'.map refE).toArray, gens := s1.gens, drawn := s1.drawn, toks := s1.toks } :=
    I.call (ch := []) (Un.laid kp hz hn) (I.hok.laid kp hz ⟨by rw [List.length_map, p3.length_eq, sizeLine_eq]; omega, L'.map refE, c, vals_mix L', hc'⟩) (by rw [g1]; exact I.bare) (fun _ z => nomatch z)
  have st : L'.Pairwise (fun e f => kLt e.2 f.2 = true) := by
    have nd2 : (L'.map (·.2)).Nodup := (p3.map (·.2)).nodup_iff.mpr nd
    have nd3 : L'.Pairwise (fun e f => e.2 ≠ f.2) := List.pairwise_map.mp nd2
    refine (List.Pairwise.and pw nd3).imp fun {e f} ⟨h1, h2⟩ => ?_
    cases z : kLt e.2 f.2 with
    | true => rfl
    | false => exact absurd (lin_k.tot _ _ z h1) h2
  have e : ({ s1 with heap := sortedHeap (s1.heap.push (seqObj "list" (L1.map refE).toArray 0)) s1.heap.objs.size (L1.map refE) (L'.map refE).toArray } : Shared) = { s with heap := sortedHeap (s1.heap.push (seqObj "list" (L1.map refE).toArray 0)) s1.heap.objs.size (L1.map refE) (L'.map refE).toArray, gens := s1.gens, drawn := s1.drawn, toks := s1.toks } := by
    cases s1; cases s; cases o1; rfl
  refine wpAny_pure ⟨_, rfl, ?_⟩
  show EP X pins σ Q (.ref s1.heap.objs.size) { s1 with heap := sortedHeap (s1.heap.push (seqObj "list" (L1.map refE).toArray 0)) s1.heap.objs.size (L1.map refE) (L'.map refE).toArray }
  rw [e]
  exact ⟨.ref _, _, J, rfl, q L' _ p3 st hn⟩
end
end Pv
end
section
set_option Elab.async false
set_option linter.all false
set_option maxRecDepth 100000
set_option maxHeartbeats 2000000
namespace Pv
open PySem PySem.Spec PyProof.Rows L2
section
variable {α : Type} [DecidableEq α] {lt : α → α → Bool}
theorem sortedM_uniq (L : Lin lt) : ∀ {a b : List α}, a.Pairwise (fun x y => lt y x = false) → b.Pairwise (fun x y => lt y x = false) → a.Perm b → a = b
  | [], b, _, _, h => by
    have := h.length_eq
    exact (List.eq_nil_of_length_eq_zero (by simpa using this.symm)).symm
  | x :: a, [], _, _, h => absurd h.length_eq (by simp)
  | x :: a, y :: b, ha, hb, h => by
    obtain ⟨a1, a2⟩ := List.pairwise_cons.mp ha
    obtain ⟨b1, b2⟩ := List.pairwise_cons.mp hb
    have e : x = y := by
      rcases List.mem_cons.mp (h.mem_iff.mp List.mem_cons_self) with e | hx
      · exact e
      · rcases List.mem_cons.mp (h.mem_iff.mpr List.mem_cons_self) with e | hy
        · exact e.symm
        · exact L.tot _ _ (b1 x hx) (a1 y hy)
    subst e
    rw [sortedM_uniq L a2 b2 (List.Perm.cons_inv h)]
end
theorem roomU {k : Nat} {A : Around} (r : Room k A) : A.units + 100 < cLine := by have := r.un; omega
theorem tab_in {K : PySem.W.Frag} {x q : Str} {f co tb : Addr} {oc e : Value} {od an dd : Option Addr} {st : Stmt} {kV dc pm cd ct : Value} {osl sl : Array (Option Value)} {vs : Array Value} (a : PySem.W.nsIn K mainGlobals x = some (some (.ref f)))
    (l : K.lookup f = some ⟨oc, od, .func (PySem.W.fnOf x q (defArgs st) (defBody st) (defScope st) .none kV dc pm an cd ct), osl⟩) (cc : cd = .ref co) (lc : K.lookup co = some ⟨e, dd, .fields vs, sl⟩) (hv : vs[11]? = some (.ref tb)) : PySem.W.tabIn K x = some (co, tb) := by
  subst cc
  unfold PySem.W.tabIn
  rw [a]
  simp only [l, PySem.W.fnOf, lc, hv]
def FolkRaw (h : Heap) (ah : Addr) (ps : List (Int × Int)) : Prop := ∃ its : Array Value, IsTup h ah its ∧ its.size = ps.length ∧
  ∀ (i : Nat) (p : Int × Int), ps[i]? = some p → ∃ ai itsi t u, its[i]? = some (.ref ai) ∧ IsTup h ai itsi ∧ 3 ≤ itsi.size ∧ itsi[1]? = some (.int p.1 t) ∧ itsi[2]? = some (.int p.2 u)
theorem FolkRaw.keeps {h h' : Heap} {ah : Addr} {ps : List (Int × Int)} (x : FolkRaw h ah ps) (k : ∀ b o, h.get? b = some o → h'.get? b = some o) : FolkRaw h' ah ps := by
  obtain ⟨its, a, b, c⟩ := x
  refine ⟨its, a.keeps k, b, fun i p e => ?_⟩
  obtain ⟨ai, itsi, t, u, e1, e2, e3⟩ := c i p e
  exact ⟨ai, itsi, t, u, e1, e2.keeps k, e3⟩
theorem pe_alt {X : Cx} {e : Expr} {t1 t2 : TE} (h1 : PE X e t1) (h2 : PE X e t2) : PE X e (fun σ H Q => t1 σ H Q ∨ t2 σ H Q) := ⟨fun pins s σ H Q I h => h.elim (fun h => h1.run pins s σ H Q I h) fun h => h2.run pins s σ H Q I h⟩
end Pv
end
section
set_option Elab.async false
set_option linter.all false
set_option maxRecDepth 100000
set_option maxHeartbeats 1000000
namespace Pw
open PySem PySem.Spec PyProof.Rows L2 Pv
section
variable {X : Cx} {K : FRG} {tb : List Addr}
def lenD : List D → Option W
  | [.tup ds] => some (.v (.int ds.length))
  | [.fl ds] => some (.v (.int ds.length))
  | [.lst ds] => some (.v (.int ds.length))
  | [.dk kvs] => some (.v (.int kvs.length))
  | _ => none
abbrev rLenA (K : FRG) : List V → Hp → VK → Prop := fun xs H Q => (∃ p ys, xs = [.ref p] ∧ (SqL K H p ys ∨ SqT K H p ys) ∧ Q (.int (ys.length : Nat)) H) ∨ ∃ a kvs, xs = [V.ref a] ∧ Rd H a (.dK kvs) ∧ Q (.int (kvs.length : Nat)) H
theorem call_lenRd : CallR X (.builtin "len") (fun xs H Q => ∃ a kvs, xs = [V.ref a] ∧ Rd H a (.dK kvs) ∧ Q (.int (kvs.length : Nat)) H) := by
  intro pins s σ H xs us Q I r h
  obtain ⟨a, kvs, rfl, ha, q⟩ := h
  rw [Vals.ref1 r]
  exact d_len I ha fun t s' I' => ⟨.int kvs.length, H, I', ⟨t, rfl⟩, q⟩
theorem cr_lenA : CallR X (.builtin "len") (rLenA X.K) := call_len_seq.or call_lenRd
theorem len_s : CallS K tb (rLenA K) lenD := fun φ ψ H m vs ds w Q R r e k => by
  unfold lenD at e
  split at e
  · cases e
    cases r with
    | cons h r => cases r; obtain ⟨a, vs, rfl, hq, q⟩ := h.tup; exact .inl ⟨_, _, rfl, .inr hq, Go.val k R (by rw [q.length]; exact .int _)⟩
  · cases e
    cases r with
    | cons h r => cases r; obtain ⟨a, vs, rfl, hq, q⟩ := h.fl; exact .inl ⟨_, _, rfl, .inl hq, Go.val k R (by rw [q.length]; exact .int _)⟩
  · cases e
    cases r with
    | cons h r => cases r; obtain ⟨a, vs, rfl, hq, q⟩ := h.lst; exact .inl ⟨_, _, rfl, .inl (SqL.of hq), Go.val k R (by rw [q.length]; exact .int _)⟩
  · cases e
    cases r with
    | cons h r =>
      cases r
      obtain ⟨a, vs, rfl, hq, q1, q2⟩ := h.dk
      refine .inr ⟨_, _, rfl, hq, Go.val k R ?_⟩
      have e9 := congrArg List.length q1
      rw [List.length_map, List.length_map] at e9
      rw [e9]; exact .int _
  · cases e
def maxI (i j : Int) : Int := if j > i then j else i
def minI (i j : Int) : Int := if j < i then j else i
def two (g : Int → Int → Int) : List D → Option W
  | [.int i, .int j] => some (.v (.int (g i j)))
  | _ => none
theorem two_s {g : Int → Int → Int} : CallS K tb (fun xs H Q => ∃ i j, xs = [.int i, .int j] ∧ Q (.int (g i j)) H) (two g) := fun φ ψ H m vs ds w Q R r e k => by
  unfold two at e
  split at e
  · cases e
    cases r with
    | cons h1 r => cases r with
      | cons h2 r => cases r; rw [h1.int, h2.int]; exact ⟨_, _, rfl, Go.val k R (.int _)⟩
  · cases e
theorem cr_min (hc : X.calm = true) : CallR X (.builtin "min") (fun xs H Q => ∃ i j, xs = [.int i, .int j] ∧ Q (.int (minI i j)) H) := call_min2 hc
def intD : List D → Option W
  | [.int i] => some (.v (.int i))
  | [.bl b] => some (.v (.int (if b then 1 else 0)))
  | _ => none
def tupleD : List D → Option W
  | [.tup ds] => some (.v (.tup ds))
  | [.fl ds] => some (.v (.tup ds))
  | [.lst ds] => some (.v (.tup ds))
  | _ => none
theorem tuple_s : CallS K tb (fun xs H Q => ∃ p ys, xs = [.ref p] ∧ ((SqL K H p ys ∧ ∀ l, H l = none → Q (.ref l) (upd H l (.tup ys))) ∨ (SqT K H p ys ∧ Q (.ref p) H))) tupleD := fun φ ψ H m vs ds w Q R r e k => by
  unfold tupleD at e
  split at e
  · cases e
    cases r with
    | cons h r => cases r; obtain ⟨a, vs, rfl, hq, q⟩ := h.tupN; exact ⟨_, _, rfl, .inr ⟨hq.1, Go.val k R (.tup hq q)⟩⟩
  · cases e
    cases r with
    | cons h r => cases r; obtain ⟨a, vs, rfl, hq, q⟩ := h.fl; exact ⟨_, _, rfl, .inl ⟨hq, fun p hp => Go.tup k R q hp⟩⟩
  · cases e
    cases r with
    | cons h r => cases r; obtain ⟨a, vs, rfl, hq, q⟩ := h.lst; exact ⟨_, _, rfl, .inl ⟨SqL.of hq, fun p hp => Go.tup k R q hp⟩⟩
  · cases e
def listD : List D → Option W
  | [.tup ds] => some (.f (.lst ds))
  | [.fl ds] => some (.f (.lst ds))
  | [.lst ds] => some (.f (.lst ds))
  | _ => none
theorem list_s : CallS K tb (fun xs H Q => ∃ p ys, xs = [.ref p] ∧ (SqL K H p ys ∨ SqT K H p ys) ∧ ∀ l, H l = none → Q (.ref l) (upd H l (.lst ys))) listD := fun φ ψ H m vs ds w Q R r e k => by
  unfold listD at e
  split at e
  · cases e
    cases r with
    | cons h r => cases r; obtain ⟨a, vs, rfl, hq, q⟩ := h.tup; exact ⟨_, _, rfl, .inr hq, fun p hp => Go.lst k R q hp⟩
  · cases e
    cases r with
    | cons h r => cases r; obtain ⟨a, vs, rfl, hq, q⟩ := h.fl; exact ⟨_, _, rfl, .inl hq, fun p hp => Go.lst k R q hp⟩
  · cases e
    cases r with
    | cons h r => cases r; obtain ⟨a, vs, rfl, hq, q⟩ := h.lst; exact ⟨_, _, rfl, .inl (SqL.of hq), fun p hp => Go.lst k R q hp⟩
  · cases e
def allI : List D → Option (List Int)
  | [] => some []
  | .int i :: ds => (allI ds).bind fun is => some (i :: is)
  | _ => none
def kD : L2.Key → D
  | .inl i => .int i
  | .inr x => .str x
abbrev tD (k : KT') : D := .tup (k.map kD)
def allK : List D → Option KT'
  | [] => some []
  | .int i :: ds => (allK ds).bind fun k => some (Sum.inl i :: k)
  | .str x :: ds => (allK ds).bind fun k => some (Sum.inr x :: k)
  | _ => none
def allT : List D → Option (List KT')
  | [] => some []
  | .tup d :: ds => (allK d).bind fun k => (allT ds).bind fun ks => some (k :: ks)
  | _ => none
def itmD : D → Option (List D)
  | .tup ds => some ds
  | .fl ds => some ds
  | .lst ds => some ds
  | _ => none
def itmL : D → Option (List D)
  | .fl ds => some ds
  | .lst ds => some ds
  | _ => none
def oneSh (ks : List KT') : Bool := ks.all fun k => k.map Sum.isRight == (ks.headD []).map Sum.isRight && !k.isEmpty
end
section
variable {K : FRG} {tb φ ψ : List Addr} {H : Hp} {m : Mem}
theorem allI_rep : ∀ {ds : List D} {vs : List V} {is : List Int}, Reps K φ ψ H ds vs → allI ds = some is → vs = is.map V.int
  | [], _, _, .nil, e => by cases e; rfl
  | .int i :: ds, _, _, .cons h r, e => by
    rw [allI] at e
    obtain ⟨js, e1, e⟩ := bnd e
    cases e
    cases h
    rw [allI_rep r e1]; rfl
  | .non :: _, _, _, _, e => by simp [allI] at e
  | .bl _ :: _, _, _, _, e => by simp [allI] at e
  | .str _ :: _, _, _, _, e => by simp [allI] at e
  | .tup _ :: _, _, _, _, e => by simp [allI] at e
  | .fl _ :: _, _, _, _, e => by simp [allI] at e
  | .lst _ :: _, _, _, _, e => by simp [allI] at e
  | .dk _ :: _, _, _, _, e => by simp [allI] at e
  | .dt _ :: _, _, _, _, e => by simp [allI] at e
  | .rl _ _ :: _, _, _, _, e => by simp [allI] at e
theorem allK_rep : ∀ {ds : List D} {vs : List V} {k : KT'}, Reps K φ ψ H ds vs → allK ds = some k → vs = k.map kV
  | [], _, _, .nil, e => by cases e; rfl
  | .int i :: ds, _, _, .cons h r, e => by
    rw [allK] at e
    obtain ⟨js, e1, e⟩ := bnd e
    cases e
    cases h
    rw [allK_rep r e1]; rfl
  | .str i :: ds, _, _, .cons h r, e => by
    rw [allK] at e
    obtain ⟨js, e1, e⟩ := bnd e
    cases e
    cases h
    rw [allK_rep r e1]; rfl
  | .non :: _, _, _, _, e => by simp [allK] at e
  | .bl _ :: _, _, _, _, e => by simp [allK] at e
  | .tup _ :: _, _, _, _, e => by simp [allK] at e
  | .fl _ :: _, _, _, _, e => by simp [allK] at e
  | .lst _ :: _, _, _, _, e => by simp [allK] at e
  | .dk _ :: _, _, _, _, e => by simp [allK] at e
  | .dt _ :: _, _, _, _, e => by simp [allK] at e
  | .rl _ _ :: _, _, _, _, e => by simp [allK] at e
theorem allT_rep : ∀ {ds : List D} {vs : List V} {ks : List KT'}, Reps K φ ψ H ds vs → allT ds = some ks → ∃ es : List Ent, vs = es.map (fun e => V.ref e.1) ∧ es.map (·.2) = ks ∧ ∀ e ∈ es, SqN K H e.1 (e.2.map kV)
  | [], _, _, .nil, e => by cases e; exact ⟨[], rfl, rfl, fun e he => by cases he⟩
  | .tup d :: ds, _, _, .cons h r, e => by
    rw [allT] at e
    obtain ⟨k, e1, e⟩ := bnd e
    obtain ⟨js, e2, e⟩ := bnd e
    cases e
    obtain ⟨es, rfl, rfl, hs⟩ := allT_rep r e2
    cases h with
    | tup hq q =>
      rename_i a vs
      refine ⟨(a, k) :: es, rfl, rfl, fun e he => ?_⟩
      rcases List.mem_cons.mp he with rfl | he
      · rw [← allK_rep q e1]; exact hq
      · exact hs e he
  | .non :: _, _, _, _, e => by simp [allT] at e
  | .bl _ :: _, _, _, _, e => by simp [allT] at e
  | .int _ :: _, _, _, _, e => by simp [allT] at e
  | .str _ :: _, _, _, _, e => by simp [allT] at e
  | .fl _ :: _, _, _, _, e => by simp [allT] at e
  | .lst _ :: _, _, _, _, e => by simp [allT] at e
  | .dk _ :: _, _, _, _, e => by simp [allT] at e
  | .dt _ :: _, _, _, _, e => by simp [allT] at e
  | .rl _ _ :: _, _, _, _, e => by simp [allT] at e
theorem reps_ints : ∀ is : List Int, Reps K φ ψ H (is.map D.int) (is.map V.int)
  | [] => .nil
  | i :: is => .cons (.int i) (reps_ints is)
theorem reps_keys : ∀ k : KT', Reps K φ ψ H (k.map kD) (k.map kV)
  | [] => .nil
  | .inl i :: k => .cons (.int i) (reps_keys k)
  | .inr x :: k => .cons (.str x) (reps_keys k)
theorem reps_ents : ∀ es : List Ent, (∀ e ∈ es, SqN K H e.1 (e.2.map kV)) → Reps K φ ψ H (es.map fun e => tD e.2) (es.map fun e => V.ref e.1)
  | [], _ => .nil
  | e :: es, h => .cons (.tup (h e List.mem_cons_self) (reps_keys e.2)) (reps_ents es fun x hx => h x (List.mem_cons_of_mem _ hx))
theorem itm_sq {x : D} {v : V} {ds : List D} (hx : RepC K φ ψ H x v) (e : itmD x = some ds) : ∃ l vs, v = .ref l ∧ Sq K H l vs ∧ Reps K φ ψ H ds vs := by
  unfold itmD at e
  split at e
  · cases e; obtain ⟨a, vs, rfl, hq, q⟩ := hx.tup; exact ⟨_, _, rfl, .inr hq, q⟩
  · cases e; obtain ⟨a, vs, rfl, hq, q⟩ := hx.fl; exact ⟨_, _, rfl, .inl hq, q⟩
  · cases e; obtain ⟨a, vs, rfl, hq, q⟩ := hx.lst; exact ⟨_, _, rfl, .inl (SqL.of hq), q⟩
  · cases e
end
section
variable {X : Cx} {K : FRG} {tb : List Addr} {pos : Pos}
def isLst : W → Mem → Bool
  | .r n, m => match m[n]? with
    | some (.lst _) => true
    | _ => false
  | _, _ => false
theorem isLst_ty {φ ψ : List Addr} {H : Hp} {m : Mem} {w : W} {v : V} (R : Rel K tb φ ψ H m) (h : RepS K φ ψ H w v) (e : isLst w m = true) : tyV K "list" v H := by
  unfold isLst at e
  split at e
  · split at e
    · rename_i hm
      obtain ⟨a, h1, rfl⟩ := h
      obtain ⟨vs, q, r⟩ := R.obj _ _ a hm h1
      exact .inl ⟨rfl, _, SqL.of q⟩
    · cases e
  · cases e
def appD : W → List W → Mem → Option (W × Mem)
  | .r n, [w], m => match m[n]? with
    | some (.lst ds) => (vl w).bind fun d => if ds.length < 1000000 then some (.v .non, m.set n (.lst (ds ++ [d]))) else none
    | _ => none
  | _, _, _ => none
theorem app_s : MtS K tb rAppend appD := fun φ ψ H m x vs w ws w' m' Q R hx r e k => by
  unfold appD at e
  split at e
  · split at e
    · rename_i hm
      obtain ⟨d, ev, e⟩ := bnd e
      split at e
      · rename_i hl
        cases e
        cases r with
        | cons h r =>
          cases r
          obtain ⟨q, h1, rfl⟩ := hx
          obtain ⟨vs, hq, rl⟩ := R.obj _ _ q hm h1
          have hmem := List.mem_of_getElem? h1
          exact ⟨q, vs, _, rfl, rfl, hq, smallT (by rw [← rl.length]; exact hl), k φ ψ _ _ (Post.wr hmem (R.trk hmem)) (R.wrL h1 (rl.snoc (vl_rep h ev))) ⟨rfl, .non⟩⟩
      · cases e
    · cases e
  · cases e
theorem ex_append {o a : Expr} {fo : Ex} {f : Ax} {apos cpos : Pos} {es : List Expr} (ho : PE X o (T X.K tb fo)) (ha : PA X (a :: es) (Ta X.K tb f))
    (hbase : attributeBase o "append" X.env (eval o X.env) = eval o X.env := by rfl)
    (hfew : ((backTo cpos (starEach (a :: es) X.env)).all (fun x => !x.1) && (backToKw cpos (keywordEach [] X.env)).all (fun x => x.1.isSome)
      && decide ((a :: es).length + ([] : List Keyword).length + (if ([] : List Keyword).isEmpty then 0 else 1) < 30)) = true := by rfl)
    (hline : (apos.endLine == cpos.line) = true := by rfl) (hst : starEach (a :: es) X.env = (false, eval a X.env) :: starEach es X.env := by rfl) (hplain : (backTo cpos (starEach es X.env)).any (·.1) = false := by rfl) :
    PE X (.Call (.Attribute o "append" apos) (a :: es) [] cpos) (T X.K tb (eMt isLst appD fo f)) :=
  ex_mt (fun φ ψ H m d v R h e => isLst_ty R h e) app_s PySem.F.plainAttrs_list PySem.F.slot_list_append PySem.F.type_list_append mt_append ho ha hbase hfew hline hst hplain
def inB (neg : Bool) (dx : D) (ds : List D) : Option Bool := (sc dx).bind fun x => (ds.mapM sc).bind fun ys => some (inV x ys != neg)
def inD (neg : Bool) : D → D → Option W := fun x y => (itmD y).bind fun ds => (inB neg x ds).bind fun b => some (.v (.bl b))
theorem sc_flat {d : D} {v : V} (h : sc d = some v) : flatV v = true := by
  cases d <;> first | (cases h; rfl) | (cases h)
theorem scs_rep {φ ψ : List Addr} {H : Hp} : ∀ {ds : List D} {vs ws : List V}, Reps K φ ψ H ds vs → ds.mapM sc = some ws → vs = ws ∧ ws.all flatV = true
  | [], _, _, .nil, e => by cases e; exact ⟨rfl, rfl⟩
  | d :: ds, _, _, .cons h r, e => by
    simp only [List.mapM_cons, Option.bind_eq_bind, Option.pure_def] at e
    obtain ⟨v, e1, e⟩ := bnd e
    obtain ⟨ws, e2, e⟩ := bnd e
    cases e
    obtain ⟨rfl, hf⟩ := scs_rep r e2
    have hv := sc_rep (.inl h) e1
    subst hv
    exact ⟨rfl, by rw [List.all_cons, sc_flat e1, hf]; rfl⟩
theorem in_s {neg : Bool} : OpS K tb (rIn K neg) (inD neg) := fun φ ψ H m x y dx dy w Q R hx hy e k => by
  obtain ⟨ds, e1, e⟩ := bnd e
  obtain ⟨b, e2, e⟩ := bnd e
  cases e
  obtain ⟨l, vs, rfl, hq, r⟩ := itm_sq hy e1
  unfold inB at e2
  obtain ⟨x', h1, e2⟩ := bnd e2
  obtain ⟨ys, h2, e2⟩ := bnd e2
  cases e2
  obtain ⟨rfl, hf⟩ := scs_rep r h2
  have := sc_rep hx h1
  subst this
  refine ⟨l, vs, rfl, hq, sc_flat h1, hf, Go.val k R ?_⟩
  cases neg with
  | true => rw [Bool.bne_true]; exact .bl _
  | false => rw [Bool.bne_false]; exact .bl _
def bestD (f : Option Int → Int → Option Int) : D → D → Option W := fun x y => (itmL x).bind fun ds => (allI ds).bind fun is => match is.foldl f none with
  | none => some (.v y)
  | some i => some (.v (.int i))
def eBest (f : Option Int → Int → Option Int) (a b : Ex) : Ex := fun ρ m => (a ρ m).bind fun p => (b ρ p.2).bind fun q => (gt p.1 q.2).bind fun x => (vl q.1).bind fun y => (bestD f x y).bind fun w => some (w, q.2)
theorem shape {es L : List Ent} (ho : oneSh (es.map (·.2)) = true) (hL : ∀ e ∈ L, e ∈ es) : ∃ sh : List Bool, sh ≠ [] ∧ ∀ e ∈ L, e.2.map Sum.isRight = sh := by
  have sh : ∀ e ∈ L, e.2.map Sum.isRight = ((es.map (·.2)).headD []).map Sum.isRight ∧ e.2 ≠ [] := fun e he => by
    have z := List.all_eq_true.mp ho e.2 (List.mem_map.mpr ⟨e, hL e he, rfl⟩)
    simp only [Bool.and_eq_true, beq_iff_eq, Bool.not_eq_true', List.isEmpty_eq_false_iff] at z
    exact z
  cases L with
  | nil => exact ⟨[true], by simp, fun e he => by cases he⟩
  | cons e L =>
    obtain ⟨z1, z2⟩ := sh e List.mem_cons_self
    refine ⟨_, ?_, fun f hf => (sh f hf).1⟩
    rw [← z1]
    simpa using z2
def sortSetD : List D → Option W
  | [x] => (itmD x).bind fun ds => match allI ds with
    | some is => if is.length < 4000 then some (.f (.lst ((sortU iLt is).map .int))) else none
    | none => (allT ds).bind fun ks => if ks.length < 64 ∧ oneSh ks = true then some (.f (.lst ((sortU kLt ks).map tD))) else none
  | _ => none
theorem ex_sortSet {p p2 q : Pos} {a : Expr} {fa : Ex} (hc : X.calm = true) (hu : X.A.units + 64 < cLine) (hg : Gl X "sorted") (hm : X.mg "sorted" = none) (hg2 : Gl X "set") (hm2 : X.mg "set" = none) (ha : PE X a (T X.K tb fa))
    (h1 : starEach [a] X.env = (false, eval a X.env) :: starEach [] X.env := by rfl) (h2 : starEach [.Call (.Name "set" p2) [a] [] q] X.env = (false, eval (.Call (.Name "set" p2) [a] [] q) X.env) :: starEach [] X.env := by rfl)
    (h3 : (backTo q (starEach [] X.env)).any (·.1) = false := by rfl) (h4 : (backTo pos (starEach [] X.env)).any (·.1) = false := by rfl) :
    PE X (.Call (.Name "sorted" p) [.Call (.Name "set" p2) [a] [] q] [] pos) (T X.K tb (eCB sortSetD (aCons fa aNil))) := by
  have inner := pe_callTy (p := p2) (pos := q) (cr_setA hc hu) hg2 hm2 (by decide +kernel) (pa_cons ha pa_nil h1) (by decide) (by decide) h1 h3
  have outer := pe_alt (pe_callB (p := p) (pos := pos) (cr_sortedSA hc) hg hm (by decide +kernel) (pa_cons inner pa_nil h2) (by decide) (by decide) h2 h4) (pe_callB (p := p) (pos := pos) (cr_sortedM hc) hg hm (by decide +kernel) (pa_cons inner pa_nil h2) (by decide) (by decide) h2 h4)
  refine pe_mono outer fun σ H Q ⟨φ, ψ, ρ, m, w, m', R, E, e, k⟩ => ?_
  obtain ⟨⟨ws, m1⟩, e1, e⟩ := bnd e
  obtain ⟨⟨w1, m2⟩, e2, e3⟩ := bnd e1
  obtain ⟨⟨_, m3⟩, e4, e5⟩ := bnd e3
  cases e4
  cases e5
  obtain ⟨ds0, ed, e⟩ := bnd e
  obtain ⟨x, ex, ed⟩ := bnd ed
  cases ed
  obtain ⟨w3, eb, e⟩ := bnd e
  cases e
  unfold sortSetD at eb
  obtain ⟨ds, e6, eb⟩ := bnd eb
  cases hI : allI ds with
  | some is =>
    rw [hI] at eb
    dsimp only at eb
    split at eb
    · rename_i hb
      cases eb
      left
      refine ⟨φ, ψ, ρ, m, w1, _, R, E, e2, fun φ1 ψ1 H1 v P1 R1 V1 => ?_⟩
      obtain ⟨l, vs, rfl, hq, rs⟩ := itm_sq (gt_c (V1.rel R1) (V1.s R1).stl ex) e6
      obtain rfl := allI_rep rs hI
      refine ⟨l, rfl, .inl ⟨is, hq, by omega, fun a n han => ?_⟩⟩
      refine ⟨a, _, n, rfl, upd_same, fun ns p h1 h2 hp => ?_⟩
      have en : ns = sortU iLt is := sorted_uniq lin_i h1 (sortU_sorted lin_i is) fun z => by rw [h2, mem_sortU]; simp
      rw [en]
      have P2 := Post.lay (φ := φ1) (ψ := ψ) (o := SetO X.w a (fun j => decide (j ∈ is)) n) han
      have R2 := (V1.rel R1).lay (o := SetO X.w a (fun j => decide (j ∈ is)) n) han
      exact Go.lst (fun φ3 ψ3 H3 v P3 R3 V3 => k φ3 ψ3 H3 v (((V1.post P1).trans P2).trans P3) R3 V3) R2 (reps_ints _) hp
    · cases eb
  | none =>
    rw [hI] at eb
    dsimp only at eb
    obtain ⟨ks, e7, eb⟩ := bnd eb
    split at eb
    · rename_i hb
      obtain ⟨hb, ho⟩ := hb
      cases eb
      right
      refine ⟨φ, ψ, ρ, m, w1, _, R, E, e2, fun φ1 ψ1 H1 v P1 R1 V1 => ?_⟩
      obtain ⟨l, vs, rfl, hq, rs⟩ := itm_sq (gt_c (V1.rel R1) (V1.s R1).stl ex) e6
      obtain ⟨es, rfl, rfl, hs⟩ := allT_rep rs e7
      refine ⟨l, rfl, .inr ⟨es, hq, fun e he => (hs e he).1, by simpa using hb, fun a L han l1 l2 => ?_⟩⟩
      have P2 := Post.lay (φ := φ1) (ψ := ψ) (o := SetM X.prog X.w a L) han
      have R2 := (V1.rel R1).lay (o := SetM X.prog X.w a L) han
      obtain ⟨sh', hne, hsh⟩ := shape ho l1
      have hsL : ∀ e ∈ L, SqN X.K (upd H1 a (SetM X.prog X.w a L)) e.1 (e.2.map kV) := fun e he => P2.sqN (V1.rel R1) (hs e (l1 e he))
      refine ⟨a, L, sh', rfl, upd_same, fun e he => (hsL e he).1, hne, hsh, fun L' p p1 pw hp => ?_⟩
      have en : L'.map (·.2) = sortU kLt (es.map (·.2)) := sorted_uniq lin_k (List.pairwise_map.mpr pw) (sortU_sorted lin_k _) fun z => by
        rw [mem_sortU]
        constructor
        · intro hz
          obtain ⟨e, he, rfl⟩ := List.mem_map.mp hz
          exact List.mem_map.mpr ⟨e, l1 e (p1.mem_iff.mp he), rfl⟩
        · intro hz
          obtain ⟨e, he, rfl⟩ := List.mem_map.mp hz
          exact (p1.map (·.2)).mem_iff.mpr (l2 e he)
      have ed : (sortU kLt (es.map (·.2))).map tD = L'.map fun e => tD e.2 := by rw [← en, List.map_map]; rfl
      rw [ed] at k
      exact Go.lst (fun φ3 ψ3 H3 v P3 R3 V3 => k φ3 ψ3 H3 v (((V1.post P1).trans P2).trans P3) R3 V3) R2 (reps_ents L' fun e he => hsL e (p1.mem_iff.mp he)) hp
    · cases eb
end
end Pw
end
section
set_option Elab.async false
set_option linter.all false
set_option maxRecDepth 100000
set_option maxHeartbeats 4000000
namespace Pw
open PySem PySem.Spec PyProof.Rows L2 Pv
def entryH (K : FRG) (tabs : List Addr) (a : Addr) (o : Obj) (vs : List V) : Hp := fun b =>
  if b ∈ tabs then some (.tbl #[]) else if b = a ∧ K.lookup a = none then some (.frz o (.lst vs)) else none
theorem entryH_cases {K : FRG} {tabs : List Addr} {a b : Addr} {o : Obj} {vs : List V} {u : HO} (h : entryH K tabs a o vs b = some u) :
    (b ∈ tabs ∧ u = .tbl #[]) ∨ (b ∉ tabs ∧ b = a ∧ K.lookup a = none ∧ u = .frz o (.lst vs)) := by
  unfold entryH at h
  by_cases hb : b ∈ tabs
  · rw [if_pos hb] at h; cases h; exact .inl ⟨hb, rfl⟩
  · rw [if_neg hb] at h
    by_cases hc : b = a ∧ K.lookup a = none
    · rw [if_pos hc] at h; cases h; exact .inr ⟨hb, hc.1, hc.2, rfl⟩
    · rw [if_neg hc] at h; cases h
theorem entryH_tab {K : FRG} {tabs : List Addr} {a b : Addr} {o : Obj} {vs : List V} (hb : b ∈ tabs) : entryH K tabs a o vs b = some (.tbl #[]) := if_pos hb
theorem law_callG {P : Program} {w : World} {K : FRG} {mg mb : Str → Option Value} {k : Nat} {fa a : Addr} {cs : List (Addr × Addr)} {fd : FuncData} {x : Str} {F : Fx} {t0 : Shared} {us : List Value} {ns : List Int}
    (inK : K.In t0.heap) (glob : t0.heap.Ns mainGlobals mg) (blt : t0.heap.Ns builtinsNs mb) (bltIs : ∀ x : Str, x ≠ "__name__" → mb x = bootBuiltins x) (lim : t0.heap.NoLimit) (gens : t0.gens = #[])
    (tabs : ∀ p ∈ cs, t0.heap.get? p.2 = some { cls := .none, data := .fields #[] }) (notK : ∀ p ∈ cs, K.lookup p.2 = none) (codes : ∀ p ∈ cs, PySem.W.CodeHd t0.heap p.1 p.2)
    (bmod : ∃ (bm : Addr) (ob : Obj), mg "__builtins__" = some (.ref bm) ∧ bm ≠ builtinsNs ∧ t0.heap.get? bm = some ob ∧ ob.cls = .type "module" ∧ ob.dict = some builtinsNs ∧ ob.data = .plain)
    (obj : t0.heap.get? a = some { cls := .type "list", data := .seq us.toArray }) (isI : IntsAre us ns) (few : ns.length ≤ sizeLine) (room : Room k callerA)
    (G : ∀ base : Heap, K.In base → base.Ns mainGlobals mg → (∀ p ∈ cs, GxR.TabB base mg p.1 p.2) → FnG P w K mg base k fa fd [x] (spF K (cs.map (·.2)) 1 F)) (binds : ∀ (s : Shared) (u : Value), BindsTo s fd ⟨[u], []⟩ [(x, u)])
    (holds : ∃ m', F [.v (.fl (ns.map .int))] [] = some (.v (.bl true), m')) :
    codeAny (model P w) callerA (.call (.ref fa) ⟨[.ref a], []⟩) (fun r s' => r = .ok (.ret (.bool true)) ∧ OldK t0.heap s'.heap ∧ s'.os = t0.os ∧ AllBare s'.gens) t0 := by
  obtain ⟨m', holds⟩ := holds
  have rel := vals_ints isI
  have lens := isI.length
  let ob : Obj := { cls := .type "list", data := .seq us.toArray }
  let TB := cs.map (·.2)
  let H := entryH K TB a ob (ns.map V.int)
  have tabAt : ∀ b, b ∈ TB → t0.heap.get? b = some { cls := .none, data := .fields #[] } := fun b hb => by
    obtain ⟨p, hp, rfl⟩ := List.mem_map.mp hb
    exact tabs p hp
  have ok : HOk P w H t0.heap := fun b u e => by
    rcases entryH_cases e with ⟨hb, rfl⟩ | ⟨_, rfl, _, rfl⟩
    · exact tabAt b hb
    · exact ⟨obj, by rw [List.length_map]; exact few, us, _, rel, obj⟩
  have offData : ∀ {b : Addr} {o : Obj}, t0.heap.get? b = some o → (∀ vs n, o.data ≠ .seq vs n) → o.data ≠ .fields #[] → H b = none := fun {b o} e h1 h2 => by
    cases q : H b with
    | none => rfl
    | some u =>
      exfalso
      rcases entryH_cases q with ⟨hb, _⟩ | ⟨_, rfl, _, _⟩
      · rw [tabAt b hb] at e; cases e; exact h2 rfl
      · rw [obj] at e; cases e; exact h1 _ _ rfl
  have down : ∀ {b : Addr} {o : Obj}, t0.heap.get? b = some o → H b = none → (hidT t0.heap H).get? b = some o := fun e n => hidT_get e n
  have nsDown : ∀ {b : Addr} {f : Str → Option Value}, t0.heap.Ns b f → (hidT t0.heap H).Ns b f := by
    rintro b f ⟨o, es, ep, e, d, r⟩
    exact ⟨o, es, ep, down e (offData e (fun vs n z => by rw [d] at z; cases z) fun z => by rw [d] at z; cases z), d, r⟩
  have kDown : K.In (hidT t0.heap H) := fun b o e => down (inK b o e) (by
    cases q : H b with
    | none => rfl
    | some u =>
      exfalso
      rcases entryH_cases q with ⟨hb, _⟩ | ⟨_, rfl, hk, _⟩
      · obtain ⟨p, hp, rfl⟩ := List.mem_map.mp hb
        rw [notK p hp] at e; cases e
      · rw [hk] at e; cases e)
  have modOk : L2.Mod K mg (hidT t0.heap H) := by
    obtain ⟨mc, l1, l2⟩ := lim
    exact ⟨kDown, nsDown glob, ⟨mb, nsDown blt, bltIs⟩, ⟨mc, nsDown l1, l2⟩⟩
  have tabsOk : ∀ p ∈ cs, GxR.TabB (hidT t0.heap H) mg p.1 p.2 := fun p hp => by
    constructor
    · obtain ⟨o, vs, file, tf, flags, tg, inF, text, tt, e1, rest⟩ := codes p hp
      refine ⟨o, vs, file, tf, flags, tg, inF, text, tt, down e1 (offData e1 (fun vs' n z => ?_) fun z => ?_), rest⟩
      · rw [rest.2.1] at z; cases z
      · rw [rest.2.1] at z
        have z' := Data.fields.inj z
        have h11 := rest.2.2.1
        rw [z'] at h11
        simp at h11
    · obtain ⟨bm, o, b1, b2, b3, b4, b5, b6⟩ := bmod
      refine ⟨bm, o, b1, b2, fun z => ?_, fun z => ?_, down b3 (offData b3 (fun vs n z => ?_) fun z => ?_), b4, b5, b6⟩
      · obtain ⟨o', es, ep, e, d, _⟩ := glob
        rw [z, e] at b3; cases b3
        rw [d] at b6; cases b6
      · rw [z, tabs p hp] at b3; cases b3; cases b6
      · rw [b6] at z; cases z
      · rw [b6] at z; cases z
    · intro z
      obtain ⟨o', es, ep, e, d, _⟩ := glob
      rw [z, tabs p hp] at e; cases e; cases d
  have entry : Env0 P w K mg (hidT t0.heap H) callerA [] t0 H := ⟨rfl, modOk, fun b o e => of_hidT e, Nat.le_of_eq (hidT_size _ _), trivial, fun b hb => absurd (show b ∈ ([] : List Addr) from hb) (by simp), ok, AllBare.of_eq gens⟩
  have RL : Rel K TB [] [] H [] := ⟨rfl, List.nodup_nil, fun n mo b e1 _ => by simp at e1, fun p hp => ⟨#[], entryH_tab hp, by trivial⟩, (fun p hp => nomatch hp), (fun p hp => nomatch hp), fun p hp _ _ _ _ => LamX.TabS.nil (entryH_tab hp)⟩
  have rInts : ∀ l : List Int, Reps K [] [] H (l.map .int) (l.map V.int) := fun l => by
    induction l with
    | nil => exact .nil
    | cons i l ih => exact .cons (.int i) ih
  have nT : a ∉ TB := fun z => by
    have e := tabAt a z
    rw [obj] at e
    have e' := congrArg Obj.data (Option.some.inj e)
    cases e'
  have script : Rep K [] [] H (.fl (ns.map .int)) (.ref a) := by
    refine .fl ?_ (rInts ns)
    cases hk : K.lookup a with
    | none =>
      refine .inl ⟨ob, ?_⟩
      show entryH K TB a ob _ a = _
      unfold entryH
      rw [if_neg nT, if_pos ⟨rfl, hk⟩]
    | some o =>
      have e := inK a o hk
      rw [obj] at e
      cases e
      exact .inr ⟨_, us.toArray, _, hk, rfl, rfl, rfl, by rw [List.size_toArray, lens]; exact few, by simpa using rel⟩
  have want : spF K TB 1 F [.ref a] H (fun v _ => v = .bl true) E0 := ⟨[], [], [.v (.fl (ns.map .int))], [], .v (.bl true), m', RL, .cons script .nil, rfl, holds, fun φ' ψ' H' v _ _ r => by obtain ⟨_, r⟩ := r; cases r; rfl⟩
  refine codeAny_mono ((G _ kDown (nsDown glob) tabsOk).run callerA [] t0 H ⟨[.ref a], []⟩ [.ref a] [.ref a] _ _ rfl room entry (binds t0 (.ref a)) (.cons rfl .nil) want) fun res t1 ends => ?_
  match res, ends with
  | .ok (.ret u), ⟨v, H', os, bare, un, ok', rv, isT⟩ =>
    have isT' : v = .bl true := isT
    subst isT'
    obtain rfl : u = Value.bool true := rv
    have kept : ∀ b o, b ∉ TB → t0.heap.get? b = some o → t1.heap.get? b = some o := fun b o nb e => by
      cases q : H b with
      | none => exact un.keep b o e q (fun z => absurd (show b ∈ ([] : List Addr) from z) (by simp)) (by simp)
      | some y =>
        rcases entryH_cases q with ⟨hb, _⟩ | ⟨_, rfl, _, rfl⟩
        · exact absurd hb nb
        · have q2 := un.frzs _ _ _ q
          obtain ⟨e1, _⟩ := ok' _ _ q2
          rw [obj] at e; cases e
          exact e1
    have grown : ∀ p ∈ cs, ∃ more : Array Value, t1.heap.get? p.2 = some { cls := .none, data := .fields more } := fun p hp => by
      obtain ⟨more, z⟩ := un.tbls p.2 #[] (entryH_tab (List.mem_map.mpr ⟨p, hp, rfl⟩))
      exact ⟨_, ok' p.2 _ z⟩
    refine ⟨rfl, ⟨fun b o e => ?_, fun b o e => ?_⟩, os, bare⟩
    · by_cases hb : b ∈ TB
      · obtain ⟨p, hp, rfl⟩ := List.mem_map.mp hb
        obtain ⟨more, hm⟩ := grown p hp
        rw [tabs p hp] at e
        cases e
        exact .inr (.inl ⟨((codes p hp).tab (tabs p hp)).isCodeTable, rfl, #[], more, rfl, by rw [Array.empty_append]; exact hm⟩)
      · exact .inl (kept b o hb e)
    · by_cases hb : b ∈ TB
      · obtain ⟨p, hp, rfl⟩ := List.mem_map.mp hb
        obtain ⟨more, hm⟩ := grown p hp
        exact ⟨_, hm⟩
      · exact ⟨o, kept b o hb e⟩
theorem walkG {l : PySem.W.OpenLaw} {n k : Nat} {q : Program} {loose : List Str} {XP : (Str → Option Value) → Heap → Prop} {YP : World → Heap → Prop} {d : DefRec} {K : Params → FRG} {x : Str} {F : Fx}
    (hn : l.most = some n) (hn2 : n ≤ sizeLine) (hdf : d.params.defaults = []) (room : Room k callerA) (hY : ∀ (w : World) (h : Heap), YP w h → (K w.params).In h)
    (G : ∀ (w : World) (mg : Str → Option Value) (fa : Addr) (h : Heap), (K w.params).In h → h.Ns mainGlobals mg → mg d.name = some (.ref fa) →
      (∀ (x : Str) (d : DefRec) (c P : Addr), (recsOf q).find? (fun e => e.name == x) = some d → PySem.W.tabIn (K w.params) x = some (c, P) → PySem.W.CodeHd h c P ∧ h.get? P = some { cls := .none, data := .fields #[] }) →
      ∃ (fd : FuncData) (cs : List (Addr × Addr)), (∀ p ∈ cs, h.get? p.2 = some { cls := .none, data := .fields #[] }) ∧ (∀ p ∈ cs, (K w.params).lookup p.2 = none) ∧ (∀ p ∈ cs, PySem.W.CodeHd h p.1 p.2) ∧ (∀ (s : Shared) (u : Value), BindsTo s fd ⟨[u], []⟩ [(x, u)]) ∧
        ∀ base : Heap, (K w.params).In base → base.Ns mainGlobals mg → (∀ p ∈ cs, GxR.TabB base mg p.1 p.2) → FnG l.prog w (K w.params) mg base k fa fd [x] (spF (K w.params) (cs.map (·.2)) 1 F))
    (holds : ∀ ns : List Int, ns.length ≤ n → ∃ m', F [.v (.fl (ns.map .int))] [] = some (.v (.bl true), m')) :
    PySem.W.WalkO q loose XP YP l.row.toRowW d [] (fun f vs => PySem.call f vs) := by
  refine Att.attach_callB hn hdf fun w s₀ t0 mg mb fa o pm cd doc a us ns Gr Y ho hd hcd hmg hobj hints hlen hbits hg => ?_
  have inK := hY w _ Y
  obtain ⟨fd, cs, tabs, notK, codes, binds, hG⟩ := G w mg fa _ inK Gr.T.g hmg fun x d c P h1 h2 => PySem.W.tab_of Gr.T inK h1 h2
  exact law_callG inK Gr.T.g Gr.T.b Gr.T.builtins Gr.T.nolimit hg tabs notK codes Gr.T.bmain hobj hints (Nat.le_trans hlen hn2) room hG binds (holds ns hlen)
theorem Post.tbl {φ ψ : List Addr} {H : Hp} {p : Addr} {ps ps' : Array Value} (h : H p = some (.tbl ps)) : Post φ ψ H φ ψ (upd H p (.tbl ps')) :=
  ⟨List.prefix_refl _, fun _ z => .inl z, fun _ z => .inl z, fun b u _ e ht => .inl (by rw [upd_ne (fun z => by rw [z, h] at e; cases e; exact ht _ rfl)]; exact e), (fun b z => by
    by_cases hb : b = p
    · rw [hb, upd_same] at z; cases z
    · rw [upd_ne hb] at z; exact z), fun _ z => z⟩
theorem Rel.tbl {K : FRG} {tb φ ψ : List Addr} {H : Hp} {m : Mem} {p : Addr} {ps ps' : Array Value} (R : Rel K tb φ ψ H m) (h : H p = some (.tbl ps)) (ht : TriplesOk ps'.toList) (hn : NotL K p) : Rel K tb φ ψ (upd H p (.tbl ps')) m := by
  refine ⟨R.len, R.nd, fun n mo a e1 e2 => ?_, fun q hq => ?_, fun q hq z => R.sd q hq ((Post.tbl (φ := φ) (ψ := ψ) h).kp q z), R.ap, fun q hq => ?_⟩
  · exact (R.obj n mo a e1 e2).mono (Post.tbl h) R (upd_ne fun z => R.ntbl h (z ▸ List.mem_of_getElem? e2))
  · by_cases hb : q = p
    · rw [hb]; exact ⟨ps', upd_same, ht⟩
    · exact TabG.keep (R.tab q hq) (upd_ne hb)
  · by_cases hb : q = p
    · exact fun x hx c hc => absurd (hb ▸ hc) (hn x hx c)
    · exact (R.lam q hq).upd hb fun _ e => by rw [h] at e; cases e
end Pw
end
section
set_option Elab.async false
set_option linter.all false
set_option maxRecDepth 100000
set_option maxHeartbeats 4000000
namespace Lx
open PySem L2 Pw
theorem at_nat {α : Type} {xs : List α} {i : Nat} {x : α} (h : xs[i]? = some x) : atI xs (i : Int) = some x := by
  have hl : i < xs.length := (List.getElem?_eq_some_iff.mp h).1
  unfold atI ixN
  rw [if_pos (by omega), if_pos (by omega)]
  simpa using h
theorem at_int {α : Type} {xs : List α} {v : Int} {x : α} (h0 : 0 ≤ v) (h : xs[v.toNat]? = some x) : atI xs v = some x := by
  have := at_nat h
  rwa [Int.toNat_of_nonneg h0] at this
theorem at_some {α : Type} {xs : List α} {v : Int} (h0 : 0 ≤ v) (h1 : v < xs.length) : ∃ x, x ∈ xs ∧ xs[v.toNat]? = some x ∧ atI xs v = some x := by
  have hv : v.toNat < xs.length := by omega
  have e : xs[v.toNat]? = some xs[v.toNat] := List.getElem?_eq_getElem hv
  exact ⟨_, List.getElem_mem hv, e, at_int h0 e⟩
@[simp] theorem at0 {α : Type} {a : α} {xs : List α} : atI (a :: xs) 0 = some a := @at_nat _ (a :: xs) 0 a rfl
@[simp] theorem at1 {α : Type} {a b : α} {xs : List α} : atI (a :: b :: xs) 1 = some b := @at_nat _ (a :: b :: xs) 1 b rfl
@[simp] theorem at2 {α : Type} {a b c : α} {xs : List α} : atI (a :: b :: c :: xs) 2 = some c := @at_nat _ (a :: b :: c :: xs) 2 c rfl
@[simp] theorem at3 {α : Type} {a b c d : α} {xs : List α} : atI (a :: b :: c :: d :: xs) 3 = some d := @at_nat _ (a :: b :: c :: d :: xs) 3 d rfl
@[simp] theorem at4 {α : Type} {a b c d e : α} {xs : List α} : atI (a :: b :: c :: d :: e :: xs) 4 = some e := @at_nat _ (a :: b :: c :: d :: e :: xs) 4 e rfl
@[simp] theorem ix4_1 : ixN 4 1 = some 1 := rfl
@[simp] theorem ix4_2 : ixN 4 2 = some 2 := rfl
@[simp] theorem ix4_3 : ixN 4 3 = some 3 := rfl
@[simp] theorem stl_v {d : D} : stl (.v d) = .v d := rfl
@[simp] theorem stl_f {d : D} : stl (.f d) = .v d := rfl
@[simp] theorem stl_r {n : Nat} : stl (.r n) = .r n := rfl
@[simp] theorem gt_v {d : D} {m : Mem} : gt (.v d) m = some d := rfl
@[simp] theorem gt_f {d : D} {m : Mem} : gt (.f d) m = some d := rfl
@[simp] theorem gt_r {n : Nat} {m : Mem} : gt (.r n) m = (m[n]?).map moD := rfl
@[simp] theorem moD_l {ds : List D} : moD (.lst ds) = .lst ds := rfl
@[simp] theorem moD_k {kvs : List (Key × D)} : moD (.dk kvs) = .dk kvs := rfl
@[simp] theorem vl_v {d : D} : vl (.v d) = some d := rfl
@[simp] theorem vl_f {d : D} : vl (.f d) = some d := rfl
@[simp] theorem gts_nil {m : Mem} : gts [] m = some [] := rfl
@[simp] theorem gts_cons {w : W} {ws : List W} {m : Mem} : gts (w :: ws) m = (gt w m).bind fun d => (gts ws m).bind fun ds => some (d :: ds) := rfl
@[simp] theorem vls_nil : vls [] = some [] := rfl
@[simp] theorem vls_v {d : D} {ws : List W} : vls (.v d :: ws) = (vls ws).bind fun ds => some (d :: ds) := rfl
@[simp] theorem vls_f {d : D} {ws : List W} : vls (.f d :: ws) = (vls ws).bind fun ds => some (d :: ds) := rfl
@[simp] theorem blD_b {b : Bool} : blD (.bl b) = some b := rfl
@[simp] theorem inD_i {i : Int} : inD' (.int i) = some i := rfl
@[simp] theorem wipe_nil {ρ : Pw.Env} : wipeD ρ [] = ρ := rfl
@[simp] theorem wipe_cons {ρ : Pw.Env} {v : Nat} {vs : List Nat} : wipeD ρ (v :: vs) = (wipeD ρ vs).set v none := rfl
@[simp] theorem itm_t {ds : List D} : itmD (.tup ds) = some ds := rfl
@[simp] theorem itm_l {ds : List D} : itmD (.lst ds) = some ds := rfl
@[simp] theorem itmL_l {ds : List D} : itmL (.lst ds) = some ds := rfl
@[simp] theorem src_t {ds : List D} {m : Mem} : srcW (.v (.tup ds)) m = some (.seq ds) := rfl
@[simp] theorem src_l {ds : List D} {m : Mem} : srcW (.v (.lst ds)) m = some (.seq ds) := rfl
@[simp] theorem src_tf {ds : List D} {m : Mem} : srcW (.f (.tup ds)) m = some (.seq ds) := rfl
@[simp] theorem src_lf {ds : List D} {m : Mem} : srcW (.f (.lst ds)) m = some (.seq ds) := rfl
@[simp] theorem items_seq {ds : List D} {m : Mem} : itemsAt (.seq ds) m = some ds := rfl
@[simp] theorem own_f {ds : List D} {m : Mem} : ownW (.f (.lst ds)) m = some (.r m.length, m ++ [.lst ds]) := rfl
@[simp] theorem own_r {n : Nat} {m : Mem} : ownW (.r n) m = some (.r n, m) := rfl
@[simp] theorem out_v {k : Nat} {d : D} {m : Mem} : outW k (.v d) m = some (.v d, m.take k) := rfl
@[simp] theorem out_f {k : Nat} {d : D} {m : Mem} : outW k (.f d) m = some (.f d, m.take k) := rfl
@[simp] theorem sub_i {a b : Int} : subD (.int a) (.int b) = some (.v (.int (a - b))) := rfl
@[simp] theorem add_i {a b : Int} : addD (.int a) (.int b) = some (.v (.int (a + b))) := rfl
@[simp] theorem neg_i {a : Int} : negD (.int a) = some (.v (.int (-a))) := rfl
@[simp] theorem lt_i {a b : Int} : cmpD ltI (.int a) (.int b) = some (.v (.bl (decide (a < b)))) := rfl
@[simp] theorem le_i {a b : Int} : cmpD leI (.int a) (.int b) = some (.v (.bl (decide (a ≤ b)))) := rfl
@[simp] theorem gt_i {a b : Int} : cmpD gtI (.int a) (.int b) = some (.v (.bl (decide (b < a)))) := rfl
@[simp] theorem ge_i {a b : Int} : cmpD geI (.int a) (.int b) = some (.v (.bl (decide (b ≤ a)))) := rfl
@[simp] theorem max_i {a b : Int} : two maxI [.int a, .int b] = some (.v (.int (max a b))) := by
  simp only [two, maxI, Option.some.injEq, W.v.injEq, D.int.injEq]; split <;> omega
@[simp] theorem min_i {a b : Int} : two minI [.int a, .int b] = some (.v (.int (min a b))) := by
  simp only [two, minI, Option.some.injEq, W.v.injEq, D.int.injEq]; split <;> omega
@[simp] theorem int_b {b : Bool} : intD [.bl b] = some (.v (.int (if b then 1 else 0))) := rfl
@[simp] theorem int_i {b : Int} : intD [.int b] = some (.v (.int b)) := rfl
@[simp] theorem len_t {ds : List D} : lenD [.tup ds] = some (.v (.int ds.length)) := rfl
@[simp] theorem len_l {ds : List D} : lenD [.lst ds] = some (.v (.int ds.length)) := rfl
@[simp] theorem len_fl {ds : List D} : lenD [.fl ds] = some (.v (.int ds.length)) := rfl
@[simp] theorem tuple_l {ds : List D} : tupleD [.lst ds] = some (.v (.tup ds)) := rfl
@[simp] theorem tuple_t {ds : List D} : tupleD [.tup ds] = some (.v (.tup ds)) := rfl
@[simp] theorem list_t {ds : List D} : listD [.tup ds] = some (.f (.lst ds)) := rfl
@[simp] theorem list_l {ds : List D} : listD [.lst ds] = some (.f (.lst ds)) := rfl
@[simp] theorem ix_t {ds : List D} {i : Int} : ixD (.tup ds) (.int i) = (atI ds i).bind fun d => some (.v d) := rfl
@[simp] theorem ix_l {ds : List D} {i : Int} : ixD (.lst ds) (.int i) = (atI ds i).bind fun d => some (.v d) := rfl
@[simp] theorem ix_fl {ds : List D} {i : Int} : ixD (.fl ds) (.int i) = (atI ds i).bind fun d => some (.v d) := rfl
@[simp] theorem eq_i {neg : Bool} {x y : Int} : eqD neg (.int x) (.int y) = some (.v (.bl (decide (x = y) != neg))) := by
  unfold eqD eqB
  simp [sc, scal]
@[simp] theorem eq_s {neg : Bool} {x y : Str} : eqD neg (.str x) (.str y) = some (.v (.bl (decide (x = y) != neg))) := by
  unfold eqD eqB
  simp [sc, scal]
theorem mul_i {a b : Int} (c : CMul a b) : mulD (.int a) (.int b) = some (.v (.int (a * b))) := by simp [mulD, c]
theorem div_i {a b : Int} (h : 0 < b) (h2 : b < 2 ^ 30) : divD (.int a) (.int b) = some (.v (.int (a / b))) := by
  have c : CDiv a b := ⟨h, h2⟩
  simp [divD, intC, c]
theorem mod_i {a b : Int} (h : 0 < b) : modD (.int a) (.int b) = some (.v (.int (a % b))) := by simp [modD, intC, h]
theorem pow_i {a b : Int} (c : CPow a b) : powD (.int a) (.int b) = some (.v (.int (a ^ b.toNat))) := by simp [powD, intC, c]
@[simp] theorem add_l {a b : List D} : addD (.lst a) (.lst b) = if a.length + b.length ≤ 1000000 then some (.f (.lst (a ++ b))) else none := rfl
@[simp] theorem add_t {a b : List D} : addD (.tup a) (.tup b) = if a.length + b.length ≤ 1000000 then some (.v (.tup (a ++ b))) else none := rfl
@[simp] theorem app_r {n : Nat} {w : W} {m : Mem} : appD (.r n) [w] m = match m[n]? with
    | some (.lst ds) => (vl w).bind fun d => if ds.length < 1000000 then some (.v .non, m.set n (.lst (ds ++ [d]))) else none
    | _ => none := rfl
@[simp] theorem isl_r {n : Nat} {m : Mem} : isLst (.r n) m = match m[n]? with
    | some (.lst _) => true
    | _ => false := rfl
@[simp] theorem rngA_i {n : Nat} : rngA [.int (n : Int)] = if (n : Int) ≤ 1000000000 then some (rngD 0 n) else none := by
  unfold rngA
  simp only [Int.toNat_natCast]
  by_cases h : (n : Int) ≤ 1000000000
  · rw [if_pos ⟨by omega, h⟩, if_pos h]
  · rw [if_neg (fun z => h z.2), if_neg h]
@[simp] theorem put_r {n : Nat} {i : Int} {d : D} {m : Mem} : putD (.r n) (.int i) d m = match m[n]? with
    | some (.lst ds) => (ixN ds.length i).map fun j => m.set n (.lst (ds.set j d))
    | _ => none := rfl
structure St where
  p : Int
  c : Int
  sd : Int
  hp : 0 ≤ p
  hc : 0 ≤ c
  hs : 0 ≤ sd
  hs2 : sd < 2147483647
def stD (ns : List Int) (s : St) : MO := .lst [.fl (ns.map .int), .int s.p, .int s.c, .int s.sd]
noncomputable def B_take : Sx := (sSeq (sFog [3] (sIf (tVal (eOp (cmpD gtI) (eOp ixD (eVar 0) (eC (.int 2))) (eC (.int 0)))) (sSeq (sSet 3 (eOp modD (eOp ixD (eVar 0) (eC (.int 2))) (eVar 1))) (sSeq (sPut (eVar 0) (eC (.int 2)) (eOp divD (eOp ixD (eVar 0) (eC (.int 2))) (eVar 1))) (sRet (eVar 3)))) sNil)) (sSeq (sSet 2 (eC (.int 0))) (sSeq (sIf (tVal (eOp (cmpD ltI) (eOp ixD (eVar 0) (eC (.int 1))) (eCB lenD (aCons (eOp ixD (eVar 0) (eC (.int 0))) aNil)))) (sSet 2 (eOp ixD (eOp ixD (eVar 0) (eC (.int 0))) (eOp ixD (eVar 0) (eC (.int 1))))) sNil) (sSeq (sPut (eVar 0) (eC (.int 1)) (eOp addD (eOp ixD (eVar 0) (eC (.int 1))) (eC (.int 1)))) (sSeq (sIf (tVal (eOp (cmpD geI) (eVar 2) (eOp powD (eC (.int 10)) (eC (.int 18))))) (sSeq (sPut (eVar 0) (eC (.int 2)) (eOp divD (eVar 2) (eVar 1))) (sRet (eOp modD (eVar 2) (eVar 1)))) sNil) (sSeq (sPut (eVar 0) (eC (.int 3)) (eOp modD (eOp addD (eOp addD (eOp mulD (eOp ixD (eVar 0) (eC (.int 3))) (eC (.int 48271))) (eOp modD (eVar 2) (eC (.int 2147483629)))) (eOp mulD (eC (.int 7)) (eOp ixD (eVar 0) (eC (.int 1))))) (eC (.int 2147483647)))) (sRet (eOp modD (eOp divD (eOp modD (eOp powD (eOp ixD (eVar 0) (eC (.int 3))) (eC (.int 3))) (eC (.int 2147483629))) (eC (.int 64))) (eVar 1)))))))))
noncomputable def F_take : Fx := runF 2 4 B_take
theorem take_ex (ns : List Int) (s : St) (b : Int) (hb : 0 < b) (hb2 : b < 1073741824) :
    ∃ (v : Int) (s' : St), 0 ≤ v ∧ v < b ∧ ∀ m : Mem, F_take [.r 0, .v (.int b)] (stD ns s :: m) = some (.v (.int v), stD ns s' :: m) := by
  obtain ⟨p, c, sd, hp, hc, hs, hs2⟩ := s
  by_cases h0 : 0 < c
  · refine ⟨c % b, ⟨p, c / b, sd, hp, Int.ediv_nonneg hc (by omega), hs, hs2⟩, Int.emod_nonneg _ (by omega), Int.emod_lt_of_pos _ hb, fun m => ?_⟩
    simp [F_take, runF, B_take, startD, sFog, sSeq, sIf, sSet, sRet, sPut, eVar, eC, eOp, tVal, stD, h0, mod_i hb, div_i hb hb2]
  · have key : ∀ cell : Int, (if p < (ns.length : Int) then atI (ns.map D.int) p else some (D.int 0)) = some (.int cell) → ∃ (v : Int) (s' : St), 0 ≤ v ∧ v < b ∧ ∀ m : Mem, F_take [.r 0, .v (.int b)] (stD ns ⟨p, c, sd, hp, hc, hs, hs2⟩ :: m) = some (.v (.int v), stD ns s' :: m) := by
      intro cell hcell
      have cp10 : CPow 10 18 := ⟨by omega, by omega, by decide⟩
      by_cases hbig : (1000000000000000000 : Int) ≤ cell
      · refine ⟨cell % b, ⟨p + 1, cell / b, sd, by omega, Int.ediv_nonneg (by omega) (by omega), hs, hs2⟩, Int.emod_nonneg _ (by omega), Int.emod_lt_of_pos _ hb, fun m => ?_⟩
        by_cases h1 : p < (ns.length : Int)
        · rw [if_pos h1] at hcell
          simp [F_take, runF, B_take, startD, sFog, sSeq, sIf, sSet, sRet, sPut, sNil, eVar, eC, eOp, eCB, aCons, aNil, tVal, stD, h0, h1, hcell, mod_i hb, div_i hb hb2, pow_i cp10, hbig]
        · rw [if_neg h1] at hcell
          have : (0 : Int) = cell := by injection hcell with z; injection z
          omega
      · have n2 : 0 ≤ (sd * 48271 + cell % 2147483629 + 7 * (p + 1)) % 2147483647 := Int.emod_nonneg _ (by omega)
        have n3 : (sd * 48271 + cell % 2147483629 + 7 * (p + 1)) % 2147483647 < 2147483647 := Int.emod_lt_of_pos _ (by omega)
        generalize hq : (sd * 48271 + cell % 2147483629 + 7 * (p + 1)) % 2147483647 = q at n2 n3
        have cp : CPow q 3 := ⟨by omega, by omega, by omega⟩
        refine ⟨q ^ 3 % 2147483629 / 64 % b, ⟨p + 1, c, q, by omega, hc, n2, n3⟩, Int.emod_nonneg _ (by omega), Int.emod_lt_of_pos _ hb, fun m => ?_⟩
        have m1 : mulD (.int sd) (.int 48271) = some (.v (.int (sd * 48271))) := mul_i (.inr ⟨by omega, by omega⟩)
        have m2 : mulD (.int 7) (.int (p + 1)) = some (.v (.int (7 * (p + 1)))) := mul_i (.inl ⟨by omega, by omega⟩)
        have d1 : ∀ a : Int, modD (.int a) (.int 2147483629) = some (.v (.int (a % 2147483629))) := fun a => mod_i (by omega)
        have d2 : ∀ a : Int, modD (.int a) (.int 2147483647) = some (.v (.int (a % 2147483647))) := fun a => mod_i (by omega)
        have d3 : ∀ a : Int, divD (.int a) (.int 64) = some (.v (.int (a / 64))) := fun a => div_i (by omega) (by omega)
        by_cases h1 : p < (ns.length : Int)
        · rw [if_pos h1] at hcell
          simp [F_take, runF, B_take, startD, sFog, sSeq, sIf, sSet, sRet, sPut, sNil, eVar, eC, eOp, eCB, aCons, aNil, tVal, stD, h0, h1, hcell, mod_i hb, d1, d2, d3, m1, m2, pow_i cp10, pow_i cp, hbig, hq]
        · rw [if_neg h1] at hcell
          have : (0 : Int) = cell := by injection hcell with z; injection z
          subst this
          have d1' : modD (.int 0) (.int 2147483629) = some (.v (.int 0)) := d1 0
          simp at hq
          simp [F_take, runF, B_take, startD, sFog, sSeq, sIf, sSet, sRet, sPut, sNil, eVar, eC, eOp, eCB, aCons, aNil, tVal, stD, h0, h1, mod_i hb, d1', d1, d2, d3, m1, m2, pow_i cp10, pow_i cp, hq]
    by_cases h1 : p < (ns.length : Int)
    · have hl : p.toNat < ns.length := by omega
      exact key ns[p.toNat] (by rw [if_pos h1]; exact at_int hp (by simp [hl]))
    · exact key 0 (by rw [if_neg h1])
open Classical in
noncomputable def tk (ns : List Int) (s : St) (b : Int) : Int × St := if h : 0 < b ∧ b < 1073741824 then ⟨Classical.choose (take_ex ns s b h.1 h.2), Classical.choose (Classical.choose_spec (take_ex ns s b h.1 h.2))⟩ else ⟨0, s⟩
theorem tk_lo {ns : List Int} {s : St} {b : Int} : 0 ≤ (tk ns s b).1 := by
  unfold tk
  split
  · rename_i h; exact (Classical.choose_spec (Classical.choose_spec (take_ex ns s b h.1 h.2))).1
  · exact Int.le_refl _
theorem tk_hi {ns : List Int} {s : St} {b : Int} (h : 0 < b) (h2 : b < 1073741824) : (tk ns s b).1 < b := by
  unfold tk
  rw [dif_pos ⟨h, h2⟩]
  exact (Classical.choose_spec (Classical.choose_spec (take_ex ns s b h h2))).2.1
theorem take_eq {ns : List Int} {s : St} {b : Int} {m : Mem} (h : 0 < b) (h2 : b < 1073741824) : F_take [.r 0, .v (.int b)] (stD ns s :: m) = some (.v (.int (tk ns s b).1), stD ns (tk ns s b).2 :: m) := by
  unfold tk
  rw [dif_pos ⟨h, h2⟩]
  exact (Classical.choose_spec (Classical.choose_spec (take_ex ns s b h h2))).2.2 m
end Lx
end
section
set_option Elab.async false
set_option linter.all false
set_option maxRecDepth 100000
set_option maxHeartbeats 4000000
namespace Lx
open PySem L2 Pw
theorem rng0 (n : Nat) : rngD 0 n = (List.range n).map fun i : Nat => D.int (i : Int) := by
  unfold rngD
  refine List.map_congr_left fun i _ => ?_
  simp
section
variable {α : Type} {src : Ix} {t : Gx} {c : Tx} {f : Ex} {b : Sx} {vs dd : List Nat} {ρ : Pw.Env} {m m1 : Mem}
theorem lcL_map {xs : List D} (g : α → D) (sel : α → Bool) (val : α → D) {ρ : Pw.Env} {m : Mem} : ∀ (L : List α) (acc : List D), (∀ a ∈ L, ∃ ρ1, t (g a) ρ = some ρ1 ∧ c ρ1 m = some (sel a, m) ∧ (sel a = true → ∃ w, f ρ1 m = some (w, m) ∧ vl w = some (val a))) → acc.length + L.length ≤ 1000000 →
    lcL (.seq xs) xs t c f ρ (L.map g) acc m = some (acc ++ (L.filter sel).map val, m)
  | [], acc, _, _ => by simp [lcL]
  | a :: L, acc, h, hl => by
    obtain ⟨ρ1, h1, h2, h3⟩ := h a List.mem_cons_self
    have hl' : acc.length + L.length + 1 ≤ 1000000 := by simpa [Nat.add_assoc] using hl
    rw [List.map_cons]
    unfold lcL
    rw [if_pos (by simp), h1]
    simp only [Option.bind_some, h2]
    cases hs : sel a with
    | true =>
      obtain ⟨w, e1, e2⟩ := h3 hs
      simp only [if_true, e1, Option.bind_some, e2]
      rw [if_pos (by omega), lcL_map g sel val L (acc ++ [val a]) (fun a ha => h a (List.mem_cons_of_mem _ ha)) (by simp; omega)]
      simp [List.filter_cons, hs]
    | false =>
      simp only [Bool.false_eq_true, if_false]
      rw [lcL_map g sel val L acc (fun a ha => h a (List.mem_cons_of_mem _ ha)) (by omega)]
      simp [List.filter_cons, hs]
theorem lc_map (L : List α) (g : α → D) (sel : α → Bool) (val : α → D) (hs : src ρ m = some (.seq (L.map g), m1)) (h : ∀ a ∈ L, ∃ ρ1, t (g a) (wipeD ρ vs) = some ρ1 ∧ c ρ1 m1 = some (sel a, m1) ∧ (sel a = true → ∃ w, f ρ1 m1 = some (w, m1) ∧ vl w = some (val a))) (hl : L.length ≤ 1000000) :
    eLc src t c f vs ρ m = some (.f (.lst ((L.filter sel).map val)), m1) := by
  unfold eLc
  rw [hs]
  simp only [Option.bind_some, items_seq]
  rw [lcL_map g sel val L [] h (by simpa using hl)]
  simp
theorem forL_inv {xs : List D} (Inv : Nat → Pw.Env → Mem → Prop) (g : α → D) : ∀ (L : List α) (i : Nat), (∀ k a, L[k]? = some a → ∀ ρ m, Inv (i + k) ρ m → ∃ ρ1 ρ2 m2, t (g a) ρ = some ρ1 ∧ b ρ1 m = some (.nx, ρ2, m2) ∧ Inv (i + k + 1) (wipeD ρ2 dd) m2) → ∀ (ρ : Pw.Env) (m : Mem), Inv i ρ m →
    ∃ ρ' m', forL (.seq xs) xs t b dd (L.map g) ρ m = some (.nx, ρ', m') ∧ Inv (i + L.length) ρ' m'
  | [], i, step, ρ, m, inv => ⟨ρ, m, by simp [forL], by simpa using inv⟩
  | a :: L, i, step, ρ, m, inv => by
    obtain ⟨ρ1, ρ2, m2, q1, q2, q3⟩ := step 0 a rfl ρ m (by simpa using inv)
    obtain ⟨ρ', m', r1, r2⟩ := forL_inv Inv g L (i + 1) (fun k a ha ρ m hi => by
      have := step (k + 1) a (by simpa using ha) ρ m (by rw [show i + (k + 1) = i + 1 + k by omega]; exact hi)
      rw [show i + (k + 1) + 1 = i + 1 + k + 1 by omega] at this
      exact this) (wipeD ρ2 dd) m2 (by simpa using q3)
    refine ⟨ρ', m', ?_, by rw [List.length_cons, show i + (L.length + 1) = i + 1 + L.length by omega]; exact r2⟩
    rw [List.map_cons]
    unfold forL
    rw [if_pos (by simp)]
    simp only [q1, q2, Option.bind_some]
    exact r1
theorem for_inv (L : List α) (g : α → D) (Inv : Nat → Pw.Env → Mem → Prop) (hs : src ρ m = some (.seq (L.map g), m1)) (h0 : Inv 0 ρ m1)
    (step : ∀ k a, L[k]? = some a → ∀ ρ m, Inv k ρ m → ∃ ρ1 ρ2 m2, t (g a) ρ = some ρ1 ∧ b ρ1 m = some (.nx, ρ2, m2) ∧ Inv (k + 1) (wipeD ρ2 dd) m2) :
    ∃ ρ' m', sFor src t b dd ρ m = some (.nx, ρ', m') ∧ Inv L.length ρ' m' := by
  obtain ⟨ρ', m', e, inv⟩ := forL_inv (xs := L.map g) Inv g L 0 (fun k a ha ρ m hi => by
    have := step k a ha ρ m (by simpa using hi)
    simpa using this) ρ m1 h0
  refine ⟨ρ', m', ?_, by simpa using inv⟩
  unfold sFor
  rw [hs]
  simp only [Option.bind_some, items_seq]
  exact e
end
structure Fo where
  day : Int
  fa : Int
  mo : Int
  man : Int
  wed : Int
deriving DecidableEq
def Fo.d (f : Fo) : D := .tup [.int f.day, .int f.fa, .int f.mo, .int f.man, .int f.wed]
def ParOk (F : List Fo) (day v man : Int) : Prop := v = -1 ∨ ∃ (j : Nat) (g : Fo), v = (j : Int) ∧ F[j]? = some g ∧ g.man = man ∧ g.day < day
structure FoOkL (lim : Int) (f : Fo) : Prop where
  d0 : 0 ≤ f.day
  d1 : f.day ≤ lim
  m : f.man = 0 ∨ f.man = 1
  w : f.wed = 0 ∨ f.wed = 1
structure GoodHL (lim : Int) (F : List Fo) : Prop where
  ne : 1 ≤ F.length
  le : F.length ≤ 60
  ok : ∀ f ∈ F, FoOkL lim f
  fa : ∀ (i : Nat) f, F[i]? = some f → ParOk (F.take i) f.day f.fa 1
  mo : ∀ (i : Nat) f, F[i]? = some f → ParOk (F.take i) f.day f.mo 0
  up : F.Pairwise fun f g => f.day ≤ g.day
  lm : lim ≤ 99999
@[simp] theorem fo0 {f : Fo} : ixD f.d (.int 0) = some (.v (.int f.day)) := by simp [Fo.d]
@[simp] theorem fo1 {f : Fo} : ixD f.d (.int 1) = some (.v (.int f.fa)) := by simp [Fo.d]
@[simp] theorem fo2 {f : Fo} : ixD f.d (.int 2) = some (.v (.int f.mo)) := by simp [Fo.d]
@[simp] theorem fo3 {f : Fo} : ixD f.d (.int 3) = some (.v (.int f.man)) := by simp [Fo.d]
@[simp] theorem fo4 {f : Fo} : ixD f.d (.int 4) = some (.v (.int f.wed)) := by simp [Fo.d]
abbrev nD (i : Nat) : D := .int (i : Int)
end Lx
end
section
set_option Elab.async false
set_option linter.all false
set_option maxRecDepth 100000
set_option maxHeartbeats 4000000
namespace Lx
open PySem L2 Pw
theorem snoc_at {α : Type} {F : List α} {f g : α} {i : Nat} (h : (F ++ [f])[i]? = some g) : (i < F.length ∧ F[i]? = some g) ∨ (i = F.length ∧ g = f) := by
  rcases Nat.lt_trichotomy i F.length with z | z | z
  · rw [List.getElem?_append_left z] at h; exact .inl ⟨z, h⟩
  · subst z
    simp at h
    exact .inr ⟨rfl, h.symm⟩
  · rw [List.getElem?_eq_none (by simp; omega)] at h; cases h
structure HalfHL (lim : Int) (F : List Fo) (day : Int) : Prop where
  d0 : 0 ≤ day
  d1 : day ≤ lim
  top : ∀ f ∈ F, f.day ≤ day
  ok : ∀ f ∈ F, FoOkL lim f
  fa : ∀ (i : Nat) f, F[i]? = some f → ParOk (F.take i) f.day f.fa 1
  mo : ∀ (i : Nat) f, F[i]? = some f → ParOk (F.take i) f.day f.mo 0
  up : F.Pairwise fun f g => f.day ≤ g.day
theorem HalfHL.snoc {lim : Int} {F : List Fo} {day : Int} {f : Fo} (h : HalfHL lim F day) (hd : day ≤ f.day) (ok : FoOkL lim f) (fa : ParOk F f.day f.fa 1) (mo : ParOk F f.day f.mo 0) : HalfHL lim (F ++ [f]) f.day := by
  refine ⟨ok.d0, ok.d1, fun g hg => ?_, fun g hg => ?_, fun i g hg => ?_, fun i g hg => ?_, ?_⟩
  · rcases List.mem_append.mp hg with z | z
    · have := h.top g z; omega
    · rw [List.mem_singleton.mp z]; exact Int.le_refl _
  · rcases List.mem_append.mp hg with z | z
    · exact h.ok g z
    · rw [List.mem_singleton.mp z]; exact ok
  · rcases snoc_at hg with ⟨z1, z2⟩ | ⟨rfl, rfl⟩
    · rw [List.take_append_of_le_length (Nat.le_of_lt z1)]; exact h.fa i g z2
    · rw [List.take_left]; exact fa
  · rcases snoc_at hg with ⟨z1, z2⟩ | ⟨rfl, rfl⟩
    · rw [List.take_append_of_le_length (Nat.le_of_lt z1)]; exact h.mo i g z2
    · rw [List.take_left]; exact mo
  · refine List.pairwise_append.mpr ⟨h.up, by simp, fun a ha b hb => ?_⟩
    rw [List.mem_singleton.mp hb]
    have := h.top a ha; omega
theorem pick_ex (ns : List Int) (s : St) (b : Int) (K : List D) (hb : b = K.length) (h : 0 < K.length) (h2 : K.length < 1000) : ∃ x, x ∈ K ∧ atI K (tk ns s b).1 = some x := by
  subst hb
  obtain ⟨x, h1, _, h3⟩ := at_some (xs := K) (tk_lo (ns := ns) (s := s) (b := K.length)) (tk_hi (by omega) (by omega))
  exact ⟨x, h1, h3⟩
end Lx
end
section
set_option Elab.async false
set_option linter.all false
set_option maxRecDepth 100000
set_option maxHeartbeats 4000000
namespace Lx
open PySem L2 Pw Pv
structure Nw where
  word : Str
  day : Int
  who : Int
  other : Int
deriving DecidableEq
def Nw.d (n : Nw) : D := .tup [.str n.word, .int n.day, .int n.who, .int n.other]
abbrev bD (B : List Nw) : D := .tup (B.map Nw.d)
@[simp] theorem nw0 {n : Nw} : ixD n.d (.int 0) = some (.v (.str n.word)) := by simp [Nw.d]
@[simp] theorem nw1 {n : Nw} : ixD n.d (.int 1) = some (.v (.int n.day)) := by simp [Nw.d]
@[simp] theorem nw2 {n : Nw} : ixD n.d (.int 2) = some (.v (.int n.who)) := by simp [Nw.d]
@[simp] theorem nw3 {n : Nw} : ixD n.d (.int 3) = some (.v (.int n.other)) := by simp [Nw.d]
end Lx
end
section
set_option Elab.async false
set_option linter.all false
set_option maxRecDepth 100000
set_option maxHeartbeats 4000000
namespace Lx
open PySem L2 Pw Pv
structure Rw where
  founder : Int
  men : Str
  wed : Int
  way : Str
deriving DecidableEq
def Rw.d (r : Rw) : D := .tup [.int r.founder, .str r.men, .int r.wed, .str r.way]
@[simp] theorem rw0 {r : Rw} : ixD r.d (.int 0) = some (.v (.int r.founder)) := by simp [Rw.d]
@[simp] theorem rw1 {r : Rw} : ixD r.d (.int 1) = some (.v (.str r.men)) := by simp [Rw.d]
@[simp] theorem rw2 {r : Rw} : ixD r.d (.int 2) = some (.v (.int r.wed)) := by simp [Rw.d]
@[simp] theorem rw3 {r : Rw} : ixD r.d (.int 3) = some (.v (.str r.way)) := by simp [Rw.d]
end Lx
end
section
set_option Elab.async false
set_option linter.all false
set_option maxRecDepth 100000
set_option maxHeartbeats 4000000
namespace Lx
open PySem L2 Pw Pv
@[simp] theorem s1 : (("only" : Str) = "first") = False := by decide
@[simp] theorem s2 : (("first" : Str) = "only") = False := by decide
def dayP (day who : Int) (word : Str) (n : Nw) : Bool := decide (n.word = word) && (decide (n.day ≤ day) && decide (n.who = who))
def daysOf (B : List Nw) (day who : Int) (word : Str) : List Int := (B.filter (dayP day who word)).map Nw.day
def backOf (B : List Nw) (day who : Int) : Int := ((daysOf B day who "returns").foldl bst_max none).getD (-1)
def behind (B : List Nw) (day who : Int) (word : Str) : List Int := (daysOf B day who word).filter fun d => decide (backOf B day who < d)
def cutFrom (B : List Nw) (day who : Int) : Int := ((behind B day who "cuts").foldl bst_min none).getD (-1)
def manP (F : List Fo) (i : Nat) : Bool := match F[i]? with
  | some f => decide (f.man = 1)
  | none => false
def kidP (F : List Fo) (who : Int) (i : Nat) : Bool := match F[i]? with
  | some f => (f.fa == who || f.mo == who)
  | none => false
def ccP (F : List Fo) (r : Rw) (day cut : Int) (i : Nat) : Bool := match F[i]? with
  | some f => !(decide (day < f.day) || (decide (r.wed = 1) && !decide (f.wed = 1))) && (decide (cut = -1) || decide (f.day < cut))
  | none => false
def kids (F : List Fo) (who : Int) : List Nat := (List.range F.length).filter (kidP F who)
def foundOf (F : List Fo) (B : List Nw) (r : Rw) (day who : Int) : List Nat := (kids F who).filter (ccP F r day (cutFrom B day who))
def stepsOf (F : List Fo) (B : List Nw) (r : Rw) (day : Int) (w : Nat) : List Nat :=
  if r.men = "only" ∧ manP F w = false then [] else if r.men = "first" then (foundOf F B r day w).filter (manP F) ++ (foundOf F B r day w).filter (fun i => !manP F i) else foundOf F B r day w
noncomputable def E_days_of_1 : Ex := eLc (iSeq (eVar 0)) (gN 4) (tAnd' (tVal (eOp (eqD false) (eOp ixD (eVar 4) (eC (.int 0))) (eVar 3))) (tAnd' (tVal (eOp (cmpD leI) (eOp ixD (eVar 4) (eC (.int 1))) (eVar 1))) (tVal (eOp (eqD false) (eOp ixD (eVar 4) (eC (.int 2))) (eVar 2))))) (eOp ixD (eVar 4) (eC (.int 1))) [4]
noncomputable def B_days_of : Sx := (sRet E_days_of_1)
noncomputable def F_days_of : Fx := runF 4 5 B_days_of
noncomputable def E_days_behind_back_1 : Ex := eLc (iSeq (eCall F_days_of (aCons (eVar 0) (aCons (eVar 1) (aCons (eVar 2) (aCons (eVar 3) aNil)))))) (gN 5) (tVal (eOp (cmpD gtI) (eVar 5) (eVar 4))) (eVar 5) [5]
noncomputable def B_days_behind_back : Sx := (sSeq (sSet 4 (eBest Pv.bst_max (eCall F_days_of (aCons (eVar 0) (aCons (eVar 1) (aCons (eVar 2) (aCons (eC (.str "returns")) aNil))))) (eUn negD (eC (.int 1))))) (sRet E_days_behind_back_1))
noncomputable def F_days_behind_back : Fx := runF 4 6 B_days_behind_back
noncomputable def B_cut_from : Sx := (sRet (eBest Pv.bst_min (eCall F_days_behind_back (aCons (eVar 0) (aCons (eVar 1) (aCons (eVar 2) (aCons (eC (.str "cuts")) aNil))))) (eUn negD (eC (.int 1)))))
noncomputable def F_cut_from : Fx := runF 3 3 B_cut_from
@[simp] theorem days_of_spec {B : List Nw} {day who : Int} {word : Str} {m : Mem} (hl : B.length ≤ 1000) : F_days_of [.v (bD B), .v (.int day), .v (.int who), .v (.str word)] m = some (.f (.lst ((daysOf B day who word).map .int)), m) := by
  have lc : E_days_of_1 [some (.v (bD B)), some (.v (.int day)), some (.v (.int who)), some (.v (.str word)), none] m = some (.f (.lst ((B.filter (dayP day who word)).map fun n => .int n.day)), m) := by
    refine lc_map B Nw.d (dayP day who word) (fun n => .int n.day) (by simp [iSeq, eVar]) (fun n hn => ⟨_, rfl, ?_, fun _ => ⟨.v (.int n.day), by simp [eOp, eVar, eC], rfl⟩⟩) (by omega)
    unfold dayP
    by_cases h1 : n.word = word <;> by_cases h2 : n.day ≤ day <;> simp [tAnd', tVal, eOp, eVar, eC, h1, h2]
  simp only [F_days_of, runF, B_days_of, startD]
  simp [sRet, lc, daysOf, Function.comp_def]
theorem daysOf_len (B : List Nw) (day who : Int) (word : Str) : (daysOf B day who word).length ≤ B.length := by
  unfold daysOf; rw [List.length_map]; exact List.length_filter_le _ _
@[simp] theorem allI_ints : ∀ is : List Int, allI (is.map D.int) = some is
  | [] => rfl
  | i :: is => by rw [List.map_cons, allI, allI_ints is]; rfl
@[simp] theorem best_l {f : Option Int → Int → Option Int} {is : List Int} {d : Int} : bestD f (.lst (is.map .int)) (.int d) = some (.v (.int ((is.foldl f none).getD d))) := by
  unfold bestD
  simp only [itmL, Option.bind_some, allI_ints]
  cases is.foldl f none <;> rfl
@[simp] theorem behind_spec {B : List Nw} {day who : Int} {word : Str} {m : Mem} (hl : B.length ≤ 1000) : F_days_behind_back [.v (bD B), .v (.int day), .v (.int who), .v (.str word)] m = some (.f (.lst ((behind B day who word).map .int)), m) := by
  have lc : E_days_behind_back_1 [some (.v (bD B)), some (.v (.int day)), some (.v (.int who)), some (.v (.str word)), some (.v (.int (backOf B day who))), none] m = some (.f (.lst ((behind B day who word).map .int)), m) := by
    refine lc_map (daysOf B day who word) D.int (fun d => decide (backOf B day who < d)) D.int (by simp [iSeq, eCall, aCons, aNil, eVar, hl]) (fun n hn => ⟨_, rfl, ?_, fun _ => ⟨.v (.int n), by simp [eVar], rfl⟩⟩) (by have := daysOf_len B day who word; omega)
    simp [tVal, eOp, eVar]
  simp only [F_days_behind_back, runF, B_days_behind_back, startD]
  simp [sSeq, sSet, eBest, eCall, aCons, aNil, eVar, eC, eUn, hl, sRet]
  rw [show (List.foldl bst_max none (daysOf B day who "returns")).getD (-1) = backOf B day who from rfl, lc]
  simp
@[simp] theorem cut_from_spec {B : List Nw} {day who : Int} {m : Mem} (hl : B.length ≤ 1000) : F_cut_from [.v (bD B), .v (.int day), .v (.int who)] m = some (.v (.int (cutFrom B day who)), m) := by
  simp only [F_cut_from, runF, B_cut_from, startD]
  simp [eBest, eCall, aCons, aNil, eVar, eC, eUn, hl, sRet, cutFrom]
end Lx
end
section
set_option Elab.async false
set_option linter.all false
set_option maxRecDepth 100000
set_option maxHeartbeats 4000000
namespace Lx
open PySem L2 Pw Pv
theorem max_some : ∀ (l : List Int) (b : Int), ∃ y, l.foldl bst_max (some b) = some y ∧ (y = b ∨ y ∈ l) ∧ b ≤ y ∧ ∀ z ∈ l, z ≤ y
  | [], b => ⟨b, rfl, .inl rfl, Int.le_refl _, fun z hz => absurd hz List.not_mem_nil⟩
  | x :: l, b => by
    by_cases h : x > b
    · obtain ⟨y, e, h1, h2, h3⟩ := max_some l x
      refine ⟨y, by simp only [List.foldl_cons, bst_max, if_pos h]; exact e, .inr ?_, by omega, fun z hz => ?_⟩
      · rcases h1 with rfl | h1
        · exact List.mem_cons_self
        · exact List.mem_cons_of_mem _ h1
      · rcases List.mem_cons.mp hz with rfl | hz
        · exact h2
        · exact h3 z hz
    · obtain ⟨y, e, h1, h2, h3⟩ := max_some l b
      refine ⟨y, by simp only [List.foldl_cons, bst_max, if_neg h]; exact e, ?_, h2, fun z hz => ?_⟩
      · rcases h1 with rfl | h1
        · exact .inl rfl
        · exact .inr (List.mem_cons_of_mem _ h1)
      · rcases List.mem_cons.mp hz with rfl | hz
        · omega
        · exact h3 z hz
theorem min_some : ∀ (l : List Int) (b : Int), ∃ y, l.foldl bst_min (some b) = some y ∧ (y = b ∨ y ∈ l) ∧ y ≤ b ∧ ∀ z ∈ l, y ≤ z
  | [], b => ⟨b, rfl, .inl rfl, Int.le_refl _, fun z hz => absurd hz List.not_mem_nil⟩
  | x :: l, b => by
    by_cases h : x < b
    · obtain ⟨y, e, h1, h2, h3⟩ := min_some l x
      refine ⟨y, by simp only [List.foldl_cons, bst_min, if_pos h]; exact e, .inr ?_, by omega, fun z hz => ?_⟩
      · rcases h1 with rfl | h1
        · exact List.mem_cons_self
        · exact List.mem_cons_of_mem _ h1
      · rcases List.mem_cons.mp hz with rfl | hz
        · exact h2
        · exact h3 z hz
    · obtain ⟨y, e, h1, h2, h3⟩ := min_some l b
      refine ⟨y, by simp only [List.foldl_cons, bst_min, if_neg h]; exact e, ?_, h2, fun z hz => ?_⟩
      · rcases h1 with rfl | h1
        · exact .inl rfl
        · exact .inr (List.mem_cons_of_mem _ h1)
      · rcases List.mem_cons.mp hz with rfl | hz
        · omega
        · exact h3 z hz
theorem max_def (l : List Int) (d : Int) : (l = [] ∧ (l.foldl bst_max none).getD d = d) ∨ ((l.foldl bst_max none).getD d ∈ l ∧ ∀ z ∈ l, z ≤ (l.foldl bst_max none).getD d) := by
  cases l with
  | nil => exact .inl ⟨rfl, rfl⟩
  | cons x l =>
    right
    obtain ⟨y, e, h1, h2, h3⟩ := max_some l x
    have : (x :: l).foldl bst_max none = some y := e
    rw [this]
    refine ⟨?_, fun z hz => ?_⟩
    · rcases h1 with rfl | h1
      · exact List.mem_cons_self
      · exact List.mem_cons_of_mem _ h1
    · rcases List.mem_cons.mp hz with rfl | hz
      · exact h2
      · exact h3 z hz
theorem min_def (l : List Int) (d : Int) : (l = [] ∧ (l.foldl bst_min none).getD d = d) ∨ ((l.foldl bst_min none).getD d ∈ l ∧ ∀ z ∈ l, (l.foldl bst_min none).getD d ≤ z) := by
  cases l with
  | nil => exact .inl ⟨rfl, rfl⟩
  | cons x l =>
    right
    obtain ⟨y, e, h1, h2, h3⟩ := min_some l x
    have : (x :: l).foldl bst_min none = some y := e
    rw [this]
    refine ⟨?_, fun z hz => ?_⟩
    · rcases h1 with rfl | h1
      · exact List.mem_cons_self
      · exact List.mem_cons_of_mem _ h1
    · rcases List.mem_cons.mp hz with rfl | hz
      · exact h2
      · exact h3 z hz
end Lx
end
section
set_option Elab.async false
set_option linter.all false
set_option maxRecDepth 100000
set_option maxHeartbeats 4000000
namespace Lx
open PySem L2 Pw Pv
@[simp] theorem set_last {m : Mem} {a b : MO} : (m ++ [a]).set m.length b = m ++ [b] := by simp
end Lx
end
section
set_option Elab.async false
set_option linter.all false
set_option maxRecDepth 100000
set_option maxHeartbeats 4000000
namespace Lx
open PySem L2 Pw Pv
end Lx
end
section
set_option Elab.async false
set_option linter.all false
set_option maxRecDepth 100000
set_option maxHeartbeats 4000000
namespace Lx
open PySem PySem.Spec PyProof.Rows L2 Pw Pv
theorem tt_le (ts : List Str) : (tupleText ts).length ≤ 3 + piled ts := by
  have e : (tupleText ts).length = 1 + (Str.join ", " ts).length + (if ts.length == 1 then 2 else 1) := by
    unfold tupleText
    rw [Str.length_append, Str.length_append]
    split <;> rfl
  rw [e]
  cases ts with
  | nil => decide
  | cons t ts =>
    have := join_length_add (t :: ts) (by simp)
    split <;> omega
theorem from_le : ∀ (ts : List Str) (k : Nat) (acc : Str), (textFrom k acc ts).length ≤ acc.length + piled ts
  | [], k, acc => Nat.le_add_right _ _
  | t :: r, k, acc => by
    have ih := from_le r (k + 1) (acc ++ (if k > 0 then ", " else "" : String) ++ t)
    have e : (textFrom k acc (t :: r)) = textFrom (k + 1) (acc ++ (if k > 0 then ", " else "" : String) ++ t) r := rfl
    rw [e, piled_cons]
    refine Nat.le_trans ih ?_
    rw [Str.length_append, Str.length_append]
    have : ((if k > 0 then ", " else "" : String) : Str).length ≤ 2 := by split <;> decide
    omega
theorem lt_le (ts : List Str) : (listText ts).length ≤ 3 + piled ts := by
  unfold listText
  rw [Str.length_append]
  have h1 := from_le ts 0 "["
  have h2 : (("[" : Str)).length = 1 := rfl
  have h3 : (("]" : Str)).length = 1 := rfl
  omega
end Lx
end
section
set_option Elab.async false
set_option linter.all false
set_option maxRecDepth 100000
set_option maxHeartbeats 4000000
namespace Lx
open PySem L2 Pw Pv
end Lx
end
section
set_option Elab.async false
set_option linter.all false
set_option maxRecDepth 100000
set_option maxHeartbeats 2000000
namespace Pv
open PySem PySem.Spec PyProof.Rows L2
end Pv
end
section
set_option Elab.async false
set_option linter.all false
set_option maxRecDepth 100000
set_option maxHeartbeats 2000000
namespace Pw
open PySem PySem.Spec PyProof.Rows L2 Pv
section
variable {κ : Type} [DecidableEq κ]
def valX (kvs : List (κ × D)) (k : κ) : Option D := (kvs.find? fun kv => decide (kv.1 = k)).map (·.2)
def putX (kvs : List (κ × D)) (k : κ) (d : D) : List (κ × D) :=
  if (kvs.any fun kv => decide (kv.1 = k)) = true then kvs.map (fun kv => if kv.1 = k then (kv.1, d) else kv) else kvs ++ [(k, d)]
def PR (K : FRG) (φ ψ : List Addr) (H : Hp) (kvs : List (κ × D)) (vs : List (κ × V)) : Prop := kvs.map (·.1) = vs.map (·.1) ∧ Reps K φ ψ H (kvs.map (·.2)) (vs.map (·.2))
variable {K : FRG} {φ ψ : List Addr} {H : Hp}
theorem PR.len {kvs : List (κ × D)} {vs : List (κ × V)} (h : PR K φ ψ H kvs vs) : kvs.length = vs.length := by
  have := congrArg List.length h.1
  simpa using this
theorem PR.uncons {p : κ × D} {q : κ × V} {kvs : List (κ × D)} {vs : List (κ × V)} (h : PR K φ ψ H (p :: kvs) (q :: vs)) : p.1 = q.1 ∧ Rep K φ ψ H p.2 q.2 ∧ PR K φ ψ H kvs vs := by
  obtain ⟨h1, h2⟩ := h
  rw [List.map_cons, List.map_cons] at h1 h2
  cases h2 with
  | cons a b => exact ⟨(List.cons.inj h1).1, a, (List.cons.inj h1).2, b⟩
theorem PR.cons {p : κ × D} {q : κ × V} {kvs : List (κ × D)} {vs : List (κ × V)} (h1 : p.1 = q.1) (h2 : Rep K φ ψ H p.2 q.2) (h : PR K φ ψ H kvs vs) : PR K φ ψ H (p :: kvs) (q :: vs) :=
  ⟨by rw [List.map_cons, List.map_cons, h1, h.1], .cons h2 h.2⟩
theorem PR.val {k : κ} : ∀ {kvs : List (κ × D)} {vs : List (κ × V)}, PR K φ ψ H kvs vs → (∀ d, valX kvs k = some d → ∃ v, valV vs k = some v ∧ Rep K φ ψ H d v) ∧ (valX kvs k = none → valV vs k = none)
  | [], [], _ => ⟨(fun d e => by cases e), fun _ => rfl⟩
  | [], _ :: _, h => by have := h.len; simp at this
  | _ :: _, [], h => by have := h.len; simp at this
  | p :: kvs, q :: vs, h => by
    obtain ⟨e1, e2, e3⟩ := h.uncons
    obtain ⟨i1, i2⟩ := PR.val (k := k) e3
    by_cases hk : p.1 = k
    · refine ⟨fun d e => ⟨q.2, valV_pos (e1 ▸ hk), ?_⟩, fun e => ?_⟩
      · simp [valX, List.find?_cons, hk] at e
        rw [← e]; exact e2
      · simp [valX, List.find?_cons, hk] at e
    · have hq : ¬ q.1 = k := fun z => hk (e1.trans z)
      have ev : valX (p :: kvs) k = valX kvs k := by simp [valX, List.find?_cons, hk]
      rw [ev, valV_neg hq]
      exact ⟨i1, i2⟩
theorem PR.any {k : κ} {kvs : List (κ × D)} {vs : List (κ × V)} (h : PR K φ ψ H kvs vs) : (kvs.any fun kv => decide (kv.1 = k)) = vs.any fun kv => decide (kv.1 = k) := by
  have a : ∀ (l : List (κ × D)), (l.any fun kv => decide (kv.1 = k)) = (l.map (·.1)).any fun x => decide (x = k) := fun l => by rw [List.any_map]; rfl
  have b : ∀ (l : List (κ × V)), (l.any fun kv => decide (kv.1 = k)) = (l.map (·.1)).any fun x => decide (x = k) := fun l => by rw [List.any_map]; rfl
  rw [a, b, h.1]
theorem PR.repl {k : κ} {d : D} {v : V} (r : Rep K φ ψ H d v) : ∀ {kvs : List (κ × D)} {vs : List (κ × V)}, PR K φ ψ H kvs vs → PR K φ ψ H (kvs.map (fun kv => if kv.1 = k then (kv.1, d) else kv)) (vs.map (fun kv => if kv.1 = k then (kv.1, v) else kv))
  | [], [], h => h
  | [], _ :: _, h => by have := h.len; simp at this
  | _ :: _, [], h => by have := h.len; simp at this
  | p :: kvs, q :: vs, h => by
    obtain ⟨e1, e2, e3⟩ := h.uncons
    rw [List.map_cons, List.map_cons]
    by_cases hk : p.1 = k
    · rw [if_pos hk, if_pos (e1 ▸ hk)]
      exact .cons e1 r (PR.repl r e3)
    · rw [if_neg hk, if_neg (fun z => hk (e1.trans z))]
      exact .cons e1 e2 (PR.repl r e3)
theorem PR.put {k : κ} {d : D} {v : V} {kvs : List (κ × D)} {vs : List (κ × V)} (h : PR K φ ψ H kvs vs) (r : Rep K φ ψ H d v) : PR K φ ψ H (putX kvs k d) (putK vs k v) := by
  unfold putX putK
  rw [h.any]
  split
  · exact h.repl r
  · exact ⟨by rw [List.map_append, List.map_append, h.1]; rfl, by rw [List.map_append, List.map_append]; exact h.2.app (.cons r .nil)⟩
end
def eNewK : Ex := fun _ m => some (.f (.dk []), m)
section
variable {X : Cx} {tb : List Addr} {pos : Pos}
theorem ex_newK : PE X (.Dict [] [] pos) (T X.K tb eNewK) := pe_mono pe_dnewK fun σ H Q ⟨φ, ψ, ρ, m, w, m', R, E, e, k⟩ p hp => by
  cases e; exact Go.dk (vs := []) k R rfl .nil hp
end
end Pw
end
section
set_option Elab.async false
set_option linter.all false
set_option maxRecDepth 100000
set_option maxHeartbeats 2000000
namespace Pw
open PySem PySem.Spec PyProof.Rows L2 Pv
section
variable {X : Cx} {K : FRG} {tb : List Addr} {pos : Pos}
theorem Reps.dropLast {φ ψ : List Addr} {H : Hp} {ds : List D} {vs : List V} (r : Reps K φ ψ H ds vs) : Reps K φ ψ H ds.dropLast vs.dropLast := by
  rw [List.dropLast_eq_take, List.dropLast_eq_take, ← r.length]
  exact r.take _
def lrgD : D → Option W
  | .int n => if 0 ≤ n ∧ n ≤ 1000000 then some (.f (.lst ((List.range n.toNat).map fun i => .int (i : Nat)))) else none
  | _ => none
theorem ex_lrg {a : Expr} {fa : Ex} {p p2 q : Pos} (hc : X.calm = true) (hg : Gl X "list") (hm : X.mg "list" = none) (hg2 : Gl X "range") (hm2 : X.mg "range" = none) (ha : PE X a (T X.K tb fa))
    (h1 : starEach [a] X.env = (false, eval a X.env) :: starEach [] X.env := by rfl) (h2 : starEach [.Call (.Name "range" p2) [a] [] q] X.env = (false, eval (.Call (.Name "range" p2) [a] [] q) X.env) :: starEach [] X.env := by rfl) :
    PE X (.Call (.Name "list" p) [.Call (.Name "range" p2) [a] [] q] [] pos) (T X.K tb (eUn lrgD fa)) := by
  refine pe_mono (pe_listRg hc hg hm (prg_1 hg2 hm2 ha h1) h2) fun σ H Q ⟨φ, ψ, ρ, m, w, m', R, E, e, k⟩ => ?_
  obtain ⟨⟨w1, m1⟩, e1, e⟩ := bnd e
  obtain ⟨d, ed, e⟩ := bnd e
  obtain ⟨w2, e2, e⟩ := bnd e
  cases e
  refine ⟨φ, ψ, ρ, m, w1, m1, R, E, e1, fun φ1 ψ1 H1 x P1 R1 V1 => ?_⟩
  have C := gt_c (V1.rel R1) (V1.s R1) ed
  have kk : Go X.K tb φ1 ψ H1 m1 w Q := fun φ3 ψ3 H3 v P3 R3 V3 => k φ3 ψ3 H3 v ((V1.post P1).trans P3) R3 V3
  have e2 : lrgD d = some w := e2
  unfold lrgD at e2
  split at e2
  · split at e2
    · rename_i n _ hn
      cases e2
      refine ⟨n, C.int, RgOk.of_le (by omega) (by omega) (by omega) hn.1, fun p hp => ?_⟩
      refine Go.lst kk (V1.rel R1) ?_ hp
      have : rgV 0 n = ((List.range n.toNat).map fun i : Nat => (i : Int)).map V.int := by
        unfold rgV
        rw [List.map_map]
        simp
      rw [this, show (List.range n.toNat).map (fun i : Nat => D.int (i : Nat)) = ((List.range n.toNat).map fun i : Nat => (i : Int)).map D.int by rw [List.map_map]; rfl]
      exact reps_ints _
    · cases e2
  · cases e2
end
end Pw
end
section
set_option Elab.async false
set_option linter.all false
set_option maxRecDepth 100000
set_option maxHeartbeats 2000000
namespace Pw
open PySem PySem.Spec PyProof.Rows L2 Pv
end Pw
end
section
set_option Elab.async false
set_option linter.all false
set_option maxRecDepth 100000
set_option maxHeartbeats 2000000
namespace Pw
open PySem PySem.Spec PyProof.Rows L2 Pv
def keyOf : D → Option Key
  | .int i => some (.inl i)
  | .str x => some (.inr x)
  | _ => none
theorem keyOf_v {K : FRG} {φ ψ : List Addr} {H : Hp} {d : D} {v : V} {k : Key} (h : RepC K φ ψ H d v) (e : keyOf d = some k) : v = kV k := by
  unfold keyOf at e
  split at e
  · cases e; exact h.int
  · cases e; exact h.str
  · cases e
section
variable {X : Cx} {K : FRG} {tb : List Addr} {pos : Pos}
end
theorem sd_sqT' {K : FRG} {H : Hp} {p a : Addr} {vs : List (Key × V)} {xs : List V} {o : HO} (h : H p = some (.dK vs)) (q : SqT K H a xs) : SqT K (upd H p o) a xs := by
  rcases q with (q | ⟨o, q⟩) | q
  · exact .inl (.inl (by rw [upd_ne fun z => by rw [z, h] at q; cases q]; exact q))
  · exact .inl (.inr ⟨o, by rw [upd_ne fun z => by rw [z, h] at q; cases q]; exact q⟩)
  · exact .inr q
theorem sd_sqN' {K : FRG} {H : Hp} {p a : Addr} {vs : List (Key × V)} {xs : List V} {o : HO} (h : H p = some (.dK vs)) (q : SqN K H a xs) : SqN K (upd H p o) a xs := ⟨sd_sqT' h q.1, fun z => by rw [upd_ne fun y => by have := q.2 z; rw [y, h] at this; cases this]; exact q.2 z⟩
theorem sd_tz' {H : Hp} {p a : Addr} {vs : List (Key × V)} {xs : List V} {o : HO} (h : H p = some (.dK vs)) (q : Tz H a xs) : Tz (upd H p o) a xs := by
  obtain ⟨u, q, d⟩ := q
  exact ⟨u, by rw [upd_ne fun z => by rw [z, h] at q; cases q]; exact q, d⟩
theorem sd_fz' {K : FRG} {H : Hp} {p a : Addr} {vs : List (Key × V)} {xs : List V} {o : HO} (h : H p = some (.dK vs)) (q : Fz K H a xs) : Fz K (upd H p o) a xs := by
  rcases q with ⟨u, q⟩ | q
  · exact .inl ⟨u, by rw [upd_ne fun z => by rw [z, h] at q; cases q]; exact q⟩
  · exact .inr q
section
variable {K : FRG} {tb φ ψ : List Addr} {H : Hp} {m : Mem}
theorem Reps.sdk {p : Addr} {vs : List (Key × V)} {o : HO} (hp : p ∈ ψ) (h : H p = some (.dK vs)) {ds : List D} {us : List V} (r : Reps K φ ψ H ds us) : Reps K φ ψ (upd H p o) ds us :=
  r.map (fun _ _ => sd_sqN' h) (fun _ _ => sd_tz' h) (fun _ _ => sd_fz' h) (fun a xs h1 h2 q _ _ => ⟨h1, h2, by rw [upd_ne (fun z => h2 (by rw [z]; exact hp))]; exact q⟩) fun a xs h1 h2 q => ⟨h1, h2, by unfold Rd at q ⊢; rw [upd_ne (fun z => h2 (by rw [z]; exact hp))]; exact q⟩
theorem Rep.sdk {p : Addr} {vs : List (Key × V)} {o : HO} (hp : p ∈ ψ) (h : H p = some (.dK vs)) {d : D} {u : V} (r : Rep K φ ψ H d u) : Rep K φ ψ (upd H p o) d u :=
  r.map (fun _ _ => sd_sqN' h) (fun _ _ => sd_tz' h) (fun _ _ => sd_fz' h) (fun a xs h1 h2 q _ _ => ⟨h1, h2, by rw [upd_ne (fun z => h2 (by rw [z]; exact hp))]; exact q⟩) fun a xs h1 h2 q => ⟨h1, h2, by unfold Rd at q ⊢; rw [upd_ne (fun z => h2 (by rw [z]; exact hp))]; exact q⟩
theorem Rel.sdk {p : Addr} {vs : List (Key × V)} {o : HO} (R : Rel K tb φ ψ H m) (hp : p ∈ ψ) (h : H p = some (.dK vs)) : Rel K tb φ ψ (upd H p o) m := by
  refine ⟨R.len, R.nd, fun n mo a e1 e2 => ?_, fun q hq => TabG.keep (R.tab q hq) (upd_ne fun z => by
    obtain ⟨ps, e, _⟩ := R.tab q hq
    rw [z, h] at e; cases e), fun q hq z => ?_, R.ap, fun q hq => (R.lam q hq).upd (fun z => by
    obtain ⟨ps, e, _⟩ := R.tab q hq
    rw [z, h] at e; cases e) fun _ e => by rw [h] at e; cases e⟩
  · have ne : a ≠ p := fun z => R.ap p hp (z ▸ List.mem_of_getElem? e2)
    have q := R.obj n mo a e1 e2
    cases mo with
    | lst ds => obtain ⟨vs', q1, q2⟩ := q; exact ⟨vs', by rw [upd_ne ne]; exact q1, q2.sdk hp h⟩
    | dk kvs => obtain ⟨vs', q1, q2, q3⟩ := q; exact ⟨vs', by rw [upd_ne ne]; exact q1, q2, q3.sdk hp h⟩
    | dt kvs => obtain ⟨vs', q1, q2, q3⟩ := q; exact ⟨vs', by rw [upd_ne ne]; exact q1, q2, q3.sdk hp h⟩
    | rl b k => exact ⟨by rw [upd_ne ne]; exact q.1, q.2⟩
  · by_cases hb : q = p
    · rw [hb, upd_same] at z; cases z
    · rw [upd_ne hb] at z; exact R.sd q hq z
end
end Pw
end
section
set_option Elab.async false
set_option linter.all false
set_option maxRecDepth 100000
set_option maxHeartbeats 2000000
namespace Pw
open PySem PySem.Spec PyProof.Rows L2 Pv
end Pw
end
section
set_option Elab.async false
set_option linter.all false
set_option maxRecDepth 100000
set_option maxHeartbeats 4000000
namespace Ls
open PySem L2 Pw Pv Lx
section
variable {κ : Type} [DecidableEq κ]
end
def dI (L : List (Int × Int)) : List (Key × D) := L.map fun p => (Sum.inl p.1, D.int p.2)
def getI (L : List (Int × Int)) (w : Int) : Option Int := (L.find? fun p => decide (p.1 = w)).map (·.2)
def putI (L : List (Int × Int)) (w x : Int) : List (Int × Int) := if (L.any fun p => decide (p.1 = w)) = true then L.map (fun p => if p.1 = w then (p.1, x) else p) else L ++ [(w, x)]
@[simp] theorem val_dI {w : Int} : ∀ {L : List (Int × Int)}, valX (dI L) (Sum.inl w) = (getI L w).map D.int
  | [] => rfl
  | p :: L => by
    have ih := val_dI (w := w) (L := L)
    unfold dI valX getI at ih ⊢
    rw [List.map_cons, List.find?_cons, List.find?_cons]
    by_cases h : p.1 = w
    · simp [h]
    · have : ¬ (Sum.inl p.1 : Key) = Sum.inl w := fun z => h (Sum.inl.inj z)
      simp only [decide_eq_false h, decide_eq_false this]
      exact ih
@[simp] theorem put_dI {L : List (Int × Int)} {w x : Int} : putX (dI L) (Sum.inl w) (D.int x) = dI (putI L w x) := by
  unfold putX putI dI
  have : (L.map fun p => ((Sum.inl p.1 : Key), D.int p.2)).any (fun kv => decide (kv.1 = Sum.inl w)) = L.any fun p => decide (p.1 = w) := by
    rw [List.any_map]
    congr 1
    funext p
    simp
  rw [this]
  split
  · rw [List.map_map, List.map_map]
    refine List.map_congr_left fun p _ => ?_
    by_cases h : p.1 = w
    · simp [h]
    · have : ¬ (Sum.inl p.1 : Key) = Sum.inl w := fun z => h (Sum.inl.inj z)
      simp [h]
  · simp
@[simp] theorem dI_len {L : List (Int × Int)} : (dI L).length = L.length := by simp [dI]
@[simp] theorem key_i {i : Int} : keyOf (.int i) = some (.inl i) := rfl
@[simp] theorem out_newK {m : Mem} {kvs : List (Key × D)} : outW m.length (.r m.length) (m ++ [.dk kvs]) = some (.f (.dk kvs), m) := by simp [outW, moD]
@[simp] theorem own_k {kvs : List (Key × D)} {m : Mem} : ownW (.f (.dk kvs)) m = some (.r m.length, m ++ [.dk kvs]) := rfl
@[simp] theorem tgt4 {n : Nw} {i j k l : Nat} {ρ : Pw.Env} : gT [gN i, gN j, gN k, gN l] n.d ρ = some ((((ρ.set i (some (.v (.str n.word)))).set j (some (.v (.int n.day)))).set k (some (.v (.int n.who)))).set l (some (.v (.int n.other)))) := rfl
end Ls
end
section
set_option Elab.async false
set_option linter.all false
set_option maxRecDepth 100000
set_option maxHeartbeats 4000000
namespace Ls
open PySem L2 Pw Pv Lx
end Ls
end
section
set_option Elab.async false
set_option linter.all false
set_option maxRecDepth 100000
set_option maxHeartbeats 4000000
namespace Ls
open PySem L2 Pw Pv Lx
end Ls
end
section
set_option Elab.async false
set_option linter.all false
set_option maxRecDepth 100000
set_option maxHeartbeats 4000000
namespace Ls
open PySem L2 Pw Pv Lx
def tabL (S : Nat → List Nat) (n : Nat) : Mem := (List.range n).map fun w => MO.lst ((S w).map nD)
def MM (m : Mem) (S : Nat → List Nat) (n : Nat) : Mem := m ++ tabL S n ++ [.rl m.length n]
structure ParH (F : List Fo) : Prop where
  fa : ∀ (i : Nat) f, F[i]? = some f → f.fa = -1 ∨ (0 ≤ f.fa ∧ f.fa < F.length)
  mo : ∀ (i : Nat) f, F[i]? = some f → f.mo = -1 ∨ (0 ≤ f.mo ∧ f.mo < F.length)
  ne : ∀ (i : Nat) f, F[i]? = some f → f.fa = f.mo → f.fa = -1
variable {F : List Fo} {B : List Nw} {r : Rw} {day : Int}
end Ls
end
section
set_option Elab.async false
set_option linter.all false
set_option maxRecDepth 100000
set_option maxHeartbeats 4000000
namespace Ls
open PySem L2 Pw Pv Lx
variable {F : List Fo} {B : List Nw} {r : Rw} {day : Int}
theorem GoodHL.par (h : GoodHL lim F) : ParH F := by
  refine ⟨fun i f e => ?_, fun i f e => ?_, fun i f e q => ?_⟩
  · rcases h.fa i f e with z | ⟨j, g, z1, z2, _⟩
    · exact .inl z
    · have := (List.getElem?_eq_some_iff.mp z2).1
      rw [List.length_take] at this
      exact .inr ⟨by omega, by omega⟩
  · rcases h.mo i f e with z | ⟨j, g, z1, z2, _⟩
    · exact .inl z
    · have := (List.getElem?_eq_some_iff.mp z2).1
      rw [List.length_take] at this
      exact .inr ⟨by omega, by omega⟩
  · rcases h.fa i f e with z | ⟨j, g, z1, z2, z3, _⟩
    · exact z
    · rcases h.mo i f e with y | ⟨k, g', y1, y2, y3, _⟩
      · omega
      · have : k = j := by omega
        subst this
        rw [z2] at y2
        cases y2
        omega
end Ls
end
section
set_option Elab.async false
set_option linter.all false
set_option maxRecDepth 100000
set_option maxHeartbeats 4000000
namespace Ls
open PySem L2 Pw Pv Lx
end Ls
end
section
set_option Elab.async false
set_option linter.all false
set_option maxRecDepth 100000
set_option maxHeartbeats 4000000
namespace Ls
open PySem L2 Pw Pv Lx
variable {B : List Nw} {day : Int} {m : Mem}
end Ls
end
section
set_option Elab.async false
set_option linter.all false
set_option maxRecDepth 100000
set_option maxHeartbeats 2000000
namespace Pw
open PySem PySem.Spec PyProof.Rows L2 Pv
theorem RepCs.len {K : FRG} {φ ψ : List Addr} {H : Hp} : ∀ {ds : List D} {vs : List V}, RepCs K φ ψ H ds vs → ds.length = vs.length
  | _, _, .nil => rfl
  | _, _, .cons _ r => by simp [RepCs.len r]
end Pw
end
section
set_option Elab.async false
set_option linter.all false
set_option maxRecDepth 100000
set_option maxHeartbeats 1000000
namespace Gn
open PySem PySem.Spec PyProof.Rows L2
abbrev genCx (X : Cx) (A1 : Around) (G : Expr) (it : Addr) (s : Shared) (H : Hp) (cenv : PySem.Env) (fp : List Addr) : Cx :=
  { X with A := A1.over (.compLoop G 0 (.ref it) .none cenv) [], s_0 := s, H_0 := H, env := cenv, outer := X.stack, stack := cenv :: X.stack, ex := fp, fn := fun _ => false, pn := [], xe := fun _ _ => False }
section
variable {X : Cx} {pins : List (Addr × Obj)} {σ : L2.St} {H : Hp} {s : Shared}
theorem clo_mem {scope : Scope} {own : List (Str × Nat)} (I : Inv X pins σ H s) (ok : BlkOk X.N X.env.scope scope own) {y : Str} {c : Addr} (hm : (y, c) ∈ cloFrom X.env.cells scope.names []) : X.env.cells.lookup y = some c ∧ c < s.heap.objs.size := by
  have hfree : ∀ y ∈ scope.names, y.2 = .free → ∃ c, X.env.cells.lookup y.1 = some c := fun y hy e => by
    rcases ok.free y hy e with k | k
    · exact I.ok.has _ (.inl k)
    · exact I.ok.has _ (.inr k)
  rcases cloFrom_mem hm with hm | ⟨h1, rfl⟩
  · cases hm
  · obtain ⟨c, hc⟩ := hfree _ h1 rfl
    rw [hc]
    obtain ⟨w, z⟩ := I.cell _ _ hc
    exact ⟨rfl, z.lt⟩
theorem gen_start {A1 : Around} {G1 G2 : Expr} {cl : List Comprehension} {sc0 : Scope} {gpos : Pos} {it : Addr} {scope : Scope} {own : List (Str × Nat)} {fp : List Addr} {code : Value} {h5 : Heap} {gens' : Array GenState} {tk : Nat} {m : Str → Option Value} {pins' : List (Addr × Obj)}
    (I : Inv X pins σ H s) (ok : BlkOk X.N X.env.scope scope own) (hN : X.N.Nodup) (hcell : ∀ y ∈ scope.names, y.2 ≠ .cell) (hfp : ∀ b ∈ fp, FpOk X pins H b ∧ b < s.heap.objs.size)
    (hh : A1.handled = none) (hfr : A1.frames = X.A.frames)
    (kp : ∀ b o, s.heap.get? b = some o → h5.get? b = some o) (hn : h5.Ns s.heap.objs.size m) (hb : AllBare gens')
    (hp : ∀ p ∈ pins', h5.get? p.1 = some p.2 ∧ H p.1 = none ∧ p.1 ≠ s.heap.objs.size ∧ p.1 ∉ frs X.stack ∧ ∀ v, p.2.data ≠ .cell v) :
    Inv (genCx X A1 (.GeneratorExp G1 cl sc0 gpos) it s H (genEnv scope (cloFrom X.env.cells scope.names []) s.heap.objs.size code builtinsNs X.env) fp) pins' (wipe σ (own.map (·.2))) H { s with heap := h5, gens := gens', toks := tk } := by
  have look : ∀ {y}, scope.names.lookup y = some .free → ∃ c, (cloFrom X.env.cells scope.names []).lookup y = some c ∧ X.env.cells.lookup y = some c := fun {y} hl => by
    have hy : (y, NameKind.free) ∈ scope.names := PySem.mem_of_lookup hl
    obtain ⟨c', e'⟩ := mem_lookup (cloFrom_has (cells := X.env.cells) (acc := []) hy)
    exact ⟨c', e', (clo_mem I ok (PySem.mem_of_lookup e')).1⟩
  have okB : (genCx X A1 (.GeneratorExp G1 cl sc0 gpos) it s H (genEnv scope (cloFrom X.env.cells scope.names []) s.heap.objs.size code builtinsNs X.env) fp).Ok := by
    refine ⟨I.ok.mod, ok.kind, I.ok.glob, rfl, Nat.le_refl _, fun y z c e1 e2 => ?_, fun y hy => ?_, fun y c z e => ?_, fun _ => ?_, ?_, .inr ⟨rfl, rfl⟩, fun b hb => ⟨?_, fun y c e z => ?_⟩, I.bs, Nat.le_trans I.ok.bsz I.sz, fun b o e hb => ?_, fun b hb z => ?_, I.stack, I.stkFree⟩
    · exact I.ok.inj y z c (clo_mem I ok (PySem.mem_of_lookup e1)).1 (clo_mem I ok (PySem.mem_of_lookup e2)).1
    · rcases hy with hy | hy
      · exact absurd rfl (hcell _ (PySem.mem_of_lookup hy))
      · obtain ⟨c, h1, _⟩ := look hy
        exact ⟨c, h1⟩
    · cases z
    · exact hh
    · have e : (A1.over (.compLoop (.GeneratorExp G1 cl sc0 gpos) 0 (.ref it) .none (genEnv scope (cloFrom X.env.cells scope.names []) s.heap.objs.size code builtinsNs X.env)) []).frames = pushEnvs (Code.envs (.compLoop (.GeneratorExp G1 cl sc0 gpos) 0 (.ref it) .none (genEnv scope (cloFrom X.env.cells scope.names []) s.heap.objs.size code builtinsNs X.env))) (pushEnvs (envsOf []) A1.frames) := rfl
      rw [hfr, I.ok.frames] at e
      exact e
    · exact Nat.ne_of_lt (hfp b hb).2
    · exact (hfp b hb).1.2.2.2.2.1 y c (clo_mem I ok (PySem.mem_of_lookup e)).1 z
    · rcases (hfp b hb).1.2.2.2.1 with z | z
      · exact I.ok.noex b o e z
      · exact absurd (Nat.lt_of_lt_of_le (Heap.lt_size e) (Nat.le_trans I.ok.bsz z)) (Nat.lt_irrefl _)
    · rcases List.mem_cons.mp (I.stkSub b z) with z | z
      · exact (hfp b hb).1.2.1 z
      · exact (hfp b hb).1.2.2.1 z
  refine ⟨okB, rfl, hb, Un.kept kp, ⟨m, hn, fun i y av e1 e2 e3 => ?_⟩, fun y c e => ?_, I.hok.fresh (Nat.le_refl _), fun y c e => ?_, fun p hp' => ?_, I.hok.kept kp, by rw [wipe_length]; exact I.len⟩
  · obtain ⟨e2, hne⟩ := wipe_some e2
    have e3 : Vis scope y := e3
    have hfr : scope.names.lookup y = some .free := by
      have no : ∀ k, scope.names.lookup y = some k → ¬ (k = .local ∨ k = .cell) := fun k e hh => by
        rcases ok.own _ (PySem.mem_of_lookup e) hh with e' | e'
        · obtain ⟨p, hp, hpy⟩ := List.mem_map.mp e'
          have e3 := ok.ix p hp
          have : p.1 = y := hpy
          rw [this] at e3
          exact hne (List.mem_map.mpr ⟨p, hp, nodup_ix hN e3 e1⟩)
        · exact e' (List.mem_of_getElem? e1)
      rcases e3 with e3 | e3 | e3
      · exact absurd (.inl rfl) (no _ e3)
      · exact absurd (.inr rfl) (no _ e3)
      · exact e3
    obtain ⟨m0, hn0, hl⟩ := I.loc
    have hvis : Vis X.env.scope y := (ok.free _ (PySem.mem_of_lookup hfr) rfl).elim (fun k => .inr (.inl k)) (fun k => .inr (.inr k))
    obtain ⟨w, r, q⟩ := hl i y av e1 e2 hvis
    refine ⟨w, r, .inr ⟨.inr hfr, ?_⟩⟩
    obtain ⟨c, h1, h2⟩ := look hfr
    rcases q with ⟨k, _⟩ | ⟨_, c', e', z⟩
    · have k : X.env.scope.names.lookup y = some .local := k
      rcases ok.free _ (PySem.mem_of_lookup hfr) rfl with k' | k' <;> rw [show X.env.scope.names.lookup y = _ from k'] at k <;> cases k
    · rw [h2] at e'; cases e'
      exact ⟨c, h1, z.keeps kp⟩
  · obtain ⟨w, z⟩ := I.cell y c (clo_mem I ok (PySem.mem_of_lookup e)).1
    exact ⟨w, z.keeps kp⟩
  · exact I.freeC y c (clo_mem I ok (PySem.mem_of_lookup e)).1
  · exact hp p hp'
end
end Gn
end
section
set_option Elab.async false
set_option linter.all false
set_option maxRecDepth 100000
set_option maxHeartbeats 1000000
namespace Gn
open PySem PySem.Spec PyProof.Rows L2
structure Lp (g : TG) (tt : TT) (te : TE) (vs : List Nat) (σ : L2.St) (J : It) (W : Nat → Nat → List V → Hp → Prop) (Done : List V → Hp → Prop) (Z C : V → Hp → Prop) : Prop where
  turn : ∀ i m ys H, W i m ys H → (J.stop i H ∧ Done ys H) ∨ (J.go i H ∧ 1 ≤ m ∧ ∃ Nx : List V → Hp → Prop, (∀ ys' H', Nx ys' H' → ∃ m', m' < m ∧ W (i + 1) m' ys' H') ∧
    ∀ x H', J.yld i H x H' → g x (wipe σ vs) H' fun σ2 H2 => wipe σ2 vs = wipe σ vs ∧ tt σ2 H2 fun b H3 => if b = true then te σ2 H3 fun y H4 => Z y H4 ∧ (C y H4 → Nx (ys ++ [y]) H4) else Nx ys H3)
structure Ar (X : Cx) (A1 : Around) : Prop where
  hd : A1.handled = X.A.handled
  fr : A1.frames = X.A.frames
  gd : A1.guards = X.A.guards
  dp : A1.depth = X.A.depth
  un : A1.units ≤ X.A.units + 4
theorem Ar.in2 {X : Cx} : Ar X X.A.in1.in1 := ⟨rfl, rfl, rfl, rfl, by show X.A.units + 1 + 1 ≤ _; omega⟩
theorem Ar.room {X : Cx} {A1 : Around} {k : Nat} {G1 : Expr} {cl : List Comprehension} {sc : Scope} {gpos : Pos} {it : Value} {cenv : PySem.Env} (h : Ar X A1) (r : Room (k + 1) X.A) : Room k (A1.over (.compLoop (.GeneratorExp G1 cl sc gpos) 0 it .none cenv) []) := by
  refine ⟨h.hd.trans r.hd, ?_, ?_⟩
  · have := r.dp
    have e : (A1.over (.compLoop (.GeneratorExp G1 cl sc gpos) 0 it .none cenv) []).depth = A1.depth + 0 + 1 := rfl
    rw [e, h.dp]; omega
  · have := r.un
    have := h.un
    have e : (A1.over (.compLoop (.GeneratorExp G1 cl sc gpos) 0 it .none cenv) []).units = A1.units + 0 + 3 := rfl
    rw [e]; omega
theorem Ar.guards {X : Cx} {A1 : Around} {G1 : Expr} {cl : List Comprehension} {sc : Scope} {gpos : Pos} {it : Value} {cenv : PySem.Env} (h : Ar X A1) (r : X.A.guards = some []) : (A1.over (.compLoop (.GeneratorExp G1 cl sc gpos) 0 it .none cenv) []).guards = some [] := by
  have e : (A1.over (.compLoop (.GeneratorExp G1 cl sc gpos) 0 it .none cenv) []).guards = A1.guards := rfl
  rw [e, h.gd, r]
section
variable {X : Cx} (PR : List V → List (Addr × Obj) → Prop) (Back : Value → Shared → Shared → Prop)
def genEnd (X : Cx) (τ : L2.St) (N0 : Nat) (Done : List V → Hp → Prop) : Nat → Shared → Shared → Prop := fun n _ s1 => ∃ ys H' pins, n + ys.length = N0 ∧ PR ys pins ∧ Inv X pins τ H' s1 ∧ Done ys H'
def genY (X : Cx) (τ : L2.St) (N0 : Nat) (Z C : V → Hp → Prop) : Protocol := fun n _ v s1 kap => ∃ ys y H' pins, n + 1 + ys.length = N0 ∧ RelV y v ∧ Z y H' ∧ PR ys pins ∧ Inv X pins τ H' s1 ∧ ∀ s'', Back v s1 s'' → C y H' → kap (.send .none) s''
end
theorem thnS {M : Model} {A A1 : Around} {α : Type} {m : Sem α} {Q : α → Shared → Prop} {Q' : α → Shared → Prop} {E : Value → Shared → Prop} {s : Shared} (h : wpAny M A m Q (fun _ _ => False) s) (hQ : ∀ a s', Q a s' → Q' a s') : wpAny M A m Q' E s := wpAny_mono h hQ fun _ _ z => False.elim z
theorem gen_loop {X : Cx} {A1 : Around} {elt tg iter : Expr} {ifs : List Expr} {scope : Scope} {gpos : Pos} {it : Addr} {s4 : Shared} {H0 : Hp} {cenv : PySem.Env} {fp : List Addr} {J : It} {tn : Nat → Heap → Prop} {g : TG} {tt : TT} {te : TE} {vs : List Nat} {σ : L2.St}
    {W : Nat → Nat → List V → Hp → Prop} {Done : List V → Hp → Prop} {Z C : V → Hp → Prop} {PR : List V → List (Addr × Obj) → Prop} {Back : Value → Shared → Shared → Prop} {N0 : Nat}
    (hc : X.calm = true) (hco : cenv.scope.isCoroutine = false)
    (T : Turn X.prog X.w X.K tg J fp it tn)
    (pg : PG (genCx X A1 (.GeneratorExp elt [⟨tg, iter, ifs, 0⟩] scope gpos) it s4 H0 cenv fp) tg g)
    (pt : PTs (genCx X A1 (.GeneratorExp elt [⟨tg, iter, ifs, 0⟩] scope gpos) it s4 H0 cenv fp) ifs tt)
    (pe : PE (genCx X A1 (.GeneratorExp elt [⟨tg, iter, ifs, 0⟩] scope gpos) it s4 H0 cenv fp) elt te)
    (L : Lp g tt te vs σ J W Done Z C)
    (hPR : ∀ ys pins, PR ys pins → ∀ p ∈ pins, ∀ b ∈ fp, p.1 ≠ b)
    (hBack : ∀ ys y v s1 s2 H' pins, PR ys pins → RelV y v → Inv (genCx X A1 (.GeneratorExp elt [⟨tg, iter, ifs, 0⟩] scope gpos) it s4 H0 cenv fp) pins (wipe σ vs) H' s1 → Back v s1 s2 →
      ∃ pins', PR (ys ++ [y]) pins' ∧ Inv (genCx X A1 (.GeneratorExp elt [⟨tg, iter, ifs, 0⟩] scope gpos) it s4 H0 cenv fp) pins' (wipe σ vs) H' s2 ∧ ∀ b ∈ fp, ∀ o, s1.heap.get? b = some o → s2.heap.get? b = some o) :
    ∀ (m n i : Nat) (ys : List V) (s₀ s : Shared) (H : Hp) (pins : List (Addr × Obj)), m ≤ n → n + ys.length = N0 → W i m ys H → PR ys pins → Inv (genCx X A1 (.GeneratorExp elt [⟨tg, iter, ifs, 0⟩] scope gpos) it s4 H0 cenv fp) pins (wipe σ vs) H s → tn i s.heap → (∀ b ∈ fp, H b = none) →
      Seg (model X.prog X.w) A1 (fun n s₀ r s₁ => r = .ok .next ∧ genEnd PR (genCx X A1 (.GeneratorExp elt [⟨tg, iter, ifs, 0⟩] scope gpos) it s4 H0 cenv fp) (wipe σ vs) N0 Done n s₀ s₁) (genY PR Back (genCx X A1 (.GeneratorExp elt [⟨tg, iter, ifs, 0⟩] scope gpos) it s4 H0 cenv fp) (wipe σ vs) N0 Z C) n s₀
        (.compLoop (.GeneratorExp elt [⟨tg, iter, ifs, 0⟩] scope gpos) 0 (.ref it) .none cenv) ((model X.prog X.w).den (.compLoop (.GeneratorExp elt [⟨tg, iter, ifs, 0⟩] scope gpos) 0 (.ref it) .none cenv)) [] s := by
  intro m
  induction m using Nat.strongRecOn with
  | ind m ih =>
    intro n i ys s₀ s H pins hmn hN0 w0 hpr I st nf
    have stat : ∀ {pins' : List (Addr × Obj)} {σ' : L2.St} {H' : Hp} {s' : Shared}, Inv (genCx X A1 (.GeneratorExp elt [⟨tg, iter, ifs, 0⟩] scope gpos) it s4 H0 cenv fp) pins' σ' H' s' → (∀ p ∈ pins', ∀ b ∈ fp, p.1 ≠ b) → (∀ b ∈ fp, H' b = none) → ∀ b ∈ fp, FpOk (genCx X A1 (.GeneratorExp elt [⟨tg, iter, ifs, 0⟩] scope gpos) it s4 H0 cenv fp) pins' H' b := fun {pins' σ' H' s'} I' hp hn b hb =>
      ⟨hn b hb, (I'.ok.exf b hb).1, I'.ok.exfs b hb, .inl hb, fun x c e => (I'.ok.exf b hb).2 x c e, fun p hp' => hp p (by simpa using hp') b hb⟩
    show Seg _ A1 _ _ _ s₀ _ ((compTurn (.GeneratorExp elt [⟨tg, iter, ifs, 0⟩] scope gpos) 0 (.ref it) .none cenv).onRaise (leaving cenv)) [] s
    rw [compTurn_gen, Sem.onRaise_eq_wrap]
    refine seg_bind_wrap (wpAny_standAt ?_)
    rcases L.turn i m ys H w0 with ⟨stop, done⟩ | ⟨go, m1, Nx, hNx, step⟩
    · have td := T.done (genCx X A1 (.GeneratorExp elt [⟨tg, iter, ifs, 0⟩] scope gpos) it s4 H0 cenv fp) rfl rfl rfl hc i pins s _ H (fun _ _ => False) I (stat I (hPR ys pins hpr) nf) st stop
      refine seg_bind_wrap (thnS (A1 := A1) td fun r s6 ⟨hr, I6⟩ => ?_)
      subst hr
      exact seg_end (.ok .next) ⟨rfl, ys, H, pins, hN0, hpr, I6, done⟩
    · have ti := T.item (genCx X A1 (.GeneratorExp elt [⟨tg, iter, ifs, 0⟩] scope gpos) it s4 H0 cenv fp) rfl rfl rfl hc i pins s _ H (fun _ _ => False) I (stat I (hPR ys pins hpr) nf) st go
      refine seg_bind_wrap (thnS (A1 := A1) ti fun r s6 ⟨u, hr, h6⟩ => ?_)
      subst hr
      refine seg_bind_wrap (thnS (A1 := A1) h6 fun _ s7 ⟨x, H7, I7, r7, y7, st7, n7⟩ => ?_)
      have I7' := I7.pinned (stat I7 (hPR ys pins hpr) n7) (T.obj _ _ st7)
      refine seg_bind_wrap (thnS (A1 := A1) (pg.run _ s7 _ H7 x u _ I7' r7 (step x H7 y7)) fun _ s8 ⟨σ8, H8, I8, hw8, q8⟩ => ?_)
      refine seg_bind_wrap (thnS (A1 := A1) (pt.run _ s8 σ8 H8 _ I8 q8) fun b s9 ⟨H9, I9, q9⟩ => ?_)
      -- the turn's end
      have hl : (wipe σ vs).length = σ8.length := by rw [← hw8, wipe_length]
      have fin : ∀ {s' : Shared} {H' : Hp}, Inv (genCx X A1 (.GeneratorExp elt [⟨tg, iter, ifs, 0⟩] scope gpos) it s4 H0 cenv fp) (pins ++ pinsAt fp s7.heap) σ8 H' s' → Inv (genCx X A1 (.GeneratorExp elt [⟨tg, iter, ifs, 0⟩] scope gpos) it s4 H0 cenv fp) pins (wipe σ vs) H' s' ∧ tn (i + 1) s'.heap ∧ ∀ b ∈ fp, H' b = none := fun {s' H'} I' => by
        have pin' : ∀ b ∈ fp, ∀ o, s7.heap.get? b = some o → s'.heap.get? b = some o ∧ H' b = none := fun b hb o e =>
          let z := I'.pin (b, o) (List.mem_append_right _ (List.mem_append_right _ (mem_pinsAt hb e)))
          ⟨z.1, z.2.1⟩
        refine ⟨I'.unpinned.weak hl (fun j v e => ?_), T.keep _ _ _ st7 fun b hb o e => (pin' b hb o e).1, fun b hb => ?_⟩
        · rw [← hw8] at e
          exact (wipe_some e).1
        · obtain ⟨o, e, _⟩ := T.obj _ _ st7 b hb
          exact (pin' b hb o e).2
      cases b with
      | false =>
        simp only [Bool.false_eq_true, if_false] at q9 ⊢
        obtain ⟨m', hm, w'⟩ := hNx ys H9 q9
        obtain ⟨a1, a2, a3⟩ := fin I9
        exact seg_again rfl (ih m' hm n (i + 1) ys s₀ s9 H9 pins (by omega) hN0 w' hpr a1 a2 a3)
      | true =>
        simp only [if_true] at q9 ⊢
        have hy : ∀ v, yieldOut cenv v = yieldValue v := fun v => by simp only [yieldOut, hco, Bool.false_eq_true, if_false]
        simp only [hy]
        rw [Sem.bind_eq_wrap', Sem.bind_eq_wrap', Sem.wrap_wrap, Sem.wrap_wrap]
        refine seg_wrap (thnS (A1 := A1) (pe.run _ s9 σ8 H9 _ I9 q9) fun z s10 ⟨yv, H10, I10, r10, hZ, hC⟩ => ?_)
        obtain ⟨a1, a2, a3⟩ := fin I10
        obtain ⟨n', rfl⟩ : ∃ n', n = n' + 1 := ⟨n - 1, by omega⟩
        refine seg_at (seg_yield rfl rfl rfl ⟨ys, yv, H10, pins, by omega, r10, hZ, hpr, a1, fun s'' hb hcc => ?_⟩)
        obtain ⟨m', hm, w'⟩ := hNx _ H10 (hC hcc)
        obtain ⟨pins', p1, p2, p3⟩ := hBack ys yv z s10 s'' H10 pins hpr r10 a1 hb
        exact seg_again rfl (ih m' hm n' (i + 1) (ys ++ [yv]) s'' s'' H10 pins' (by omega) (by rw [List.length_append]; simp; omega) w' p1 p2 (T.keep _ _ _ a2 p3) a3)
end Gn
end
section
set_option Elab.async false
set_option linter.all false
set_option maxRecDepth 100000
set_option maxHeartbeats 1000000
namespace Gn
open PySem PySem.Spec PyProof.Rows L2
abbrev gObj (env : PySem.Env) (g tk : Nat) : Obj := { cls := .type "generator", data := .fields #[.int g 0, .str "<genexpr>" (tk + 1), .str (env.qual ++ "<genexpr>") (tk + 1 + 1)] }
structure GSc (scope : Scope) : Prop where
  co : scope.isCoroutine = false
  cell : ∀ y ∈ scope.names, y.2 ≠ .cell
  dot : scope.names.lookup (".0" : Str) = some NameKind.local
section
variable {X : Cx} {pins : List (Addr × Obj)} {σ : L2.St} {H : Hp} {s : Shared}
theorem gen_eval {elt tg iter : Expr} {ifs : List Expr} {scope : Scope} {gpos : Pos} {wi : TI} {c P : Addr} {Q' : Value → Shared → Prop} {k : Nat} {own : List (Str × Nat)} {Kp : It → Hp → Prop}
    (hr : Room k X.A) (TB : GxR.TabB X.base X.mg c P) (hcode : X.env.code = .ref c) (S : GSc scope) (ok : BlkOk X.N X.env.scope scope own) (I : Inv X pins σ H s) (hi : PI X tg iter wi) (hs : ∀ v, genFold iter X.env v = pure v)
    (h : wi σ H fun J H1 => GxR.TabG H1 P ∧ ∀ H2, GxR.Tabbed P H1 H2 → Kp J H2)
    (hQ : ∀ (it : Addr) (fp : List Addr) (tn : Nat → Heap → Prop) (J : It) (H2 : Hp) (s4 : Shared) (code : Value) (h' : Heap) (m : Str → Option Value), Inv X pins σ H2 s4 → Turn X.prog X.w X.K tg J fp it tn → tn 0 s4.heap → (∀ b ∈ fp, FpOk X pins H2 b ∧ b < s4.heap.objs.size) → Kp J H2 →
      h'.Ns s4.heap.objs.size m → (∀ b o, s4.heap.get? b = some o → h'.get? b = some o) → h'.objs.size = s4.heap.objs.size + 1 →
      Q' (.ref h'.objs.size) { s4 with
        gens := s4.gens.push (.fresh (.compStart (.GeneratorExp elt [⟨tg, iter, ifs, 0⟩] scope gpos) 0 (.ref it) .none (genEnv scope (cloFrom X.env.cells scope.names []) s4.heap.objs.size code builtinsNs X.env))),
        toks := s4.toks + 1 + 1 + 1, heap := h'.push (gObj X.env s4.gens.size s4.toks) }) :
    wpAny (model X.prog X.w) X.A (eval (.GeneratorExp elt [⟨tg, iter, ifs, 0⟩] scope gpos) X.env) Q' X.xe s := by
  have hfree : ∀ y ∈ scope.names, y.2 = .free → ∃ c, X.env.cells.lookup y.1 = some c := fun y hy e => by
    rcases ok.free y hy e with k | k
    · exact I.ok.has _ (.inl k)
    · exact I.ok.has _ (.inr k)
  refine wpAny_GeneratorExp_make S.co (closure_ok hfree) S.cell S.dot ok.kind hr.depth ?_ hs
  refine thn (hi.run pins s σ H _ I h) fun xv s1 hx => thn hx fun itv s2 h2 => ?_
  obtain ⟨it, fp, tn, J, H1, e, I2, T, st2, f2, ⟨ps, hP, ht⟩, q⟩ := h2
  subst e
  refine ⟨I2.nolimit, ?_⟩
  have hPs : s2.heap.get? P = some { cls := .none, data := .fields ps } := I2.hok P _ hP
  have cd : PySem.W.CodeHd s2.heap c P := TB.code.keeps fun b u e => I2.bk b u e
  have nP : ∀ b ∈ fp, b ≠ P := fun b hb z => by
    have := (f2 b hb).1
    rw [z, hP] at this; cases this
  -- behind the code's look
  have cont : ∀ (code : Value) (s3 : Shared) (H2 : Hp), Inv X pins σ H2 s3 → GxR.Tabbed P H1 H2 → (∀ b ∈ fp, ∀ o, s2.heap.get? b = some o → s3.heap.get? b = some o) →
      wpAny (model X.prog X.w) X.A (builtinsFor X.env.globals X.env.builtins) (fun bi s₄ =>
        ∀ h', h'.Ns s₄.heap.objs.size (fun y => if y = ".0" then some (.ref it) else none) → Heap.SameBut s₄.heap.objs.size (s₄.heap.push { cls := .type "frame", data := .dict #[] }) h' →
          Q' (.ref h'.objs.size) { s₄ with
            gens := s₄.gens.push (.fresh (.compStart (.GeneratorExp elt [⟨tg, iter, ifs, 0⟩] scope gpos) 0 (.ref it) .none (genEnv scope (cloFrom X.env.cells scope.names []) s₄.heap.objs.size code bi X.env))),
            toks := s₄.toks + 1 + 1 + 1,
            heap := h'.push { cls := .type "generator", data := .fields #[.int s₄.gens.size 0, .str "<genexpr>" (s₄.toks + 1), .str (X.env.qual ++ "<genexpr>") (s₄.toks + 1 + 1)] } }) X.xe s3 := by
    intro code s3 H2 I3 tab keep
    obtain ⟨bm, ob, e1, e2, e3, e4, e5, e6, e7, e8⟩ := TB.bm
    refine wpAny_builtinsFor (m := X.mg) (by rw [I3.ok.glob]; exact I3.mod.glob.keeps I3.bk) e1 e2 (I3.bk _ _ e5) e6 e7 e8 ?_
    intro h' hn' hs'
    have keep' : ∀ b o, s3.heap.get? b = some o → h'.get? b = some o := fun b o e => hs'.extBut b o (Nat.ne_of_lt (Heap.lt_size e)) (Heap.get?_push_of_some _ e)
    have hsz : h'.objs.size = s3.heap.objs.size + 1 := by rw [hs'.1, Heap.size_push]
    refine hQ it fp tn J H2 s3 code h' _ I3 T (T.keep _ _ _ st2 keep) (fun b hb => ?_) (q H2 tab) hn' keep' hsz
    obtain ⟨o, eo, _⟩ := T.obj _ _ st2 b hb
    refine ⟨⟨?_, (f2 b hb).2⟩, Heap.lt_size (keep b hb o eo)⟩
    rw [tab.2 b (nP b hb)]
    exact (f2 b hb).1
  cases hf : codeAmong gpos ps.toList with
  | none =>
    refine wpAny_genexprCodeX hcode (cd.code hPs ht) (cd.tab hPs) hf fun c' h' tk hx hge hlt hco' _ htab' _ => ?_
    obtain ⟨o1, vs1, f1, tf, fl, tg', inF, tx, tt, op, _, _, _, _, _, _, _, _, _, htr, _⟩ := hco'
    have J2 := GxR.inv_tab (more := #[rawInt gpos.line, rawInt gpos.col, .ref c']) (h' := h') (g' := s2.gens) (d' := s2.drawn) (t' := tk) I2 hP (fun b o hb e => hx b o hb e) htab'.2 I2.bare
    exact cont _ { s2 with heap := h', toks := tk } _ J2 ⟨⟨_, upd_same, htr⟩, fun b hb => upd_ne hb⟩ fun b hb o e => hx b o (nP b hb) e
  | some cv =>
    refine wpAny_genexprCode_hit hcode (cd.code hPs ht) hf ?_
    exact cont cv s2 H1 I2 ⟨⟨ps, hP, ht⟩, fun _ _ => rfl⟩ fun b hb o e => e
end
theorem gen_begin {X : Cx} {A1 : Around} {elt tg iter : Expr} {ifs : List Expr} {scope : Scope} {gpos : Pos} {it : Addr} {cenv : PySem.Env} {J : It} {fp : List Addr} {tn : Nat → Heap → Prop} {R : GenEnd} {Y : Protocol} {n : Nat} {s₀ s : Shared}
    (T : Turn X.prog X.w X.K tg J fp it tn) (st : tn 0 s.heap)
    (loop : Seg (model X.prog X.w) A1 R Y n s₀ (.compLoop (.GeneratorExp elt [⟨tg, iter, ifs, 0⟩] scope gpos) 0 (.ref it) .none cenv) ((model X.prog X.w).den (.compLoop (.GeneratorExp elt [⟨tg, iter, ifs, 0⟩] scope gpos) 0 (.ref it) .none cenv)) [] s) :
    Seg (model X.prog X.w) A1 R Y n s₀ (.compStart (.GeneratorExp elt [⟨tg, iter, ifs, 0⟩] scope gpos) 0 (.ref it) .none cenv) ((model X.prog X.w).den (.compStart (.GeneratorExp elt [⟨tg, iter, ifs, 0⟩] scope gpos) 0 (.ref it) .none cenv)) [] s := by
  show Seg _ A1 _ _ _ s₀ _ ((compStart (.GeneratorExp elt [⟨tg, iter, ifs, 0⟩] scope gpos) 0 (.ref it) .none cenv).onRaise (leaving cenv)) [] s
  unfold compStart
  rw [Sem.onRaise_eq_wrap]
  show Seg _ A1 _ _ _ s₀ _ ((ask >>= _).wrap _ _ _ _) [] s
  refine seg_bind_wrap (wpAny_askSetting ?_)
  split
  · exact seg_again rfl loop
  · first
      | exact seg_bind_wrap (wpAny_rule (seg_bind_wrap (wpAny_standAt (seg_bind_wrap (T.self _ 0 s _ _ st (seg_again rfl loop))))))
      | (refine seg_bind_wrap (wpAny_rule ?_); show Seg _ A1 _ _ _ s₀ _ ((standAt iter.pos >>= _).wrap _ _ _ _) [] s; exact seg_bind_wrap (wpAny_standAt (seg_bind_wrap (T.self _ 0 s _ _ st (seg_again rfl loop)))))
section
variable {prog : Program} {w : World} {A : Around} {a : Addr} {g : Nat} {P : Nat → Shared → Shared → Prop} {Y : Protocol} {Rc : Result → Shared → Prop}
theorem all_loop (hh : A.handled = none) (hroom : A.depth < recursionLimit)
    (hP : ∀ n s₀ s₁, P n s₀ s₁ → ∀ h', (∀ b o, s₁.heap.get? b = some o → h'.get? b = some o) → Rc (.ok (.ret (.bool true))) { s₁.setGen g .finished with heap := h' })
    (hY : ∀ n s₀ v s₁ kap, Y n s₀ v s₁ kap → s₁.heap.IsGen a g ∧ s₁.heap.NoLimit ∧ ∃ c, v = .bool c ∧ (c = false → ∀ gs', gs'.bare = true → Rc (.ok (.ret (.bool false))) (s₁.setGen g gs')) ∧ (c = true → ∀ gs', gs'.bare = true → kap (.send .none) ((s₁.setGen g gs').setGen g .running))) :
    ∀ (n : Nat) (s : Shared) (gs : GenState), s.heap.IsGen a g → s.heap.NoLimit → s.gens[g]? = some gs → gs.Goes (model prog w) A.in1.in1 (fun n s₀ r s₁ => r = .ok .next ∧ P n s₀ s₁) Y n (.send .none) (s.setGen g .running) →
      codeAny (model prog w) A (.builtin "all.loop" ⟨[.ref a], []⟩) Rc s := by
  intro n
  induction n with
  | zero =>
    intro s gs hg hl hgs hgo
    have hlt : g + 1 ≤ s.gens.size := (Array.getElem?_eq_some_iff.mp hgs).1
    refine codeAny_builtin F.entry_all_loop ?_
    rw [Around.under_plainId F.plain_all_loop _]
    show wpAny _ A.in1 (pyNext (.ref a) >>= _) _ _ s
    refine wpAny_bind (GenW.wpAny_gsz hlt ?_)
    refine wpAny_pyNext_genexpQ (A := A.in1) hh hl hroom hg hgs hgo (fun v s₁ gs' hb hv hsz => ?_) (fun s₁ hp h' hk hsz => ?_)
    · obtain ⟨y1, y2, c, rfl, y3, y4⟩ := hY _ _ _ _ _ hv
      refine wpAny_bind (wpAny_holding (wpAny_truthy_bool ?_))
      refine wpAny_bind (wpAny_letGo ?_)
      cases c with
      | true => exact False.elim (y4 rfl gs' hb)
      | false =>
        simp only [Bool.false_eq_true, if_false]
        exact wpAny_bind (wpAny_rule (wpAny_pure (y3 rfl gs' hb)))
    · exact wpAny_bind (wpAny_rule (wpAny_pure (hP _ _ _ hp h' hk)))
  | succ n ih =>
    intro s gs hg hl hgs hgo
    have hlt : g + 1 ≤ s.gens.size := (Array.getElem?_eq_some_iff.mp hgs).1
    refine codeAny_builtin F.entry_all_loop ?_
    rw [Around.under_plainId F.plain_all_loop _]
    show wpAny _ A.in1 (pyNext (.ref a) >>= _) _ _ s
    refine wpAny_bind (GenW.wpAny_gsz hlt ?_)
    refine wpAny_pyNext_genexpQ (A := A.in1) hh hl hroom hg hgs hgo (fun v s₁ gs' hb hv hsz => ?_) (fun s₁ hp h' hk hsz => ?_)
    · obtain ⟨y1, y2, c, rfl, y3, y4⟩ := hY _ _ _ _ _ hv
      refine wpAny_bind (wpAny_holding (wpAny_truthy_bool ?_))
      refine wpAny_bind (wpAny_letGo ?_)
      cases c with
      | true =>
        simp only [if_true]
        refine wpAny_pure ⟨plainId_quiet F.plain_all_loop _, ih _ gs' y1 y2 ?_ (y4 rfl gs' hb)⟩
        rw [GenW.setGen_size] at hsz
        simp [Shared.setGen, show g < s₁.gens.size from hsz]
      | false =>
        simp only [Bool.false_eq_true, if_false]
        exact wpAny_bind (wpAny_rule (wpAny_pure (y3 rfl gs' hb)))
    · exact wpAny_bind (wpAny_rule (wpAny_pure (hP _ _ _ hp h' hk)))
end
end Gn
end
section
set_option Elab.async false
set_option linter.all false
set_option maxRecDepth 100000
set_option maxHeartbeats 1000000
namespace Gn
open PySem PySem.Spec PyProof.Rows L2
def tAllG (P : Addr) (yes : Bool) (wi : TI) (g : TG) (tt : TT) (te : TE) (vs : List Nat) : TE := fun σ H Q => wi σ H fun J H1 => GxR.TabG H1 P ∧ ∀ H2, GxR.Tabbed P H1 H2 → ∃ W : Nat → Nat → Hp → Prop, (∃ m, W 0 m H2) ∧ ∀ i m H, W i m H →
  (J.stop i H ∧ Q (.bl yes) H) ∨ (J.go i H ∧ 1 ≤ m ∧ ∃ Nx : Hp → Prop, (∀ H', Nx H' → ∃ m', m' < m ∧ W (i + 1) m' H') ∧ ∀ x H', J.yld i H x H' → g x (wipe σ vs) H' fun σ2 H2 => wipe σ2 vs = wipe σ vs ∧ tt σ2 H2 fun b H3 =>
    if b = true then te σ2 H3 fun y H4 => (∃ c, y = .bl c ∧ (c = !yes → Q (.bl (!yes)) H4)) ∧ (y = .bl yes → Nx H4) else Nx H3)
theorem Inv.same {X : Cx} {pins : List (Addr × Obj)} {σ : L2.St} {H : Hp} {s s' : Shared} (I : Inv X pins σ H s) (ho : s'.os = s.os) (hb : AllBare s'.gens) (hh : s'.heap = s.heap) : Inv X pins σ H s' :=
  ⟨I.ok, ho.trans I.os, hb, by rw [hh]; exact I.base, by rw [hh]; exact I.loc, by rw [hh]; exact I.cell, I.free, I.freeC, by rw [hh]; exact I.pin, by rw [hh]; exact I.hok, I.len⟩
abbrev GCx (X : Cx) (elt tg iter : Expr) (ifs : List Expr) (scope : Scope) (gpos : Pos) (A1 : Around) (it : Addr) (s : Shared) (H : Hp) (C : Addr) (code : Value) (fp : List Addr) : Cx :=
  genCx X A1 (.GeneratorExp elt [⟨tg, iter, ifs, 0⟩] scope gpos) it s H (genEnv scope (cloFrom X.env.cells scope.names []) C code builtinsNs X.env) fp
section
variable {X : Cx} {elt tg iter : Expr} {ifs : List Expr} {scope : Scope} {gpos p pos : Pos} {own : List (Str × Nat)} {wi : TI} {g : TG} {tt : TT} {te : TE} {c P : Addr} {k : Nat}
theorem all_ready {pins : List (Addr × Obj)} {σ : L2.St} {Q : VK} {yes : Bool} {it : Addr} {fp : List Addr} {tn : Nat → Heap → Prop} {J : It} {H2 : Hp} {s4 : Shared} {code : Value} {h' : Heap} {m : Str → Option Value} {W : Nat → Nat → Hp → Prop} {m0 : Nat}
    (hr : Room k X.A) (hc : X.calm = true) (hN : X.N.Nodup) (S : GSc scope) (ok : BlkOk X.N X.env.scope scope own)
    (hg : ∀ (A1 : Around) (it : Addr) (s : Shared) (H : Hp) (C : Addr) (code : Value) (fp : List Addr), PG (GCx X elt tg iter ifs scope gpos A1 it s H C code fp) tg g)
    (ht : ∀ (A1 : Around) (it : Addr) (s : Shared) (H : Hp) (C : Addr) (code : Value) (fp : List Addr), Ar X A1 → PTs (GCx X elt tg iter ifs scope gpos A1 it s H C code fp) ifs tt)
    (he : ∀ (A1 : Around) (it : Addr) (s : Shared) (H : Hp) (C : Addr) (code : Value) (fp : List Addr), Ar X A1 → PE (GCx X elt tg iter ifs scope gpos A1 it s H C code fp) elt te)
    (I4 : Inv X pins σ H2 s4) (T : Turn X.prog X.w X.K tg J fp it tn) (st4 : tn 0 s4.heap) (f4 : ∀ b ∈ fp, FpOk X pins H2 b ∧ b < s4.heap.objs.size) (hn' : h'.Ns s4.heap.objs.size m) (keep' : ∀ b o, s4.heap.get? b = some o → h'.get? b = some o) (hsz : h'.objs.size = s4.heap.objs.size + 1) (w0 : W 0 m0 H2)
    (turn : ∀ i m H, W i m H → (J.stop i H ∧ Q (.bl yes) H) ∨ (J.go i H ∧ 1 ≤ m ∧ ∃ Nx : Hp → Prop, (∀ H', Nx H' → ∃ m', m' < m ∧ W (i + 1) m' H') ∧ ∀ x H', J.yld i H x H' → g x (wipe σ (own.map (·.2))) H' fun σ2 H2 => wipe σ2 (own.map (·.2)) = wipe σ (own.map (·.2)) ∧ tt σ2 H2 fun b H3 =>
      if b = true then te σ2 H3 fun y H4 => (∃ c, y = .bl c ∧ (c = !yes → Q (.bl (!yes)) H4)) ∧ (y = .bl yes → Nx H4) else Nx H3)) :
    ∃ (Pf : Nat → Shared → Shared → Prop) (Y : Protocol),
      (∀ n s₀ s₁, Pf n s₀ s₁ → ∀ h'', (∀ b o, s₁.heap.get? b = some o → h''.get? b = some o) → EP X pins σ Q (.bool yes) { s₁.setGen s4.gens.size .finished with heap := h'' }) ∧
      (∀ n s₀ v s₁ kap, Y n s₀ v s₁ kap → s₁.heap.IsGen h'.objs.size s4.gens.size ∧ s₁.heap.NoLimit ∧ ∃ c, v = .bool c ∧ (c = !yes → ∀ gs', gs'.bare = true → EP X pins σ Q (.bool (!yes)) (s₁.setGen s4.gens.size gs')) ∧ (c = yes → ∀ gs', gs'.bare = true → kap (.send .none) ((s₁.setGen s4.gens.size gs').setGen s4.gens.size .running))) ∧
      ∃ n, (GenState.fresh (.compStart (.GeneratorExp elt [⟨tg, iter, ifs, 0⟩] scope gpos) 0 (.ref it) .none (genEnv scope (cloFrom X.env.cells scope.names []) s4.heap.objs.size code builtinsNs X.env))).Goes (model X.prog X.w) X.A.in1.in1 (fun n s₀ r s₁ => r = .ok .next ∧ Pf n s₀ s₁) Y n (.send .none)
        (Shared.setGen { s4 with
          gens := s4.gens.push (.fresh (.compStart (.GeneratorExp elt [⟨tg, iter, ifs, 0⟩] scope gpos) 0 (.ref it) .none (genEnv scope (cloFrom X.env.cells scope.names []) s4.heap.objs.size code builtinsNs X.env))),
          toks := s4.toks + 1 + 1 + 1, heap := h'.push (gObj X.env s4.gens.size s4.toks) } s4.gens.size .running) := by
  let ob := gObj X.env s4.gens.size s4.toks
  let PR : List V → List (Addr × Obj) → Prop := fun _ pins => pins = [(h'.objs.size, ob)]
  let Back : Value → Shared → Shared → Prop := fun _ s1 s2 => s2.os = s1.os ∧ s2.heap = s1.heap ∧ AllBare s2.gens
  let Xg := GCx X elt tg iter ifs scope gpos X.A.in1.in1 it s4 H2 s4.heap.objs.size code fp
  have keep5 : ∀ b o, s4.heap.get? b = some o → (h'.push ob).get? b = some o := fun b o e => Heap.get?_push_of_some _ (keep' b o e)
  have nfs : h'.objs.size ∉ frs X.stack := fun hb => by
    rcases List.mem_cons.mp (I4.stkSub _ hb) with z | z
    · have := I4.lt
      rw [← z, hsz] at this
      exact absurd this (Nat.not_lt.mpr (Nat.le_succ _))
    · exact I4.nofs (by rw [hsz]; exact Nat.le_succ _) z
  have bareF : AllBare (Shared.setGen { s4 with
          gens := s4.gens.push (.fresh (.compStart (.GeneratorExp elt [⟨tg, iter, ifs, 0⟩] scope gpos) 0 (.ref it) .none (genEnv scope (cloFrom X.env.cells scope.names []) s4.heap.objs.size code builtinsNs X.env))),
          toks := s4.toks + 1 + 1 + 1, heap := h'.push ob } s4.gens.size .running).gens := allBare_setGen (I4.bare.push rfl) rfl
  have I5 := gen_start (A1 := X.A.in1.in1) (G1 := elt) (G2 := elt) (cl := [⟨tg, iter, ifs, 0⟩]) (sc0 := scope) (gpos := gpos) (it := it) (fp := fp) (code := code) (h5 := h'.push ob) (tk := s4.toks + 1 + 1 + 1) (pins' := [(h'.objs.size, ob)]) I4 ok hN S.cell f4 hr.hd rfl keep5 (hn'.push _) bareF (fun p hp => by
    rw [List.mem_singleton.mp hp]
    refine ⟨Heap.get?_push_size _ rfl, I4.hok.fresh (by rw [hsz]; exact Nat.le_succ _), by show h'.objs.size ≠ s4.heap.objs.size; rw [hsz]; exact Nat.succ_ne_self _, nfs, fun v z => by cases z⟩)
  have out : ∀ {pins' : List (Addr × Obj)} {H' : Hp} {s1 s2 : Shared}, Inv Xg pins' (wipe σ (own.map (·.2))) H' s1 → s2.os = s1.os → AllBare s2.gens → (∀ b o, s1.heap.get? b = some o → s2.heap.get? b = some o) → Inv X pins σ H' s2 := fun {pins' H' s1 s2} I6 ho hb hk =>
    I4.call' (ch := fp) (ho.trans I6.os) (I6.base.trans (Un.kept hk)) (I6.hok.kept hk) hb fun b hb => ⟨(f4 b hb).1.2.2.2.1, (f4 b hb).1.2.1, (f4 b hb).1.2.2.2.2.1, (f4 b hb).1.2.2.2.2.2⟩
  refine ⟨genEnd PR Xg (wipe σ (own.map (·.2))) m0 (fun _ H => Q (.bl yes) H), genY PR Back Xg (wipe σ (own.map (·.2))) m0 (fun y H => ∃ c, y = .bl c ∧ (c = !yes → Q (.bl (!yes)) H)) (fun y H => y = .bl yes), fun n s₀ s₁ hp h'' hk => ?_, fun n s₀ v s₁ kap hy => ?_, m0, rfl, ?_⟩
  · obtain ⟨ys, H', pins', _, hpr, I6, q⟩ := hp
    exact ⟨.bl yes, H', out I6 rfl (allBare_setGen I6.bare rfl) hk, rfl, q⟩
  · obtain ⟨ys, y, H', pins', _, rv, ⟨cc, rfl, z⟩, hpr, I6, cont⟩ := hy
    obtain rfl : v = Value.bool cc := rv
    have hpr : pins' = [(h'.objs.size, ob)] := hpr
    subst hpr
    have pin := I6.pin (h'.objs.size, ob) (by simp)
    refine ⟨⟨_, _, _, pin.1, rfl, rfl, rfl⟩, I6.nolimit, cc, rfl, fun e gs' hb => ?_, fun e gs' hb => ?_⟩
    · subst e
      exact ⟨.bl (!yes), H', out I6 rfl (allBare_setGen I6.bare hb) (fun _ _ e => e), rfl, z rfl⟩
    · subst e
      exact cont _ ⟨rfl, rfl, allBare_setGen (s := s₁.setGen s4.gens.size gs') (allBare_setGen I6.bare hb) rfl⟩ rfl
  · refine gen_begin T (T.keep _ _ _ st4 fun b hb o e => keep5 b o e) ?_
    refine gen_loop (W := fun i m _ H => W i m H) (PR := PR) (Back := Back) (N0 := m0) hc S.co T (hg _ _ _ _ _ _ _) (ht _ _ _ _ _ _ _ Ar.in2) (he _ _ _ _ _ _ _ Ar.in2) ⟨fun i m ys H w => ?_⟩ (fun ys pins' hpr p hp b hb => ?_) (fun ys y v s1 s2 H' pins' hpr rv I6 bk => ?_) m0 m0 0 [] _ _ H2 [(h'.objs.size, ob)] (Nat.le_refl _) (by simp) w0 rfl I5 (T.keep _ _ _ st4 fun b hb o e => keep5 b o e) (fun b hb => (f4 b hb).1.1)
    · rcases turn i m H w with q | ⟨q1, q2, Nx, q3, q4⟩
      · exact .inl q
      · refine .inr ⟨q1, q2, fun _ H => Nx H, fun ys' H' n => q3 H' n, fun x H' yy => ?_⟩
        exact q4 x H' yy
    · have hpr : pins' = [(h'.objs.size, ob)] := hpr
      rw [hpr] at hp
      rw [List.mem_singleton.mp hp]
      have := (f4 b hb).2
      show h'.objs.size ≠ b
      exact Nat.ne_of_gt (by rw [hsz]; exact Nat.lt_succ_of_lt this)
    · obtain ⟨b1, b2, b3⟩ := bk
      exact ⟨pins', hpr, Inv.same I6 b1 b3 b2, fun b hb o e => by rw [b2]; exact e⟩
variable (hr : Room k X.A) (hc : X.calm = true) (hN : X.N.Nodup) (TB : GxR.TabB X.base X.mg c P) (hcode : X.env.code = .ref c) (S : GSc scope) (ok : BlkOk X.N X.env.scope scope own) (hi : PI X tg iter wi)
    (hg : ∀ (A1 : Around) (it : Addr) (s : Shared) (H : Hp) (C : Addr) (code : Value) (fp : List Addr), PG (GCx X elt tg iter ifs scope gpos A1 it s H C code fp) tg g)
    (ht : ∀ (A1 : Around) (it : Addr) (s : Shared) (H : Hp) (C : Addr) (code : Value) (fp : List Addr), Ar X A1 → PTs (GCx X elt tg iter ifs scope gpos A1 it s H C code fp) ifs tt)
    (he : ∀ (A1 : Around) (it : Addr) (s : Shared) (H : Hp) (C : Addr) (code : Value) (fp : List Addr), Ar X A1 → PE (GCx X elt tg iter ifs scope gpos A1 it s H C code fp) elt te)
include hr hc hN TB hcode S ok hi hg ht he in
theorem pe_allG (hgl : Gl X "all") (hm : X.mg "all" = none) (hb : bootBuiltins "all" = some (.builtin "all")) (hs : ∀ v, genFold iter X.env v = pure v := by intro _; rfl)
    (hst : starEach [.GeneratorExp elt [⟨tg, iter, ifs, 0⟩] scope gpos] X.env = (false, eval (.GeneratorExp elt [⟨tg, iter, ifs, 0⟩] scope gpos) X.env) :: starEach [] X.env := by rfl) :
    PE X (.Call (.Name "all" p) [.GeneratorExp elt [⟨tg, iter, ifs, 0⟩] scope gpos] [] pos) (tAllG P true wi g tt te (own.map (·.2))) := by
  refine ⟨fun pins s σ H Q I h => ?_⟩
  refine wpAny_Call_Name_kw (ld_blt I hgl hm hb ?_)
  refine PyProof.Rows.callWith_builtin1 ?_ hst (by rfl)
  rw [hst]
  show wpAny _ _ (spliced ((false, eval (.GeneratorExp elt [⟨tg, iter, ifs, 0⟩] scope gpos) X.env) :: backTo pos (starEach [] X.env))) _ _ s
  refine Calls.spliced_cons (gen_eval hr TB hcode S ok I hi hs h fun it fp tn J H2 s4 code h' m I4 T st4 f4 q hn' keep' hsz => ?_)
  obtain ⟨W, ⟨m0, w0⟩, turn⟩ := q
  obtain ⟨Pf, Y, hP, hY, n, go⟩ := all_ready hr hc hN S ok hg ht he I4 T st4 f4 hn' keep' hsz w0 turn
  refine Calls.spliced_nil ?_
  have isg : (h'.push (gObj X.env s4.gens.size s4.toks)).IsGen h'.objs.size s4.gens.size := ⟨_, _, _, Heap.get?_push_size _ rfl, rfl, rfl, rfl⟩
  refine call_function_tree F.kind_all F.plain_all F.entry_all (F.args_all1 _) ?_
  unfold Builtin.«all»
  refine wpAny_bind (m := oneArg "all" _) (wpAny_pure ?_)
  refine wpAny_bind (wpAny_pyIter_gen isg ?_)
  refine wpAny_pure ⟨plainId_quiet F.plain_all_loop _, all_loop (P := Pf) (Y := Y) hr.hd hr.depth (fun n s₀ s₁ q => hP n s₀ s₁ q) (fun n s₀ v s₁ kap q => hY n s₀ v s₁ kap q) n _ _ isg (I4.nolimit.keeps fun b o e => Heap.get?_push_of_some _ (keep' b o e)) (Array.getElem?_push_size ..) go⟩
end
end Gn
end
section
set_option Elab.async false
set_option linter.all false
set_option maxRecDepth 100000
set_option maxHeartbeats 2000000
namespace Pw
open PySem PySem.Spec PyProof.Rows L2
open Classical in
noncomputable def allL (yes : Bool) (it : Itm) (xs : List D) (t : Gx) (c : Tx) (f : Ex) (ρ : Env) : List D → Mem → Option (Bool × Mem)
  | [], m => if itemsAt it m = some xs then some (yes, m) else none
  | d :: ds, m => if itemsAt it m = some xs then (t d ρ).bind fun ρ1 => (c ρ1 m).bind fun p => if p.1 = true then (f ρ1 p.2).bind fun q => match q.1 with
      | .v (.bl b) => if b = yes then allL yes it xs t c f ρ ds q.2 else some (!yes, q.2)
      | _ => none
      else allL yes it xs t c f ρ ds p.2
    else none
noncomputable def eAll (yes : Bool) (src : Ix) (t : Gx) (c : Tx) (f : Ex) (vs : List Nat) : Ex := fun ρ m => (src ρ m).bind fun p => (itemsAt p.1 p.2).bind fun xs => (allL yes p.1 xs t c f (wipeD ρ vs) xs p.2).bind fun q => some (.v (.bl q.1), q.2)
theorem tabbed_eq {P : Addr} {H H' : Hp} (h : GxR.Tabbed P H H') : ∃ ps', H' = upd H P (.tbl ps') ∧ TriplesOk ps'.toList := by
  obtain ⟨⟨ps', e', tr'⟩, oth⟩ := h
  refine ⟨ps', funext fun b => ?_, tr'⟩
  by_cases hb : b = P
  · rw [hb, upd_same, e']
  · rw [upd_ne hb, oth b hb]
theorem all_go {K : FRG} {tb : List Addr} {P : Addr} {yes : Bool} {src : Ix} {g : TG} {t : Gx} {c : Tx} {f : Ex} {vs : List Nat} {σ : L2.St} {H : Hp} {Q : VK} (hP : InTb K tb P) (ht : TgS K tb g t) (hw : TgW g vs) (h : T K tb (eAll yes src t c f vs) σ H Q) :
    Gn.tAllG P yes (Ti K tb src) g (Tt K tb c) (T K tb f) vs σ H Q := by
  obtain ⟨φ, ψ, ρ, m, d, mF, R, E, e, k⟩ := h
  obtain ⟨⟨it, m1⟩, e1, e⟩ := bnd e
  obtain ⟨xs, e2, e⟩ := bnd e
  obtain ⟨⟨bF, m9⟩, e3, e⟩ := bnd e
  cases e
  refine ⟨φ, ψ, ρ, m, it, m1, R, E, e1, fun φ1 H1 J P1 R1 IR => ⟨R1.tab P hP.1, fun H2' tab => ?_⟩⟩
  obtain ⟨ps, hps, _⟩ := R1.tab P hP.1
  obtain ⟨ps', rfl, tr'⟩ := tabbed_eq tab
  have Pt : Post φ1 ψ H1 φ1 ψ (upd H1 P (.tbl ps')) := Post.tbl hps
  have Rt := R1.tbl (ps' := ps') hps tr' hP.2
  let Z : Nat → Hp → Prop := fun i H2 => ∃ φ2 m2, Post φ1 ψ H1 φ2 ψ H2 ∧ Rel K tb φ2 ψ H2 m2 ∧ allL yes it xs t c f (wipeD ρ vs) (xs.drop i) m2 = some (bF, m9)
  refine ⟨fun i n H2 => n = xs.length - i ∧ i ≤ xs.length ∧ Z i H2, ⟨xs.length, by simp, Nat.zero_le _, φ1, m1, Pt, Rt, by simpa using e3⟩, ?_⟩
  rintro i n H2 ⟨rfl, hi2, φ2, m2, P2, R2, ef⟩
  by_cases hlt : i < xs.length
  · rw [List.drop_eq_getElem_cons hlt] at ef
    unfold allL at ef
    split at ef
    · rename_i hx
      obtain ⟨ρ3, e3', ef⟩ := bnd ef
      obtain ⟨⟨b4, m4⟩, e4, ef⟩ := bnd ef
      obtain ⟨hgo, hy⟩ := (IR φ2 ψ H2 m2 xs P2 R2 hx).1 i xs[i] (List.getElem?_eq_getElem hlt)
      refine .inr ⟨hgo, by omega, fun H' => i + 1 ≤ xs.length ∧ Z (i + 1) H', fun H' q => ⟨xs.length - (i + 1), by omega, rfl, q⟩, fun x H3 y => ?_⟩
      obtain ⟨P3, R3, V3, same⟩ := hy x H3 y
      have E3 : RE K φ2 ψ H3 (wipeD ρ vs) (wipe σ vs) := (E.mono (P1.trans (P2.trans P3)) R).wipe vs
      have st := ht φ2 ψ H3 m2 (wipeD ρ vs) (wipe σ vs) _ x ρ3 (fun σ3 H3' => Tt K tb c σ3 H3' fun b H4 => if b = true then T K tb f σ3 H4 fun y H5 => (∃ c, y = .bl c ∧ (c = !yes → Q (.bl (!yes)) H5)) ∧ (y = .bl yes → (fun H' => i + 1 ≤ xs.length ∧ Z (i + 1) H') H5) else (fun H' => i + 1 ≤ xs.length ∧ Z (i + 1) H') H4) R3 E3 V3 e3' fun σ3 E3' => ?_
      · have st2 := hw _ _ _ _ st
        simp only [wipe_wipe] at st2
        exact st2
      · refine ⟨φ2, ψ, ρ3, m2, b4, m4, R3, E3', e4, fun φ4 H4 P4 R4 => ?_⟩
        have P14 := P2.trans (P3.trans P4)
        cases b4 with
        | false => exact iteF ⟨hlt, φ4, m4, P14, R4, ef⟩
        | true =>
          obtain ⟨⟨w5, m5⟩, e5, ef⟩ := bnd (show (f ρ3 m4).bind _ = _ from ef)
          refine iteT ⟨φ4, ψ, ρ3, m4, w5, m5, R4, E3'.mono P4 R3, e5, fun φ5 ψ5 H5 v P5 R5 V5 => ?_⟩
          cases w5 with
          | v d =>
            cases d with
            | bl b =>
              have ef' : (if b = yes then allL yes it xs t c f (wipeD ρ vs) (xs.drop (i + 1)) m5 else some (!yes, m5)) = some (bF, m9) := ef
              obtain ⟨rfl, V5⟩ := V5
              cases V5
              refine ⟨⟨b, rfl, fun hb => ?_⟩, fun hb => ?_⟩
              · rw [if_neg (by rw [hb]; cases yes <;> decide)] at ef'
                cases ef'
                exact k φ5 _ H5 _ (P1.trans (P14.trans P5)) R5 ⟨rfl, .bl _⟩
              · have hb : b = yes := V.bl.inj hb
                rw [if_pos hb] at ef'
                exact ⟨hlt, φ5, m5, P14.trans P5, R5, ef'⟩
            | _ => cases ef
          | _ => cases ef
    · cases ef
  · rw [List.drop_of_length_le (by omega)] at ef
    unfold allL at ef
    split at ef
    · rename_i hx
      cases ef
      exact .inl ⟨(IR φ2 ψ H2 _ xs P2 R2 hx).2 i (by omega), k φ2 ψ H2 _ (P1.trans P2) R2 ⟨rfl, .bl _⟩⟩
    · cases ef
section
variable {X : Cx} {tb : List Addr} {elt tg iter : Expr} {ifs : List Expr} {scope : Scope} {gpos p pos : Pos} {own : List (Str × Nat)} {src : Ix} {g : TG} {t : Gx} {c : Tx} {f : Ex} {cd P : Addr} {k : Nat}
  (hr : Room (k + 1) X.A) (hgd : X.A.guards = some []) (hc : X.calm = true) (hN : X.N.Nodup) (TB : GxR.TabB X.base X.mg cd P) (hP : InTb X.K tb P) (hcode : X.env.code = .ref cd) (S : Gn.GSc scope) (htg : TgS X.K tb g t) (hw : TgW g (own.map (·.2))) (hi : PI X tg iter (Ti X.K tb src)) (ok : BlkOk X.N X.env.scope scope own)
  (hg : ∀ (A1 : Around) (it : Addr) (s : Shared) (H : Hp) (C : Addr) (code : Value) (fp : List Addr), PG (Gn.GCx X elt tg iter ifs scope gpos A1 it s H C code fp) tg g)
  (ht : ∀ (A1 : Around) (it : Addr) (s : Shared) (H : Hp) (C : Addr) (code : Value) (fp : List Addr), (Gn.GCx X elt tg iter ifs scope gpos A1 it s H C code fp).A.guards = some [] → Room k (Gn.GCx X elt tg iter ifs scope gpos A1 it s H C code fp).A → PTs (Gn.GCx X elt tg iter ifs scope gpos A1 it s H C code fp) ifs (Tt X.K tb c))
  (he : ∀ (A1 : Around) (it : Addr) (s : Shared) (H : Hp) (C : Addr) (code : Value) (fp : List Addr), (Gn.GCx X elt tg iter ifs scope gpos A1 it s H C code fp).A.guards = some [] → Room k (Gn.GCx X elt tg iter ifs scope gpos A1 it s H C code fp).A → PE (Gn.GCx X elt tg iter ifs scope gpos A1 it s H C code fp) elt (T X.K tb f))
include hr hgd hc hN TB hP hcode S htg hw hi ok hg ht he in
theorem ex_allG (hgl : Gl X "all") (hm : X.mg "all" = none) (hb : bootBuiltins "all" = some (.builtin "all")) (hs : ∀ v, genFold iter X.env v = pure v := by intro _; rfl)
    (hst : starEach [.GeneratorExp elt [⟨tg, iter, ifs, 0⟩] scope gpos] X.env = (false, eval (.GeneratorExp elt [⟨tg, iter, ifs, 0⟩] scope gpos) X.env) :: starEach [] X.env := by rfl) :
    PE X (.Call (.Name "all" p) [.GeneratorExp elt [⟨tg, iter, ifs, 0⟩] scope gpos] [] pos) (T X.K tb (eAll true src t c f (own.map (·.2)))) :=
  pe_mono (Gn.pe_allG hr hc hN TB hcode S ok hi hg (fun A1 it s H C code fp a => ht A1 it s H C code fp (a.guards hgd) (a.room hr)) (fun A1 it s H C code fp a => he A1 it s H C code fp (a.guards hgd) (a.room hr)) hgl hm hb hs hst) fun _ _ _ h => all_go hP htg hw h
end
end Pw
end
section
set_option Elab.async false
set_option linter.all false
set_option maxRecDepth 100000
set_option maxHeartbeats 2000000
namespace Pw
open PySem PySem.Spec PyProof.Rows L2 Pv
end Pw
end
section
set_option Elab.async false
set_option linter.all false
set_option maxRecDepth 100000
set_option maxHeartbeats 4000000
namespace Ls
open PySem L2 Pw Pv Lx
section
variable {α : Type} {src : Ix} {t : Gx} {c : Tx} {f : Ex} {b : Sx} {vs dd : List Nat} {ρ : Pw.Env} {m m1 : Mem}
end
variable {F : List Fo} {B : List Nw} {day : Int} {m : Mem}
end Ls
end
section
set_option Elab.async false
set_option linter.all false
set_option maxRecDepth 100000
set_option maxHeartbeats 4000000
namespace Ls
open PySem L2 Pw Pv Lx
theorem op_at {g : D → D → Option W} {a b : Ex} {ρ : Pw.Env} {m m1 m2 : Mem} {wa wb w : W} {x y : D} (h1 : a ρ m = some (wa, m1)) (h2 : b ρ m1 = some (wb, m2)) (h3 : gt wa m2 = some x) (h4 : gt wb m2 = some y) (h5 : g x y = some w) : eOp g a b ρ m = some (w, m2) := by
  unfold eOp
  simp [h1, h2, h3, h4, h5]
theorem set_at {i : Nat} {a : Ex} {ρ : Pw.Env} {m m1 : Mem} {w : W} (h : a ρ m = some (w, m1)) : sSet i a ρ m = some (.nx, ρ.set i (some (stl w)), m1) := by
  unfold sSet
  simp [h]
theorem seq_at {a b : Sx} {ρ ρ1 : Pw.Env} {m m1 : Mem} {r : Option (Out × Pw.Env × Mem)} (h : a ρ m = some (.nx, ρ1, m1)) (h2 : b ρ1 m1 = r) : sSeq a b ρ m = r := by
  unfold sSeq
  rw [h]
  simp only [Option.bind_some]
  exact h2
theorem call_at {G : Fx} {f : Ax} {ρ : Pw.Env} {m m1 : Mem} {ws : List W} {r : Option (W × Mem)} (h : f ρ m = some (ws, m1)) (h2 : G ws m1 = r) : eCall G f ρ m = r := by
  unfold eCall
  rw [h]
  exact h2
theorem at_last {α : Type} {xs : List α} {x : α} : atI (xs ++ [x]) (-1) = some x := by
  unfold atI ixN
  rw [if_neg (by omega)]
  simp only [List.length_append, List.length_singleton]
  rw [if_pos (by omega), show (-1 + ((xs.length + 1 : Nat) : Int)).toNat = xs.length by omega]
  simp
theorem GoodHL.snoc {lim : Int} {F : List Fo} {f g : Fo} {F0 : List Fo} (h : GoodHL lim F) (hF : F = F0 ++ [g]) (hl : F.length < 60) (hd : g.day ≤ f.day) (ok : FoOkL lim f) (fa : ParOk F f.day f.fa 1) (mo : ParOk F f.day f.mo 0) : GoodHL lim (F ++ [f]) := by
  have gm : g ∈ F := by rw [hF]; simp
  have hh : HalfHL lim F g.day := by
    refine ⟨(h.ok g gm).d0, (h.ok g gm).d1, fun x hx => ?_, h.ok, h.fa, h.mo, h.up⟩
    have up := h.up
    rw [hF] at hx up
    rcases List.mem_append.mp hx with z | z
    · exact (List.pairwise_append.mp up).2.2 x z g (by simp)
    · rw [List.mem_singleton.mp z]; exact Int.le_refl _
  have n := hh.snoc hd ok fa mo
  exact ⟨by simp, by simp; omega, n.ok, n.fa, n.mo, n.up, h.lm⟩
end Ls
end
section
set_option Elab.async false
set_option linter.all false
set_option maxRecDepth 100000
set_option maxHeartbeats 2000000
namespace Pv
open PySem PySem.Spec PyProof.Rows L2
end Pv
end
section
set_option Elab.async false
set_option linter.all false
set_option maxRecDepth 100000
set_option maxHeartbeats 2000000
namespace Pw
open PySem PySem.Spec PyProof.Rows L2 Pv
end Pw
end
section
set_option Elab.async false
set_option linter.all false
set_option maxRecDepth 100000
set_option maxHeartbeats 2000000
namespace Pw
open PySem PySem.Spec PyProof.Rows L2 Pv
def tyS : D → Option String
  | .non => some "NoneType"
  | .bl _ => some "bool"
  | .int _ => some "int"
  | .str _ => some "str"
  | .tup _ => some "tuple"
  | .tx _ => some "tuple"
  | .fl _ => some "list"
  | .lst _ => some "list"
  | .dk _ => some "dict"
  | .dt _ => some "dict"
  | .rl _ _ => some "list"
inductive Ty where
  | int | bool | str | tuple | list | dict
def Ty.name : Ty → String
  | .int => "int"
  | .bool => "bool"
  | .str => "str"
  | .tuple => "tuple"
  | .list => "list"
  | .dict => "dict"
def isD : Ty → D → Bool
  | .int, .bl _ => true
  | .int, .int _ => true
  | .bool, .bl _ => true
  | .str, .str _ => true
  | .tuple, .tup _ => true
  | .tuple, .tx _ => true
  | .list, .fl _ => true
  | .list, .lst _ => true
  | .list, .rl _ _ => true
  | .dict, .dk _ => true
  | .dict, .dt _ => true
  | _, _ => false
theorem kit_is (t : Ty) (d : D) {a : String} (h : tyS d = some a) : kitB a t.name = some (isD t d) := by
  cases t <;> cases d <;> (cases h; first | (refine (?_ : kitB _ _ = some true); decide +kernel) | (refine (?_ : kitB _ _ = some false); decide +kernel))
section
variable {X : Cx} {tb : List Addr}
theorem tyx_tup {K : FRG} {H : Hp} {a : Addr} {vs : List V} (h : SqT K H a vs) : TyX K H (.ref a) (.type "tuple") := by
  rcases h with (h | ⟨o, h⟩) | ⟨o, its, n, h1, h2, _⟩
  · exact .base (.tup h)
  · exact .fTuple h
  · exact .kTuple h1 h2
theorem tyx_fz {K : FRG} {H : Hp} {a : Addr} {vs : List V} (h : Fz K H a vs) : TyX K H (.ref a) (.type "list") := by
  rcases h with ⟨o, h⟩ | ⟨o, its, n, h1, h2, _⟩
  · exact .base (.frz h)
  · exact .kList h1 h2
theorem tyx_rep {K : FRG} {φ ψ : List Addr} {H : Hp} {d : D} {v : V} (h : Rep K φ ψ H d v) : ∃ a, tyS d = some a ∧ TyX K H v (.type a) := by
  cases h with
  | non => exact ⟨_, rfl, .base .non⟩
  | bl b => exact ⟨_, rfl, .base (.bl b)⟩
  | int i => exact ⟨_, rfl, .base (.int i)⟩
  | str x => exact ⟨_, rfl, .base (.str x)⟩
  | tup h _ => exact ⟨_, rfl, tyx_tup h.1⟩
  | tx h _ => exact ⟨_, rfl, tyx_tup h.sq⟩
  | fl h _ => exact ⟨_, rfl, tyx_fz h⟩
  | lst _ _ h _ => exact ⟨_, rfl, .base (.lst h)⟩
  | dk _ _ h _ _ => exact ⟨_, rfl, by rcases h with h | ⟨o, h⟩ <;> first | exact .base (.dK h) | exact .fDict h⟩
  | dt _ _ h _ _ => exact ⟨_, rfl, .base (.dT h)⟩
theorem tyx_c {K : FRG} {φ ψ : List Addr} {H : Hp} {d : D} {v : V} (h : RepC K φ ψ H d v) : ∃ a, tyS d = some a ∧ TyX K H v (.type a) := by
  rcases h with h | ⟨a, mo, rfl, rfl, q⟩
  · exact tyx_rep h
  · cases mo with
    | lst ds => obtain ⟨vs, q1, _⟩ := q; exact ⟨_, rfl, .base (.lst q1)⟩
    | dk kvs => obtain ⟨vs, q1, _⟩ := q; exact ⟨_, rfl, .base (.dK q1)⟩
    | dt kvs => obtain ⟨vs, q1, _⟩ := q; exact ⟨_, rfl, .base (.dT q1)⟩
    | rl b k => exact ⟨_, rfl, .base (.lst q.1)⟩
def eIs (t : Ty) (a : Ex) : Ex := fun ρ m => (a ρ m).bind fun p => (gt p.1 p.2).bind fun d => some (.v (.bl (isD t d)), p.2)
theorem ex_isi (t : Ty) {e : Expr} {fa : Ex} {x : Str} {p q pos : Pos} (hg : Gl X "isinstance") (hm : X.mg "isinstance" = none) (hgT : Gl X x) (hmT : X.mg x = none) (hvT : bootBuiltins x = some (.type t.name)) (ha : PE X e (T X.K tb fa)) (hn : x ≠ "__name__" := by decide) (hd : (x == ("__debug__" : Str)) = false := by decide)
    (h1 : starEach [e, .Name x q] X.env = (false, eval e X.env) :: starEach [.Name x q] X.env := by rfl) (h2 : starEach [.Name x q] X.env = (false, eval (.Name x q) X.env) :: starEach [] X.env := by rfl) (hpl : (backTo pos (starEach [.Name x q] X.env)).any (·.1) = false := by rfl) :
    PE X (.Call (.Name "isinstance" p) [e, .Name x q] [] pos) (T X.K tb (eIs t fa)) := by
  refine pe_mono (pe_callB call_isi hg hm PyProof.Rows.boot_isinstance (pa_cons ha (pa_cons (pe_bltn (v := .ty t.name) hgT hmT hvT rfl hn hd) pa_nil h2) h1) (by decide) (by decide) h1 hpl) fun σ H Q ⟨φ, ψ, ρ, m, w, m', R, E, e, k⟩ => ?_
  obtain ⟨⟨w1, m1⟩, e1, e⟩ := bnd e
  obtain ⟨d, eg, e⟩ := bnd e
  cases e
  refine ⟨φ, ψ, ρ, m, w1, _, R, E, e1, fun φ1 ψ1 H1 v P1 R1 V1 => ?_⟩
  have R1' := V1.rel R1
  obtain ⟨a, ea, ty⟩ := tyx_c (gt_c R1' (V1.s R1) eg)
  exact ⟨v, .ty t.name, .type a, .type t.name, _, rfl, .ty _, ty, kit_ty (kit_is t d ea), k φ1 ψ H1 _ (V1.post P1) R1' ⟨rfl, .bl _⟩⟩
end
end Pw
end
section
set_option Elab.async false
set_option linter.all false
set_option maxRecDepth 100000
set_option maxHeartbeats 2000000
namespace Pw
open PySem PySem.Spec PyProof.Rows L2 Pv
def pairsX : List (Ex × Ex) → Env → Mem → Option (List (Key × D) × Mem)
  | [], _, m => some ([], m)
  | (a, b) :: r, ρ, m => (a ρ m).bind fun p => (vl p.1).bind fun y => (keyOf y).bind fun k => (b ρ p.2).bind fun q => (vl q.1).bind fun z => (pairsX r ρ q.2).bind fun u => some ((k, z) :: u.1, u.2)
def putsX (kvs : List (Key × D)) (acc : List (Key × D)) : List (Key × D) := kvs.foldl (fun acc kv => putX acc kv.1 kv.2) acc
def eDisp (ps : List (Ex × Ex)) : Ex := fun ρ m => (pairsX ps ρ m).bind fun q => if q.1.length ≤ 15 then some (.f (.dk (putsX q.1 [])), q.2) else none
section
variable {X : Cx} {tb : List Addr}
theorem pairs_go {K : FRG} {σ : L2.St} : ∀ (ps : List (Ex × Ex)) {φ ψ : List Addr} {H : Hp} {ρ : Env} {m m' : Mem} {kvs : List (Key × D)} {Q : List (V × V) → Hp → Prop}, Rel K tb φ ψ H m → RE K φ ψ H ρ σ → pairsX ps ρ m = some (kvs, m') →
    (∀ φ2 H2 us, Post φ ψ H φ2 ψ H2 → Rel K tb φ2 ψ H2 m' → PR K φ2 ψ H2 kvs us → Q (us.map fun kv => (kV kv.1, kv.2)) H2) → tPairs (ps.map fun p => (T K tb p.1, T K tb p.2)) σ H Q
  | [], φ, ψ, H, ρ, m, m', kvs, Q, R, E, e, k => by
    cases e
    exact k φ H [] .refl R ⟨rfl, .nil⟩
  | (a, b) :: r, φ, ψ, H, ρ, m, m', kvs, Q, R, E, e, k => by
    obtain ⟨⟨w1, m1⟩, e1, e⟩ := bnd e
    obtain ⟨y, ey, e⟩ := bnd e
    obtain ⟨ky, ek, e⟩ := bnd e
    obtain ⟨⟨w2, m2⟩, e2, e⟩ := bnd e
    obtain ⟨z, ez, e⟩ := bnd e
    obtain ⟨⟨kr, m3⟩, e3, e⟩ := bnd e
    cases e
    show T K tb a σ H fun x H1 => T K tb b σ H1 fun y H2 => tPairs (r.map fun p => (T K tb p.1, T K tb p.2)) σ H2 fun ps H3 => Q ((x, y) :: ps) H3
    refine ⟨φ, ψ, ρ, m, w1, m1, R, E, e1, fun φ1 ψ1 H1 v P1 R1 V1 => ?_⟩
    have R1' := V1.rel R1
    have P1' := V1.post P1
    have hy := vl_rep (V1.s R1) ey
    have hv : v = kV ky := keyOf_v (.inl hy) ek
    refine ⟨φ1, ψ, ρ, m1, w2, m2, R1', E.mono P1' R, e2, fun φ2 ψ2 H2 u P2 R2 V2 => ?_⟩
    have R2' := V2.rel R2
    have P2' := V2.post P2
    have hz := vl_rep (V2.s R2) ez
    refine pairs_go r R2' ((E.mono P1' R).mono P2' R1') e3 fun φ3 H3 us P3 R3 pr => ?_
    rw [hv]
    exact k φ3 H3 ((ky, u) :: us) (P1'.trans (P2'.trans P3)) R3 (PR.cons rfl (hz.mono P3 R2') pr)
theorem puts_pr {K : FRG} {φ ψ : List Addr} {H : Hp} : ∀ {kvs : List (Key × D)} {us : List (Key × V)}, PR K φ ψ H kvs us → ∀ (acc : List (Key × D)) (vs : List (Key × V)), PR K φ ψ H acc vs → PR K φ ψ H (putsX kvs acc) (mergeK vs us)
  | [], [], _, _, _, h => h
  | [], _ :: _, h, _, _, _ => by have := h.len; simp at this
  | _ :: _, [], h, _, _, _ => by have := h.len; simp at this
  | (k, d) :: kvs, (k', v) :: us, h, acc, vs, ha => by
    obtain ⟨e1, e2, e3⟩ := h.uncons
    have e1' : k = k' := e1
    subst e1'
    exact puts_pr e3 _ _ (ha.put (k := k) e2)
theorem ex_disp {pos : Pos} {keys : List (Option Expr)} {values : List Expr} (ps : List (Ex × Ex)) (h : PPs X pos keys values (ps.map fun p => (T X.K tb p.1, T X.K tb p.2))) (hall : keys.all (·.isSome) = true) (hl : keys.length = values.length) (h0 : keys ≠ []) (h15 : keys.length ≤ 15) :
    PE X (.Dict keys values pos) (T X.K tb (eDisp ps)) := by
  refine pe_mono (pe_disp h hall hl h0 h15) fun σ H Q ⟨φ, ψ, ρ, m, w, m', R, E, e, k⟩ => ?_
  obtain ⟨⟨kvs, m1⟩, e1, e⟩ := bnd e
  simp only at e
  split at e
  · rename_i hk
    cases e
    intro p hp
    have np : p ∉ ψ := R.freshS hp
    have Pn : Post φ ψ H φ (p :: ψ) (upd H p (.dK [])) := Post.nw hp
    have Rn : Rel X.K tb φ (p :: ψ) (upd H p (.dK [])) m := R.nw hp
    refine pairs_go ps Rn (E.mono Pn R) e1 fun φ2 H2 us P2 R2 pr => ?_
    have hA : H2 p = some (.dK []) := (P2.frm p _ (Rn.ap p List.mem_cons_self) upd_same fun _ z => nomatch z).own List.mem_cons_self
    refine ⟨hA, us, rfl, by rw [← pr.len]; exact hk, ?_⟩
    have pp := puts_pr pr [] [] ⟨rfl, .nil⟩
    exact k φ2 (p :: ψ) _ _ (Post.sdw List.mem_cons_self (R2.ap p List.mem_cons_self) (R2.sd p List.mem_cons_self) (Pn.trans P2) hp) (R2.sdk List.mem_cons_self hA) ⟨p, .dk _, rfl, rfl, np, rfl, _, upd_same, pp.1, pp.2.sdk List.mem_cons_self hA⟩
  · cases e
end
end Pw
end
section
set_option Elab.async false
set_option linter.all false
set_option maxRecDepth 100000
set_option maxHeartbeats 2000000
namespace Pw
open PySem PySem.Spec PyProof.Rows L2 Pv
end Pw
end
section
set_option Elab.async false
set_option linter.all false
set_option maxRecDepth 100000
set_option maxHeartbeats 2000000
namespace Pw
open PySem PySem.Spec PyProof.Rows L2 Pv
section
variable {X : Cx} {tb : List Addr}
def rIsB (neg : Bool) : R2 := fun x y H Q => ∃ c, y = .bl c ∧ Q (.bl (decide (x = .bl c) != neg)) H
theorem same_b {M : Model} {A : Around} {E : Value → Shared → Prop} {s : Shared} {x : V} {u : Value} {c : Bool} {R : Bool → Shared → Prop} (r : RelV x u) (q : R (decide (x = .bl c)) s) : wpAny M A (isSame u (.bool c)) R E s := by
  have eq_ : ∀ {u : Value} {b : Bool}, plainIs u (.bool c) = true → (u == Value.bool c) = b → R b s → wpAny M A (isSame u (.bool c)) R E s := fun h1 h2 q => wpAny_isSame_plain h1 (by rw [h2]; exact q)
  cases x with
  | ref a => cases r; exact eq_ rfl rfl q
  | non => cases r; exact eq_ rfl rfl q
  | bl b => cases r; exact eq_ rfl (by cases b <;> cases c <;> rfl) q
  | int i => obtain ⟨t, rfl⟩ := r; exact eq_ rfl rfl q
  | str x => obtain ⟨t, rfl⟩ := r; exact eq_ rfl rfl q
  | byt x => obtain ⟨t, rfl⟩ := r; exact eq_ rfl rfl q
  | flt x => obtain ⟨t, rfl⟩ := r; exact eq_ rfl rfl q
  | ty n => cases r; exact eq_ rfl rfl q
theorem op_isB : OpR X (compareOp .Is) (rIsB false) := by
  intro pins s σ H x y v u Q I rx ry h
  obtain ⟨c, rfl, q⟩ := h
  cases ry
  show wpAny _ _ ((isSame v (Value.bool c)) >>= fun z => pure (Value.bool z)) _ _ s
  refine wpAny_bind (same_b rx (wpAny_pure (fin_bl I q ?_)))
  simp
def sameB : D → Bool → Bool
  | .bl b, c => b == c
  | _, _ => false
theorem sameB_v {K : FRG} {φ ψ : List Addr} {H : Hp} {d : D} {v : V} {c : Bool} (h : RepC K φ ψ H d v) : decide (v = .bl c) = sameB d c := by
  rcases h with h | ⟨a, mo, rfl, rfl, q⟩
  · cases h with
    | bl b => cases b <;> cases c <;> rfl
    | _ => exact decide_eq_false fun z => nomatch z
  · cases mo <;> exact decide_eq_false fun z => nomatch z
def isBD (neg : Bool) : D → D → Option W
  | d, .bl c => some (.v (.bl (sameB d c != neg)))
  | _, _ => none
theorem isB_s {neg : Bool} : OpS X.K tb (rIsB neg) (isBD neg) := fun φ ψ H m x y dx dy w Q R hx hy e k => by
  unfold isBD at e
  split at e
  · rename_i c
    cases e
    have := hy.bl
    subst this
    refine ⟨c, rfl, ?_⟩
    rw [sameB_v hx]
    exact Go.val k R (.bl _)
  · cases e
end
end Pw
end
section
set_option Elab.async false
set_option linter.all false
set_option maxRecDepth 100000
set_option maxHeartbeats 4000000
namespace Ls
open PySem L2 Pw Pv Lx
noncomputable def B_is_number : Sx := (sRet (eAnd (eIs .int (eVar 0)) (eNot (eIs .bool (eVar 0)))))
noncomputable def F_is_number : Fx := runF 1 1 B_is_number
section
variable {α : Type} {src : Ix} {t : Gx} {c : Tx} {f : Ex} {vs : List Nat} {ρ : Pw.Env} {m m1 : Mem}
theorem allL_map {xs : List D} (g : α → D) (val : α → Bool) {ρ : Pw.Env} {m : Mem} : ∀ (L : List α), (∀ a ∈ L, ∃ ρ1, t (g a) ρ = some ρ1 ∧ c ρ1 m = some (true, m) ∧ f ρ1 m = some (.v (.bl (val a)), m)) →
    allL true (.seq xs) xs t c f ρ (L.map g) m = some (L.all val, m)
  | [], _ => by simp [allL]
  | a :: L, h => by
    obtain ⟨ρ1, h1, h2, h3⟩ := h a List.mem_cons_self
    rw [List.map_cons]
    unfold allL
    rw [if_pos (by simp), h1]
    simp only [Option.bind_some, h2, h3, if_true]
    rw [allL_map g val L fun a ha => h a (List.mem_cons_of_mem _ ha), List.all_cons]
    cases val a <;> simp
theorem all_map (L : List α) (g : α → D) (val : α → Bool) (hs : src ρ m = some (.seq (L.map g), m1)) (h : ∀ a ∈ L, ∃ ρ1, t (g a) (wipeD ρ vs) = some ρ1 ∧ c ρ1 m1 = some (true, m1) ∧ f ρ1 m1 = some (.v (.bl (val a)), m1)) :
    eAll true src t c f vs ρ m = some (.v (.bl (L.all val)), m1) := by
  unfold eAll
  rw [hs]
  simp only [Option.bind_some, items_seq]
  rw [allL_map g val L h]
  rfl
end
section
variable {F : List Fo} {B : List Nw} {r : Rw} {day : Int} {m : Mem}
structure LineOk (F : List Fo) (B : List Nw) (r : Rw) (day : Int) (L : List Nat) : Prop where
  head : ∃ rest, L = r.founder.toNat :: rest
  lt : ∀ i ∈ L, i < F.length
  step : ∀ (i a b : Nat), L[i]? = some a → L[i + 1]? = some b → b ∈ stepsOf F B r day a
end
end Ls
end
section
set_option Elab.async false
set_option linter.all false
set_option maxRecDepth 100000
set_option maxHeartbeats 4000000
namespace Ls
open PySem L2 Pw Pv Lx
end Ls
end
section
set_option Elab.async false
set_option linter.all false
set_option maxRecDepth 100000
set_option maxHeartbeats 4000000
namespace Ls
open PySem L2 Pw Pv Lx
section
variable {F : List Fo} {B : List Nw} {r : Rw} {d1 d2 : Int} {m : Mem}
theorem days_up {who : Int} {word : Str} (h : d1 ≤ d2) {d : Int} (hd : d ∈ daysOf B d1 who word) : d ∈ daysOf B d2 who word := by
  unfold daysOf dayP at *
  obtain ⟨n, hn, rfl⟩ := List.mem_map.mp hd
  obtain ⟨h1, h2⟩ := List.mem_filter.mp hn
  simp at h2
  exact List.mem_map.mpr ⟨n, List.mem_filter.mpr ⟨h1, by simp [h2.1, h2.2.2]; omega⟩, rfl⟩
theorem days_down {who : Int} {word : Str} {d : Int} (hd : d ∈ daysOf B d2 who word) (h : d ≤ d1) : d ∈ daysOf B d1 who word := by
  unfold daysOf dayP at *
  obtain ⟨n, hn, rfl⟩ := List.mem_map.mp hd
  obtain ⟨h1, h2⟩ := List.mem_filter.mp hn
  simp at h2
  exact List.mem_map.mpr ⟨n, List.mem_filter.mpr ⟨h1, by simp [h2.1, h2.2.2, h]⟩, rfl⟩
theorem back_up (hB : ∀ n ∈ B, 0 ≤ n.day) {who : Int} (h : d1 ≤ d2) : backOf B d1 who ≤ backOf B d2 who := by
  unfold backOf
  rcases max_def (daysOf B d1 who "returns") (-1) with ⟨e1, e2⟩ | ⟨e1, e2⟩
  · rw [e2]
    rcases max_def (daysOf B d2 who "returns") (-1) with ⟨f1, f2⟩ | ⟨f1, f2⟩
    · rw [f2]; exact Int.le_refl _
    · unfold daysOf at f1
      obtain ⟨n, hn, e⟩ := List.mem_map.mp f1
      have := hB n (List.mem_filter.mp hn).1
      unfold daysOf
      omega
  · rcases max_def (daysOf B d2 who "returns") (-1) with ⟨f1, f2⟩ | ⟨f1, f2⟩
    · have := days_up (d2 := d2) h e1
      rw [f1] at this; cases this
    · exact f2 _ (days_up h e1)
theorem cut_up (hB : ∀ n ∈ B, 0 ≤ n.day) {who day : Int} (h : d1 ≤ d2) (hd : day ≤ d1) (h1 : cutFrom B d1 who = -1 ∨ day < cutFrom B d1 who) : cutFrom B d2 who = -1 ∨ day < cutFrom B d2 who := by
  unfold cutFrom at *
  rcases min_def (behind B d2 who "cuts") (-1) with ⟨e1, e2⟩ | ⟨e1, e2⟩
  · exact .inl e2
  · right
    generalize ((behind B d2 who "cuts").foldl bst_min none).getD (-1) = x at e1 e2
    unfold behind at e1
    obtain ⟨f1, f2⟩ := List.mem_filter.mp e1
    simp at f2
    by_cases hx : x ≤ d1
    · have b1 := back_up (who := who) hB h
      have mem : x ∈ behind B d1 who "cuts" := List.mem_filter.mpr ⟨days_down f1 hx, by simp; omega⟩
      rcases min_def (behind B d1 who "cuts") (-1) with ⟨g1, g2⟩ | ⟨g1, g2⟩
      · rw [g1] at mem; cases mem
      · have := g2 x mem
        have g0 : 0 ≤ ((behind B d1 who "cuts").foldl bst_min none).getD (-1) := by
          unfold behind at g1
          have g3 := (List.mem_filter.mp g1).1
          unfold daysOf at g3
          obtain ⟨n, hn, e⟩ := List.mem_map.mp g3
          have := hB n (List.mem_filter.mp hn).1
          unfold behind daysOf
          rw [← e]; exact this
        omega
    · omega
theorem found_up (hB : ∀ n ∈ B, 0 ≤ n.day) {who : Int} (h : d1 ≤ d2) {i : Nat} (hi : i ∈ foundOf F B r d1 who) : i ∈ foundOf F B r d2 who := by
  unfold foundOf at *
  obtain ⟨h1, h2⟩ := List.mem_filter.mp hi
  refine List.mem_filter.mpr ⟨h1, ?_⟩
  unfold ccP at *
  cases e : F[i]? with
  | none => rw [e] at h2; cases h2
  | some f =>
    rw [e] at h2
    simp only [Bool.and_eq_true, Bool.not_eq_true', Bool.or_eq_false_iff, Bool.or_eq_true, decide_eq_true_eq, decide_eq_false_iff_not] at h2 ⊢
    obtain ⟨⟨a1, a2⟩, a3⟩ := h2
    exact ⟨⟨by omega, a2⟩, cut_up hB h (by omega) a3⟩
theorem steps_up (hB : ∀ n ∈ B, 0 ≤ n.day) (h : d1 ≤ d2) {w i : Nat} (hi : i ∈ stepsOf F B r d1 w) : i ∈ stepsOf F B r d2 w := by
  unfold stepsOf at *
  split at hi
  · cases hi
  · rename_i hn
    rw [if_neg hn]
    split at hi
    · rename_i hf
      rw [if_pos hf]
      rcases List.mem_append.mp hi with z | z
      · obtain ⟨z1, z2⟩ := List.mem_filter.mp z
        exact List.mem_append.mpr (.inl (List.mem_filter.mpr ⟨found_up hB h z1, z2⟩))
      · obtain ⟨z1, z2⟩ := List.mem_filter.mp z
        exact List.mem_append.mpr (.inr (List.mem_filter.mpr ⟨found_up hB h z1, z2⟩))
    · rename_i hf
      rw [if_neg hf]
      exact found_up hB h hi
theorem LineOk.up (hB : ∀ n ∈ B, 0 ≤ n.day) (h : d1 ≤ d2) {L : List Nat} (hL : LineOk F B r d1 L) : LineOk F B r d2 L :=
  ⟨hL.head, hL.lt, fun i a b h1 h2 => steps_up hB h (hL.step i a b h1 h2)⟩
end
end Ls
end
section
set_option Elab.async false
set_option linter.all false
set_option maxRecDepth 100000
set_option maxHeartbeats 4000000
namespace Lm
open PySem L2 Pw Pv Lx
variable {F : List Fo} {B : List Nw} {r : Rw} {day : Int}
end Lm
end
section
set_option Elab.async false
set_option linter.all false
set_option maxRecDepth 100000
set_option maxHeartbeats 4000000
namespace Lm
open PySem L2 Pw Pv Lx Ls
theorem in_ints_aux {c : Int} : (∀ L : List Int, inV (.int c) (L.map V.int) = decide (c ∈ L)) ∧ ∀ L : List Int, (L.map D.int).mapM sc = some (L.map V.int) := by
  constructor
  · intro L
    induction L with
    | nil => rfl
    | cons a L ih =>
      have s : inV (.int c) ((a :: L).map V.int) = ((a == c) || inV (.int c) (L.map V.int)) := rfl
      rw [s, ih, Bool.eq_iff_iff]
      simp only [Bool.or_eq_true, beq_iff_eq, decide_eq_true_eq, List.mem_cons]
      constructor
      · rintro (h | h)
        · exact .inl h.symm
        · exact .inr h
      · rintro (h | h)
        · exact .inl h.symm
        · exact .inr h
  · intro L
    induction L with
    | nil => rfl
    | cons a L ih => rw [List.map_cons, List.mapM_cons, ih]; rfl
theorem in_tup {neg : Bool} {c : Int} {L : List Int} : inD neg (.int c) (.tup (L.map .int)) = some (.v (.bl (decide (c ∈ L) != neg))) := by
  obtain ⟨e, ms⟩ := in_ints_aux (c := c)
  unfold inD inB
  simp only [itmD, Option.bind_some, sc, ms, e]
end Lm
end
section
set_option Elab.async false
set_option linter.all false
set_option maxRecDepth 100000
set_option maxHeartbeats 2000000
namespace Pw
open PySem PySem.Spec PyProof.Rows L2 Pv
section
variable {X : Cx} {K : FRG} {tb : List Addr} {pos : Pos}
def popAtD : W → List W → Mem → Option (W × Mem)
  | .r n, [.v (.int i)], m => match m[n]? with
    | some (.lst ds) => if ds.length ≤ 1000000 then (ixN ds.length i).bind fun k => (ds[k]?).bind fun d => some (.v d, m.set n (.lst (ds.eraseIdx k))) else none
    | _ => none
  | _, _, _ => none
theorem Reps.erase {φ ψ : List Addr} {H : Hp} : ∀ {ds : List D} {vs : List V} (k : Nat), Reps K φ ψ H ds vs → Reps K φ ψ H (ds.eraseIdx k) (vs.eraseIdx k)
  | _, _, _, .nil => .nil
  | _, _, 0, .cons _ r => r
  | _, _, k + 1, .cons h r => .cons h (Reps.erase k r)
theorem popAt_s : MtS K tb rPopAt popAtD := fun φ ψ H m x vs w ws w' m' Q R hx r e k => by
  unfold popAtD at e
  split at e
  · split at e
    · rename_i ds hm
      split at e
      · rename_i hl
        obtain ⟨j, ej, e⟩ := bnd e
        obtain ⟨d, ed, e⟩ := bnd e
        cases e
        cases r with
        | cons h r =>
          cases r
          cases h
          obtain ⟨q, h1, rfl⟩ := hx
          obtain ⟨vs, hq, rl⟩ := R.obj _ _ q hm h1
          have hmem := List.mem_of_getElem? h1
          obtain ⟨v, ev, hv⟩ := rl.get ed
          obtain ⟨s1, s2, s3, s4⟩ := ixN_seq ej
          have P := Post.wr (ψ := ψ) (o := .lst (vs.eraseIdx j)) hmem (R.trk hmem)
          exact ⟨q, vs, _, j, v, rfl, rfl, hq, by omega, by omega, by rw [← rl.length]; exact s1, ev, k φ ψ _ _ P (R.wrL h1 (rl.erase j)) ⟨rfl, hv.mono P R⟩⟩
      · cases e
    · cases e
  · cases e
theorem ex_popAt {o a : Expr} {fo : Ex} {f : Ax} {apos cpos : Pos} {es : List Expr} (ho : PE X o (T X.K tb fo)) (ha : PA X (a :: es) (Ta X.K tb f))
    (hbase : attributeBase o "pop" X.env (eval o X.env) = eval o X.env := by rfl)
    (hfew : ((backTo cpos (starEach (a :: es) X.env)).all (fun x => !x.1) && (backToKw cpos (keywordEach [] X.env)).all (fun x => x.1.isSome)
      && decide ((a :: es).length + ([] : List Keyword).length + (if ([] : List Keyword).isEmpty then 0 else 1) < 30)) = true := by rfl)
    (hline : (apos.endLine == cpos.line) = true := by rfl) (hst : starEach (a :: es) X.env = (false, eval a X.env) :: starEach es X.env := by rfl) (hplain : (backTo cpos (starEach es X.env)).any (·.1) = false := by rfl) :
    PE X (.Call (.Attribute o "pop" apos) (a :: es) [] cpos) (T X.K tb (eMt isLst popAtD fo f)) :=
  ex_mt (fun φ ψ H m d v R h e => isLst_ty R h e) popAt_s PySem.F.plainAttrs_list PySem.F.slot_list_pop PySem.F.type_list_pop mt_popAt ho ha hbase hfew hline hst hplain
def rgD (a b : Int) : List D := (List.range (b - a).toNat).map fun i => D.int (a + (i : Nat))
theorem reps_rg {φ ψ : List Addr} {H : Hp} (a b : Int) : Reps K φ ψ H (rgD a b) (rgV a b) := by
  have e1 : rgD a b = ((List.range (b - a).toNat).map fun i : Nat => a + (i : Int)).map D.int := by unfold rgD; rw [List.map_map]; rfl
  have e2 : rgV a b = ((List.range (b - a).toNat).map fun i : Nat => a + (i : Int)).map V.int := by unfold rgV; rw [List.map_map]; rfl
  rw [e1, e2]
  exact reps_ints _
def lrg2D : D → D → Option W
  | .int a, .int b => if 0 ≤ a ∧ a ≤ 1000000 ∧ 0 ≤ b ∧ b ≤ 1000000 then some (.f (.lst (rgD a b))) else none
  | _, _ => none
theorem ex_lrg2 {a b : Expr} {fa fb : Ex} {p p2 q : Pos} (hc : X.calm = true) (hg : Gl X "list") (hm : X.mg "list" = none) (hg2 : Gl X "range") (hm2 : X.mg "range" = none) (ha : PE X a (T X.K tb fa)) (hb : PE X b (T X.K tb fb))
    (h1 : starEach [a, b] X.env = (false, eval a X.env) :: starEach [b] X.env := by rfl) (h3 : starEach [b] X.env = (false, eval b X.env) :: starEach [] X.env := by rfl) (h4 : (backTo q (starEach [b] X.env)).any (·.1) = false := by rfl)
    (h2 : starEach [.Call (.Name "range" p2) [a, b] [] q] X.env = (false, eval (.Call (.Name "range" p2) [a, b] [] q) X.env) :: starEach [] X.env := by rfl) :
    PE X (.Call (.Name "list" p) [.Call (.Name "range" p2) [a, b] [] q] [] pos) (T X.K tb (eOp lrg2D fa fb)) := by
  refine pe_mono (pe_listRg hc hg hm (prg_2 hg2 hm2 ha hb h1 h3 h4) h2) fun σ H Q ⟨φ, ψ, ρ, m, w, m', R, E, e, k⟩ => ?_
  obtain ⟨⟨w1, m1⟩, e1, e⟩ := bnd e
  obtain ⟨⟨w2, m2⟩, e2, e⟩ := bnd e
  obtain ⟨x, ex, e⟩ := bnd e
  obtain ⟨y, ey, e⟩ := bnd e
  obtain ⟨w3, eg, e⟩ := bnd e
  cases e
  refine ⟨φ, ψ, ρ, m, w1, m1, R, E, e1, fun φ1 ψ1 H1 xv P1 R1 V1 => ⟨φ1, ψ, ρ, m1, w2, _, V1.rel R1, E.mono (V1.post P1) R, e2, fun φ2 ψ2 H2 yv P2 R2 V2 => ?_⟩⟩
  have R2' := V2.rel R2
  have P2' := V2.post P2
  have C1 := gt_c R2' ((V1.s R1).mono P2' (V1.rel R1)) ex
  have C2 := gt_c R2' (V2.s R2) ey
  have kk : Go X.K tb φ2 ψ H2 m2 w Q := fun φ3 ψ3 H3 v P3 R3 V3 => k φ3 ψ3 H3 v ((V1.post P1).trans (P2'.trans P3)) R3 V3
  have eg : lrg2D x y = some w := eg
  unfold lrg2D at eg
  split at eg
  · split at eg
    · rename_i i j _ _ hn
      cases eg
      exact ⟨i, j, C1.int, C2.int, RgOk.of_le (by omega) (by omega) (by omega) (by omega), fun p hp => Go.lst kk R2' (reps_rg i j) hp⟩
    · cases eg
  · cases eg
end
end Pw
end
section
set_option Elab.async false
set_option linter.all false
set_option maxRecDepth 100000
set_option maxHeartbeats 2000000
namespace Lq
open PySem L2 Pw Pv Lx Ls
mutual
def gd : Nat → D → Bool
  | _, .int _ => true
  | _, .str x => PyData.strOk x
  | n, .tup ds => decide (0 < n) && gds (n - 1) ds
  | n, .lst ds => decide (0 < n) && gds (n - 1) ds
  | _, .non => false
  | _, .bl _ => false
  | _, .fl _ => false
  | _, .tx _ => false
  | _, .dk _ => false
  | _, .dt _ => false
  | _, .rl _ _ => false
def gds : Nat → List D → Bool
  | _, [] => true
  | n, d :: ds => gd n d && gds n ds
end
mutual
theorem gd_py : ∀ (n : Nat) (d : D), gd n d = true → ∃ p, pyD d = some p ∧ PyData.canLay0 p = true ∧ PyData.depth p ≤ n
  | n, .int i, _ => ⟨.int i, by rw [pyD], rfl, Nat.zero_le _⟩
  | n, .str x, h => ⟨.str x, by rw [pyD], by rw [gd] at h; exact h, Nat.zero_le _⟩
  | n, .tup ds, h => by
    rw [gd, Bool.and_eq_true] at h
    obtain ⟨ps, e, c, dp⟩ := gds_py (n - 1) ds h.2
    have := of_decide_eq_true h.1
    exact ⟨.tuple ps, by rw [pyD, e]; rfl, c, by rw [PyData.depth]; omega⟩
  | n, .lst ds, h => by
    rw [gd, Bool.and_eq_true] at h
    obtain ⟨ps, e, c, dp⟩ := gds_py (n - 1) ds h.2
    have := of_decide_eq_true h.1
    exact ⟨.list ps, by rw [pyD, e]; rfl, c, by rw [PyData.depth]; omega⟩
  | n, .non, h => by rw [gd] at h; cases h
  | n, .bl _, h => by rw [gd] at h; cases h
  | n, .fl _, h => by rw [gd] at h; cases h
  | n, .tx _, h => by rw [gd] at h; cases h
  | n, .dk _, h => by rw [gd] at h; cases h
  | n, .dt _, h => by rw [gd] at h; cases h
  | n, .rl _ _, h => by rw [gd] at h; cases h
theorem gds_py : ∀ (n : Nat) (ds : List D), gds n ds = true → ∃ ps, pyDs ds = some ps ∧ PyData.canLayAll0 ps = true ∧ PyData.depthAll ps ≤ n
  | n, [], _ => ⟨[], by rw [pyDs], rfl, Nat.zero_le _⟩
  | n, d :: ds, h => by
    rw [gds, Bool.and_eq_true] at h
    obtain ⟨p, e, c, dp⟩ := gd_py n d h.1
    obtain ⟨ps, e', c', dp'⟩ := gds_py n ds h.2
    exact ⟨p :: ps, by rw [pyDs, e, e']; rfl, by rw [PyData.canLayAll0, c, c']; rfl, by rw [PyData.depthAll]; omega⟩
end
mutual
theorem gd_same : ∀ (d : D) (n : Nat) (p : PyData), gd n d = true → pyD d = some p → PyData.eqv p p = true
  | .int i, n, p, _, e => by rw [pyD] at e; cases e; rw [PyData.eqv]; exact beq_self_eq_true i
  | .str x, n, p, _, e => by rw [pyD] at e; cases e; rw [PyData.eqv]; exact beq_self_eq_true x
  | .tup ds, n, p, h, e => by
    rw [gd, Bool.and_eq_true] at h
    rw [pyD] at e
    obtain ⟨ps, e1, e⟩ := bnd e
    cases e
    rw [PyData.eqv]
    exact gds_same ds _ ps h.2 e1
  | .lst ds, n, p, h, e => by
    rw [gd, Bool.and_eq_true] at h
    rw [pyD] at e
    obtain ⟨ps, e1, e⟩ := bnd e
    cases e
    rw [PyData.eqv]
    exact gds_same ds _ ps h.2 e1
  | .non, n, p, h, e => by rw [gd] at h; cases h
  | .bl _, n, p, h, e => by rw [gd] at h; cases h
  | .fl _, n, p, h, e => by rw [gd] at h; cases h
  | .tx _, n, p, h, e => by rw [gd] at h; cases h
  | .dk _, n, p, h, e => by rw [gd] at h; cases h
  | .dt _, n, p, h, e => by rw [gd] at h; cases h
  | .rl _ _, n, p, h, e => by rw [gd] at h; cases h
theorem gds_same : ∀ (ds : List D) (n : Nat) (ps : List PyData), gds n ds = true → pyDs ds = some ps → PyData.eqvAll ps ps = true
  | [], n, ps, _, e => by rw [pyDs] at e; cases e; rfl
  | d :: ds, n, ps, h, e => by
    rw [gds, Bool.and_eq_true] at h
    rw [pyDs] at e
    obtain ⟨p, e1, e⟩ := bnd e
    obtain ⟨qs, e2, e⟩ := bnd e
    cases e
    rw [PyData.eqvAll, gd_same d n p h.1 e1, gds_same ds n qs h.2 e2]; rfl
end
mutual
theorem gd_is : ∀ (d e : D) (n k : Nat) (p q : PyData), gd n d = true → gd k e = true → pyD d = some p → pyD e = some q → PyData.eqv p q = true → d = e
  | .int i, e, n, k, p, q, _, h, e1, e2, z => by
    rw [pyD] at e1; cases e1
    cases e <;> first | (rw [gd] at h; cases h; done) | (rw [pyD] at e2; first | (cases e2; rw [PyData.eqv] at z; first | (cases z; done) | (rw [beq_iff_eq.mp z])) | (obtain ⟨ps, _, e2⟩ := bnd e2; cases e2; rw [PyData.eqv] at z; cases z))
  | .str i, e, n, k, p, q, _, h, e1, e2, z => by
    rw [pyD] at e1; cases e1
    cases e <;> first | (rw [gd] at h; cases h; done) | (rw [pyD] at e2; first | (cases e2; rw [PyData.eqv] at z; first | (cases z; done) | (rw [beq_iff_eq.mp z])) | (obtain ⟨ps, _, e2⟩ := bnd e2; cases e2; rw [PyData.eqv] at z; cases z))
  | .tup ds, e, n, k, p, q, g, h, e1, e2, z => by
    rw [pyD] at e1
    obtain ⟨ps, e9, e3⟩ := bnd e1
    cases e3
    rw [gd, Bool.and_eq_true] at g
    cases e with
    | tup es =>
      rw [pyD] at e2
      obtain ⟨qs, e8, e3⟩ := bnd e2
      cases e3
      rw [gd, Bool.and_eq_true] at h
      rw [PyData.eqv] at z
      rw [gds_is ds es _ _ ps qs g.2 h.2 e9 e8 z]
    | lst es =>
      rw [pyD] at e2
      obtain ⟨qs, e2, e3⟩ := bnd e2
      cases e3
      rw [PyData.eqv] at z; cases z
    | int i => rw [pyD] at e2; cases e2; rw [PyData.eqv] at z; cases z
    | str i => rw [pyD] at e2; cases e2; rw [PyData.eqv] at z; cases z
    | _ => rw [gd] at h; cases h
  | .lst ds, e, n, k, p, q, g, h, e1, e2, z => by
    rw [pyD] at e1
    obtain ⟨ps, e9, e3⟩ := bnd e1
    cases e3
    rw [gd, Bool.and_eq_true] at g
    cases e with
    | lst es =>
      rw [pyD] at e2
      obtain ⟨qs, e8, e3⟩ := bnd e2
      cases e3
      rw [gd, Bool.and_eq_true] at h
      rw [PyData.eqv] at z
      rw [gds_is ds es _ _ ps qs g.2 h.2 e9 e8 z]
    | tup es =>
      rw [pyD] at e2
      obtain ⟨qs, e2, e3⟩ := bnd e2
      cases e3
      rw [PyData.eqv] at z; cases z
    | int i => rw [pyD] at e2; cases e2; rw [PyData.eqv] at z; cases z
    | str i => rw [pyD] at e2; cases e2; rw [PyData.eqv] at z; cases z
    | _ => rw [gd] at h; cases h
  | .non, e, n, k, p, q, h, _, e1, e2, z => by rw [gd] at h; cases h
  | .bl _, e, n, k, p, q, h, _, e1, e2, z => by rw [gd] at h; cases h
  | .fl _, e, n, k, p, q, h, _, e1, e2, z => by rw [gd] at h; cases h
  | .tx _, e, n, k, p, q, h, _, e1, e2, z => by rw [gd] at h; cases h
  | .dk _, e, n, k, p, q, h, _, e1, e2, z => by rw [gd] at h; cases h
  | .dt _, e, n, k, p, q, h, _, e1, e2, z => by rw [gd] at h; cases h
  | .rl _ _, e, n, k, p, q, h, _, e1, e2, z => by rw [gd] at h; cases h
theorem gds_is : ∀ (ds es : List D) (n k : Nat) (ps qs : List PyData), gds n ds = true → gds k es = true → pyDs ds = some ps → pyDs es = some qs → PyData.eqvAll ps qs = true → ds = es
  | [], es, n, k, ps, qs, g, h, e1, e2, z => by
    rw [pyDs] at e1; cases e1
    cases es with
    | nil => rfl
    | cons e es =>
      rw [pyDs] at e2
      obtain ⟨p, e3, e2⟩ := bnd e2
      obtain ⟨ps, e4, e2⟩ := bnd e2
      cases e2
      rw [PyData.eqvAll] at z; cases z
  | d :: ds, es, n, k, ps, qs, g, h, e1, e2, z => by
    rw [pyDs] at e1
    obtain ⟨p, e3, e1⟩ := bnd e1
    obtain ⟨ps', e4, e1⟩ := bnd e1
    cases e1
    rw [gds, Bool.and_eq_true] at g
    cases es with
    | nil => rw [pyDs] at e2; cases e2; rw [PyData.eqvAll] at z; cases z
    | cons e es =>
      rw [pyDs] at e2
      obtain ⟨q, e5, e2⟩ := bnd e2
      obtain ⟨qs', e6, e2⟩ := bnd e2
      cases e2
      rw [gds, Bool.and_eq_true] at h
      rw [PyData.eqvAll, Bool.and_eq_true] at z
      rw [gd_is d e n k p q g.1 h.1 e3 e5 z.1, gds_is ds es n k ps' qs' g.2 h.2 e4 e6 z.2]
end
theorem eq_same {neg : Bool} {n : Nat} {d : D} (g : gd n d = true) (hn : n ≤ 64) (hs : sc d = none) : eqD neg d d = some (.v (.bl (!neg))) := by
  obtain ⟨p, e, c, dp⟩ := gd_py n d g
  have sh : SeqAt.shaped p = true := by
    unfold SeqAt.shaped
    rw [c, Bool.true_and]
    exact decide_eq_true (by omega)
  have q := gd_same d n p g e
  unfold eqD eqB
  rw [hs]
  simp [e, sh, q]
theorem eq_not {neg : Bool} {n k : Nat} {d e : D} (g : gd n d = true) (h : gd k e = true) (hn : n ≤ 64) (hk : k ≤ 64) (hs : sc d = none) (ne : d ≠ e) : eqD neg d e = some (.v (.bl neg)) := by
  obtain ⟨p, e1, c, dp⟩ := gd_py n d g
  obtain ⟨q, e2, c', dp'⟩ := gd_py k e h
  have sh : SeqAt.shaped p = true := by
    unfold SeqAt.shaped
    rw [c, Bool.true_and]
    exact decide_eq_true (by omega)
  have sh' : SeqAt.shaped q = true := by
    unfold SeqAt.shaped
    rw [c', Bool.true_and]
    exact decide_eq_true (by omega)
  have z : PyData.eqv p q = false := by
    cases z : PyData.eqv p q with
    | false => rfl
    | true => exact absurd (gd_is d e n k p q g h e1 e2 z) ne
  unfold eqD eqB
  rw [hs]
  simp [e1, e2, sh, sh', z]
theorem gds_all {n : Nat} : ∀ {ds : List D}, (∀ d ∈ ds, gd n d = true) → gds n ds = true
  | [], _ => by rw [gds]
  | d :: ds, h => by
    rw [gds, h d List.mem_cons_self, gds_all fun e he => h e (List.mem_cons_of_mem _ he)]; rfl
theorem gds_map {α : Type} {n : Nat} {f : α → D} {L : List α} (h : ∀ a ∈ L, gd n (f a) = true) : gds n (L.map f) = true := gds_all fun d hd => by
  obtain ⟨a, ha, rfl⟩ := List.mem_map.mp hd
  exact h a ha
theorem gd_i {n : Nat} {i : Int} : gd n (.int i) = true := by rw [gd]
theorem gd_l {n : Nat} {ds : List D} (h : gds n ds = true) : gd (n + 1) (.lst ds) = true := by rw [gd]; simpa using h
abbrev tI (xs : List Int) : D := .tup (xs.map .int)
abbrev lI (xs : List Int) : D := .lst (xs.map .int)
theorem gd_li {n : Nat} {xs : List Int} : gd (n + 1) (lI xs) = true := gd_l (gds_map fun _ _ => gd_i)
theorem map_inj {xs ys : List Int} (h : xs.map D.int = ys.map D.int) : xs = ys := by
  induction xs generalizing ys with
  | nil => cases ys with
    | nil => rfl
    | cons y ys => cases h
  | cons x xs ih => cases ys with
    | nil => cases h
    | cons y ys =>
      rw [List.map_cons, List.map_cons] at h
      injection h with h1 h2
      injection h1 with h1
      rw [h1, ih h2]
theorem eq_li {neg : Bool} {xs ys : List Int} : eqD neg (lI xs) (lI ys) = some (.v (.bl (decide (xs = ys) != neg))) := by
  by_cases h : xs = ys
  · subst h
    rw [eq_same (gd_li (n := 0)) (by decide) rfl]; simp
  · rw [eq_not (gd_li (n := 0)) (gd_li (n := 0)) (by decide) (by decide) rfl fun z => h (map_inj (by injection z)), decide_eq_false h]; simp
end Lq
end
section
set_option Elab.async false
set_option linter.all false
set_option maxRecDepth 100000
set_option maxHeartbeats 2000000
namespace Lq
open PySem L2 Pw Pv Lx Ls
noncomputable def L_drawn_order_1 : Sx := (sDrop (eMt isLst appD (eVar 4) (aCons (eMt isLst popAtD (eVar 3) (aCons (eCall F_take (aCons (eVar 0) (aCons (eCB lenD (aCons (eVar 3) aNil)) aNil))) aNil)) aNil)))
noncomputable def B_pool : Sx := (sSeq (sSet 1 (eOp ixD (eLst (aCons (eC (.int 8)) (aCons (eC (.int 12)) (aCons (eC (.int 61)) (aCons (eC (.int 61)) aNil))))) (eCall F_take (aCons (eVar 0) (aCons (eC (.int 4)) aNil))))) (sRet (eOp ixD (eLst (aCons (eUn lrgD (eVar 1)) (aCons (eOp lrg2D (eOp subD (eC (.int 61)) (eVar 1)) (eC (.int 61))) aNil))) (eCall F_take (aCons (eVar 0) (aCons (eC (.int 2)) aNil))))))
noncomputable def F_pool : Fx := runF 1 2 B_pool
section
variable {ns : List Int} {s : Lx.St} {m : Mem}
theorem at_p1 {x A B : MO} : (x :: (m ++ [A, B]))[m.length + 1]? = some A := by simp
theorem at_p2 {x A B : MO} : (x :: (m ++ [A, B]))[m.length + 2]? = some B := by
  rw [List.getElem?_cons_succ, List.getElem?_append_right (by omega)]; simp
theorem set_p1 {x A B C : MO} : (x :: (m ++ [A, B])).set (m.length + 1) C = x :: (m ++ [C, B]) := by simp
theorem set_p2 {x A B C : MO} : (x :: (m ++ [A, B])).set (m.length + 2) C = x :: (m ++ [A, C]) := by
  rw [List.set_cons_succ, List.set_append_right _ _ (by omega)]; simp
theorem map_erase {α β : Type} (f : α → β) : ∀ (xs : List α) (k : Nat), (xs.map f).eraseIdx k = (xs.eraseIdx k).map f
  | [], _ => rfl
  | _ :: _, 0 => rfl
  | x :: xs, k + 1 => by rw [List.map_cons, List.eraseIdx_cons_succ, List.eraseIdx_cons_succ, List.map_cons, map_erase f xs k]
theorem erase_perm {α : Type} : ∀ (l : List α) (j : Nat) (h : j < l.length), (l[j] :: l.eraseIdx j).Perm l
  | [], j, h => by simp at h
  | a :: l, 0, h => List.Perm.refl _
  | a :: l, j + 1, h => by
    have h' : j < l.length := by simpa using h
    show (l[j] :: a :: l.eraseIdx j).Perm (a :: l)
    exact (List.Perm.swap a l[j] (l.eraseIdx j)).trans ((erase_perm l j h').cons a)
theorem ix_nat {n k : Nat} (h : k < n) : ixN n (k : Int) = some k := by
  unfold ixN
  rw [if_pos (by omega), if_pos (by omega)]; simp
abbrev dEnv (pool : D) (many : Int) (m : Mem) (x : Option W) : Pw.Env := [some (.r 0), some (.v pool), some (.v (.int many)), some (.r (m.length + 1)), some (.r (m.length + 2)), x]
theorem drawn_turn {pool : D} {many i : Int} {left found : List Int} (h0 : 0 < left.length) (h1 : left.length ≤ 1000) (h2 : found.length ≤ 1000) :
    ∃ (j : Nat) (s' : Lx.St), ∃ hj : j < left.length, L_drawn_order_1 (dEnv pool many m (some (.v (.int i)))) (stD ns s :: (m ++ [.lst (left.map .int), .lst (found.map .int)])) =
      some (.nx, dEnv pool many m (some (.v (.int i))), stD ns s' :: (m ++ [.lst ((left.eraseIdx j).map .int), .lst ((found ++ [left[j]]).map .int)])) := by
  have lo := tk_lo (ns := ns) (s := s) (b := left.length)
  have hi := tk_hi (ns := ns) (s := s) (b := left.length) (by omega) (by omega)
  obtain ⟨j, hj⟩ := Int.eq_ofNat_of_zero_le lo
  have hjl : j < left.length := by omega
  have ej : (left.map D.int)[j]? = some (.int left[j]) := by rw [List.getElem?_map, List.getElem?_eq_getElem hjl]; rfl
  refine ⟨j, (tk ns s left.length).2, hjl, ?_⟩
  have te := take_eq (ns := ns) (s := s) (b := left.length) (m := m ++ [.lst (left.map .int), .lst (found.map .int)]) (by omega) (by omega)
  rw [hj] at te
  have hp : popAtD (.r (m.length + 1)) [.v (.int (j : Int))] (stD ns (tk ns s left.length).2 :: (m ++ [.lst (left.map .int), .lst (found.map .int)])) = some (.v (.int left[j]), stD ns (tk ns s left.length).2 :: (m ++ [.lst ((left.eraseIdx j).map .int), .lst (found.map .int)])) := by
    unfold popAtD
    simp only [at_p1, List.length_map, if_pos (show left.length ≤ 1000000 by omega), ix_nat hjl, Option.bind_some, ej, set_p1, map_erase]
  have l1 : isLst (.r (m.length + 1)) (stD ns s :: (m ++ [.lst (left.map .int), .lst (found.map .int)])) = true := by rw [isl_r, at_p1]
  have l2 : isLst (.r (m.length + 2)) (stD ns s :: (m ++ [.lst (left.map .int), .lst (found.map .int)])) = true := by rw [isl_r, at_p2]
  have ha : appD (.r (m.length + 2)) [.v (.int left[j])] (stD ns (tk ns s left.length).2 :: (m ++ [.lst ((left.eraseIdx j).map .int), .lst (found.map .int)])) = some (.v .non, stD ns (tk ns s left.length).2 :: (m ++ [.lst ((left.eraseIdx j).map .int), .lst ((found ++ [left[j]]).map .int)])) := by
    rw [app_r, at_p2]
    simp only [vl_v, Option.bind_some, List.length_map, if_pos (show found.length < 1000000 by omega), set_p2, List.map_append, List.map_cons, List.map_nil]
  have g1 : gt (.r (m.length + 1)) (stD ns s :: (m ++ [.lst (left.map .int), .lst (found.map .int)])) = some (.lst (left.map .int)) := by rw [gt_r, at_p1]; rfl
  simp [L_drawn_order_1, sDrop, eMt, eVar, aCons, aNil, eCall, eCB, l1, l2, g1, te, hp, ha, -gt_r, -isl_r, -app_r]
theorem cut_to {α : Type} {n : Nat} {k : Int} (h0 : 0 ≤ k) (h : k ≤ n) : HT.sIx n n (some k) = k.toNat := by
  unfold HT.sIx
  simp only
  split <;> omega
theorem cut_take {ds : List D} {k : Int} (h0 : 0 ≤ k) (h : k ≤ ds.length) : cutD ds none (some k) = ds.take k.toNat := by
  unfold cutD
  rw [cut_to (α := D) h0 h]
  simp [HT.sIx]
end
end Lq
end
section
set_option Elab.async false
set_option linter.all false
set_option maxRecDepth 100000
set_option maxHeartbeats 2000000
namespace Lq
open PySem L2 Pw Pv Lx Ls
section
variable {ns : List Int} {s : Lx.St} {m : Mem}
structure Ord (P A : List Int) : Prop where
  nd : A.Nodup
  sub : ∀ x ∈ A, x ∈ P
  len : A.length ≤ 200
theorem rg_list (a b : Int) : rgD a b = ((List.range (b - a).toNat).map fun i : Nat => a + (i : Int)).map D.int := by unfold rgD; rw [List.map_map]; rfl
theorem rg_nd (a : Int) (n : Nat) : ((List.range n).map fun i : Nat => a + (i : Int)).Nodup := by
  rw [List.nodup_iff_pairwise_ne, List.pairwise_map]
  exact (List.nodup_iff_pairwise_ne.mp (List.nodup_range (n := n))).imp fun h z => h (by omega)
theorem pool_spec (m : Mem) : ∃ (P : List Int) (s' : Lx.St), F_pool [.r 0] (stD ns s :: m) = some (.v (lI P), stD ns s' :: m) ∧ P.Nodup ∧ (∀ x ∈ P, 0 ≤ x ∧ x ≤ 60) ∧ 8 ≤ P.length ∧ P.length ≤ 61 := by
  obtain ⟨x, hx, ex⟩ := pick_ex ns s 4 [.int 8, .int 12, .int 61, .int 61] rfl (by decide) (by decide)
  obtain ⟨z, rfl, hz⟩ : ∃ z : Int, x = .int z ∧ 8 ≤ z ∧ z ≤ 61 := by
    simp only [List.mem_cons, List.not_mem_nil, or_false] at hx
    rcases hx with h | h | h | h <;> exact ⟨_, h, by decide⟩
  have e1 : lrgD (.int z) = some (.f (lI ((List.range z.toNat).map fun i : Nat => 0 + (i : Int)))) := by
    show (if 0 ≤ z ∧ z ≤ 1000000 then some (W.f (D.lst ((List.range z.toNat).map fun i : Nat => D.int (i : Int)))) else none) = _
    rw [if_pos (by omega)]
    simp [List.map_map, Function.comp_def]
  have e2 : lrg2D (.int (61 - z)) (.int 61) = some (.f (lI ((List.range z.toNat).map fun i : Nat => (61 - z) + (i : Int)))) := by
    show (if 0 ≤ (61 - z) ∧ (61 - z) ≤ 1000000 ∧ (0 : Int) ≤ 61 ∧ (61 : Int) ≤ 1000000 then some (W.f (D.lst (rgD (61 - z) 61))) else none) = _
    rw [if_pos (by omega), rg_list, show (61 - (61 - z) : Int).toNat = z.toNat by omega]
  have t1 := take_eq (ns := ns) (s := s) (b := 4) (m := m) (by decide) (by decide)
  have t2 := take_eq (ns := ns) (s := (tk ns s 4).2) (b := 2) (m := m) (by decide) (by decide)
  have key : ∀ P1 P2 : List Int, lrgD (.int z) = some (.f (lI P1)) → lrg2D (.int (61 - z)) (.int 61) = some (.f (lI P2)) → ∃ P, (P = P1 ∨ P = P2) ∧ F_pool [.r 0] (stD ns s :: m) = some (.v (lI P), stD ns (tk ns (tk ns s 4).2 2).2 :: m) := by
    intro P1 P2 e1 e2
    obtain ⟨y, hy, ey⟩ := pick_ex ns (tk ns s 4).2 2 [lI P1, lI P2] rfl (by simp) (by simp)
    have fin : ∀ P, y = lI P → F_pool [.r 0] (stD ns s :: m) = some (.v (lI P), stD ns (tk ns (tk ns s 4).2 2).2 :: m) := fun P hP => by
      rw [hP] at ey
      simp [F_pool, runF, B_pool, startD, sSeq, sSet, eOp, eLst, aCons, aNil, eC, eVar, eCall, t1, t2, ex, eUn, e1, e2, sRet, ey]
    simp only [List.mem_cons, List.not_mem_nil, or_false] at hy
    rcases hy with h | h
    · exact ⟨P1, .inl rfl, fin _ h⟩
    · exact ⟨P2, .inr rfl, fin _ h⟩
  obtain ⟨P, hP, e⟩ := key _ _ e1 e2
  rcases hP with h | h <;> subst h
  · refine ⟨_, _, e, rg_nd 0 _, fun x hx => ?_, by simp; omega, by simp; omega⟩
    obtain ⟨i, hi, rfl⟩ := List.mem_map.mp hx
    have := List.mem_range.mp hi
    omega
  · refine ⟨_, _, e, rg_nd _ _, fun x hx => ?_, by simp; omega, by simp; omega⟩
    obtain ⟨i, hi, rfl⟩ := List.mem_map.mp hx
    have := List.mem_range.mp hi
    omega
theorem ord_of {P xs ys rest : List Int} (hp : (ys ++ rest).Perm xs) (hn : xs.Nodup) (hs : ∀ x ∈ xs, x ∈ P) (hl : xs.length ≤ 200) : Ord P ys := by
  have n := hp.nodup_iff.mpr hn
  have l := hp.length_eq
  rw [List.length_append] at l
  exact ⟨(List.nodup_append.mp n).1, fun x hx => hs x (hp.mem_iff.mp (List.mem_append_left _ hx)), by omega⟩
theorem Ord.take {P A : List Int} (h : Ord P A) (k : Nat) : Ord P (A.take k) :=
  ⟨h.nd.sublist (List.take_sublist k A), fun x hx => h.sub x (List.mem_of_mem_take hx), by rw [List.length_take]; have := h.len; omega⟩
end
end Lq
end
section
set_option Elab.async false
set_option linter.all false
set_option maxRecDepth 100000
set_option maxHeartbeats 2000000
namespace Pv
open PySem PySem.Spec PyProof.Rows L2
end Pv
end
section
set_option Elab.async false
set_option linter.all false
set_option maxRecDepth 100000
set_option maxHeartbeats 2000000
namespace Pw
open PySem PySem.Spec PyProof.Rows L2 Pv
end Pw
end
section
set_option Elab.async false
set_option linter.all false
set_option maxRecDepth 100000
set_option maxHeartbeats 2000000
namespace Pw
open PySem PySem.Spec PyProof.Rows L2 Pv
def gTL (gs : List Gx) : Gx := fun d ρ => match d with
  | .tup ds => gL gs ds ρ
  | .lst ds => gL gs ds ρ
  | .fl ds => gL gs ds ρ
  | _ => none
abbrev gTorL (K : FRG) (n : Nat) (gs : TGs) : TG := fun v σ H Q => gTup K n gs v σ H Q ∨ gUnl K n gs v σ H Q
theorem tg_tl {K : FRG} {tb : List Addr} {gs : TGs} {ts : List Gx} {n : Nat} (hn : ts.length = n) (h : TgsS K tb gs ts) : TgS K tb (gTorL K n gs) (gTL ts) := fun φ ψ H m ρ σ d v ρ' Q R E V e k => by
  cases V with
  | tup hq r => exact .inl ⟨_, _, rfl, hq.1, by rw [← r.length, gL_len e]; exact hn, h φ ψ H m ρ σ _ _ ρ' Q R E r e k⟩
  | fl hq r => exact .inr ⟨_, _, rfl, hq.sq, by rw [← r.length, gL_len e]; exact hn, h φ ψ H m ρ σ _ _ ρ' Q R E r e k⟩
  | lst h1 h2 hq r => exact .inr ⟨_, _, rfl, SqL.of hq, by rw [← r.length, gL_len e]; exact hn, h φ ψ H m ρ σ _ _ ρ' Q R E r e k⟩
  | _ => cases e
theorem pg_tl {X : Cx} {pos : Pos} {es : List Expr} {k : Nat} {t : TGs} {n : Nat} (hc : X.calm = true) (h : PGs X es t)
    (hn : (assignEach es X.env).length = n := by rfl) (hst : (assignEach es X.env).findIdx? (·.1) = none := by rfl) : PG X (.Tuple es k pos) (gTorL X.K n t) :=
  ⟨fun pins s σ H v u Q I r hw => hw.elim (fun hw => (pg_tup hc h hn hst).run pins s σ H v u Q I r hw) fun hw => (pg_unl hc h hn hst).run pins s σ H v u Q I r hw⟩
end Pw
end
section
set_option Elab.async false
set_option linter.all false
set_option maxRecDepth 100000
set_option maxHeartbeats 2000000
namespace Pw
open PySem PySem.Spec PyProof.Rows L2 Pv
end Pw
end
section
set_option Elab.async false
set_option linter.all false
set_option maxRecDepth 100000
set_option maxHeartbeats 2000000
namespace Pv
open PySem PySem.Spec PyProof.Rows L2
def iLex : List Int → List Int → Bool
  | [], [] => false
  | [], _ :: _ => true
  | _ :: _, [] => false
  | x :: xs, y :: ys => if x = y then iLex xs ys else decide (x < y)
end Pv
end
section
set_option Elab.async false
set_option linter.all false
set_option maxRecDepth 100000
set_option maxHeartbeats 400000
namespace Pv
open PySem PySem.Spec PyProof.Rows L2
abbrev PK := List Int × Int
theorem iLex_irr : ∀ xs : List Int, iLex xs xs = false
  | [] => rfl
  | x :: xs => by simp [iLex, iLex_irr xs]
theorem iLex_tot : ∀ xs ys : List Int, iLex xs ys = false → iLex ys xs = false → xs = ys
  | [], [], _, _ => rfl
  | [], y :: ys, h, _ => by simp [iLex] at h
  | x :: xs, [], _, h => by simp [iLex] at h
  | x :: xs, y :: ys, h1, h2 => by
    unfold iLex at h1 h2
    by_cases e : x = y
    · subst e
      rw [if_pos rfl] at h1 h2
      rw [iLex_tot xs ys h1 h2]
    · rw [if_neg e] at h1
      rw [if_neg (Ne.symm e)] at h2
      have := of_decide_eq_false h1
      have := of_decide_eq_false h2
      omega
theorem iLex_tr : ∀ xs ys zs : List Int, iLex xs ys = true → iLex ys zs = true → iLex xs zs = true
  | [], ys, [], _, h => by cases ys <;> simp [iLex] at h
  | [], ys, z :: zs, _, _ => rfl
  | x :: xs, [], zs, h, _ => by simp [iLex] at h
  | x :: xs, y :: ys, [], _, h => by simp [iLex] at h
  | x :: xs, y :: ys, z :: zs, h1, h2 => by
    unfold iLex at h1 h2 ⊢
    by_cases e1 : x = y
    · subst e1
      rw [if_pos rfl] at h1
      by_cases e2 : x = z
      · subst e2
        rw [if_pos rfl] at h2 ⊢
        exact iLex_tr xs ys zs h1 h2
      · rw [if_neg e2] at h2 ⊢
        exact h2
    · rw [if_neg e1] at h1
      have a := of_decide_eq_true h1
      by_cases e2 : y = z
      · subst e2
        rw [if_neg e1]
        exact h1
      · rw [if_neg e2] at h2
        have b := of_decide_eq_true h2
        rw [if_neg (by omega)]
        exact decide_eq_true (by omega)
theorem iLex_asym {a b : List Int} (h : iLex a b = true) : iLex b a = false := by
  cases z : iLex b a with
  | false => rfl
  | true => have := iLex_tr _ _ _ h z; rw [iLex_irr] at this; cases this
def PrAt (P : Program) (w : World) (h : Heap) (v : Value) (k : PK) : Prop := ∃ p c t its, v = .ref p ∧ IsTup h p #[.ref c, .int k.2 t] ∧ IsTup h c (List.toArray its) ∧ IntsAre its k.1 ∧ IsM P w h (k.1.map Sum.inl) c
section
variable {P : Program} {w : World}
theorem isM_at {h h' : Heap} {k : KT'} {b : Addr} (x : IsM P w h k b) (hk : ∀ o, h.get? b = some o → h'.get? b = some o) : IsM P w h' k b := by
  obtain ⟨o, its, n, e, r⟩ := x
  exact ⟨o, its, n, hk o e, r⟩
theorem PrAt.keep {h h' : Heap} {v : Value} {k : PK} (x : PrAt P w h v k) {a : Addr} {o : Obj} (ho : h.get? a = some o) (hc : o.cls = .type "list") (hk : ∀ b u, b ≠ a → h.get? b = some u → h'.get? b = some u) : PrAt P w h' v k := by
  obtain ⟨p, c, t, its, rfl, a1, a2, a3, a4⟩ := x
  have ne : ∀ {q : Addr} {y : Array Value}, IsTup h q y → q ≠ a := fun {q y} hq z => by
    obtain ⟨o', e, c', _⟩ := hq
    rw [z, ho] at e
    cases e
    rw [hc] at c'
    exact absurd c' (by decide)
  have kt : ∀ {q : Addr} {y : Array Value}, IsTup h q y → IsTup h' q y := fun {q y} hq => by
    have n := ne hq
    obtain ⟨o', e, r⟩ := hq
    exact ⟨o', hk q o' n e, r⟩
  refine ⟨p, c, t, its, rfl, kt a1, kt a2, a3, ?_⟩
  have n := ne a2
  exact isM_at a4 fun o' e => hk c o' n e
end
end Pv
end
section
set_option Elab.async false
set_option linter.all false
set_option maxRecDepth 100000
set_option maxHeartbeats 2000000
namespace Pw
open PySem PySem.Spec PyProof.Rows L2 Pv
section
variable {X : Cx} {tb : List Addr} {pos : Pos}
def noStr (ds : List D) : Bool := ds.all fun d => match d with | .str _ => false | _ => true
@[simp] theorem noStr_nat {l : List Nat} : noStr (l.map fun i : Nat => D.int i) = true := by simp [noStr]
@[simp] theorem noStr_comp {α : Type} {g : α → Nat} {l : List α} : noStr (l.map ((fun i : Nat => D.int i) ∘ g)) = true := by simp [noStr]
@[simp] theorem noStr_int {l : List Int} : noStr (l.map D.int) = true := by simp [noStr]
@[simp] theorem noStr_compI {α : Type} {g : α → Int} {l : List α} : noStr (l.map (D.int ∘ g)) = true := by simp [noStr]
theorem noStr_rep {K : FRG} {φ ψ : List Addr} {H : Hp} : ∀ {ds : List D} {vs : List V}, Reps K φ ψ H ds vs → noStr ds = true → ∀ x, V.str x ∉ vs
  | _, _, .nil, _, x, h => nomatch h
  | d :: ds, v :: vs, .cons h r, n, x, z => by
    rw [noStr, List.all_cons, Bool.and_eq_true] at n
    rcases List.mem_cons.mp z with z | z
    · subst z
      cases h
      cases n.1
    · exact noStr_rep r n.2 x z
end
end Pw
end
section
set_option Elab.async false
set_option linter.all false
set_option maxRecDepth 100000
set_option maxHeartbeats 2000000
namespace Pv
open PySem PySem.Spec PyProof.Rows L2
end Pv
end
section
set_option Elab.async false
set_option linter.all false
set_option maxRecDepth 100000
set_option maxHeartbeats 2000000
namespace Pw
open PySem PySem.Spec PyProof.Rows L2 Pv
end Pw
namespace Pw
end Pw
end
section
set_option Elab.async false
set_option linter.all false
set_option maxRecDepth 100000
set_option maxHeartbeats 2000000
namespace Wk
open Pv
def lexN : List Nat → List Nat → Bool
  | [], [] => false
  | [], _ :: _ => true
  | _ :: _, [] => false
  | x :: xs, y :: ys => if x = y then lexN xs ys else decide (x < y)
abbrev zp (p : List Nat) : List Int := p.map fun n : Nat => (n : Int)
theorem lex_zp : ∀ p q : List Nat, iLex (zp p) (zp q) = lexN p q
  | [], [] => rfl
  | [], _ :: _ => rfl
  | _ :: _, [] => rfl
  | x :: xs, y :: ys => by
    show (if (x : Int) = (y : Int) then iLex (zp xs) (zp ys) else decide ((x : Int) < (y : Int))) = if x = y then lexN xs ys else decide (x < y)
    rw [lex_zp xs ys]
    by_cases h : x = y
    · subst h; simp
    · rw [if_neg (by omega), if_neg h]
      by_cases h2 : x < y <;> simp [h2] <;> omega
theorem zp_inj {p q : List Nat} (h : zp p = zp q) : p = q := by
  induction p generalizing q with
  | nil => cases q with
    | nil => rfl
    | cons y q => cases h
  | cons x p ih => cases q with
    | nil => cases h
    | cons y q =>
      simp only [zp, List.map_cons] at h
      injection h with h1 h2
      rw [ih h2]
      congr 1
      omega
theorem lexN_irr (p : List Nat) : lexN p p = false := by rw [← lex_zp]; exact iLex_irr _
theorem lexN_tr {p q r : List Nat} (h1 : lexN p q = true) (h2 : lexN q r = true) : lexN p r = true := by rw [← lex_zp] at *; exact iLex_tr _ _ _ h1 h2
theorem lexN_tot {p q : List Nat} (h1 : lexN p q = false) (h2 : lexN q p = false) : p = q := by rw [← lex_zp] at *; exact zp_inj (iLex_tot _ _ h1 h2)
theorem lexN_as {p q : List Nat} (h : lexN p q = true) : lexN q p = false := by rw [← lex_zp] at *; exact iLex_asym h
def le (p q : List Nat) : Prop := lexN q p = false
theorem le_refl (p : List Nat) : le p p := lexN_irr p
theorem le_of {p q : List Nat} (h : lexN p q = true) : le p q := lexN_as h
theorem le_cases {p q : List Nat} (h : le p q) : p = q ∨ lexN p q = true := by
  cases e : lexN p q with
  | true => exact .inr rfl
  | false => exact .inl (lexN_tot e h)
theorem le_tr {p q r : List Nat} (h1 : le p q) (h2 : le q r) : le p r := by
  rcases le_cases h1 with rfl | h1
  · exact h2
  · rcases le_cases h2 with rfl | h2
    · exact le_of h1
    · exact le_of (lexN_tr h1 h2)
theorem le_app (p r : List Nat) : le p (p ++ r) := by
  induction p with
  | nil => cases r <;> rfl
  | cons x p ih =>
    have ih' : lexN (p ++ r) p = false := ih
    show lexN (x :: (p ++ r)) (x :: p) = false
    simpa [lexN] using ih'
def nL : List Nat → List Nat → Bool
  | x :: xs, y :: ys => if x = y then nL xs ys else decide (x < y)
  | _, _ => false
theorem nL_lex : ∀ {p q : List Nat} (a b : List Nat), nL p q = true → lexN (p ++ a) (q ++ b) = true
  | x :: xs, y :: ys, a, b, h => by
    unfold nL at h
    show (if x = y then lexN (xs ++ a) (ys ++ b) else decide (x < y)) = true
    split at h
    · rename_i e; rw [if_pos e]; exact nL_lex a b h
    · rename_i e; rw [if_neg e]; exact h
  | [], _, _, _, h => by simp [nL] at h
  | _ :: _, [], _, _, h => by simp [nL] at h
theorem nL_of {p q : List Nat} : lexN p q = true → (∀ r, q ≠ p ++ r) → nL p q = true := by
  induction p generalizing q with
  | nil => intro _ h; exact absurd rfl (h q)
  | cons x p ih =>
    intro h hp
    cases q with
    | nil => simp [lexN] at h
    | cons y q =>
      unfold lexN at h
      unfold nL
      split at h
      · rename_i e
        rw [if_pos e]
        exact ih h fun r z => hp r (by rw [z, e]; rfl)
      · rename_i e; rw [if_neg e]; exact h
section
variable (S : Nat → List Nat)
def go : Nat → List Nat → Option Nat
  | w, [] => some w
  | w, k :: ks => ((S w)[k]?).bind fun c => go c ks
theorem go_app (w : Nat) (p q : List Nat) : go S w (p ++ q) = (go S w p).bind fun v => go S v q := by
  induction p generalizing w with
  | nil => rfl
  | cons k p ih =>
    show ((S w)[k]?).bind (fun c => go S c (p ++ q)) = _
    simp only [go]
    cases (S w)[k]? with
    | none => rfl
    | some c => exact ih c
theorem go_snoc (w : Nat) (p : List Nat) (k : Nat) : go S w (p ++ [k]) = (go S w p).bind fun v => (S v)[k]? := by
  rw [go_app]
  congr 1
  funext v
  simp only [go]
  cases (S v)[k]? <;> rfl
variable {S}
theorem snoc_of {w c : Nat} {q : List Nat} {k : Nat} (h : go S w (q ++ [k]) = some c) : ∃ v, go S w q = some v ∧ (S v)[k]? = some c := by
  rw [go_snoc] at h
  cases e : go S w q with
  | none => rw [e] at h; cases h
  | some v => rw [e] at h; exact ⟨v, rfl, h⟩
variable (up : ∀ v c, c ∈ S v → v < c)
include up
theorem go_up {w v : Nat} : ∀ {p : List Nat}, go S w p = some v → w ≤ v ∧ (p ≠ [] → w < v) := by
  intro p
  induction p generalizing w with
  | nil => intro h; cases h; exact ⟨Nat.le_refl _, fun z => absurd rfl z⟩
  | cons k p ih =>
    intro h
    simp only [go] at h
    cases e : (S w)[k]? with
    | none => rw [e] at h; cases h
    | some c =>
      rw [e] at h
      have a := up w c (List.mem_of_getElem? e)
      have b := (ih h).1
      exact ⟨by omega, fun _ => by omega⟩
theorem not_pre {w v : Nat} {p q : List Nat} (h1 : go S w p = some v) (h2 : go S w q = some v) (ne : p ≠ q) : ∀ r, q ≠ p ++ r := fun r z => by
  subst z
  rw [go_app, h1] at h2
  have := (go_up up (show go S v r = some v from h2)).2
  by_cases hr : r = []
  · subst hr; exact ne (by simp)
  · exact absurd (this hr) (Nat.lt_irrefl _)
theorem ext_le {w v : Nat} {p q : List Nat} (h1 : go S w p = some v) (h2 : go S w q = some v) (h : le p q) (k : Nat) : le (p ++ [k]) (q ++ [k]) := by
  rcases le_cases h with rfl | h
  · exact le_refl _
  · have ne : p ≠ q := fun z => by rw [z, lexN_irr] at h; cases h
    exact le_of (nL_lex [k] [k] (nL_of h (not_pre up h1 h2 ne)))
end
section
variable (S : Nat → List Nat) (f : Nat)
structure Dfs (V T : List (List Nat)) : Prop where
  vV : ∀ p ∈ V, ∃ v, go S f p = some v
  tV : ∀ p ∈ T, ∃ v, go S f p = some v
  tN : T.Pairwise fun p q => nL p q = true
  vS : V.Pairwise fun p q => lexN p q = true
  vt : ∀ p ∈ V, ∀ t ∈ T, lexN p t = true
  lst : ∀ p ∈ V, ∀ q v, go S f p = some v → go S f q = some v → le p q
  st : [] ∈ T ∨ ∃ p ∈ V, go S f p = some f ∧ le p []
  cov : ∀ p ∈ V, ∀ v k c, go S f p = some v → (S v)[k]? = some c → p ++ [k] ∈ T ∨ ∃ p' ∈ V, go S f p' = some c ∧ le p' (p ++ [k])
variable {S f}
theorem Dfs.start : Dfs S f [] [[]] := ⟨(fun _ h => by cases h), (fun p h => by rw [List.mem_singleton.mp h]; exact ⟨f, rfl⟩), by simp, List.Pairwise.nil, (fun _ h => by cases h), (fun _ h => by cases h), .inl (by simp), (fun _ h => by cases h)⟩
variable (up : ∀ v c, c ∈ S v → v < c)
include up
theorem Dfs.key {V T : List (List Nat)} (D : Dfs S f V T) : ∀ (n : Nat) (q : List Nat) (v : Nat), q.length = n → go S f q = some v → (∃ p ∈ V, go S f p = some v ∧ le p q) ∨ ∃ t ∈ T, le t q := by
  intro n
  induction n with
  | zero =>
    intro q v hl h
    have : q = [] := List.eq_nil_of_length_eq_zero hl
    subst this
    cases h
    rcases D.st with z | z
    · exact .inr ⟨[], z, le_refl _⟩
    · exact .inl z
  | succ n ih =>
    intro q v hl h
    obtain ⟨q0, k, rfl⟩ : ∃ q0 k, q = q0 ++ [k] := by
      have hne : q ≠ [] := fun z => by rw [z] at hl; cases hl
      exact ⟨q.dropLast, q.getLast hne, (List.dropLast_concat_getLast hne).symm⟩
    obtain ⟨u, hu, hk⟩ := snoc_of h
    rcases ih q0 u (by simpa using hl) hu with ⟨p, hp, hpu, hle⟩ | ⟨t, ht, hle⟩
    · have e := ext_le up hpu hu hle k
      rcases D.cov p hp u k v hpu hk with z | ⟨p', h1, h2, h3⟩
      · exact .inr ⟨_, z, e⟩
      · exact .inl ⟨p', h1, h2, le_tr h3 e⟩
    · exact .inr ⟨t, ht, le_tr hle (le_app _ _)⟩
theorem Dfs.all {V : List (List Nat)} (D : Dfs S f V []) {q : List Nat} {v : Nat} (h : go S f q = some v) : ∃ p ∈ V, go S f p = some v ∧ le p q := by
  rcases D.key up q.length q v rfl h with z | ⟨t, ht, _⟩
  · exact z
  · cases ht
end
end Wk
end
section
set_option Elab.async false
set_option linter.all false
set_option maxRecDepth 100000
set_option maxHeartbeats 2000000
namespace Wk
open Pv
section
variable (S : Nat → List Nat) (f : Nat)
def Pq (u j : Nat) (q : List Nat) : Prop := q = [] ∨ ∃ q0 k v, q = q0 ++ [k] ∧ go S f q0 = some v ∧ (v < u ∨ (v = u ∧ k < j))
structure Ki (u j : Nat) (g : Nat → Option (List Nat)) : Prop where
  k1 : ∀ w p, g w = some p → go S f p = some w ∧ Pq S f u j p
  k2 : ∀ w q, go S f q = some w → Pq S f u j q → ∃ p, g w = some p ∧ le p q
variable {S f}
theorem Ki.start : Ki S f 0 0 fun w => if w = f then some [] else none := by
  refine ⟨fun w p h => ?_, fun w q h hq => ?_⟩
  · split at h
    · rename_i e; cases h; subst e; exact ⟨rfl, .inl rfl⟩
    · cases h
  · rcases hq with rfl | ⟨q0, k, v, rfl, _, z | z⟩
    · cases h; exact ⟨[], by simp, le_refl _⟩
    · omega
    · omega
theorem Pq.next {u : Nat} {q : List Nat} {w : Nat} (h : go S f q = some w) : Pq S f u (S u).length q ↔ Pq S f (u + 1) 0 q := by
  constructor
  · rintro (z | ⟨q0, k, v, e, e1, z⟩)
    · exact .inl z
    · exact .inr ⟨q0, k, v, e, e1, .inl (by omega)⟩
  · rintro (z | ⟨q0, k, v, e, e1, z⟩)
    · exact .inl z
    · refine .inr ⟨q0, k, v, e, e1, ?_⟩
      rcases z with z | z
      · by_cases hv : v < u
        · exact .inl hv
        · have : v = u := by omega
          subst this
          rw [e] at h
          obtain ⟨v', h1, h2⟩ := snoc_of h
          rw [e1] at h1
          cases h1
          exact .inr ⟨rfl, (List.getElem?_eq_some_iff.mp h2).1⟩
      · omega
theorem Ki.next {u : Nat} {g : Nat → Option (List Nat)} (K : Ki S f u (S u).length g) : Ki S f (u + 1) 0 g :=
  ⟨fun w p h => ⟨(K.k1 w p h).1, (Pq.next (K.k1 w p h).1).mp (K.k1 w p h).2⟩, fun w q h hq => K.k2 w q h ((Pq.next h).mpr hq)⟩
variable (up : ∀ v c, c ∈ S v → v < c)
include up
theorem Pq.own {u j : Nat} {q : List Nat} (h : go S f q = some u) : Pq S f u j q := by
  by_cases hq : q = []
  · exact .inl hq
  · have e := (List.dropLast_concat_getLast hq).symm
    rw [e] at h
    obtain ⟨v, h1, h2⟩ := snoc_of h
    exact .inr ⟨_, _, v, e, h1, .inl (up v u (List.mem_of_getElem? h2))⟩
theorem Ki.turn {u j c : Nat} {g : Nat → Option (List Nat)} {pu : List Nat} (K : Ki S f u j g) (hu : g u = some pu) (hc : (S u)[j]? = some c) (g' : Nat → Option (List Nat))
    (hg : (g c = none ∨ ∃ p, g c = some p ∧ lexN (pu ++ [j]) p = true) ∧ g' = (fun w => if w = c then some (pu ++ [j]) else g w) ∨ (∃ p, g c = some p ∧ lexN (pu ++ [j]) p = false) ∧ g' = g) : Ki S f u (j + 1) g' ∧ g' u = some pu := by
  have huc := up u c (List.mem_of_getElem? hc)
  have gpu := (K.k1 u pu hu).1
  have cand : go S f (pu ++ [j]) = some c := by rw [go_snoc, gpu]; exact hc
  have more : ∀ q, Pq S f u j q → Pq S f u (j + 1) q := fun q h => by
    rcases h with z | ⟨q0, k, v, e, e1, z⟩
    · exact .inl z
    · exact .inr ⟨q0, k, v, e, e1, by omega⟩
  have split' : ∀ w q, go S f q = some w → Pq S f u (j + 1) q → Pq S f u j q ∨ (w = c ∧ le (pu ++ [j]) q) := fun w q h hq => by
    rcases hq with z | ⟨q0, k, v, e, e1, z⟩
    · exact .inl (.inl z)
    · by_cases hk : v = u ∧ k = j
      · obtain ⟨rfl, rfl⟩ := hk
        rw [e, go_snoc, e1] at h
        have hw : (S v)[k]? = some w := h
        rw [hc] at hw
        cases hw
        obtain ⟨p, hp, hl⟩ := K.k2 v q0 e1 (Pq.own up e1)
        rw [hu] at hp
        cases hp
        exact .inr ⟨rfl, by rw [e]; exact ext_le up gpu e1 hl k⟩
      · exact .inl (.inr ⟨q0, k, v, e, e1, by omega⟩)
  rcases hg with ⟨h, rfl⟩ | ⟨⟨p0, h0, h1⟩, rfl⟩
  · refine ⟨⟨fun w p hp => ?_, fun w q hq hP => ?_⟩, ?_⟩
    · split at hp
      · rename_i e
        cases hp
        subst e
        exact ⟨cand, .inr ⟨pu, j, u, rfl, gpu, .inr ⟨rfl, by omega⟩⟩⟩
      · exact ⟨(K.k1 w p hp).1, more p (K.k1 w p hp).2⟩
    · rcases split' w q hq hP with z | ⟨rfl, z⟩
      · obtain ⟨p, hp, hl⟩ := K.k2 w q hq z
        by_cases e : w = c
        · subst e
          refine ⟨pu ++ [j], by simp, ?_⟩
          rcases h with h | ⟨p', h, h'⟩
          · rw [h] at hp; cases hp
          · rw [h] at hp; cases hp; exact le_tr (le_of h') hl
        · exact ⟨p, by simp [e, hp], hl⟩
      · exact ⟨pu ++ [j], by simp, z⟩
    · show (if u = c then some (pu ++ [j]) else g u) = some pu
      rw [if_neg (by omega)]
      exact hu
  · refine ⟨⟨fun w p hp => ⟨(K.k1 w p hp).1, more p (K.k1 w p hp).2⟩, fun w q hq hP => ?_⟩, hu⟩
    rcases split' w q hq hP with z | ⟨rfl, z⟩
    · exact K.k2 w q hq z
    · exact ⟨p0, h0, le_tr h1 z⟩
theorem Ki.all {n : Nat} {g : Nat → Option (List Nat)} (K : Ki S f n 0 g) (lt : ∀ v c, c ∈ S v → c < n) : ∀ w q, go S f q = some w → ∃ p, g w = some p ∧ le p q := fun w q h => by
  refine K.k2 w q h ?_
  by_cases hq : q = []
  · exact .inl hq
  · have e := (List.dropLast_concat_getLast hq).symm
    have h' := h
    rw [e] at h'
    obtain ⟨v, h1, h2⟩ := snoc_of h'
    have m := List.mem_of_getElem? h2
    have := up v w m
    have := lt v w m
    exact .inr ⟨_, _, v, e, h1, .inl (by omega)⟩
end
def endOf (S : Nat → List Nat) (f : Nat) (p : List Nat) : Nat := (go S f p).getD 0
theorem nd_len : ∀ (n : Nat) (l : List Nat), l.Nodup → (∀ x ∈ l, x < n) → l.length ≤ n
  | 0, [], _, _ => Nat.le_refl _
  | 0, x :: _, _, h => absurd (h x List.mem_cons_self) (Nat.not_lt_zero _)
  | n + 1, l, nd, h => by
    by_cases hn : n ∈ l
    · have := nd_len n (l.erase n) (nd.erase n) fun x hx => by
        obtain ⟨a, b⟩ := (nd.mem_erase_iff).mp hx
        have := h x b
        omega
      rw [List.length_erase_of_mem hn] at this
      omega
    · have := nd_len n l nd fun x hx => by
        have a := h x hx
        have : x ≠ n := fun z => hn (z ▸ hx)
        omega
      omega
end Wk
end
section
set_option Elab.async false
set_option linter.all false
set_option maxRecDepth 100000
set_option maxHeartbeats 4000000
namespace Lv
open PySem L2 Pw Pv Lx Ls Lq Wk
section
variable {S : Nat → List Nat} {f n : Nat}
abbrev PS2 := List (List Nat) × List (List Nat)
structure Ok (S : Nat → List Nat) (f n : Nat) (s : PS2) : Prop where
  d : Dfs S f s.1 s.2
  l : s.2.length ≤ 1 + s.1.length * 120
  nd : (s.1.map (endOf S f)).Nodup
theorem end_eq {p : List Nat} {v : Nat} (h : go S f p = some v) : endOf S f p = v := by unfold endOf; rw [h]; rfl
variable (up : ∀ v c, c ∈ S v → v < c) (lt : ∀ v c, c ∈ S v → c < n) (hf : f < n) (hn : n ≤ 60) (hs : ∀ v, (S v).length ≤ 120)
theorem end_lt (lt : ∀ v c, c ∈ S v → c < n) (hf : f < n) {p : List Nat} {v : Nat} (h : go S f p = some v) : v < n := by
  by_cases hp : p = []
  · subst hp; cases h; exact hf
  · rw [(List.dropLast_concat_getLast hp).symm] at h
    obtain ⟨u, _, h2⟩ := snoc_of h
    exact lt u v (List.mem_of_getElem? h2)
theorem Ok.len {s : PS2} (o : Ok S f n s) (lt : ∀ v c, c ∈ S v → c < n) (hf : f < n) : s.1.length ≤ n := by
  have := nd_len n (s.1.map (endOf S f)) o.nd fun x hx => by
    obtain ⟨p, hp, rfl⟩ := List.mem_map.mp hx
    obtain ⟨v, hv⟩ := o.d.vV p hp
    rw [end_eq hv]
    exact end_lt lt hf hv
  simpa using this
include up lt hf hn hs
end
end Lv
end
section
set_option Elab.async false
set_option linter.all false
set_option maxRecDepth 100000
set_option maxHeartbeats 4000000
namespace Lv
open PySem L2 Pw Pv Lx Ls Lq Wk
end Lv
end
section
set_option Elab.async false
set_option linter.all false
set_option maxRecDepth 100000
set_option maxHeartbeats 4000000
namespace Lv
open PySem L2 Pw Pv Lx Ls Lq Wk
section
variable {F : List Fo} {B : List Nw} {r : Rw} {day : Int}
abbrev f0 (r : Rw) : Nat := r.founder.toNat
def fborn (F : List Fo) (r : Rw) (day : Int) : Bool := match F[f0 r]? with
  | some f => decide (f.day ≤ day)
  | none => false
def IsWalk (F : List Fo) (B : List Nw) (r : Rw) (day : Int) (V : List (List Nat)) : Prop :=
  if fborn F r day = true then Dfs (stepsOf F B r day) (f0 r) V [] else V = []
theorem run_eq {np n : Nat} {b : Sx} {ws : List W} {m : Mem} {w : W} {ρ : Pw.Env} {m' : Mem} {x : W × Mem} (hl : ws.length = np) (h : b (startD n ws) m = some (.ret w, ρ, m')) (h2 : outW m.length w m' = some x) : runF np n b ws m = some x := by
  unfold runF
  rw [if_pos hl, h]
  exact h2
end
end Lv
end
section
set_option Elab.async false
set_option linter.all false
set_option maxRecDepth 100000
set_option maxHeartbeats 4000000
namespace Lz
open PySem L2 Pw Pv Lx Ls Lq Wk Lv
end Lz
end
section
set_option Elab.async false
set_option linter.all false
set_option maxRecDepth 100000
set_option maxHeartbeats 4000000
namespace Lz
open PySem L2 Pw Pv Lx Ls Lq Wk Lv
section
variable {F : List Fo} {B : List Nw} {r : Rw} {day : Int} {m : Mem}
end
end Lz
end
section
set_option Elab.async false
set_option linter.all false
set_option maxRecDepth 100000
set_option maxHeartbeats 4000000
namespace Lz
open PySem L2 Pw Pv Lx Ls Lq Wk Lv
end Lz
end
section
set_option Elab.async false
set_option linter.all false
set_option maxRecDepth 100000
set_option maxHeartbeats 4000000
namespace Lz
open PySem L2 Pw Pv Lx Ls Lq Wk Lv
end Lz
end
section
set_option Elab.async false
set_option linter.all false
set_option maxRecDepth 100000
set_option maxHeartbeats 4000000
namespace Lz
open PySem L2 Pw Pv Lx Ls Lq Wk Lv
end Lz
end
section
set_option Elab.async false
set_option linter.all false
set_option maxRecDepth 100000
set_option maxHeartbeats 2000000
namespace Pw
open PySem PySem.Spec PyProof.Rows L2 Pv
end Pw
end
section
set_option Elab.async false
set_option linter.all false
set_option maxRecDepth 100000
set_option maxHeartbeats 4000000
namespace Lz
open PySem L2 Pw Pv Lx Ls Lq Wk Lv
section
variable {F : List Fo} {B : List Nw} {r : Rw} {day : Int} {m : Mem} {web : D}
end
end Lz
end
section
set_option Elab.async false
set_option linter.all false
set_option maxRecDepth 100000
set_option maxHeartbeats 4000000
namespace Lz
open PySem L2 Pw Pv Lx Ls Lq Wk Lv
end Lz
end
section
set_option Elab.async false
set_option linter.all false
set_option maxRecDepth 100000
set_option maxHeartbeats 4000000
namespace Lz
open PySem L2 Pw Pv Lx Ls Lq Wk Lv
end Lz
end
section
set_option Elab.async false
set_option linter.all false
set_option maxRecDepth 100000
set_option maxHeartbeats 2000000
namespace Dg
open Wk
def Way (S : Nat → List Nat) (x y k : Nat) : Prop := ∃ q, q.length = k ∧ go S x q = some y
section
variable {S : Nat → List Nat} {x y v c k : Nat}
theorem Way.nil : Way S x x 0 := ⟨[], rfl, rfl⟩
theorem Way.zero (h : Way S x y 0) : x = y := by
  obtain ⟨q, hq, h⟩ := h
  have : q = [] := by simpa using hq
  subst this
  cases h; rfl
theorem Way.snoc (h : Way S x v k) (hc : c ∈ S v) : Way S x c (k + 1) := by
  obtain ⟨q, hq, h⟩ := h
  obtain ⟨j, hj⟩ := List.getElem?_of_mem hc
  exact ⟨q ++ [j], by simp [hq], by rw [go_snoc, h]; exact hj⟩
theorem Way.snoc_inv (h : Way S x y (k + 1)) : ∃ v, Way S x v k ∧ y ∈ S v := by
  obtain ⟨q, hq, h⟩ := h
  have ne : q ≠ [] := fun z => by rw [z] at hq; cases hq
  have e := (List.dropLast_concat_getLast ne).symm
  rw [e] at h
  obtain ⟨v, h1, h2⟩ := snoc_of h
  exact ⟨v, ⟨_, by rw [List.length_dropLast]; omega, h1⟩, List.mem_of_getElem? h2⟩
theorem Way.cons (hc : c ∈ S x) (h : Way S c y k) : Way S x y (k + 1) := by
  obtain ⟨q, hq, h⟩ := h
  obtain ⟨j, hj⟩ := List.getElem?_of_mem hc
  refine ⟨j :: q, by simp [hq], ?_⟩
  simp only [go]
  rw [hj]; exact h
theorem Way.cons_inv (h : Way S x y (k + 1)) : ∃ c, c ∈ S x ∧ Way S c y k := by
  obtain ⟨q, hq, h⟩ := h
  cases q with
  | nil => cases hq
  | cons j q =>
    simp only [go] at h
    cases e : (S x)[j]? with
    | none => rw [e] at h; cases h
    | some d =>
      rw [e] at h
      exact ⟨d, List.mem_of_getElem? e, q, by simpa using hq, h⟩
theorem Way.up (up : ∀ v c, c ∈ S v → v < c) : ∀ {k x y : Nat}, Way S x y k → x + k ≤ y
  | 0, x, y, h => by rw [h.zero]; exact Nat.le_refl _
  | k + 1, x, y, h => by
    obtain ⟨c, hc, h⟩ := h.cons_inv
    have a := up x c hc
    have b := Way.up up h
    omega
theorem Way.app {j : Nat} (h : Way S x v k) (h2 : Way S v y j) : Way S x y (k + j) := by
  obtain ⟨q, hq, h⟩ := h
  obtain ⟨q2, hq2, h2⟩ := h2
  exact ⟨q ++ q2, by simp [hq, hq2], by rw [go_app, h]; exact h2⟩
end
structure Least (P : Nat → Nat → Prop) (g : Nat → Option Nat) : Prop where
  l1 : ∀ y k, g y = some k → P y k
  l2 : ∀ y k, P y k → ∃ k', g y = some k' ∧ k' ≤ k
section
variable (S : Nat → List Nat) (R : Nat → Prop) (who : Nat)
def Far (y k : Nat) : Prop := ∃ x a b, R x ∧ Way S x who a ∧ Way S x y b ∧ a + b = k
def UpP (x k : Nat) : Prop := R x ∧ Way S x who k
def Pu (c x k : Nat) : Prop := R x ∧ ((x = who ∧ k = 0) ∨ ∃ d j, d ∈ S x ∧ c ≤ d ∧ Way S d who j ∧ k = j + 1)
structure UpI (c : Nat) (g : Nat → Option Nat) : Prop where
  u1 : ∀ x k, g x = some k → UpP S R who x k
  u2 : ∀ x k, Pu S R who c x k → ∃ k', g x = some k' ∧ k' ≤ k
variable {S R who} (up : ∀ v c, c ∈ S v → v < c) (cl : ∀ v c, R v → c ∈ S v → R c)
include up cl
theorem UpI.start (hw : R who) : UpI S R who (who + 1) fun y => if y = who then some 0 else none := by
  refine ⟨fun x k h => ?_, fun x k h => ?_⟩
  · split at h
    · rename_i e
      cases h
      subst e
      exact ⟨hw, Way.nil⟩
    · cases h
  · obtain ⟨_, ⟨rfl, rfl⟩ | ⟨d, j, _, h1, h2, _⟩⟩ := h
    · exact ⟨0, by simp, Nat.le_refl _⟩
    · have := Way.up up h2
      omega
theorem UpI.own {c k : Nat} {g : Nat → Option Nat} (I : UpI S R who (c + 1) g) (hc : R c) (h : Way S c who k) : ∃ k', g c = some k' ∧ k' ≤ k := by
  refine I.u2 c k ⟨hc, ?_⟩
  cases k with
  | zero => exact .inl ⟨h.zero, rfl⟩
  | succ k =>
    obtain ⟨d, hd, h⟩ := h.cons_inv
    exact .inr ⟨d, k, hd, up c d hd, h, rfl⟩
theorem UpI.turn {c k0 : Nat} {g g' : Nat → Option Nat} (I : UpI S R who (c + 1) g) (h : g c = some k0)
    (h1 : ∀ x k, g' x = some k → g x = some k ∨ (R x ∧ c ∈ S x ∧ k = k0 + 1)) (h2 : ∀ x k, g x = some k → ∃ k', g' x = some k' ∧ k' ≤ k) (h3 : ∀ x, R x → c ∈ S x → ∃ k', g' x = some k' ∧ k' ≤ k0 + 1) : UpI S R who c g' := by
  refine ⟨fun x k hx => ?_, fun x k hp => ?_⟩
  · rcases h1 x k hx with z | ⟨z1, z2, rfl⟩
    · exact I.u1 x k z
    · exact ⟨z1, Way.cons z2 (I.u1 c k0 h).2⟩
  · have old : ∀ {k}, (∃ k', g x = some k' ∧ k' ≤ k) → ∃ k', g' x = some k' ∧ k' ≤ k := fun {k} ⟨k', e, l⟩ => by
      obtain ⟨k'', e2, l2⟩ := h2 x k' e
      exact ⟨k'', e2, by omega⟩
    obtain ⟨hx, hp⟩ := hp
    rcases hp with hp | ⟨d, j, hd, h4, h5, h6⟩
    · exact old (I.u2 x k ⟨hx, .inl hp⟩)
    · by_cases e : d = c
      · subst e
        obtain ⟨k', e1, l1⟩ := I.own up cl (cl x d hx hd) h5
        rw [h] at e1
        cases e1
        obtain ⟨k'', e2, l2⟩ := h3 x hx hd
        exact ⟨k'', e2, by omega⟩
      · exact old (I.u2 x k ⟨hx, .inr ⟨d, j, hd, by omega, h5, h6⟩⟩)
theorem UpI.all {g : Nat → Option Nat} (I : UpI S R who 0 g) : Least (UpP S R who) g := by
  refine ⟨I.u1, fun x k h => I.u2 x k ⟨h.1, ?_⟩⟩
  cases k with
  | zero => exact .inl ⟨h.2.zero, rfl⟩
  | succ k =>
    obtain ⟨d, hd, hw⟩ := h.2.cons_inv
    exact .inr ⟨d, k, hd, Nat.zero_le _, hw, rfl⟩
omit cl up in
theorem Far.down {v c k : Nat} (h : Far S R who v k) (hc : c ∈ S v) : Far S R who c (k + 1) := by
  obtain ⟨x, a, b, hx, h1, h2, h3⟩ := h
  exact ⟨x, a, b + 1, hx, h1, h2.snoc hc, by omega⟩
end
section
variable (S : Nat → List Nat) (R : Nat → Prop) (who : Nat)
def Pd (p y k : Nat) : Prop := UpP S R who y k ∨ ∃ v j, v < p ∧ y ∈ S v ∧ Far S R who v j ∧ k = j + 1
structure DnI (p : Nat) (g : Nat → Option Nat) : Prop where
  d1 : ∀ y k, g y = some k → Far S R who y k
  d2 : ∀ y k, Pd S R who p y k → ∃ k', g y = some k' ∧ k' ≤ k
variable {S R who}
theorem DnI.start {g : Nat → Option Nat} (h : Least (UpP S R who) g) : DnI S R who 0 g := by
  refine ⟨fun y k e => ?_, fun y k hp => ?_⟩
  · obtain ⟨a, b⟩ := h.l1 y k e
    exact ⟨y, k, 0, a, b, Way.nil, rfl⟩
  · rcases hp with hp | ⟨v, j, hv, _⟩
    · exact h.l2 y k hp
    · omega
theorem far_pd {y k : Nat} {p : Nat} (h : Far S R who y k) (hp : ∀ v, y ∈ S v → v < p) : Pd S R who p y k := by
  obtain ⟨x, a, b, hx, h1, h2, h3⟩ := h
  cases b with
  | zero =>
    have := h2.zero
    subst this
    left
    have : a = k := by omega
    subst this
    exact ⟨hx, h1⟩
  | succ b =>
    obtain ⟨v, hv, hy⟩ := h2.snoc_inv
    exact .inr ⟨v, a + b, hp v hy, hy, ⟨x, a, b, hx, h1, hv, rfl⟩, by omega⟩
variable (up : ∀ v c, c ∈ S v → v < c)
include up
theorem DnI.own {p k : Nat} {g : Nat → Option Nat} (I : DnI S R who p g) (h : Far S R who p k) : ∃ k', g p = some k' ∧ k' ≤ k :=
  I.d2 p k (far_pd h fun v hv => up v p hv)
theorem DnI.turn {p k0 : Nat} {g g' : Nat → Option Nat} (I : DnI S R who p g) (h : g p = some k0)
    (h1 : ∀ y k, g' y = some k → g y = some k ∨ (y ∈ S p ∧ k = k0 + 1)) (h2 : ∀ y k, g y = some k → ∃ k', g' y = some k' ∧ k' ≤ k) (h3 : ∀ y, y ∈ S p → ∃ k', g' y = some k' ∧ k' ≤ k0 + 1) : DnI S R who (p + 1) g' := by
  refine ⟨fun y k hy => ?_, fun y k hp => ?_⟩
  · rcases h1 y k hy with z | ⟨z1, rfl⟩
    · exact I.d1 y k z
    · exact (I.d1 p k0 h).down z1
  · have old : ∀ {k}, (∃ k', g y = some k' ∧ k' ≤ k) → ∃ k', g' y = some k' ∧ k' ≤ k := fun {k} ⟨k', e, l⟩ => by
      obtain ⟨k'', e2, l2⟩ := h2 y k' e
      exact ⟨k'', e2, by omega⟩
    rcases hp with hp | ⟨v, j, hv, h4, h5, h6⟩
    · exact old (I.d2 y k (.inl hp))
    · by_cases e : v = p
      · subst e
        obtain ⟨k', e1, l1⟩ := I.own up h5
        rw [h] at e1
        cases e1
        obtain ⟨k'', e2, l2⟩ := h3 y h4
        exact ⟨k'', e2, by omega⟩
      · exact old (I.d2 y k (.inr ⟨v, j, by omega, h4, h5, h6⟩))
theorem DnI.all {n : Nat} {g : Nat → Option Nat} (lt : ∀ v c, c ∈ S v → c < n) (I : DnI S R who n g) : Least (Far S R who) g :=
  ⟨I.d1, fun y k h => I.d2 y k (far_pd h fun v hv => by have := up v y hv; have := lt v y hv; omega)⟩
end
end Dg
end
section
set_option Elab.async false
set_option linter.all false
set_option maxRecDepth 100000
set_option maxHeartbeats 2000000
namespace Dg
open Wk
open Classical
section
variable (S : Nat → List Nat) (R : Nat → Prop) (who : Nat)
structure RgI (i : Nat) (g : Nat → Option Nat) : Prop where
  a : ∀ x k, g x = some k → UpP S R who x k ∧ k ≤ i
  b : ∀ x k, UpP S R who x k → k ≤ i → ∃ k', g x = some k' ∧ k' ≤ k
variable {S R who} (cl : ∀ v c, R v → c ∈ S v → R c)
theorem RgI.start (hw : R who) : RgI S R who 0 fun y => if y = who then some 0 else none := by
  refine ⟨fun x k h => ?_, fun x k h hk => ?_⟩
  · split at h
    · rename_i e
      cases h
      subst e
      exact ⟨⟨hw, Way.nil⟩, Nat.le_refl _⟩
    · cases h
  · have : k = 0 := by omega
    subst this
    have := h.2.zero
    exact ⟨0, by simp [this], Nat.le_refl _⟩
include cl
theorem RgI.turn {i : Nat} {g g' : Nat → Option Nat} (I : RgI S R who i g) (h1 : ∀ x, g' x = if g x = none ∧ R x ∧ (∃ c, c ∈ S x ∧ g c = some i) then some (i + 1) else g x) : RgI S R who (i + 1) g' := by
  refine ⟨fun x k h => ?_, fun x k h hk => ?_⟩
  · rw [h1] at h
    split at h
    · rename_i z
      cases h
      obtain ⟨_, hx, c, hc, hg⟩ := z
      exact ⟨⟨hx, Way.cons hc (I.a c i hg).1.2⟩, Nat.le_refl _⟩
    · obtain ⟨u, v⟩ := I.a x k h
      exact ⟨u, by omega⟩
  · have old : (∃ k', g x = some k' ∧ k' ≤ k) → ∃ k', g' x = some k' ∧ k' ≤ k := fun ⟨k', e, l⟩ => ⟨k', by rw [h1, if_neg (fun z => by rw [z.1] at e; cases e)]; exact e, l⟩
    by_cases hki : k ≤ i
    · exact old (I.b x k h hki)
    · have ek : k = i + 1 := by omega
      subst ek
      obtain ⟨hx, hw⟩ := h
      obtain ⟨c, hc, hw⟩ := hw.cons_inv
      obtain ⟨k', e, l⟩ := I.b c i ⟨cl x c hx hc, hw⟩ (Nat.le_refl _)
      by_cases hk' : k' = i
      · subst hk'
        by_cases hg : g x = none
        · exact ⟨k' + 1, by rw [h1, if_pos ⟨hg, hx, c, hc, e⟩], Nat.le_refl _⟩
        · obtain ⟨j, hj⟩ := Option.ne_none_iff_exists'.mp hg
          exact old ⟨j, hj, by have := (I.a x j hj).2; omega⟩
      · obtain ⟨j, e2, l2⟩ := I.b x (k' + 1) ⟨hx, Way.cons hc (I.a c k' e).1.2⟩ (by omega)
        exact old ⟨j, e2, by omega⟩
theorem RgI.all {i : Nat} {g : Nat → Option Nat} (I : RgI S R who i g) (h : ∀ x, g x ≠ some i) : Least (UpP S R who) g := by
  refine ⟨fun x k e => (I.a x k e).1, fun x k => ?_⟩
  induction k generalizing x with
  | zero => exact fun hp => I.b x 0 hp (Nat.zero_le _)
  | succ k ih =>
    intro hp
    obtain ⟨hx, hw⟩ := hp
    obtain ⟨c, hc, hw⟩ := hw.cons_inv
    obtain ⟨k', e, l⟩ := ih c ⟨cl x c hx hc, hw⟩
    obtain ⟨u, v⟩ := I.a c k' e
    have ne : k' ≠ i := fun z => h c (z ▸ e)
    obtain ⟨j, e2, l2⟩ := I.b x (k' + 1) ⟨hx, Way.cons hc u.2⟩ (by omega)
    exact ⟨j, e2, by omega⟩
end
section
variable (S : Nat → List Nat) (R : Nat → Prop) (who : Nat)
structure RdI (t : Nat) (g : Nat → Option Nat) : Prop where
  r1 : ∀ y k, g y = some k → Far S R who y k
  r2 : ∀ y k, UpP S R who y k → ∃ k', g y = some k' ∧ k' ≤ k
  r3 : ∀ v k, g v = some k → k < t → ∀ y, y ∈ S v → ∃ k', g y = some k' ∧ k' ≤ k + 1
variable {S R who}
theorem RdI.start {g : Nat → Option Nat} (h : Least (UpP S R who) g) : RdI S R who 0 g :=
  ⟨fun y k e => ⟨y, k, 0, (h.l1 y k e).1, (h.l1 y k e).2, Way.nil, rfl⟩, h.l2, fun v k _ z => absurd z (Nat.not_lt_zero _)⟩
theorem RdI.turn {t : Nat} {g g' : Nat → Option Nat} (I : RdI S R who t g) (h1 : ∀ y k, g' y = some k → g y = some k ∨ (k = t + 1 ∧ ∃ v, g v = some t ∧ y ∈ S v))
    (h2 : ∀ y k, g y = some k → ∃ k', g' y = some k' ∧ k' ≤ k) (h3 : ∀ v, g v = some t → ∀ y, y ∈ S v → ∃ k', g' y = some k' ∧ k' ≤ t + 1) : RdI S R who (t + 1) g' := by
  have old : ∀ {y k}, (∃ k', g y = some k' ∧ k' ≤ k) → ∃ k', g' y = some k' ∧ k' ≤ k := fun {y k} ⟨k', e, l⟩ => by
    obtain ⟨k'', e2, l2⟩ := h2 y k' e
    exact ⟨k'', e2, by omega⟩
  refine ⟨fun y k e => ?_, fun y k hp => old (I.r2 y k hp), fun v k e hk y hy => ?_⟩
  · rcases h1 y k e with z | ⟨rfl, v, hv, hy⟩
    · exact I.r1 y k z
    · exact (I.r1 v t hv).down hy
  · rcases h1 v k e with z | ⟨rfl, _⟩
    · by_cases hkt : k < t
      · exact old (I.r3 v k z hkt y hy)
      · have : k = t := by omega
        subst this
        exact h3 v z y hy
    · omega
theorem least_of {P : Nat → Prop} : ∀ {k : Nat}, P k → ∃ j, P j ∧ j ≤ k ∧ ∀ i, P i → j ≤ i := by
  intro k
  induction k using Nat.strongRecOn with
  | _ k ih =>
    intro h
    by_cases z : ∃ i, P i ∧ i < k
    · obtain ⟨i, hi, l⟩ := z
      obtain ⟨j, h1, h2, h3⟩ := ih i l hi
      exact ⟨j, h1, by omega, h3⟩
    · exact ⟨k, h, Nat.le_refl _, fun i hi => Nat.le_of_not_lt fun l => z ⟨i, hi, l⟩⟩
theorem RdI.all {t : Nat} {g : Nat → Option Nat} (I : RdI S R who t g) (bound : ∀ y k, Far S R who y k → (∀ i, Far S R who y i → k ≤ i) → k < t + 1) : Least (Far S R who) g := by
  have key : ∀ k y, Far S R who y k → (∀ i, Far S R who y i → k ≤ i) → g y = some k := by
    intro k
    induction k with
    | zero =>
      intro y h hm
      obtain ⟨x, a, b, hx, h1, h2, h3⟩ := h
      have ea : a = 0 := by omega
      have eb : b = 0 := by omega
      subst ea; subst eb
      have e := h2.zero
      subst e
      obtain ⟨k', e, l⟩ := I.r2 x 0 ⟨hx, h1⟩
      rw [e]
      congr 1
      omega
    | succ k ih =>
      intro y h hm
      have hk := bound y (k + 1) h hm
      have fin : (∃ k', g y = some k' ∧ k' ≤ k + 1) → g y = some (k + 1) := fun ⟨k', e, l⟩ => by
        have := hm k' (I.r1 y k' e)
        rw [e]
        congr 1
        omega
      obtain ⟨x, a, b, hx, h1, h2, h3⟩ := h
      cases b with
      | zero =>
        have e := h2.zero
        subst e
        have : a = k + 1 := by omega
        subst this
        exact fin (I.r2 x (k + 1) ⟨hx, h1⟩)
      | succ b =>
        obtain ⟨v, hv, hy⟩ := h2.snoc_inv
        have fv : Far S R who v k := ⟨x, a, b, hx, h1, hv, by omega⟩
        have gv := ih v fv fun i hi => by
          have := hm (i + 1) (hi.down hy)
          omega
        exact fin (I.r3 v k gv (by omega) y hy)
  refine ⟨I.r1, fun y k h => ?_⟩
  obtain ⟨j, h1, h2, h3⟩ := least_of h
  exact ⟨j, key j y h1 h3, h2⟩
end
end Dg
end
section
set_option Elab.async false
set_option linter.all false
set_option maxRecDepth 100000
set_option maxHeartbeats 2000000
namespace Pw
open PySem PySem.Spec PyProof.Rows L2 Pv
end Pw
end
section
set_option Elab.async false
set_option linter.all false
set_option maxRecDepth 100000
set_option maxHeartbeats 2000000
namespace Pw
open PySem PySem.Spec PyProof.Rows L2 Pv
end Pw
end
section
set_option Elab.async false
set_option linter.all false
set_option maxRecDepth 100000
set_option maxHeartbeats 4000000
namespace Lg
open PySem L2 Pw Pv Lx Ls Lq Wk Lv Lz Dg
def getA {α : Type} (L : List (Nat × α)) (w : Nat) : Option α := (L.find? fun e => decide (e.1 = w)).map (·.2)
def putA {α : Type} (L : List (Nat × α)) (w : Nat) (p : α) : List (Nat × α) := if (L.any fun e => decide (e.1 = w)) = true then L.map (fun e => if e.1 = w then (e.1, p) else e) else L ++ [(w, p)]
section
variable {α : Type} {enc : α → D} {L : List (Nat × α)} {c w : Nat} {p : α}
theorem getA_none : getA L w = none ↔ (L.any fun e => decide (e.1 = w)) = false := by
  unfold getA
  rw [Option.map_eq_none_iff, List.find?_eq_none, List.any_eq_false]
theorem getA_put : getA (putA L c p) w = if w = c then some p else getA L w := by
  unfold putA
  split
  · rename_i ha
    unfold getA
    rw [List.find?_map]
    have e : ((fun e : Nat × α => decide (e.1 = w)) ∘ fun e => if e.1 = c then (e.1, p) else e) = fun e => decide (e.1 = w) := funext fun e => by
      show decide ((if e.1 = c then (e.1, p) else e).1 = w) = _
      split <;> rfl
    rw [e]
    cases h : L.find? fun e => decide (e.1 = w) with
    | none =>
      by_cases hw : w = c
      · subst hw
        have := getA_none.mp (show getA L w = none by unfold getA; rw [h]; rfl)
        rw [this] at ha; cases ha
      · rw [if_neg hw]; rfl
    | some x =>
      have hx : x.1 = w := of_decide_eq_true (List.find?_some (p := fun e : Nat × α => decide (e.1 = w)) h)
      simp only [Option.map_some]
      by_cases hw : w = c
      · rw [if_pos (by rw [hx, hw]), if_pos hw]
      · rw [if_neg (by rw [hx]; exact hw), if_neg hw]
  · rename_i ha
    unfold getA
    rw [List.find?_append]
    by_cases hw : w = c
    · subst hw
      rw [if_pos rfl]
      have h : L.find? (fun e => decide (e.1 = w)) = none := by
        have := getA_none.mpr (show (L.any fun e => decide (e.1 = w)) = false by rw [Bool.not_eq_true] at ha; exact ha)
        unfold getA at this
        exact Option.map_eq_none_iff.mp this
      rw [h]
      simp
    · rw [if_neg hw]
      have : List.find? (fun e : Nat × α => decide (e.1 = w)) [(c, p)] = none := by
        rw [List.find?_cons]
        simp only [decide_eq_false (show ¬ c = w from fun z => hw z.symm)]
        rfl
      rw [this, Option.or_none]
theorem keysA_put (nd : (L.map (·.1)).Nodup) : ((putA L c p).map (·.1)).Nodup := by
  unfold putA
  split
  · have : (L.map (fun e => if e.1 = c then (e.1, p) else e)).map (·.1) = L.map (·.1) := by
      rw [List.map_map]
      refine List.map_congr_left fun e _ => ?_
      show (if e.1 = c then (e.1, p) else e).1 = e.1
      split <;> rfl
    rw [this]; exact nd
  · rename_i ha
    rw [List.map_append, List.nodup_append]
    refine ⟨nd, by simp, fun a h1 b h2 z => ?_⟩
    simp only [List.map_cons, List.map_nil, List.mem_singleton] at h2
    obtain ⟨e, he, rfl⟩ := List.mem_map.mp h1
    exact ha (List.any_eq_true.mpr ⟨e, he, decide_eq_true (z.trans h2)⟩)
theorem ltA_put {n : Nat} (h : ∀ e ∈ L, e.1 < n) (hc : c < n) : ∀ e ∈ putA L c p, e.1 < n := by
  unfold putA
  split
  · intro e he
    obtain ⟨x, hx, rfl⟩ := List.mem_map.mp he
    have := h x hx
    split <;> exact this
  · intro e he
    rcases List.mem_append.mp he with z | z
    · exact h e z
    · rw [List.mem_singleton.mp z]; exact hc
end
structure Tab (n : Nat) (L : List (Nat × Nat)) : Prop where
  nd : (L.map (·.1)).Nodup
  lt : ∀ e ∈ L, e.1 < n
end Lg
end
section
set_option Elab.async false
set_option linter.all false
set_option maxRecDepth 100000
set_option maxHeartbeats 4000000
namespace Lg
open PySem L2 Pw Pv Lx Ls Lq Wk Lv Lz Dg
end Lg
end
section
set_option Elab.async false
set_option linter.all false
set_option maxRecDepth 100000
set_option maxHeartbeats 4000000
namespace Lg
open PySem L2 Pw Pv Lx Ls Lq Wk Lv Lz Dg
end Lg
end
section
set_option Elab.async false
set_option linter.all false
set_option maxRecDepth 100000
set_option maxHeartbeats 4000000
namespace Lg
open PySem L2 Pw Pv Lx Ls Lq Wk Lv Lz Dg
end Lg
end
section
set_option Elab.async false
set_option linter.all false
set_option maxRecDepth 100000
set_option maxHeartbeats 4000000
namespace Lg
open PySem L2 Pw Pv Lx Ls Lq Wk Lv Lz Dg
end Lg
end
section
set_option Elab.async false
set_option linter.all false
set_option maxRecDepth 100000
set_option maxHeartbeats 4000000
namespace Lg
open PySem L2 Pw Pv Lx Ls Lq Wk Lv Lz Dg
end Lg
end
section
set_option Elab.async false
set_option linter.all false
set_option maxRecDepth 100000
set_option maxHeartbeats 4000000
namespace Lg
open PySem L2 Pw Pv Lx Ls Lq Wk Lv Lz Dg
section
variable {S : Nat → List Nat} {f : Nat}
def Reach (S : Nat → List Nat) (f x : Nat) : Prop := ∃ q, go S f q = some x
def Pk (S : Nat → List Nat) (f k x : Nat) : Prop := x = f ∨ ∃ v, v < f + k ∧ Reach S f v ∧ x ∈ S v
theorem Pk.reach {k x : Nat} (h : Pk S f k x) : Reach S f x := by
  rcases h with rfl | ⟨v, _, ⟨q, hq⟩, hx⟩
  · exact ⟨[], rfl⟩
  · obtain ⟨j, hj⟩ := List.getElem?_of_mem hx
    exact ⟨q ++ [j], by rw [go_snoc, hq]; exact hj⟩
end
end Lg
end
section
set_option Elab.async false
set_option linter.all false
set_option maxRecDepth 100000
set_option maxHeartbeats 4000000
namespace Lg
open PySem L2 Pw Pv Lx Ls Lq Wk Lv Lz Dg
end Lg
end
section
set_option Elab.async false
set_option linter.all false
set_option maxRecDepth 100000
set_option maxHeartbeats 4000000
namespace Lg
open PySem L2 Pw Pv Lx Ls Lq Wk Lv Lz Dg
end Lg
end
section
set_option Elab.async false
set_option linter.all false
set_option maxRecDepth 100000
set_option maxHeartbeats 4000000
namespace Lg
open PySem L2 Pw Pv Lx Ls Lq Wk Lv Lz Dg
end Lg
end
section
set_option Elab.async false
set_option linter.all false
set_option maxRecDepth 100000
set_option maxHeartbeats 4000000
namespace Lg
open PySem L2 Pw Pv Lx Ls Lq Wk Lv Lz Dg
section
variable {m : Mem} {ST : List (Key × D)} {T T' : List (Nat × Nat)} {E : List MO} {x y : MO} {i : Nat}
def IsRing (m : Mem) (E : List MO) (rw : W) (ring : List Nat) : Prop := rw = .v (.lst (ring.map nD)) ∨ ∃ i, rw = .r (m.length + 2 + i) ∧ E[i]? = some (.lst (ring.map nD))
theorem IsRing.stl {rw : W} {ring : List Nat} (h : IsRing m E rw ring) : Pw.stl rw = rw := by
  rcases h with rfl | ⟨i, rfl, e⟩ <;> rfl
theorem IsRing.more {rw : W} {ring : List Nat} (h : IsRing m E rw ring) (E' : List MO) : IsRing m (E ++ E') rw ring := by
  rcases h with rfl | ⟨i, rfl, e⟩
  · exact .inl rfl
  · exact .inr ⟨i, rfl, by rw [List.getElem?_append_left (List.getElem?_eq_some_iff.mp e).1]; exact e⟩
end
section
variable {F : List Fo} {B : List Nw} {r : Rw} {day : Int} {m : Mem} {web : D} {S : Nat → List Nat} {ks : List Nat} {R : List (Key × D)} {w : Nat}
def cndR (S : Nat → List Nat) (T : List (Nat × Nat)) (ring : List Nat) (x : Nat) : Bool := (getA T x).isNone && !((S x).filter fun c => decide (c ∈ ring)).isEmpty
end
end Lg
end
section
set_option Elab.async false
set_option linter.all false
set_option maxRecDepth 100000
set_option maxHeartbeats 4000000
namespace Lg
open PySem L2 Pw Pv Lx Ls Lq Wk Lv Lz Dg
section
variable {F : List Fo} {B : List Nw} {r : Rw} {day : Int} {m : Mem} {web : D} {S : Nat → List Nat} {ks : List Nat} {R : List (Key × D)} {w : Nat}
def putR (T : List (Nat × Nat)) (us : List Nat) (k : Nat) : List (Nat × Nat) := us.foldl (fun T x => putA T x k) T
theorem putR_get {k : Nat} : ∀ (us : List Nat) (T : List (Nat × Nat)) (y : Nat), getA (putR T us k) y = if y ∈ us then some k else getA T y
  | [], T, y => by simp [putR]
  | x :: us, T, y => by
    show getA (putR (putA T x k) us k) y = _
    rw [putR_get us]
    by_cases h : y ∈ us
    · simp [h]
    · rw [if_neg h, getA_put]
      by_cases h2 : y = x
      · simp [h2]
      · simp [h, h2]
theorem putR_tab {n k : Nat} : ∀ (us : List Nat) (T : List (Nat × Nat)), Tab n T → (∀ x ∈ us, x < n) → Tab n (putR T us k)
  | [], T, h, _ => h
  | x :: us, T, h, hu => putR_tab us (putA T x k) ⟨keysA_put h.nd, ltA_put h.lt (hu x List.mem_cons_self)⟩ fun y hy => hu y (List.mem_cons_of_mem _ hy)
end
end Lg
end
section
set_option Elab.async false
set_option linter.all false
set_option maxRecDepth 100000
set_option maxHeartbeats 4000000
namespace Lg
open PySem L2 Pw Pv Lx Ls Lq Wk Lv Lz Dg
structure RS where
  T : List (Nat × Nat)
  ring : List Nat
  E : List MO
  rw : W
  i : Nat
section
variable {F : List Fo} {B : List Nw} {r : Rw} {day : Int} {m : Mem} {web : D} {S : Nat → List Nat} {Rb : Nat → Bool} {ks : List Nat} {R : List (Key × D)} {w n : Nat}
def nextR (S : Nat → List Nat) (ks : List Nat) (m : Mem) (s : RS) : RS :=
  ⟨putR s.T (ks.filter (cndR S s.T s.ring)) (s.i + 1), ks.filter (cndR S s.T s.ring), s.E ++ [.lst ((ks.filter (cndR S s.T s.ring)).map nD)], .r (m.length + 2 + s.E.length), s.i + 1⟩
structure RInv (S : Nat → List Nat) (Rb : Nat → Bool) (w n : Nat) (m : Mem) (s : RS) : Prop where
  tb : Tab n s.T
  rg : RgI S (fun x => Rb x = true) w s.i (getA s.T)
  rm : ∀ x, x ∈ s.ring ↔ getA s.T x = some s.i
  rr : IsRing m s.E s.rw s.ring
theorem cnd_iff {T : List (Nat × Nat)} {ring : List Nat} {x : Nat} : cndR S T ring x = true ↔ getA T x = none ∧ ∃ c, c ∈ S x ∧ c ∈ ring := by
  unfold cndR
  rw [Bool.and_eq_true, Option.isNone_iff_eq_none, Bool.not_eq_true', List.isEmpty_eq_false_iff]
  refine and_congr Iff.rfl ?_
  constructor
  · intro h
    obtain ⟨c, hc⟩ := List.exists_mem_of_ne_nil _ h
    rw [List.mem_filter] at hc
    exact ⟨c, hc.1, of_decide_eq_true hc.2⟩
  · rintro ⟨c, h1, h2⟩ h3
    have : c ∈ (S x).filter fun c => decide (c ∈ ring) := List.mem_filter.mpr ⟨h1, decide_eq_true h2⟩
    rw [h3] at this
    cases this
theorem RInv.next (cl : ∀ v c, Rb v = true → c ∈ S v → Rb c = true) (hk : ∀ x, x ∈ ks ↔ Rb x = true) (hl : ∀ x ∈ ks, x < n) {s : RS} (I : RInv S Rb w n m s) : RInv S Rb w n m (nextR S ks m s) := by
  have um : ∀ x, x ∈ ks.filter (cndR S s.T s.ring) ↔ getA s.T x = none ∧ Rb x = true ∧ ∃ c, c ∈ S x ∧ getA s.T c = some s.i := fun x => by
    rw [List.mem_filter, cnd_iff, hk]
    constructor
    · rintro ⟨h1, h2, c, h3, h4⟩
      exact ⟨h2, h1, c, h3, (I.rm c).mp h4⟩
    · rintro ⟨h1, h2, c, h3, h4⟩
      exact ⟨h2, h1, c, h3, (I.rm c).mpr h4⟩
  refine ⟨putR_tab _ _ I.tb fun x hx => hl x (List.mem_filter.mp hx).1, I.rg.turn cl fun x => ?_, fun x => ?_, .inr ⟨s.E.length, rfl, by simp [nextR]⟩⟩
  · show getA (putR s.T (ks.filter (cndR S s.T s.ring)) (s.i + 1)) x = _
    rw [putR_get]
    by_cases h : x ∈ ks.filter (cndR S s.T s.ring)
    · rw [if_pos h, if_pos ((um x).mp h)]
    · rw [if_neg h, if_neg fun z => h ((um x).mpr z)]
  · show x ∈ ks.filter (cndR S s.T s.ring) ↔ getA (putR s.T (ks.filter (cndR S s.T s.ring)) (s.i + 1)) x = some (s.i + 1)
    rw [putR_get]
    by_cases h : x ∈ ks.filter (cndR S s.T s.ring)
    · simp only [h, if_true]
    · simp only [h, if_false, false_iff]
      intro z
      have := (I.rg.a x _ z).2
      omega
end
end Lg
end
section
set_option Elab.async false
set_option linter.all false
set_option maxRecDepth 100000
set_option maxHeartbeats 4000000
namespace Lg
open PySem L2 Pw Pv Lx Ls Lq Wk Lv Lz Dg
end Lg
end
section
set_option Elab.async false
set_option linter.all false
set_option maxRecDepth 100000
set_option maxHeartbeats 4000000
namespace Lg
open PySem L2 Pw Pv Lx Ls Lq Wk Lv Lz Dg
end Lg
end
section
set_option Elab.async false
set_option linter.all false
set_option maxRecDepth 100000
set_option maxHeartbeats 4000000
namespace Lg
open PySem L2 Pw Pv Lx Ls Lq Wk Lv Lz Dg
end Lg
end
section
set_option Elab.async false
set_option linter.all false
set_option maxRecDepth 100000
set_option maxHeartbeats 2000000
namespace Pv
open PySem PySem.Spec PyProof.Rows L2
section
variable {X : Cx}
def rTupX (K : PySem.W.Frag) : List V → Hp → VK → Prop := fun xs H Q => ∃ (p : Addr) (ys : List V), xs = [.ref p] ∧ SqL K H p ys ∧ ∀ (l : Addr) (o : Obj), H l = none → o.dict = none → Q (.ref l) (upd H l (.frz o (.tup ys)))
theorem cr_tupX : CallR X (.type "tuple") (rTupX X.K) := by
  intro pins s σ H xs us Q J rv hh
  obtain ⟨p, ys, rfl, hq, go⟩ := hh
  obtain ⟨u, rfl, ru⟩ := vals1 rv; cases ru
  obtain ⟨its, ri, pl, sz⟩ := J.list hq
  have ln := ri.length
  refine call_tuple_list pl.isList (fun g kp => ?_) (by simp only [List.size_toArray] <;> omega)
  have J1 : Inv X pins σ H { s with heap := g } := J.kept (t' := s.toks) kp
  have ok : ObjOk X.prog X.w (upd H g.objs.size (.frz ({ cls := .type "tuple", data := .seq its.toArray } : Obj) (.tup ys))) (g.push { cls := .type "tuple", data := .seq its.toArray }) g.objs.size (.frz ({ cls := .type "tuple", data := .seq its.toArray } : Obj) (.tup ys)) :=
    ⟨Heap.get?_push_size _ rfl, sz, its, ri, IsTup.new _ _⟩
  exact ⟨.ref g.objs.size, _, J1.laid (t' := s.toks) (fun b o e => Heap.get?_push_of_some _ e) (Nat.le_refl _) ok, rfl, go _ _ (J1.hok.fresh (Nat.le_refl _)) rfl⟩
theorem flat_ints (ys : List Int) : (ys.map V.int).all flatV = true := List.all_eq_true.mpr fun z hz => by
  obtain ⟨i, _, rfl⟩ := List.mem_map.mp hz; rfl
def rTupIdx (K : PySem.W.Frag) : V → List V → Hp → VK → Prop := fun x xs H Q => ∃ (p : Addr) (ys : List Int) (z : Int) (j : Nat), x = .ref p ∧ xs = [.int z] ∧ SqT K H p (ys.map V.int) ∧ ys[j]? = some z ∧ (∀ n, n < j → ys[n]? ≠ some z) ∧ Q (.int (j : Nat)) H
theorem mt_tupI : MtR X "tuple.index" (rTupIdx X.K) := by
  intro pins s σ H x xs v us Q J rx rs hh
  obtain ⟨p, ys, z, j, rfl, rfl, hq, hy, hno, go⟩ := hh
  cases rx
  obtain ⟨u, rfl, t, rfl⟩ := vals1 rs
  obtain ⟨its, ri, pl, sz⟩ := J.tuple hq
  obtain ⟨⟨c0, d0, t0, s0⟩, ho, hc, n, hd⟩ := pl; simp only at hc hd; subst hc; subst hd
  have hl : its.toArray.size = ys.length := by rw [List.size_toArray, ← ri.length, List.length_map]
  have hj : j < its.toArray.size := by rw [hl]; exact (List.getElem?_eq_some_iff.mp hy).1
  have one : ∀ (k : Nat) (hk : k < its.toArray.size), ∃ (y : Int) (t' : Tok), ys[k]? = some y ∧ its.toArray[k] = Value.int y t' := fun k hk => by
    have hk' : k < ys.length := hl ▸ hk
    obtain ⟨w, hw, t', hw'⟩ := ri.get (i := k) (x := .int ys[k]) (by simp [hk'])
    exact ⟨ys[k], t', List.getElem?_eq_getElem hk', by rw [← hw', ← (List.getElem?_eq_some_iff.mp hw).2]; simp⟩
  refine call_meets PySem.F.slot_tuple_index ⟨_, ho, rfl⟩ PySem.F.entry_tuple_index (PySem.F.args_tuple_index_2 _ _) (TI.tuple_indexAt p its.toArray n d0 s0 (.int z t) (eqU (.int z)) j hj ?_ ?_) ⟨ho, fun w hw => ?_, ⟨.int (j : Nat), H, J.tok _, ⟨_, rfl⟩, go⟩⟩
  · obtain ⟨y, t', h1, h2⟩ := one j hj
    rw [hy] at h1; cases h1; rw [h2]
    exact beq_self_eq_true z
  · intro k hk hkj
    obtain ⟨y, t', h1, h2⟩ := one k hk
    rw [h2]
    exact beq_eq_false_iff_ne.mpr fun e => hno k hkj (e ▸ h1)
  · exact mem_eqAt (x := .int z) ⟨t, rfl⟩ rfl ri (flat_ints ys) w (by simpa using hw)
def tBMz (r : V → List V → Hp → VK → Prop) (to : TE) (t : TA) : TE := fun σ H Q => to σ H fun x H1 => (∃ (p : Addr) (o : Obj) (vs : List V), x = .ref p ∧ H1 p = some (.frz o (.tup vs)) ∧ o.dict = none) ∧ t σ H1 fun xs H2 => r x xs H2 Q
variable {o e : Expr} {es : List Expr} {to : TE} {t : TA} {name : Str} {apos cpos : Pos} {id : String} {r : V → List V → Hp → VK → Prop}
theorem pe_bmz (slot : Slot "tuple" name id) (hty : typeOf (.builtin id) = pure (.type "method_descriptor")) (hm : MtR X id r) (ho : PE X o to) (ha : PA X (e :: es) t)
    (hbase : attributeBase o name X.env (eval o X.env) = eval o X.env := by rfl)
    (hfew : ((backTo cpos (starEach (e :: es) X.env)).all (fun x => !x.1) && (backToKw cpos (keywordEach [] X.env)).all (fun x => x.1.isSome) && decide ((e :: es).length + ([] : List Keyword).length + (if ([] : List Keyword).isEmpty then 0 else 1) < 30)) = true := by rfl)
    (hline : (apos.endLine == cpos.line) = true := by rfl) (hst : starEach (e :: es) X.env = (false, eval e X.env) :: starEach es X.env := by rfl) (hplain : (backTo cpos (starEach es X.env)).any (·.1) = false := by rfl) : PE X (.Call (.Attribute o name apos) (e :: es) [] cpos) (tBMz r to t) := by
  refine ⟨fun pins s σ H Q J h => wpAny_Call_method_late hbase hfew hline rfl (thn (ho.run pins s σ H _ J h) fun v s1 ⟨x, H1, J1, r1, ty, q1⟩ => ?_)⟩
  obtain ⟨p, ob, vs, rfl, hp, hd⟩ := ty
  cases r1
  obtain ⟨g1, _, _, _, g2⟩ := J1.hok p _ hp
  obtain ⟨ob2, g3, g4, _⟩ := g2
  have eo : ob2 = ob := Option.some.inj (g3.symm.trans g1)
  subst eo
  refine ⟨"tuple", id, PySem.F.plainAttrs_tuple, slot, hty, ⟨ob2, g1, g4⟩, fun a ea => by cases ea; exact ⟨ob2, g1, hd⟩, ?_⟩
  have hA := ha.run cpos pins s1 σ H1 _ J1 q1
  rw [hst] at hA ⊢
  exact Calls.callWith_builtin (by show (false || (backTo cpos (starEach es X.env)).any (·.1)) = false; rw [hplain] <;> rfl) (Calls.evalArgs_plain (thn hA fun us s2 ⟨vs, H2, J2, r2, q2⟩ => hm pins s2 σ H2 (.ref p) vs _ us Q J2 rfl r2 q2))
end
end Pv
end
section
set_option Elab.async false
set_option linter.all false
set_option maxRecDepth 100000
set_option maxHeartbeats 2000000
namespace Pw
open PySem PySem.Spec PyProof.Rows L2 Pv
section
variable {X : Cx} {K : FRG} {tb : List Addr}
theorem Go.tx {φ ψ : List Addr} {H : Hp} {m : Mem} {Q : VK} {ds : List D} {vs : List V} {p : Addr} {o : Obj} (k : Go K tb φ ψ H m (.v (.tx ds)) Q) (R : Rel K tb φ ψ H m) (h : Reps K φ ψ H ds vs) (hp : H p = none) (hd : o.dict = none) (hn : ∀ x, V.str x ∉ vs) : Q (.ref p) (upd H p (.frz o (.tup vs))) :=
  k φ ψ _ _ (Post.lay hp) (R.lay hp) ⟨rfl, .tx ⟨o, upd_same, hd, hn⟩ (h.mono (Post.lay hp) R)⟩
def fgW : W → W
  | .v (.tx ds) => .v (.tup ds)
  | w => w
def eFg (a : Ex) : Ex := fun ρ m => (a ρ m).bind fun p => some (fgW p.1, p.2)
theorem ex_fg {a : Expr} {fa : Ex} (ha : PE X a (T X.K tb fa)) : PE X a (T X.K tb (eFg fa)) := by
  refine pe_mono ha fun σ H Q ⟨φ, ψ, ρ, m, w, m', R, E, e, k⟩ => ?_
  obtain ⟨⟨w1, m1⟩, e1, e⟩ := bnd e
  cases e
  refine ⟨φ, ψ, ρ, m, w1, m1, R, E, e1, fun φ1 ψ1 H1 x P1 R1 V1 => k φ1 ψ1 H1 x P1 R1 ?_⟩
  cases w1 with
  | r n => exact V1
  | f d => exact V1
  | v d =>
    cases d with
    | tx ds =>
      obtain ⟨rfl, V1⟩ := V1
      cases V1 with
      | tx h r => exact ⟨rfl, .tup (SqN.no h.sq (kyV_no h.choose_spec.2.2)) r⟩
    | _ => exact V1
def tupleXD : List D → Option W
  | [.fl ds] => if noStr ds = true then some (.v (.tx ds)) else none
  | [.lst ds] => if noStr ds = true then some (.v (.tx ds)) else none
  | _ => none
theorem tupleX_s : CallS K tb (rTupX K) tupleXD := fun φ ψ H m vs ds w Q R r e k => by
  unfold tupleXD at e
  split at e
  · split at e
    rotate_left
    · cases e
    rename_i hn
    cases e
    cases r with
    | cons h r => cases r; obtain ⟨a, vs, rfl, hq, q⟩ := h.fl; exact ⟨_, _, rfl, hq, fun p o hp hd => Go.tx k R q hp hd (noStr_rep q hn)⟩
  · split at e
    rotate_left
    · cases e
    rename_i hn
    cases e
    cases r with
    | cons h r => cases r; obtain ⟨a, vs, rfl, hq, q⟩ := h.lst; exact ⟨_, _, rfl, SqL.of hq, fun p o hp hd => Go.tx k R q hp hd (noStr_rep q hn)⟩
  · cases e
def isTx : W → Mem → Bool
  | .v (.tx _), _ => true
  | _, _ => false
def idxTD : W → List W → Mem → Option (W × Mem) := fun w ws m => match w, ws with
  | .v (.tx ds), [a] => (allI ds).bind fun is => (gt a m).bind fun x => match x with
    | .int i => (is.findIdx? fun j => j == i).bind fun k => some (.v (.int (k : Int)), m)
    | _ => none
  | _, _ => none
theorem idxT_s : MtS X.K tb (rTupIdx X.K) idxTD := fun φ ψ H m x vs w ws w' m' Q R h hs e k => by
  unfold idxTD at e
  split at e
  · obtain ⟨is, e3, e⟩ := bnd e
    obtain ⟨y, e4, e⟩ := bnd e
    split at e
    · rename_i i
      obtain ⟨j, e5, e⟩ := bnd e
      cases e
      cases hs with
      | cons ha r =>
        cases r
        cases h with
        | tx hz rs =>
          obtain rfl := allI_rep rs e3
          have hv := (gt_c R ha e4).int
          subst hv
          obtain ⟨hj, hji, hjn⟩ := List.findIdx?_eq_some_iff_getElem.mp e5
          have hji' : is[j] = i := by simpa using hji
          refine ⟨_, is, i, j, rfl, rfl, hz.sq, by rw [List.getElem?_eq_getElem hj, hji'], fun n hn hz => ?_, Go.val k R (.int _)⟩
          have hn' : n < is.length := by omega
          rw [List.getElem?_eq_getElem hn'] at hz
          have := hjn n hn
          simp at this hz
          exact this hz
    · cases e
  · cases e
theorem ex_indexT {o a : Expr} {fo : Ex} {f : Ax} {apos cpos : Pos} {es : List Expr} (ho : PE X o (T X.K tb fo)) (ha : PA X (a :: es) (Ta X.K tb f))
    (hbase : attributeBase o "index" X.env (eval o X.env) = eval o X.env := by rfl)
    (hfew : ((backTo cpos (starEach (a :: es) X.env)).all (fun x => !x.1) && (backToKw cpos (keywordEach [] X.env)).all (fun x => x.1.isSome) && decide ((a :: es).length + ([] : List Keyword).length + (if ([] : List Keyword).isEmpty then 0 else 1) < 30)) = true := by rfl)
    (hline : (apos.endLine == cpos.line) = true := by rfl) (hst : starEach (a :: es) X.env = (false, eval a X.env) :: starEach es X.env := by rfl) (hplain : (backTo cpos (starEach es X.env)).any (·.1) = false := by rfl) :
    PE X (.Call (.Attribute o "index" apos) (a :: es) [] cpos) (T X.K tb (eMt isTx idxTD fo f)) := by
  refine pe_mono (pe_bmz PySem.F.slot_tuple_index PySem.F.type_tuple_index mt_tupI ho ha hbase hfew hline hst hplain) fun σ H Q ⟨φ, ψ, ρ, m, w, m', R, E, e, k⟩ => ?_
  obtain ⟨⟨w1, m1⟩, e1, e⟩ := bnd e
  split at e
  · rename_i hc
    obtain ⟨⟨ws, m2⟩, e2, e⟩ := bnd e
    refine ⟨φ, ψ, ρ, m, w1, m1, R, E, e1, fun φ1 ψ1 H1 x P1 R1 V1 => ⟨?_, φ1, ψ, ρ, m1, ws, m2, V1.rel R1, E.mono (V1.post P1) R, e2, fun φ2 H2 vs P2 R2 V2 => ?_⟩⟩
    · cases w1 with
      | r n => cases hc
      | f d => cases hc
      | v d =>
        cases d with
        | tx ds =>
          obtain ⟨_, V1⟩ := V1
          cases V1 with
          | tx h r => obtain ⟨o, h1, h2⟩ := h; exact ⟨_, o, _, rfl, h1, h2.1⟩
        | _ => cases hc
    · exact idxT_s φ2 ψ H2 m2 x vs w1 ws w m' Q R2 ((V1.s R1).mono P2 (V1.rel R1)) V2 e fun φ3 ψ3 H3 v P3 R3 V3 => k φ3 ψ3 H3 v (((V1.post P1).trans P2).trans P3) R3 V3
  · cases e
end
end Pw
end
section
set_option Elab.async false
set_option linter.all false
set_option maxRecDepth 100000
set_option maxHeartbeats 4000000
namespace Le
open PySem L2 Pw Pv Lx Ls Lq Wk Lv Lz
noncomputable def B_folk_at : Sx := (sRet (eIf (tVal (eOp (cmpD ltI) (eVar 1) (eCB lenD (aCons (eVar 0) aNil)))) (eOp ixD (eVar 0) (eVar 1)) (eUn negD (eC (.int 1)))))
noncomputable def B_says : Sx := (sSeq (sIf (tTru (eVar 1)) (sRet (eOp (isBD false) (eVar 0) (eC (.bl true)))) sNil) (sRet (eOp (isBD false) (eVar 0) (eC (.bl false)))))
end Le
end
section
set_option Elab.async false
set_option linter.all false
set_option maxRecDepth 100000
set_option maxHeartbeats 4000000
namespace Le
open PySem L2 Pw Pv Lx Ls Lq Wk Lv Lz
end Le
end
section
set_option Elab.async false
set_option linter.all false
set_option maxRecDepth 100000
set_option maxHeartbeats 400000
namespace Lh
open PySem L2 Pw Pv Lx Ls Lq Wk Lv Lg
end Lh
end
section
set_option Elab.async false
set_option linter.all false
set_option maxRecDepth 100000
set_option maxHeartbeats 2000000
namespace Pw
open PySem PySem.Spec PyProof.Rows L2 Pv
end Pw
end
section
set_option Elab.async false
set_option linter.all false
set_option maxRecDepth 100000
set_option maxHeartbeats 2000000
namespace Pw
open PySem PySem.Spec PyProof.Rows L2 Pv
end Pw
end
section
set_option Elab.async false
set_option linter.all false
set_option maxRecDepth 100000
set_option maxHeartbeats 4000000
namespace Pw
open PySem PySem.Spec PyProof.Rows L2
theorem tabIn_none {K : FRG} {x : Str} (h : PySem.W.nsIn K mainGlobals x = some none) : PySem.W.tabIn K x = none := by
  unfold PySem.W.tabIn
  rw [h]
theorem notL_of {K : FRG} {P : Addr} (h1 : PySem.W.tabIn K "by_nearness" = none ∨ ∃ c R, PySem.W.tabIn K "by_nearness" = some (c, R) ∧ P ≠ R) (h2 : PySem.W.tabIn K "to_join" = none ∨ ∃ c R, PySem.W.tabIn K "to_join" = some (c, R) ∧ P ≠ R) : NotL K P := by
  intro x hx c e
  rcases List.mem_cons.mp hx with z | z
  · subst z
    rcases h1 with z | ⟨c', R, z, n⟩
    · rw [z] at e; cases e
    · rw [z] at e; cases e; exact n rfl
  · obtain rfl := List.mem_singleton.mp z
    rcases h2 with z | ⟨c', R, z, n⟩
    · rw [z] at e; cases e
    · rw [z] at e; cases e; exact n rfl
end Pw
end
section
set_option Elab.async false
set_option linter.all false
set_option maxRecDepth 100000
set_option maxHeartbeats 4000000
namespace Pw
open PySem PySem.Spec PyProof.Rows L2
end Pw
end
section
set_option Elab.async false
set_option linter.all false
set_option maxRecDepth 100000
set_option maxHeartbeats 4000000
namespace Lo
open PySem L2 Pw Pv Lx Ls Lq Wk Lv Lz Dg Lg
end Lo
end
section
set_option Elab.async false
set_option linter.all false
set_option maxRecDepth 100000
set_option maxHeartbeats 4000000
namespace Lo
open PySem L2 Pw Pv Lx Ls Lq Wk Lv Lz Dg Lg
section
variable {F : List Fo} {B : List Nw} {r : Rw} {day : Int} {m : Mem}
theorem allI_i (L : List Int) : allI (L.map D.int) = some L := by
  induction L with
  | nil => rfl
  | cons x L ih => rw [List.map_cons, allI, ih]; rfl
end
end Lo
end
section
set_option Elab.async false
set_option linter.all false
set_option maxRecDepth 100000
set_option maxHeartbeats 4000000
namespace Lo
open PySem L2 Pw Pv Lx Ls Lq Wk Lv Lz Dg Lg
section
variable {F : List Fo} {B : List Nw} {r : Rw} {day : Int} {m : Mem}
noncomputable def vF (F : List Fo) (B : List Nw) (r : Rw) (day : Int) : List (List Nat) := @dite _ (∃ V, IsWalk F B r day V) (Classical.propDecidable _) (fun h => Classical.choose h) fun _ => []
end
end Lo
end
section
set_option Elab.async false
set_option linter.all false
set_option maxRecDepth 100000
set_option maxHeartbeats 4000000
namespace Lo
open PySem L2 Pw Pv Lx Ls Lq Wk Lv Lz Dg Lg
end Lo
end
section
set_option Elab.async false
set_option linter.all false
set_option maxRecDepth 100000
set_option maxHeartbeats 4000000
namespace Lo
open PySem L2 Pw Pv Lx Ls Lq Wk Lv Lz Dg Lg
end Lo
end
section
set_option Elab.async false
set_option linter.all false
set_option maxRecDepth 100000
set_option maxHeartbeats 4000000
namespace Lo
open PySem L2 Pw Pv Lx Ls Lq Wk Lv Lz Dg Lg
end Lo
end
section
set_option Elab.async false
set_option linter.all false
set_option maxRecDepth 100000
set_option maxHeartbeats 2000000
namespace Wk
open Lv
end Wk
end
section
set_option Elab.async false
set_option linter.all false
set_option maxRecDepth 100000
set_option maxHeartbeats 4000000
namespace Le
open PySem L2 Pw Pv Lx Ls Lq Wk Lv Lz
noncomputable def E_is_rising_1 : Ex := eAll true (iRngA (aCons (eOp subD (eCB lenD (aCons (eVar 0) aNil)) (eC (.int 1))) aNil)) (gN 1) tYes' (eOp (cmpD ltI) (eOp ixD (eVar 0) (eVar 1)) (eOp ixD (eVar 0) (eOp addD (eVar 1) (eC (.int 1))))) [1]
noncomputable def B_is_rising : Sx := (sRet E_is_rising_1)
noncomputable def F_is_rising : Fx := runF 1 2 B_is_rising
noncomputable def B_is_tuple_of : Sx := (sRet (eAnd (eIs .tuple (eVar 0)) (eOp (eqD false) (eCB lenD (aCons (eVar 0) aNil)) (eVar 1))))
noncomputable def F_is_tuple_of : Fx := runF 2 2 B_is_tuple_of
section
variable {S : Nat → List Nat} {n f : Nat} {m : Mem}
end
end Le
end
section
set_option Elab.async false
set_option linter.all false
set_option maxRecDepth 100000
set_option maxHeartbeats 4000000
namespace Lo
open PySem L2 Pw Pv Lx Ls Lq Wk Lv Lz Dg Lg
end Lo
end
section
set_option Elab.async false
set_option linter.all false
set_option maxRecDepth 100000
set_option maxHeartbeats 4000000
namespace Lo
open PySem L2 Pw Pv Lx Ls Lq Wk Lv Lz Dg Lg
section
variable {F : List Fo} {B B' : List Nw} {r : Rw} {day : Int} {m : Mem}
structure SameS (F : List Fo) (B B' : List Nw) (r : Rw) (day : Int) : Prop where
  st : stepsOf F B' r day = stepsOf F B r day
theorem SameS.is (h : SameS F B B' r day) : IsWalk F B' r day = IsWalk F B r day := funext fun V => by
  unfold IsWalk
  rw [h.st]
theorem SameS.v (h : SameS F B B' r day) : vF F B' r day = vF F B r day := by
  have g : ∀ P Q : List (List Nat) → Prop, P = Q → @dite _ (∃ V, P V) (Classical.propDecidable _) (fun h => Classical.choose h) (fun _ => []) = @dite _ (∃ V, Q V) (Classical.propDecidable _) (fun h => Classical.choose h) (fun _ => []) := fun P Q e => by subst e; rfl
  exact g _ _ h.is
end
end Lo
end
section
set_option Elab.async false
set_option linter.all false
set_option maxRecDepth 100000
set_option maxHeartbeats 4000000
namespace Lo
open PySem L2 Pw Pv Lx Ls Lq Wk Lv Lz Dg Lg
section
variable {ns : List Int} {s : Lx.St} {F : List Fo} {B : List Nw} {r : Rw} {day : Int} {m : Mem}
theorem take_nat {n : Nat} (h : 1 ≤ n) (h2 : n ≤ 1000000) (m : Mem) : ∃ (w : Nat) (s' : Lx.St), F_take [.r 0, .v (.int (n : Int))] (stD ns s :: m) = some (.v (nD w), stD ns s' :: m) ∧ w < n := by
  have te : F_take [.r 0, .v (.int (n : Int))] (stD ns s :: m) = _ := take_eq (ns := ns) (s := s) (m := m) (b := (n : Int)) (by omega) (by omega)
  have c1 := tk_lo (ns := ns) (s := s) (b := (n : Int))
  have c2 := tk_hi (ns := ns) (s := s) (b := (n : Int)) (by omega) (by omega)
  generalize (tk ns s (n : Int)).1 = c at c1 c2 te
  obtain ⟨w, rfl⟩ : ∃ w : Nat, c = (w : Int) := ⟨c.toNat, by omega⟩
  exact ⟨w, _, te, by omega⟩
theorem take_int {b : Int} (h : 0 < b) (h2 : b ≤ 1000000) (m : Mem) : ∃ (c : Int) (s' : Lx.St), F_take [.r 0, .v (.int b)] (stD ns s :: m) = some (.v (.int c), stD ns s' :: m) ∧ 0 ≤ c ∧ c < b := by
  have te : F_take [.r 0, .v (.int b)] (stD ns s :: m) = _ := take_eq (ns := ns) (s := s) (m := m) (b := b) (by omega) (by omega)
  exact ⟨_, _, te, tk_lo, tk_hi (by omega) (by omega)⟩
end
end Lo
end
section
set_option Elab.async false
set_option linter.all false
set_option maxRecDepth 100000
set_option maxHeartbeats 4000000
namespace Lo
open PySem L2 Pw Pv Lx Ls
end Lo
end
section
set_option Elab.async false
set_option linter.all false
set_option maxRecDepth 100000
set_option maxHeartbeats 4000000
namespace Pw
open PySem PySem.Spec PyProof.Rows L2
end Pw
end
section
set_option Elab.async false
set_option linter.all false
set_option maxRecDepth 100000
set_option maxHeartbeats 4000000
namespace Pw
open PySem PySem.Spec PyProof.Rows L2
end Pw
end
section
set_option Elab.async false
set_option linter.all false
set_option maxRecDepth 100000
set_option maxHeartbeats 2000000
namespace Pw
open PySem PySem.Spec PyProof.Rows L2 Pv
def rSlX (K : FRG) : V → Option Int → Option Int → Hp → VK → Prop := fun x lo hi H Q => ∃ a xs, x = .ref a ∧ SqT K H a xs ∧
  ((HT.sIx xs.length 0 lo = 0 ∧ HT.sIx xs.length xs.length hi = xs.length) → Q (.ref a) H) ∧
  (¬ (HT.sIx xs.length 0 lo = 0 ∧ HT.sIx xs.length xs.length hi = xs.length) → ∀ (p : Addr) (o : Obj), H p = none → o.dict = none → Q (.ref p) (upd H p (.frz o (.tup (cutV xs lo hi)))))
theorem sl_tupX {X : Cx} : SlR X (rSlX X.K) := by
  intro pins s σ H x v vl vu lo hi sl Q I rx hs pl pu h
  obtain ⟨a, xs, rfl, hx, q1, q2⟩ := h
  by_cases hw : HT.sIx xs.length 0 lo = 0 ∧ HT.sIx xs.length xs.length hi = xs.length
  · exact sl_tupA pins s σ H (.ref a) v vl vu lo hi sl Q I rx hs pl pu ⟨a, xs, rfl, hx, fun _ => q1 hw, fun z => absurd hw z⟩
  cases rx
  obtain ⟨its, r, ht, hz⟩ := I.tuple hx
  have hlen : its.toArray.size = xs.length := by rw [List.size_toArray]; exact r.length.symm
  refine ⟨"tuple", _, PyProof.Rows.slot_tuple_getitem.lookup, ht.typeIs, ?_⟩
  refine HT.getItem_tuple_cut ht hs pl pu (by rw [hlen]; exact hw) ?_ (by rw [hlen]; exact hz)
  rw [hlen]
  refine ⟨.ref s.heap.objs.size, _, I.laid (t' := s.toks) (o := .frz _ (.tup (cutV xs lo hi))) (fun b ob q => Heap.get?_push_of_some _ q) (Nat.le_refl _) ⟨Heap.get?_push_size _ rfl, ?_⟩, rfl, q2 hw _ _ (I.hok.fresh (Nat.le_refl _)) rfl⟩
  exact ⟨Nat.le_trans (cutV_length xs lo hi) hz, _, (r.drop (HT.sIx xs.length 0 lo)).take (HT.sIx xs.length xs.length hi - HT.sIx xs.length 0 lo), IsTup.new _ _⟩
def rAddX (K : FRG) : R2 := fun x y H Q => ∃ a b xs ys, x = .ref a ∧ y = .ref b ∧ SqT K H a xs ∧ SqT K H b ys ∧ xs.length + ys.length ≤ sizeLine ∧
  (xs = [] → Q (.ref b) H) ∧ (xs ≠ [] → ys = [] → Q (.ref a) H) ∧ (xs ≠ [] → ys ≠ [] → ∀ (p : Addr) (o : Obj), H p = none → o.dict = none → Q (.ref p) (upd H p (.frz o (.tup (xs ++ ys)))))
theorem op_addX {X : Cx} : OpR X (binaryOp .Add) (rAddX X.K) := by
  intro pins s σ H x y v u Q I rx ry h
  obtain ⟨a, b, xs, ys, rfl, rfl, ha, hb, hz, q1, q2, q3⟩ := h
  by_cases h1 : xs = []
  · exact op_catA pins s σ H _ _ v u Q I rx ry ⟨a, b, xs, ys, rfl, rfl, ha, hb, hz, q1, fun z => absurd h1 z, fun z => absurd h1 z⟩
  by_cases h2 : ys = []
  · exact op_catA pins s σ H _ _ v u Q I rx ry ⟨a, b, xs, ys, rfl, rfl, ha, hb, hz, q1, q2, fun _ z => absurd h2 z⟩
  cases rx
  cases ry
  obtain ⟨its, r1, p1, _⟩ := I.tuple ha
  obtain ⟨its2, r2, p2, _⟩ := I.tuple hb
  refine HT.cat_tup p1 p2 (fun z => h1 ((Vals.nil_iff r1).mp z)) (fun z => absurd ((Vals.nil_iff r2).mp z) h2) (fun _ => ?_) (by rw [← r1.length, ← r2.length]; exact hz)
  refine ⟨.ref s.heap.objs.size, _, I.laid (t' := s.toks) (o := .frz _ (.tup (xs ++ ys))) (fun b ob q => Heap.get?_push_of_some _ q) (Nat.le_refl _) ⟨Heap.get?_push_size _ rfl, ?_⟩, rfl, q3 h1 h2 _ _ (I.hok.fresh (Nat.le_refl _)) rfl⟩
  exact ⟨by rw [List.length_append]; exact hz, _, r1.append r2, IsTup.new _ _⟩
def slcXD : D → Option Int → Option Int → Option W
  | .tx ds, lo, hi => some (.v (.tx (cutD ds lo hi)))
  | _, _, _ => none
def eSlcX (a : Ex) (lo hi : Ox) : Ex := fun ρ m => (a ρ m).bind fun p => (lo ρ p.2).bind fun l => (hi ρ l.2).bind fun h => (gt p.1 h.2).bind fun d => (slcXD d l.1 h.1).bind fun w => some (w, h.2)
def addXD : D → D → Option W
  | .tx a, .tx b => if a.length + b.length ≤ 1000000 then some (.v (.tx (a ++ b))) else none
  | _, _ => none
section
variable {K : FRG} {tb : List Addr}
theorem RepC.tx {φ ψ : List Addr} {H : Hp} {ds : List D} {v : V} (h : RepC K φ ψ H (.tx ds) v) : ∃ a vs, v = .ref a ∧ Tz H a vs ∧ Reps K φ ψ H ds vs := by
  rcases h with h | ⟨a, mo, rfl, e, q⟩
  · cases h with
    | tx h r => exact ⟨_, _, rfl, h, r⟩
  · cases mo <;> cases e
theorem addX_s : OpS K tb (rAddX K) addXD := fun φ ψ H m x y dx dy w Q R hx hy e k => by
  unfold addXD at e
  split at e
  · split at e
    · rename_i hl
      cases e
      obtain ⟨a1, v1, rfl, h1, r1⟩ := RepC.tx hx
      obtain ⟨a2, v2, rfl, h2, r2⟩ := RepC.tx hy
      refine ⟨_, _, _, _, rfl, rfl, h1.sq, h2.sq, small (by rw [← r1.length, ← r2.length]; exact hl), fun z => ?_, fun z1 z2 => ?_, fun z1 z2 p o hp hd => Go.tx k R (r1.app r2) hp hd fun x hx => (List.mem_append.mp hx).elim (h1.no x) (h2.no x)⟩
      · subst z; cases r1; exact Go.val k R (.tx h2 r2)
      · subst z2; cases r2; rw [List.append_nil] at k; exact Go.val k R (.tx h1 r1)
    · cases e
  · cases e
end
theorem ex_slX {X : Cx} {tb : List Addr} {a : Expr} {lo hi : Option Expr} {fa : Ex} {fl fh : Ox} {pos p2 : Pos} (ha : PE X a (T X.K tb fa)) (hl : PO X lo (To X.K tb fl)) (hh : PO X hi (To X.K tb fh)) : PE X (.Subscript a (.Slice lo hi none p2) pos) (T X.K tb (eSlcX fa fl fh)) := by
  refine pe_mono (pe_slice sl_tupX ha hl hh) fun σ H Q ⟨φ, ψ, ρ, m, w, m', R, E, e, k⟩ => ?_
  obtain ⟨⟨w1, m1⟩, e1, e⟩ := bnd e
  obtain ⟨⟨o2, m2⟩, e2, e⟩ := bnd e
  obtain ⟨⟨o3, m3⟩, e3, e⟩ := bnd e
  obtain ⟨d, ed, e⟩ := bnd e
  obtain ⟨w2, eg, e⟩ := bnd e
  cases e
  refine ⟨φ, ψ, ρ, m, w1, m1, R, E, e1, fun φ1 ψ1 H1 x P1 R1 V1 => ⟨φ1, ψ, ρ, m1, o2, m2, V1.rel R1, E.mono (V1.post P1) R, e2, fun φ2 H2 P2 R2 => ⟨φ2, ψ, ρ, m2, o3, _, R2, E.mono ((V1.post P1).trans P2) R, e3, fun φ3 H3 P3 R3 => ?_⟩⟩⟩
  have P := (V1.post P1).trans (P2.trans P3)
  have C := gt_c R3 ((V1.s R1).mono (P2.trans P3) (V1.rel R1)) ed
  have k' : Go X.K tb φ3 ψ H3 _ w Q := fun φ4 ψ4 H4 v P4 R4 V4 => k φ4 ψ4 H4 v (P.trans P4) R4 V4
  have e' : slcXD d o2 o3 = some w := eg
  unfold slcXD at e'
  split at e'
  · cases e'
    obtain ⟨q, vs, rfl, hq, r⟩ := RepC.tx C
    refine ⟨_, _, rfl, hq.sq, fun z => ?_, fun z p o hp hd => Go.tx k' R3 (r.cut _ _) hp hd fun x hx => hq.no x (by unfold cutV at hx; exact List.mem_of_mem_drop (List.mem_of_mem_take hx))⟩
    rw [← r.length] at z
    rw [cut_whole z] at k'
    exact Go.val k' R3 (.tx hq r)
  · cases e'
end Pw
end
section
set_option Elab.async false
set_option linter.all false
set_option maxRecDepth 100000
set_option maxHeartbeats 2000000
namespace Lu
open PySem L2 Pw Pv Lx Ls
open Lq (Ord at_p1 at_p2 cut_take dEnv drawn_turn erase_perm lI ord_of tI)
noncomputable def L_drawn_order_1 : Sx := (sDrop (eMt isLst appD (eVar 4) (aCons (eMt isLst popAtD (eVar 3) (aCons (eCall F_take (aCons (eVar 0) (aCons (eCB lenD (aCons (eVar 3) aNil)) aNil))) aNil)) aNil)))
noncomputable def B_drawn_order : Sx := (sSeq (sSet 3 (eOwn (eCB listD (aCons (eVar 1) aNil)))) (sSeq (sSet 4 (eOwn (eLst aNil))) (sSeq (sFor (iRngA (aCons (eCB (two minI) (aCons (eVar 2) (aCons (eCB lenD (aCons (eVar 3) aNil)) aNil))) aNil)) (gN 5) L_drawn_order_1 [5]) (sRet (eCB tupleXD (aCons (eVar 4) aNil))))))
noncomputable def F_drawn_order : Fx := runF 3 6 B_drawn_order
noncomputable def E_two_orders_1 : Ex := eLc (iSeq (eVar 1)) (gN 7) (tVal (eOp (inD true) (eVar 7) (eSlc (eFg (eVar 3)) oNone (oSome (eVar 5))))) (eVar 7) [7]
noncomputable def B_two_orders : Sx := (sSeq (sSet 3 (eCall F_drawn_order (aCons (eVar 0) (aCons (eVar 1) (aCons (eCall F_take (aCons (eVar 0) (aCons (eOp addD (eVar 2) (eC (.int 1))) aNil))) aNil))))) (sSeq (sSet 4 (eCall F_take (aCons (eVar 0) (aCons (eC (.int 6)) aNil)))) (sSeq (sSet 5 (eCall F_take (aCons (eVar 0) (aCons (eOp addD (eCB lenD (aCons (eFg (eVar 3)) aNil)) (eC (.int 1))) aNil)))) (sSeq (sSet 6 E_two_orders_1) (sSeq (sIf (tVal (eOp (eqD false) (eVar 4) (eC (.int 0)))) (sRet (eLst (aCons (eVar 3) (aCons (eVar 3) aNil)))) sNil) (sSeq (sIf (tVal (eOp (eqD false) (eVar 4) (eC (.int 1)))) (sRet (eLst (aCons (eVar 3) (aCons (eSlcX (eVar 3) oNone (oSome (eVar 5))) aNil)))) sNil) (sSeq (sIf (tVal (eOp (cmpD ltI) (eVar 4) (eC (.int 4)))) (sRet (eLst (aCons (eVar 3) (aCons (eOp addXD (eSlcX (eVar 3) oNone (oSome (eVar 5))) (eCall F_drawn_order (aCons (eVar 0) (aCons (eVar 6) (aCons (eCall F_take (aCons (eVar 0) (aCons (eOp subD (eOp addD (eVar 2) (eC (.int 1))) (eVar 5)) aNil))) aNil))))) aNil)))) sNil) (sSeq (sIf (tVal (eOp (eqD false) (eVar 4) (eC (.int 4)))) (sRet (eLst (aCons (eVar 3) (aCons (eCall F_drawn_order (aCons (eVar 0) (aCons (eFg (eVar 3)) (aCons (eCB lenD (aCons (eFg (eVar 3)) aNil)) aNil)))) aNil)))) sNil) (sRet (eLst (aCons (eVar 3) (aCons (eCall F_drawn_order (aCons (eVar 0) (aCons (eVar 1) (aCons (eCall F_take (aCons (eVar 0) (aCons (eOp addD (eVar 2) (eC (.int 1))) aNil))) aNil)))) aNil))))))))))))
noncomputable def F_two_orders : Fx := runF 3 8 B_two_orders
abbrev tX (xs : List Int) : D := .tx (xs.map D.int)
section
variable {ns : List Int} {s : Lx.St} {m : Mem}
theorem drawn_spec {xs : List Int} (hx : xs.length ≤ 1000) {pool : D} (hp : pool = lI xs ∨ pool = tI xs) {many : Int} (h0 : 0 ≤ many) (h1 : many ≤ 1000) (m : Mem) :
    ∃ (ys rest : List Int) (s' : Lx.St), F_drawn_order [.r 0, .v pool, .v (.int many)] (stD ns s :: m) = some (.v (tX ys), stD ns s' :: m) ∧ (ys ++ rest).Perm xs ∧ ys.length = min many.toNat xs.length := by
  obtain ⟨ρ', m', e, inv⟩ := for_inv (α := Nat) (src := iRngA (aCons (eCB (two minI) (aCons (eVar 2) (aCons (eCB lenD (aCons (eVar 3) aNil)) aNil))) aNil)) (t := gN 5) (b := L_drawn_order_1) (dd := [5])
    (ρ := dEnv pool many m none) (m := stD ns s :: (m ++ [.lst (xs.map .int), .lst []])) (m1 := stD ns s :: (m ++ [.lst (xs.map .int), .lst []])) (List.range (min many.toNat xs.length)) (fun i => .int (i : Int))
    (fun k ρ mm => ρ = dEnv pool many m none ∧ ∃ (s' : Lx.St) (left found : List Int), mm = stD ns s' :: (m ++ [.lst (left.map .int), .lst (found.map .int)]) ∧ (found ++ left).Perm xs ∧ found.length = k)
    (by
      have g1 : gt (.r (m.length + 1)) (stD ns s :: (m ++ [.lst (xs.map .int), .lst []])) = some (.lst (xs.map .int)) := by rw [gt_r, at_p1]; rfl
      have em : min many (xs.length : Int) = ((min many.toNat xs.length : Nat) : Int) := by omega
      simp [iRngA, aCons, aNil, eCB, eVar, g1, em, -gt_r]
      rw [if_pos (by omega), rng0]; rfl)
    ⟨rfl, s, xs, [], rfl, by simp, rfl⟩
    (fun k a ha ρ mm inv => by
      obtain ⟨rfl, s', left, found, rfl, pm, hl⟩ := inv
      obtain ⟨hk, rfl⟩ := List.getElem?_eq_some_iff.mp ha
      have hk' : k < min many.toNat xs.length := by simpa using hk
      have pl := pm.length_eq
      rw [List.length_append] at pl
      obtain ⟨j, s2, hj, q⟩ := drawn_turn (ns := ns) (s := s') (m := m) (pool := pool) (many := many) (i := ((List.range (min many.toNat xs.length))[k] : Nat)) (left := left) (found := found) (by omega) (by omega) (by omega)
      refine ⟨_, _, _, rfl, q, rfl, s2, left.eraseIdx j, found ++ [left[j]], rfl, ?_, by simp [hl]⟩
      rw [List.append_assoc]
      exact ((erase_perm left j hj).append_left found).trans pm)
  obtain ⟨rfl, s', left, found, rfl, pm, hl⟩ := inv
  refine ⟨found, left, s', ?_, pm, by simpa using hl⟩
  have g2 : gt (.r (m.length + 2)) (stD ns s' :: (m ++ [.lst (left.map .int), .lst (found.map .int)])) = some (.lst (found.map .int)) := by rw [gt_r, at_p2]; rfl
  have lp : listD [pool] = some (.f (lI xs)) := by rcases hp with z | z <;> (rw [z]; rfl)
  have tk2 : ∀ (x A B : MO), (x :: (m ++ [A, B])).take (m.length + 1) = x :: m := fun x A B => by simp
  have e' : sFor (iRngA (aCons (eCB (two minI) (aCons (eVar 2) (aCons (eCB lenD (aCons (eVar 3) aNil)) aNil))) aNil)) (gN 5) L_drawn_order_1 [5] [some (.r 0), some (.v pool), some (.v (.int many)), some (.r (m.length + 1)), some (.r (m.length + 1 + 1)), none] (stD ns s :: (m ++ [.lst (xs.map .int), .lst []])) = _ := e
  simp [F_drawn_order, runF, B_drawn_order, startD, sSeq, sSet, eOwn, eCB, aCons, aNil, eVar, lp, eLst, e', sRet, g2, tk2, tupleXD, -gt_r]
theorem two_spec {P : List Int} {most : Int} (hn : P.Nodup) (hl : P.length ≤ 61) (h0 : 0 ≤ most) (h1 : most ≤ 61) (m : Mem) :
    ∃ (A B : List Int) (s' : Lx.St), F_two_orders [.r 0, .v (lI P), .v (.int most)] (stD ns s :: m) = some (.f (.lst [tX A, tX B]), stD ns s' :: m) ∧ Ord P A ∧ Ord P B ∧ (A.length : Int) ≤ most ∧ (B.length : Int) ≤ most := by
  have t1 := take_eq (ns := ns) (s := s) (b := most + 1) (m := m) (by omega) (by omega)
  have lo1 := tk_lo (ns := ns) (s := s) (b := most + 1)
  have hi1 := tk_hi (ns := ns) (s := s) (b := most + 1) (by omega) (by omega)
  generalize (tk ns s (most + 1)).1 = k1, (tk ns s (most + 1)).2 = s1 at t1 lo1 hi1
  obtain ⟨A, ra, s2, d1, pa, la⟩ := drawn_spec (ns := ns) (s := s1) (xs := P) (by omega) (.inl rfl) lo1 (by omega) m
  have oA : Ord P A := ord_of pa hn (fun _ h => h) (by omega)
  have t2 := take_eq (ns := ns) (s := s2) (b := 6) (m := m) (by decide) (by decide)
  have lo2 := tk_lo (ns := ns) (s := s2) (b := 6)
  have hi2 := tk_hi (ns := ns) (s := s2) (b := 6) (by decide) (by decide)
  generalize (tk ns s2 6).1 = k2, (tk ns s2 6).2 = s3 at t2 lo2 hi2
  have t3 := take_eq (ns := ns) (s := s3) (b := A.length + 1) (m := m) (by omega) (by omega)
  have lo3 := tk_lo (ns := ns) (s := s3) (b := A.length + 1)
  have hi3 := tk_hi (ns := ns) (s := s3) (b := A.length + 1) (by omega) (by omega)
  generalize (tk ns s3 (A.length + 1)).1 = k3, (tk ns s3 (A.length + 1)).2 = s4 at t3 lo3 hi3
  have am : (A.length : Int) ≤ most := by omega
  have cut : cutD (A.map D.int) none (some k3) = (A.take k3.toNat).map D.int := by rw [cut_take lo3 (by simp; omega), List.map_take]
  have er : E_two_orders_1 [some (.r 0), some (.v (lI P)), some (.v (.int most)), some (.v (tX A)), some (.v (.int k2)), some (.v (.int k3)), none, none] (stD ns s4 :: m) = some (.f (lI (P.filter fun x => !decide (x ∈ A.take k3.toNat))), stD ns s4 :: m) := by
    have q := lc_map (src := iSeq (eVar 1)) (t := gN 7) (c := tVal (eOp (inD true) (eVar 7) (eSlc (eFg (eVar 3)) oNone (oSome (eVar 5))))) (f := eVar 7) (vs := [7])
      (ρ := [some (.r 0), some (.v (lI P)), some (.v (.int most)), some (.v (tX A)), some (.v (.int k2)), some (.v (.int k3)), none, none]) (m := stD ns s4 :: m) (m1 := stD ns s4 :: m) P D.int (fun x => !decide (x ∈ A.take k3.toNat)) D.int
      (by simp [iSeq, eVar]) (fun i hi => ⟨_, rfl, by
        have := Lm.in_tup (neg := true) (c := i) (L := A.take k3.toNat)
        simp [tVal, eOp, eVar, eFg, fgW, eSlc, oNone, oSome, slcD, cut, this, -List.map_take], fun h => ⟨.v (.int i), by simp [eVar], rfl⟩⟩) (by omega)
    exact q
  have n3 : k3.toNat ≤ A.length := by omega
  by_cases w0 : k2 = 0
  · subst w0
    refine ⟨A, A, s4, ?_, oA, oA, am, am⟩
    simp [eFg, fgW, F_two_orders, runF, B_two_orders, startD, sSeq, sSet, eCall, aCons, aNil, eVar, eOp, eC, t1, d1, t2, t3, eCB, er, sIf, tVal, sRet, eLst]
  by_cases w1 : k2 = 1
  · subst w1
    refine ⟨A, A.take k3.toNat, s4, ?_, oA, oA.take _, am, ?_⟩
    · simp [eFg, fgW, F_two_orders, runF, B_two_orders, startD, sSeq, sSet, eCall, aCons, aNil, eVar, eOp, eC, t1, d1, t2, t3, eCB, er, sIf, tVal, sRet, eLst, sNil, eSlc, oNone, oSome, slcXD, eSlcX, addXD, cut, -List.map_take]
    · rw [List.length_take]; omega
  by_cases w2 : k2 < 4
  · have t4 := take_eq (ns := ns) (s := s4) (b := most + 1 - k3) (m := m) (by omega) (by omega)
    have lo4 := tk_lo (ns := ns) (s := s4) (b := most + 1 - k3)
    have hi4 := tk_hi (ns := ns) (s := s4) (b := most + 1 - k3) (by omega) (by omega)
    generalize (tk ns s4 (most + 1 - k3)).1 = k4, (tk ns s4 (most + 1 - k3)).2 = s5 at t4 lo4 hi4
    have fl := List.length_filter_le (fun x => !decide (x ∈ A.take k3.toNat)) P
    obtain ⟨B, rb, s6, d2, pb, lb⟩ := drawn_spec (ns := ns) (s := s5) (xs := P.filter fun x => !decide (x ∈ A.take k3.toNat)) (by omega) (.inl rfl) lo4 (by omega) m
    have oB : Ord (P.filter fun x => !decide (x ∈ A.take k3.toNat)) B := ord_of pb (hn.filter _) (fun _ h => h) (by omega)
    refine ⟨A, A.take k3.toNat ++ B, s6, ?_, oA, ⟨?_, fun x hx => ?_, ?_⟩, am, ?_⟩
    · have l1 : ((A.take k3.toNat).map D.int).length + (B.map D.int).length ≤ 1000000 := by
        rw [List.length_map, List.length_map, List.length_take]; omega
      simp [eFg, fgW, F_two_orders, runF, B_two_orders, startD, sSeq, sSet, eCall, aCons, aNil, eVar, eOp, eC, t1, d1, t2, t3, eCB, er, sIf, tVal, w0, w1, w2, sRet, eLst, sNil, eSlc, oNone, oSome, slcXD, eSlcX, addXD, cut, t4, d2, -List.map_take]
      rw [if_pos (by simpa using l1)]; simp
    · rw [List.nodup_append]
      refine ⟨(oA.take _).nd, oB.nd, fun a ha b hb z => ?_⟩
      have := (List.mem_filter.mp (oB.sub b hb)).2
      rw [← z] at this
      simp [ha] at this
    · rcases List.mem_append.mp hx with h | h
      · exact (oA.take _).sub x h
      · exact (List.mem_filter.mp (oB.sub x h)).1
    · rw [List.length_append, List.length_take]; omega
    · rw [List.length_append, List.length_take]; omega
  by_cases w4 : k2 = 4
  · subst w4
    obtain ⟨B, rb, s6, d2, pb, lb⟩ := drawn_spec (ns := ns) (s := s4) (xs := A) (by omega) (.inr rfl) (many := A.length) (by omega) (by omega) m
    refine ⟨A, B, s6, ?_, oA, ord_of pb oA.nd oA.sub oA.len, am, by omega⟩
    simp [eFg, fgW, F_two_orders, runF, B_two_orders, startD, sSeq, sSet, eCall, aCons, aNil, eVar, eOp, eC, t1, d1, t2, t3, eCB, er, sIf, tVal, sRet, eLst, sNil, d2]
  · have t4 := take_eq (ns := ns) (s := s4) (b := most + 1) (m := m) (by omega) (by omega)
    have lo4 := tk_lo (ns := ns) (s := s4) (b := most + 1)
    have hi4 := tk_hi (ns := ns) (s := s4) (b := most + 1) (by omega) (by omega)
    generalize (tk ns s4 (most + 1)).1 = k4, (tk ns s4 (most + 1)).2 = s5 at t4 lo4 hi4
    obtain ⟨B, rb, s6, d2, pb, lb⟩ := drawn_spec (ns := ns) (s := s5) (xs := P) (by omega) (.inl rfl) lo4 (by omega) m
    refine ⟨A, B, s6, ?_, oA, ord_of pb hn (fun _ h => h) (by omega), am, by omega⟩
    simp [eFg, fgW, F_two_orders, runF, B_two_orders, startD, sSeq, sSet, eCall, aCons, aNil, eVar, eOp, eC, t1, d1, t2, t3, eCB, er, sIf, tVal, w0, w1, w2, w4, sRet, eLst, sNil, d2, t4]
end
end Lu
end
section
set_option Elab.async false
set_option linter.all false
set_option maxRecDepth 100000
set_option maxHeartbeats 2000000
namespace Lu
open PySem L2 Pw Pv Lx Ls
open Lq (tI lI)
section
variable {m : Mem} {a b : List Int} {w : Int}
theorem idx_tx (h : w ∈ a) : idxTD (.v (tX a)) [.v (.int w)] m = some (.v (.int ((a.findIdx (· == w) : Nat) : Int)), m) := by
  have e : a.findIdx? (fun j => j == w) = some (a.findIdx (· == w)) := List.findIdx?_eq_some_of_exists ⟨w, h, by simp⟩
  unfold idxTD
  simp only [allI_ints, Option.bind_some, gt_v, e]
end
end Lu
end
section
set_option Elab.async false
set_option linter.all false
set_option maxRecDepth 100000
set_option maxHeartbeats 4000000
namespace Lu
open PySem L2 Pw Pv Lx Ls
open Lq (tI lI cut_take)
end Lu
end
section
set_option Elab.async false
set_option linter.all false
set_option maxRecDepth 100000
set_option maxHeartbeats 4000000
namespace Lo
open PySem L2 Pw Pv Lx Ls Lq Wk Lv Lz Dg Lg
section
variable {ns : List Int} {s : Lx.St} {F : List Fo} {B B' : List Nw} {r : Rw} {day d : Int} {m : Mem} {ds : List Int}
end
end Lo
end
section
set_option Elab.async false
set_option linter.all false
set_option maxRecDepth 100000
set_option maxHeartbeats 1000000
namespace Wk
open Pv
section
variable {S S' : Nat → List Nat} {n f : Nat}
variable (hS : ∀ v, S v = (S' v).filter fun c => decide (c ≠ n)) (hn : S' n = [])
include hS hn
end
end Wk
end
section
set_option Elab.async false
set_option linter.all false
set_option maxRecDepth 100000
set_option maxHeartbeats 1000000
namespace Lo
open PySem L2 Pw Pv Lx Ls Lq Wk Lv Lz Dg Lg
end Lo
end
section
set_option Elab.async false
set_option linter.all false
set_option maxRecDepth 100000
set_option maxHeartbeats 1000000
namespace Lo
open PySem L2 Pw Pv Lx Ls Lq Wk Lv Lz Dg Lg
end Lo
end
section
set_option Elab.async false
set_option linter.all false
set_option maxRecDepth 100000
set_option maxHeartbeats 1000000
namespace Lo
open PySem L2 Pw Pv Lx Ls Lq Wk Lv Lz Dg Lg
end Lo
end
section
set_option Elab.async false
set_option linter.all false
set_option maxRecDepth 100000
set_option maxHeartbeats 4000000
namespace Pw
open PySem PySem.Spec PyProof.Rows L2
end Pw
end
section
set_option Elab.async false
set_option linter.all false
set_option maxRecDepth 100000
set_option maxHeartbeats 4000000
namespace Pw
open PySem PySem.Spec PyProof.Rows L2 Pv
end Pw
end
section
set_option Elab.async false
set_option linter.all false
set_option maxRecDepth 100000
set_option maxHeartbeats 4000000
namespace Pw
open PySem PySem.Spec PyProof.Rows L2
end Pw
end
section
set_option Elab.async false
set_option linter.all false
set_option maxRecDepth 100000
set_option maxHeartbeats 2000000
namespace Pw
open PySem PySem.Spec PyProof.Rows L2
end Pw
end
section
set_option Elab.async false
set_option linter.all false
set_option maxRecDepth 100000
set_option maxHeartbeats 1000000
namespace Lp
open PySem L2 Pw Pv Lx Ls Lq Wk Lv Lz Dg Lg Lo
open Le (F_is_tuple_of F_is_rising)
end Lp
end
section
set_option Elab.async false
set_option linter.all false
set_option maxRecDepth 100000
set_option maxHeartbeats 4000000
namespace Le
open PySem L2 Pw Pv Lx Ls Lq Wk Lv Lz
end Le
end
section
set_option Elab.async false
set_option linter.all false
set_option maxRecDepth 100000
set_option maxHeartbeats 1000000
namespace Lp
open PySem L2 Pw Pv Lx Ls Lq Wk Lv Lz Dg Lg Lo
open Le (F_is_tuple_of)
end Lp
end
section
set_option Elab.async false
set_option linter.all false
set_option maxRecDepth 100000
set_option maxHeartbeats 1000000
namespace Lp
open PySem L2 Pw Pv Lx Ls Lq Wk Lv Lz Dg Lg Lo
open Le (F_is_tuple_of)
end Lp
end
section
set_option Elab.async false
set_option linter.all false
set_option maxRecDepth 100000
set_option maxHeartbeats 1000000
namespace Lp
open PySem L2 Pw Pv Lx Ls Lq Wk Lv Lz Dg Lg Lo
open Le (F_is_tuple_of)
end Lp
end
section
set_option Elab.async false
set_option linter.all false
set_option maxRecDepth 100000
set_option maxHeartbeats 2000000
namespace Pw
open PySem PySem.Spec PyProof.Rows L2
end Pw
end
section
set_option Elab.async false
set_option linter.all false
set_option maxRecDepth 100000
set_option maxHeartbeats 1000000
namespace Lp
open PySem L2 Pw Pv Lx Ls Lq Wk Lv Lz Dg Lg Lo
open Le (F_is_tuple_of)
section
variable {ns : List Int} {s : Lx.St} {F : List Fo} {B : List Nw} {r : Rw} {day lim : Int} {m : Mem}
theorem seq_ret {a b : Sx} {ρ ρ1 : Pw.Env} {m m1 : Mem} {w : W} (h : a ρ m = some (.ret w, ρ1, m1)) : sSeq a b ρ m = some (.ret w, ρ1, m1) := by
  unfold sSeq
  rw [h]; rfl
end
end Lp
end
section
set_option Elab.async false
set_option linter.all false
set_option maxRecDepth 100000
set_option maxHeartbeats 1000000
namespace Lp
open PySem L2 Pw Pv Lx Ls Lq Wk Lv Lz Dg Lg Lo
open Le (F_is_tuple_of)
end Lp
end
section
set_option Elab.async false
set_option linter.all false
set_option maxRecDepth 100000
set_option maxHeartbeats 1000000
namespace Lp
open PySem L2 Pw Pv Lx Ls Lq Wk Lv Lz Dg Lg Lo
open Le (F_is_tuple_of)
end Lp
end
section
set_option Elab.async false
set_option linter.all false
set_option maxRecDepth 100000
set_option maxHeartbeats 1000000
namespace Lp
open PySem L2 Pw Pv Lx Ls Lq Wk Lv Lz Dg Lg Lo
open Le (F_is_tuple_of)
end Lp
end
section
set_option Elab.async false
set_option linter.all false
set_option maxRecDepth 100000
set_option maxHeartbeats 1000000
namespace Lp
open PySem L2 Pw Pv Lx Ls Lq Wk Lv Lz Dg Lg Lo
end Lp
end
section
set_option Elab.async false
set_option linter.all false
set_option maxRecDepth 100000
set_option maxHeartbeats 1000000
namespace Lp
open PySem L2 Pw Pv Lx Ls Lq Wk Lv Lz Dg Lg Lo
end Lp
end
section
set_option Elab.async false
set_option linter.all false
set_option maxRecDepth 100000
set_option maxHeartbeats 1000000
namespace Lp
open PySem L2 Pw Pv Lx Ls Lq Wk Lv Lz Dg Lg Lo
section
variable {F : List Fo} {B : List Nw} {r : Rw} {day lim aside : Int} {last : Nat} {m : Mem}
end
end Lp
end
section
set_option Elab.async false
set_option linter.all false
set_option maxRecDepth 100000
set_option maxHeartbeats 1000000
namespace La
open PySem L2 Pw Pv Lx Ls Lq Wk Lv Lz Dg Lg Lo
open Le (F_is_tuple_of F_is_rising E_is_rising_1 B_is_rising B_is_tuple_of)
theorem tuple_at {ds : List D} {k : Int} (m : Mem) : F_is_tuple_of [.v (.tup ds), .v (.int k)] m = some (.v (.bl (decide ((ds.length : Int) = k))), m) := by
  simp only [F_is_tuple_of, runF, B_is_tuple_of, startD]
  have it : isD .tuple (.tup ds) = true := rfl
  have ln : lenD [.tup ds] = some (.v (.int (ds.length : Int))) := rfl
  generalize D.tup ds = T at it ln
  simp [sRet, eAnd, eIs, eVar, it, tVal, blD, eOp, eCB, aCons, aNil, ln, -len_t, outW]
def ntx : D → Bool
  | .tx _ => false
  | _ => true
def tupN (k : Nat) : D → Bool
  | .tup ds => decide (ds.length = k)
  | _ => false
def isNum : D → Bool
  | .int _ => true
  | _ => false
theorem isd_tup {d : D} (h : ntx d = true) : (∃ ds, d = .tup ds) ∨ (isD .tuple d = false ∧ ∀ ds, d ≠ .tup ds) := by
  cases d <;> first | (exact .inl ⟨_, rfl⟩) | (exact .inr ⟨rfl, fun _ h => nomatch h⟩) | (cases h)
theorem tuple_any {d : D} {k : Nat} (h : ntx d = true) (m : Mem) : F_is_tuple_of [.v d, .v (.int (k : Int))] m = some (.v (.bl (tupN k d)), m) := by
  rcases isd_tup h with ⟨ds, rfl⟩ | ⟨it, ne⟩
  · have := tuple_at (ds := ds) (k := (k : Int)) m
    rw [this]
    have e : decide ((ds.length : Int) = (k : Int)) = tupN k (.tup ds) := by
      show _ = decide (ds.length = k)
      rw [decide_eq_decide]; omega
    rw [e]
  · have e : tupN k d = false := by
      cases d <;> first | rfl | exact absurd rfl (ne _)
    rw [e]
    simp only [F_is_tuple_of, runF, B_is_tuple_of, startD]
    simp [sRet, eAnd, eIs, eVar, it, tVal, blD, outW]
theorem number_any {d : D} (m : Mem) : F_is_number [.v d] m = some (.v (.bl (isNum d)), m) := by
  simp only [F_is_number, runF, B_is_number, startD]
  cases d <;> simp [sRet, eAnd, tVal, eIs, eVar, isD, eNot, isNum]
theorem tup2 {d : D} (h : tupN 2 d = true) : ∃ a b, d = .tup [a, b] := by
  cases d with
  | tup ds =>
    have := of_decide_eq_true h
    match ds, this with
    | [a, b], _ => exact ⟨a, b, rfl⟩
  | _ => cases h
def risB (L : List Int) : Bool := (List.range (L.length - 1)).all fun i => decide (L.getD i 0 < L.getD (i + 1) 0)
theorem rising_any {L : List Int} (hl : L.length ≤ 1000000) (m : Mem) : F_is_rising [.v (.tup (L.map .int))] m = some (.v (.bl (risB L)), m) := by
  have lD : lenD [.tup (L.map .int)] = some (.v (.int (L.length : Int))) := by
    show some (W.v (.int ((L.map D.int).length : Int))) = _
    rw [List.length_map]
  have src : iRngA (aCons (eOp subD (eCB lenD (aCons (eVar 0) aNil)) (eC (.int 1))) aNil) [some (.v (.tup (L.map .int))), none] m = some (.seq ((List.range (L.length - 1)).map nD), m) := by
    have sd : subD (.int (L.length : Int)) (.int 1) = some (.v (.int ((L.length : Int) - 1))) := rfl
    have h1 : -1000000000 ≤ (L.length : Int) - 1 := by omega
    have h2 : (L.length : Int) - 1 ≤ 1000000000 := by omega
    have rg : rngA [.int ((L.length : Int) - 1)] = some ((List.range (L.length - 1)).map nD) := by
      show (if -1000000000 ≤ (L.length : Int) - 1 ∧ (L.length : Int) - 1 ≤ 1000000000 then some (rngD 0 ((L.length : Int) - 1).toNat) else none) = _
      rw [if_pos ⟨h1, h2⟩, show ((L.length : Int) - 1).toNat = L.length - 1 by omega, rng0]
    generalize D.tup (L.map .int) = T at lD
    simp [iRngA, aCons, aNil, eOp, eCB, eVar, eC, lD, sd, rg, -len_t]
  have al : E_is_rising_1 [some (.v (.tup (L.map .int))), none] m = some (.v (.bl (risB L)), m) :=
    all_map (List.range (L.length - 1)) nD _ src fun i hi => by
      have hi' := List.mem_range.mp hi
      have g1 := List.getElem?_eq_getElem (show i < L.length by omega)
      have g2 := List.getElem?_eq_getElem (show i + 1 < L.length by omega)
      have a1 : atI (L.map D.int) (i : Int) = some (.int L[i]) := at_nat (by rw [List.getElem?_map, g1]; rfl)
      have a2 : atI (L.map D.int) ((i : Int) + 1) = some (.int L[i + 1]) := by
        have : ((i : Int) + 1) = ((i + 1 : Nat) : Int) := by omega
        rw [this]
        exact at_nat (by rw [List.getElem?_map, g2]; rfl)
      have d1 : L.getD i 0 = L[i] := by rw [List.getD_eq_getElem?_getD, g1]; rfl
      have d2 : L.getD (i + 1) 0 = L[i + 1] := by rw [List.getD_eq_getElem?_getD, g2]; rfl
      have cl : cmpD ltI (.int L[i]) (.int L[i + 1]) = some (.v (.bl (decide (L.getD i 0 < L.getD (i + 1) 0)))) := by
        rw [d1, d2]; rfl
      exact ⟨_, rfl, rfl, by simp [eOp, eVar, eC, a1, a2, cl]⟩
  generalize D.tup (L.map .int) = T at al
  simp only [F_is_rising, runF, B_is_rising, startD]
  simp [sRet, al]
theorem ris_true : ∀ {L : List Int}, risB L = true → L.Pairwise (· < ·) := by
  intro L h
  have key : ∀ n i, i + n + 1 < L.length → L.getD i 0 < L.getD (i + n + 1) 0 := by
    intro n
    induction n with
    | zero =>
      intro i hi
      exact of_decide_eq_true (List.all_eq_true.mp h i (List.mem_range.mpr (by omega)))
    | succ n ih =>
      intro i hi
      have a := ih i (by omega)
      have b := of_decide_eq_true (List.all_eq_true.mp h (i + n + 1) (List.mem_range.mpr (by omega)))
      exact Int.lt_trans a b
  rw [List.pairwise_iff_getElem]
  intro i j hi hj hij
  have := key (j - i - 1) i (by omega)
  rw [show i + (j - i - 1) + 1 = j by omega] at this
  rwa [List.getD_eq_getElem?_getD, List.getD_eq_getElem?_getD, List.getElem?_eq_getElem hi, List.getElem?_eq_getElem hj] at this
end La
end
section
set_option Elab.async false
set_option linter.all false
set_option maxRecDepth 100000
set_option maxHeartbeats 1000000
namespace La
open PySem L2 Pw Pv Lx Ls Lq Wk Lv Lz Dg Lg Lo
open Le (F_is_tuple_of F_is_rising)
end La
end
section
set_option Elab.async false
set_option linter.all false
set_option maxRecDepth 100000
set_option maxHeartbeats 4000000
namespace Le
open PySem L2 Pw Pv Lx Ls Lq Wk Lv Lz
end Le
end
section
set_option Elab.async false
set_option linter.all false
set_option maxRecDepth 100000
set_option maxHeartbeats 1000000
namespace La
open PySem L2 Pw Pv Lx Ls Lq Wk Lv Lz Dg Lg Lo
open Le (F_is_tuple_of F_is_rising)
end La
end
section
set_option Elab.async false
set_option linter.all false
set_option maxRecDepth 100000
set_option maxHeartbeats 1000000
namespace Pw
open PySem PySem.Spec PyProof.Rows L2
end Pw
end
section
set_option Elab.async false
set_option linter.all false
set_option maxRecDepth 100000
set_option maxHeartbeats 1000000
namespace Pw
open PySem PySem.Spec PyProof.Rows L2
end Pw
end
section
set_option Elab.async false
set_option linter.all false
set_option maxRecDepth 100000
set_option maxHeartbeats 2000000
namespace Pv
open PySem PySem.Spec PyProof.Rows L2
end Pv
end
section
set_option Elab.async false
set_option linter.all false
set_option maxRecDepth 100000
set_option maxHeartbeats 2000000
namespace HT
open PySem PySem.Spec PyProof.Rows
section
variable {prog : Program} {w : World} {A : Around} {E : Value → Shared → Prop} {s : Shared}
theorem sliceApplied_rev {sl : Addr} {vl vu vs : Value} {n : Nat} {Q : Int × Int × Nat → Shared → Prop} (hs : s.heap.IsSliceOf sl vl vu vs) (pl : IsPart vl none) (pu : IsPart vu none) (ps : IsPart vs (some (-1)))
    (h : Q ((n : Int) - 1, -1, n) s) : wpAny (model prog w) A (Builtin.Slice.sliceApplied (.ref sl) (pure (n : Int))) Q E s := by
  obtain ⟨os, hos, hcs, hds⟩ := id hs
  unfold Builtin.Slice.sliceApplied Builtin.Slice.sliceFields
  refine wpAny_bind (wpAny_bind (wpAny_field hos hds (x := vl) rfl (wpAny_bind (wpAny_field hos hds (x := vu) rfl (wpAny_bind (wpAny_field hos hds (x := vs) rfl (wpAny_pure ?_)))))))
  refine wpAny_bind (slicePart_ ps ?_)
  show wpAny _ _ (if ((-1 : Int) == 0) = true then _ else _) _ _ s
  rw [if_neg (by decide)]
  refine wpAny_bind (slicePart_ pl (wpAny_bind (slicePart_ pu (wpAny_bind (wpAny_pure ?_)))))
  have e1 : Builtin.Slice.sliceAdjust none none (-1) (n : Int) = ((n : Int) - 1, -1) := rfl
  have e2 : Builtin.Slice.slicePlaces ((n : Int) - 1) (-1) (-1) = n := by
    unfold Builtin.Slice.slicePlaces
    have h1 : ¬ ((-1 : Int) > 0) := by omega
    simp only [h1, if_false]
    by_cases h : (n : Int) - 1 > -1
    · rw [if_pos h]
      have : ((n : Int) - 1 - -1 - 1) / (- -1) + 1 = (n : Int) := by
        rw [show (- -1 : Int) = 1 by decide, Int.ediv_one]; omega
      rw [this, Int.toNat_natCast]
    · rw [if_neg h]
      have : n = 0 := by omega
      subst this; rfl
  show wpAny _ _ (match Builtin.Slice.sliceAdjust none none (-1) (n : Int) with | (lo, hi) => pure (lo, (-1 : Int), Builtin.Slice.slicePlaces lo hi (-1))) _ _ s
  rw [e1]
  show wpAny _ _ (pure ((n : Int) - 1, (-1 : Int), Builtin.Slice.slicePlaces ((n : Int) - 1) (-1) (-1))) _ _ s
  rw [e2]
  exact wpAny_pure h
theorem fm_congr {α β : Type} {f g : α → Option β} : ∀ L : List α, (∀ m ∈ L, f m = g m) → L.filterMap f = L.filterMap g
  | [], _ => rfl
  | x :: L, h => by
    rw [List.filterMap_cons, List.filterMap_cons, h x List.mem_cons_self, fm_congr L fun m hm => h m (List.mem_cons_of_mem _ hm)]
theorem pick_rev (xs : Array Value) : ((List.range xs.size).filterMap fun (m : Nat) => xs[((xs.size : Int) - 1 + (m : Int) * -1).toNat]?).toArray = xs.toList.reverse.toArray := by
  have e : (List.range xs.size).filterMap (fun (m : Nat) => xs[((xs.size : Int) - 1 + (m : Int) * -1).toNat]?) = ((List.range xs.size).map fun k => xs.size - 1 - k).filterMap (xs[·]?) := by
    rw [List.filterMap_map]
    refine fm_congr _ fun m hm => ?_
    have := List.mem_range.mp hm
    have e2 : ((xs.size : Int) - 1 + (m : Int) * -1).toNat = xs.size - 1 - m := by omega
    rw [e2]; rfl
  rw [e, PySem.W.krv_range, List.filterMap_reverse, PySem.W.krv_all]
theorem getItem_tuple_rev {t sl : Addr} {items : Array Value} {vl vu vs : Value} {Q : Value → Shared → Prop} (ht : IsTup s.heap t items) (hs : s.heap.IsSliceOf sl vl vu vs) (pl : IsPart vl none) (pu : IsPart vu none) (ps : IsPart vs (some (-1)))
    (h : Q (.ref s.heap.objs.size) { s with heap := s.heap.push { cls := .type "tuple", data := .seq items.toList.reverse.toArray } })
    (hsz : items.size ≤ sizeLine) : wpAny (model prog w) A (getItem (.ref t) (.ref sl)) Q E s := by
  have htake : sizeOk (.seq items.toList.reverse.toArray) := by
    show items.toList.reverse.toArray.size ≤ sizeLine
    rw [List.size_toArray, List.length_reverse, Array.length_toList]
    exact hsz
  obtain ⟨os, hos, hcs, hds⟩ := id hs
  have hTs : s.TypeIs (.ref sl) "slice" := ⟨os, hos, hcs⟩
  unfold getItem
  try with_reducible refine wpAny_holding ?_
  first | refine wpAny_bind (wpAny_pure ?_) | skip
  refine wpAny_bind (wpAny_sequenceKey ht.typeIs (by decide) ?_)
  refine wpAny_bind (wpAny_callSpecial?_slot (name := Str.ofString "__getitem__") ht.typeIs PyProof.Rows.slot_tuple_getitem
    (wpAny_call_entry PyProof.Rows.slot_tuple_getitem ht.typeIs entry_tuple_getitem ?_ (args_tuple_getitem _ _)))
  show wpAny _ _ (Builtin.Tuple.tupleItemsOf (.ref t) >>= _) _ _ s
  refine wpAny_bind (tupleItemsOf_ ht ?_)
  refine wpAny_bind (wpAny_typeOf hTs ?_)
  rw [if_pos (by decide)]
  refine wpAny_bind (sliceApplied_rev hs pl pu ps ?_)
  have hno : ¬ ((((items.size : Int) - 1) == 0 && (-1 : Int) == 1 && items.size == items.size) = true) := by
    intro q
    rw [Bool.and_eq_true, Bool.and_eq_true] at q
    exact absurd q.1.2 (by decide)
  show wpAny _ _ (if (((items.size : Int) - 1) == 0 && (-1 : Int) == 1 && items.size == items.size) = true then _ else _) _ _ s
  rw [if_neg hno, pick_rev]
  first
    | exact wpAny_bind (m := Builtin.Tuple.tupleExact _) (wpAny_newObj_type (wpAny_pure ⟨_, rfl, wpAny_pure h⟩) htake)
    | exact wpAny_bind (m := Builtin.Tuple.tupleExact _) (wpAny_newObj_type (wpAny_bind (wpAny_pure (wpAny_pure ⟨_, rfl, wpAny_pure h⟩))) htake)
    | exact wpAny_bind (wpAny_bind (m := Builtin.Tuple.tupleExact _) (wpAny_newObj_type (wpAny_pure (wpAny_pure ⟨_, rfl, wpAny_pure h⟩)) htake))
    | exact wpAny_bind (wpAny_bind (m := Builtin.Tuple.tupleExact _) (wpAny_newObj_type (wpAny_pure ⟨_, rfl, wpAny_pure h⟩) htake))
end
end HT
namespace Pw
open PySem PySem.Spec PyProof.Rows L2 Pv
section
variable {X : Cx} {tb : List Addr} {pos : Pos}
def tRevT (K : PySem.W.Frag) (te : TE) : TE := fun σ H Q => te σ H fun x H1 => ∃ a xs, x = .ref a ∧ SqT K H1 a xs ∧ ∀ p, H1 p = none → Q (.ref p) (upd H1 p (.tup xs.reverse))
theorem pe_revT {e : Expr} {te : TE} {k : Nat} {p1 p2 p3 pos : Pos} (he : PE X e te) : PE X (.Subscript e (.Slice none none (some (.UnaryOp .USub (.Constant (.int 1) k p1) p2)) p3) pos) (tRevT X.K te) := by
  refine ⟨fun pins s σ H Q I h => ?_⟩
  refine Subscript_ (thn (he.run pins s σ H _ I h) fun v s1 ⟨x, H1, I1, r1, q1⟩ => ?_)
  obtain ⟨a, xs, ex, hx, q⟩ := q1
  subst ex
  cases r1
  have hst : PO X (some (.UnaryOp .USub (.Constant (.int 1) k p1) p2)) (tPart (tUn (rU fun i => .int (-i)) (tC (.int 1)))) := po_some (pe_un un_neg pe_int)
  refine wpAny_Slice (thn (po_none.run pins s1 σ H1 (fun o H2 => o = none ∧ H2 = H1) I1 ⟨rfl, rfl⟩) fun vl s2 ⟨l, H2, I2, pl, el, e2⟩ => ?_)
  subst el e2
  refine thn (po_none.run pins s2 σ H2 (fun o H3 => o = none ∧ H3 = H2) I2 ⟨rfl, rfl⟩) fun vu s3 ⟨u, H3, I3, pu, eu, e3⟩ => ?_
  subst eu e3
  refine thn (hst.run pins s3 σ H3 (fun o H4 => o = some (-1) ∧ H4 = H3) I3 ⟨1, rfl, -1, rfl, rfl, rfl⟩) fun vs s4 ⟨o, H4, I4, ps, eo, e4⟩ => ?_
  subst eo e4
  have I5 : Inv X pins σ H4 { s4 with heap := s4.heap.push { cls := .type "slice", data := .fields #[vl, vu, vs] } } := I4.kept (t' := s4.toks) fun b ob q => Heap.get?_push_of_some _ q
  obtain ⟨its, r, ht, hz⟩ := I5.tuple hx
  have hlen := r.length
  show wpAny (model X.prog X.w) X.A (subscriptTail e (.Slice none none (some (.UnaryOp .USub (.Constant (.int 1) k p1) p2)) p3) (.ref a) (.ref s4.heap.objs.size)) (EP X pins σ Q) X.xe { s4 with heap := s4.heap.push { cls := .type "slice", data := .fields #[vl, vu, vs] } }
  refine tail_any (ops := [.ref a, .ref s4.heap.objs.size]) ht.typeIs (PyProof.Rows.slot_tuple_getitem.lookup) ?_ (by with_unfolding_all rfl)
  refine HT.getItem_tuple_rev ht (Heap.IsSliceOf.new _ vl vu vs) pl pu ps ?_ (by rw [List.size_toArray]; omega)
  refine ⟨.ref _, _, I5.laid (t' := s4.toks) (o := .tup xs.reverse) (fun b ob q => Heap.get?_push_of_some _ q) (Nat.le_refl _) ?_, rfl, q _ (I5.hok.fresh (Nat.le_refl _))⟩
  exact ⟨by rw [List.length_reverse]; exact hz, _, r.reverse, IsTup.new _ _⟩
def revTD : D → Option W
  | .tup ds => some (.v (.tup ds.reverse))
  | _ => none
theorem ex_revT {e : Expr} {fa : Ex} {k0 : Nat} {p1 p2 p3 : Pos} (he : PE X e (T X.K tb fa)) : PE X (.Subscript e (.Slice none none (some (.UnaryOp .USub (.Constant (.int 1) k0 p1) p2)) p3) pos) (T X.K tb (eUn revTD fa)) := by
  refine pe_mono (pe_revT he) fun σ H Q ⟨φ, ψ, ρ, m, w, m', R, E, e, k⟩ => ?_
  obtain ⟨⟨w1, m1⟩, e1, e⟩ := bnd e
  obtain ⟨d, ed, e⟩ := bnd e
  obtain ⟨w2, e2, e⟩ := bnd e
  cases e
  refine ⟨φ, ψ, ρ, m, w1, m1, R, E, e1, fun φ1 ψ1 H1 x P1 R1 V1 => ?_⟩
  have C := gt_c (V1.rel R1) (V1.s R1) ed
  have kk : Go X.K tb φ1 ψ H1 m1 w Q := fun φ3 ψ3 H3 v P3 R3 V3 => k φ3 ψ3 H3 v ((V1.post P1).trans P3) R3 V3
  have e2 : revTD d = some w := e2
  unfold revTD at e2
  split at e2
  · cases e2
    obtain ⟨a, vs, rfl, hq, q⟩ := C.tup
    exact ⟨a, vs, rfl, hq, fun p hp => Go.tup kk (V1.rel R1) q.rev hp⟩
  · cases e2
end
end Pw
end
section
set_option Elab.async false
set_option linter.all false
set_option maxRecDepth 100000
set_option maxHeartbeats 1000000
namespace Pw
open PySem PySem.Spec PyProof.Rows L2 Pv
end Pw
end
section
set_option Elab.async false
set_option linter.all false
set_option maxRecDepth 100000
set_option maxHeartbeats 1000000
namespace Pw
open PySem PySem.Spec PyProof.Rows L2
theorem ex_cg {X : Cx} {tb : List Addr} {k : Nat} {f : Addr} {fd : FuncData} {ps : List Str} {x : Str} {p pos : Pos} {e : Expr} {es : List Expr} {fa : Ax} {F : Fx} (G : FnG X.prog X.w X.K X.mg X.base k f fd ps (spF X.K tb ps.length F)) (hgd : X.A.guards = some []) (hr : Room k X.A) (hg : Gl X x) (hm : X.mg x = some (.ref f)) (hk : PySem.W.keepIn X.K (.ref f) = true) (hb : Binds X.K fd ps [])
    (ha : PA X (e :: es) (Ta X.K tb fa)) (hn : ∀ ds m r, F ds m = some r → ds.length = ps.length := by exact fun _ _ _ h => runF_len h) (hdb : (x == ("__debug__" : Str)) = false := by decide) (he : starEach (e :: es) X.env = (false, eval e X.env) :: starEach es X.env := by rfl) (hpl : (backTo pos (starEach es X.env)).any (·.1) = false := by rfl) :
    PE X (.Call (.Name x p) (e :: es) [] pos) (T X.K tb (eCall F fa)) := ex_callG hn G hgd hr hg hm hk hb ha hdb he hpl
theorem pgn {X : Cx} {pos : Pos} {i : Nat} {x : Str} (hN : X.N.Nodup) (hi : X.N[i]? = some x) (hx : Loc X.env.scope x := by first | exact Or.inl rfl | exact Or.inr rfl) (hf : X.fn x = true ∨ X.env.scope.names.lookup x = some .local := by first | exact .inl rfl | exact .inr rfl | assumption) : PG X (.Name x pos) (gName i) := pg_name hN hi hx hf
end Pw
end
section
set_option Elab.async false
set_option linter.all false
set_option maxRecDepth 100000
set_option maxHeartbeats 2000000
namespace Pw
open PySem PySem.Spec PyProof.Rows L2 Pv
end Pw
end
section
set_option Elab.async false
set_option linter.all false
set_option maxRecDepth 100000
set_option maxHeartbeats 4000000
namespace Pw
open PySem PySem.Spec PyProof.Rows L2 Pv
end Pw
end
section
set_option Elab.async false
set_option linter.all false
set_option maxRecDepth 100000
set_option maxHeartbeats 2000000
namespace Pv
open PySem PySem.Spec PyProof.Rows L2
end Pv
end
section
set_option Elab.async false
set_option linter.all false
set_option maxRecDepth 100000
set_option maxHeartbeats 2000000
namespace Pw
open PySem PySem.Spec PyProof.Rows L2 Pv
end Pw
end
section
set_option Elab.async false
set_option linter.all false
set_option maxRecDepth 100000
set_option maxHeartbeats 2000000
namespace Pw
open PySem PySem.Spec PyProof.Rows L2 Pv
end Pw
end
section
set_option Elab.async false
set_option linter.all false
set_option maxRecDepth 100000
set_option maxHeartbeats 4000000
namespace Pw
open PySem PySem.Spec PyProof.Rows L2 Pv
end Pw
end
section
set_option Elab.async false
set_option linter.all false
set_option maxRecDepth 100000
set_option maxHeartbeats 4000000
namespace Pw
open PySem PySem.Spec PyProof.Rows L2 Pv
end Pw
end
section
set_option Elab.async false
set_option linter.all false
set_option maxRecDepth 100000
set_option maxHeartbeats 4000000
namespace Pw
open PySem PySem.Spec PyProof.Rows L2 Pv
end Pw
end
section
set_option Elab.async false
set_option linter.all false
set_option maxRecDepth 100000
set_option maxHeartbeats 2000000
namespace Pv
open PySem PySem.Spec PyProof.Rows L2
mutual
inductive Rz (h : Heap) : Value → PyData → Prop
  | non : Rz h .none .none
  | bl (b : Bool) : Rz h (.bool b) (.bool b)
  | int (i : Int) (t : Tok) : Rz h (.int i t) (.int i)
  | str (x : Str) (t : Tok) : Rz h (.str x t) (.str x)
  | lst {a : Addr} {o : Obj} {us : Array Value} {n : Nat} {xs : List PyData} : h.get? a = some o → o.cls = .type "list" → o.data = .seq us n → Rzs h us.toList xs → Rz h (.ref a) (.list xs)
  | tup {a : Addr} {o : Obj} {us : Array Value} {n : Nat} {xs : List PyData} : h.get? a = some o → o.cls = .type "tuple" → o.data = .seq us n → Rzs h us.toList xs → Rz h (.ref a) (.tuple xs)
  | dct {a : Addr} {o : Obj} {es : Array DictEntry} {n : Nat} {kvs : List (PyData × PyData)} : h.get? a = some o → o.cls = .type "dict" → o.data = .dict es n → (a == sysModules) = false →
      Rzs h (es.toList.map fun e => e.key) (kvs.map fun p => p.1) → Rzs h (es.toList.map fun e => e.val) (kvs.map fun p => p.2) → Rz h (.ref a) (.dict kvs)
inductive Rzs (h : Heap) : List Value → List PyData → Prop
  | nil : Rzs h [] []
  | cons {u : Value} {us : List Value} {d : PyData} {ds : List PyData} : Rz h u d → Rzs h us ds → Rzs h (u :: us) (d :: ds)
end
section
variable {h : Heap}
mutual
theorem Rz.reads : ∀ {u : Value} {d : PyData}, Rz h u d → ∃ as, Reads h u d as
  | _, _, .non => ⟨_, .none⟩
  | _, _, .bl b => ⟨_, .bool b⟩
  | _, _, .int i t => ⟨_, .int i t⟩
  | _, _, .str x t => ⟨_, .str x t⟩
  | _, _, .lst e1 e2 e3 r => let ⟨as, q⟩ := Rzs.reads r; ⟨_, .list e1 e2 e3 q⟩
  | _, _, .tup e1 e2 e3 r => let ⟨as, q⟩ := Rzs.reads r; ⟨_, .tuple e1 e2 e3 q⟩
  | _, _, .dct e1 e2 e3 _ r1 r2 => let ⟨as, q1⟩ := Rzs.reads r1; let ⟨bs, q2⟩ := Rzs.reads r2; ⟨_, .dict e1 e2 e3 q1 q2⟩
theorem Rzs.reads : ∀ {us : List Value} {ds : List PyData}, Rzs h us ds → ∃ as, ReadsAll h us ds as
  | _, _, .nil => ⟨_, .nil⟩
  | _, _, .cons r rs => let ⟨as, q1⟩ := Rz.reads r; let ⟨bs, q2⟩ := Rzs.reads rs; ⟨_, .cons q1 q2⟩
end
variable {prog : Program} {w : World}
theorem Rz.off {a : Addr} {d : PyData} {n : Nat} {bs : List Addr} (r : Rz h (.ref a) d) (hd : n < d.depth) (hb : ReadAtMost h n bs) : a ∉ bs := by
  obtain ⟨as, q⟩ := r.reads
  exact not_mem_of_deeper q hd hb
theorem Rz.more {a : Addr} {d : PyData} {n : Nat} {bs : List Addr} (r : Rz h (.ref a) d) (hd : n ≤ d.depth) (hb : ReadAtMost h n bs) : ReadAtMost h d.depth (a :: bs) := by
  obtain ⟨as, q⟩ := r.reads
  exact ReadAtMost.cons q hd hb
theorem key_small {kvs : List (PyData × PyData)} (hz : (dictText (PyData.shownKv kvs)).length ≤ sizeLine) : ∀ t ∈ PyData.shownAll (kvs.map fun p => p.1), t.length ≤ sizeLine := fun t ht => by
  obtain ⟨p, hp, hl⟩ := PyData.shownKv_key_le kvs t ht
  have := dictText_mem_le hp
  omega
theorem val_small {kvs : List (PyData × PyData)} (hz : (dictText (PyData.shownKv kvs)).length ≤ sizeLine) : ∀ t ∈ PyData.shownAll (kvs.map fun p => p.2), t.length ≤ sizeLine := fun t ht => by
  obtain ⟨p, hp, hl⟩ := PyData.shownKv_val_le kvs t ht
  have := dictText_mem_le hp
  omega
mutual
theorem Rz.rp : ∀ {u : Value} {d : PyData}, Rz h u d → d.showable = true → d.shown.length ≤ sizeLine → ∃ bs, ReadAtMost h d.depth bs ∧ ReprK prog w bs h d.depth u d.shown
  | _, _, .non, _, _ => ⟨[], (fun _ z => by cases z), by simp only [PyData.shown]; exact .of_is ReprIs.none _ _ _⟩
  | _, _, .bl b, _, _ => ⟨[], (fun _ z => by cases z), by simp only [PyData.shown]; exact .of_is (ReprIs.bool b) _ _ _⟩
  | _, _, .int i t, s, _ => ⟨[], (fun _ z => by cases z), by simp only [PyData.shown]; exact .of_is (ReprIs.int t (by simpa [PyData.showable] using s)) _ _ _⟩
  | _, _, .str x t, _, z => ⟨[], (fun _ z => by cases z), by simp only [PyData.shown]; exact .of_is (ReprIs.str x t (by simpa only [PyData.shown] using z)) _ _ _⟩
  | _, _, .lst (a := a) (us := us) (xs := xs) e1 e2 e3 r, s, z => by
    have z2 : (listText (PyData.shownAll xs)).length ≤ sizeLine := by simpa only [PyData.shown] using z
    obtain ⟨bs, rb, rk⟩ := Rzs.rp r (by simpa [PyData.showable] using s) fun t ht => by
      have := listText_mem_le ht
      omega
    have R : Rz h (.ref a) (.list xs) := .lst e1 e2 e3 r
    have dp : PyData.depthAll xs < (PyData.list xs).depth := by rw [PyData.depth]; omega
    have off := R.off dp rb
    refine ⟨a :: bs, R.more (by omega) rb, ?_⟩
    simp only [PyData.depth, PyData.shown]
    obtain ⟨l⟩ := us
    cases l with
    | nil =>
      have r2 : Rzs h [] xs := r
      cases r2
      simp only [PyData.shownAll, listText_nil]
      exact ReprK.listEmpty e1 e2 e3
    | cons y l => exact ReprK.list e1 e2 e3 off (by simpa using rk.length_eq) fun i y e => rk.item i y (by simpa using e)
  | _, _, .tup (a := a) (us := us) (xs := xs) e1 e2 e3 r, s, z => by
    have z2 : (tupleText (PyData.shownAll xs)).length ≤ sizeLine := by simpa only [PyData.shown] using z
    obtain ⟨bs, rb, rk⟩ := Rzs.rp r (by simpa [PyData.showable] using s) fun t ht => by
      have := tupleText_mem_le ht
      omega
    have R : Rz h (.ref a) (.tuple xs) := .tup e1 e2 e3 r
    have dp : PyData.depthAll xs < (PyData.tuple xs).depth := by rw [PyData.depth]; omega
    refine ⟨a :: bs, R.more (by omega) rb, ?_⟩
    simp only [PyData.depth, PyData.shown]
    exact ReprK.tuple e1 e2 e3 (R.off dp rb) rk
  | _, _, .dct (a := a) (es := es) (kvs := kvs) e1 e2 e3 sm r1 r2, s, z => by
    have z2 : (dictText (PyData.shownKv kvs)).length ≤ sizeLine := by simpa only [PyData.shown] using z
    obtain ⟨s1, s2⟩ := PyData.showableKv_split kvs (by simpa [PyData.showable] using s)
    obtain ⟨b1, rb1, rk1⟩ := Rzs.rp r1 s1 (key_small z2)
    obtain ⟨b2, rb2, rk2⟩ := Rzs.rp r2 s2 (val_small z2)
    have R : Rz h (.ref a) (.dict kvs) := .dct e1 e2 e3 sm r1 r2
    have rb := (rb1.mono (PyData.depthAll_keys_le kvs)).append (rb2.mono (PyData.depthAll_vals_le kvs))
    have dp : PyData.depthKv kvs < (PyData.dict kvs).depth := by rw [PyData.depth]; omega
    refine ⟨a :: (b1 ++ b2), R.more (by omega) rb, ?_⟩
    simp only [PyData.depth, PyData.shown, PyData.shownKv_eq]
    refine ReprK.dict e1 e2 e3 sm (R.off dp rb) (ReprEntriesK.of_two es.toList _ _ ?_ ?_)
    · exact rk1.more_le (fun b hb => List.mem_append_left _ hb) (PyData.depthAll_keys_le kvs)
    · exact rk2.more_le (fun b hb => List.mem_append_right _ hb) (PyData.depthAll_vals_le kvs)
theorem Rzs.rp : ∀ {us : List Value} {ds : List PyData}, Rzs h us ds → PyData.showableAll ds = true → (∀ t ∈ PyData.shownAll ds, t.length ≤ sizeLine) → ∃ bs, ReadAtMost h (PyData.depthAll ds) bs ∧ ReprAllK prog w bs h (PyData.depthAll ds) us (PyData.shownAll ds)
  | _, _, .nil, _, _ => ⟨[], (fun _ z => by cases z), by simp only [PyData.shownAll]; exact .nil⟩
  | _, _, .cons (d := d) (ds := ds) r rs, s, z => by
    obtain ⟨s1, s2⟩ : d.showable = true ∧ PyData.showableAll ds = true := by simpa [PyData.showableAll] using s
    obtain ⟨b1, rb1, rk1⟩ := Rz.rp r s1 (z _ (by rw [PyData.shownAll]; exact List.mem_cons_self ..))
    obtain ⟨b2, rb2, rk2⟩ := Rzs.rp rs s2 fun t ht => z t (by rw [PyData.shownAll]; exact List.mem_cons_of_mem _ ht)
    have l1 : d.depth ≤ PyData.depthAll (d :: ds) := by rw [PyData.depthAll]; omega
    have l2 : PyData.depthAll ds ≤ PyData.depthAll (d :: ds) := by rw [PyData.depthAll]; omega
    refine ⟨b1 ++ b2, (rb1.mono l1).append (rb2.mono l2), ?_⟩
    rw [PyData.shownAll]
    exact .cons ((rk1.more fun b hb => List.mem_append_left _ hb).level_le l1) (rk2.more_le (fun b hb => List.mem_append_right _ hb) l2)
end
theorem Rz.shows {a : Addr} {d : PyData} (r : Rz h (.ref a) d) (s : d.showable = true) (z : d.shown.length ≤ sizeLine) : ∃ T idr, ShowsBy prog w h a d T idr := by
  cases r with
  | lst e1 e2 e3 r =>
    rename_i o us n xs
    have z2 : (listText (PyData.shownAll xs)).length ≤ sizeLine := by simpa only [PyData.shown] using z
    obtain ⟨bs, rb, rk⟩ := Rzs.rp (prog := prog) (w := w) r (by simpa [PyData.showable] using s) fun t ht => by
      have := listText_mem_le ht
      omega
    have R : Rz h (.ref a) (.list xs) := .lst e1 e2 e3 r
    have off := R.off (by rw [PyData.depth]; omega) rb
    refine ⟨"list", "list.__repr__", F.slot_list_repr.toG, F.slot_list_str, F.slot_list_format, fun s' k0 => ⟨o, k0 _ _ e1, e2⟩, fun A E s' Q g u k0 q => ?_⟩
    simp only [PyData.depth] at u
    simp only [PyData.shown] at q
    obtain ⟨l⟩ := us
    cases l with
    | nil =>
      have r2 : Rzs h [] xs := r
      cases r2
      simp only [PyData.shownAll, listText_nil] at q
      exact call_list_repr_empty ⟨o, k0 _ _ e1, e2⟩ (k0 _ _ e1) e3 (q s'.heap _ _ fun _ _ e => e)
    | cons y l => exact call_list_reprK e1 e2 e3 off (by simpa using rk.length_eq) (fun i y e => rk.item i y (by simpa using e)) g (fun b _ => Clear.nil b) u k0 q z2
  | tup e1 e2 e3 r =>
    rename_i o us n xs
    have z2 : (tupleText (PyData.shownAll xs)).length ≤ sizeLine := by simpa only [PyData.shown] using z
    obtain ⟨bs, rb, rk⟩ := Rzs.rp (prog := prog) (w := w) r (by simpa [PyData.showable] using s) fun t ht => by
      have := tupleText_mem_le ht
      omega
    have R : Rz h (.ref a) (.tuple xs) := .tup e1 e2 e3 r
    refine ⟨"tuple", "tuple.__repr__", F.slot_tuple_repr, F.slot_tuple_str, F.slot_tuple_format, fun s' k0 => ⟨o, k0 _ _ e1, e2⟩, fun A E s' Q g u k0 q => ?_⟩
    simp only [PyData.depth] at u
    simp only [PyData.shown] at q
    exact call_tuple_reprK e1 e2 e3 (R.off (by rw [PyData.depth]; omega) rb) rk g (fun b _ => Clear.nil b) u k0 q z2
  | dct e1 e2 e3 sm r1 r2 =>
    rename_i o es n kvs
    have z2 : (dictText (PyData.shownKv kvs)).length ≤ sizeLine := by simpa only [PyData.shown] using z
    obtain ⟨s1, s2⟩ := PyData.showableKv_split kvs (by simpa [PyData.showable] using s)
    obtain ⟨b1, rb1, rk1⟩ := Rzs.rp (prog := prog) (w := w) r1 s1 (key_small z2)
    obtain ⟨b2, rb2, rk2⟩ := Rzs.rp (prog := prog) (w := w) r2 s2 (val_small z2)
    have R : Rz h (.ref a) (.dict kvs) := .dct e1 e2 e3 sm r1 r2
    have rb := (rb1.mono (PyData.depthAll_keys_le kvs)).append (rb2.mono (PyData.depthAll_vals_le kvs))
    refine ⟨"dict", "dict.__repr__", F.slot_dict_repr, F.slot_dict_str, F.slot_dict_format, fun s' k0 => ⟨o, k0 _ _ e1, e2⟩, fun A E s' Q g u k0 q => ?_⟩
    simp only [PyData.depth] at u
    simp only [PyData.shown, PyData.shownKv_eq] at q
    refine call_dict_reprK e1 e2 e3 sm (R.off (by rw [PyData.depth]; omega) rb) (ReprEntriesK.of_two es.toList _ _ ?_ ?_) g (fun b _ => Clear.nil b) u k0 q (by rw [← PyData.shownKv_eq]; exact z2)
    · exact rk1.more_le (fun b hb => List.mem_append_left _ hb) (PyData.depthAll_keys_le kvs)
    · exact rk2.more_le (fun b hb => List.mem_append_right _ hb) (PyData.depthAll_vals_le kvs)
end
def kP : Key → PyData
  | .inl i => .int i
  | .inr x => .str x
mutual
inductive Dq (K : PySem.W.Frag) (H : Hp) : V → PyData → Prop
  | non : Dq K H .non .none
  | bl (b : Bool) : Dq K H (.bl b) (.bool b)
  | int (i : Int) : Dq K H (.int i) (.int i)
  | str (x : Str) : Dq K H (.str x) (.str x)
  | lst {a : Addr} {xs : List V} {ds : List PyData} : SqL K H a xs → DqAll K H xs ds → Dq K H (.ref a) (.list ds)
  | tup {a : Addr} {xs : List V} {ds : List PyData} : SqT K H a xs → DqAll K H xs ds → Dq K H (.ref a) (.tuple ds)
  | dct {a : Addr} {kvs : List (Key × V)} {ds : List PyData} : Rd H a (.dK kvs) → DqAll K H (kvs.map fun p => p.2) ds → Dq K H (.ref a) (.dict ((kvs.map fun p => kP p.1).zip ds))
inductive DqAll (K : PySem.W.Frag) (H : Hp) : List V → List PyData → Prop
  | nil : DqAll K H [] []
  | cons {v : V} {vs : List V} {d : PyData} {ds : List PyData} : Dq K H v d → DqAll K H vs ds → DqAll K H (v :: vs) (d :: ds)
end
section
variable {X : Cx} {pins : List (Addr × Obj)} {σ : L2.St} {H : Hp} {s : Shared}
theorem DqAll.length {K : PySem.W.Frag} : ∀ {vs : List V} {ds : List PyData}, DqAll K H vs ds → vs.length = ds.length
  | _, _, .nil => rfl
  | _, _, .cons _ r => by rw [List.length_cons, List.length_cons, DqAll.length r]
theorem keys_rz {P : Program} {w : World} {h : Heap} : ∀ {es : List DictEntry} {us : List (Key × Value)} {kvs : List (Key × V)}, Pairs (mixKind P w) es us → KV kvs us → Rzs h (es.map fun e => e.key) (kvs.map fun p => kP p.1)
  | _, _, _, .nil, .nil => .nil
  | _, _, _, .cons h1 _ r, .cons q t => by
    refine .cons ?_ (keys_rz r t)
    show Rz h (DictEntry.key _) (kP _)
    rw [q.1]
    rcases keyIs_shape h1 with ⟨i, t, e1, e2⟩ | ⟨x, t, e1, e2⟩ <;> (rw [e1, e2])
    · exact .int i t
    · exact .str x t
theorem vals_of {P : Program} {w : World} : ∀ {es : List DictEntry} {us : List (Key × Value)} {kvs : List (Key × V)}, Pairs (mixKind P w) es us → KV kvs us → Vals (kvs.map fun p => p.2) (es.map fun e => e.val)
  | _, _, _, .nil, .nil => .nil
  | _, _, _, .cons _ h2 r, .cons q t => by
    refine .cons ?_ (vals_of r t)
    show RelV _ (DictEntry.val _)
    rw [h2]
    exact q.2
mutual
theorem Dq.rz (I : Inv X pins σ H s) : ∀ {d : PyData} {v : V} {u : Value}, Dq X.K H v d → RelV v u → Rz s.heap u d
  | _, _, _, .non, r => by cases r; exact .non
  | _, _, _, .bl b, r => by cases r; exact .bl b
  | _, _, _, .int i, r => by obtain ⟨t, rfl⟩ := r; exact .int i t
  | _, _, _, .str x, r => by obtain ⟨t, rfl⟩ := r; exact .str x t
  | _, _, _, .lst hs ha, r => by
    cases r
    obtain ⟨its, rv, ⟨o, n, e1, e2, _, e3⟩, _⟩ := I.list hs
    exact .lst e1 e2 e3 (Dq.rzs I ha rv)
  | _, _, _, .tup hs ha, r => by
    cases r
    obtain ⟨its, rv, ⟨o, e1, e2, n, e3⟩, _⟩ := I.tuple hs
    exact .tup e1 e2 e3 (Dq.rzs I ha rv)
  | _, _, _, .dct (kvs := kvs) (ds := ds) hr ha, r => by
    cases r
    obtain ⟨_, sm, us, rel, o, es, ep, e1, ex, e3, _, pr, _⟩ := dk_rd I.hok hr
    have ln := ha.length
    rw [List.length_map] at ln
    refine .dct e1 ex.1 e3 sm ?_ ?_
    · rw [List.map_fst_zip (by rw [List.length_map]; omega)]
      exact keys_rz pr rel
    · rw [List.map_snd_zip (by rw [List.length_map]; omega)]
      exact Dq.rzs I ha (vals_of pr rel)
theorem Dq.rzs (I : Inv X pins σ H s) : ∀ {ds : List PyData} {vs : List V} {us : List Value}, DqAll X.K H vs ds → Vals vs us → Rzs s.heap us ds
  | _, _, _, .nil, r => by cases r; exact .nil
  | _, _, _, .cons h1 h2, r => by
    cases r with
    | cons r1 r2 => exact .cons (Dq.rz I h1 r1) (Dq.rzs I h2 r2)
end
end
def shownQ (p : PyData) : Bool := p.showable && decide (p.depth ≤ 60) && decide (p.shown.length ≤ 16000000)
theorem cr_reprQ {X : Cx} (hg : X.A.guards = some []) (hu : X.A.units + 100 < cLine) : CallR X (.builtin "repr") (fun xs H Q => ∃ x d, xs = [x] ∧ Dq X.K H x d ∧ shownQ d = true ∧ Q (.str d.shown) H) := by
  intro pins s σ H xs us Q I r h
  obtain ⟨x, d, rfl, dp, ok, q⟩ := h
  obtain ⟨u, rfl, rx⟩ := r.one
  unfold shownQ at ok
  simp only [Bool.and_eq_true, decide_eq_true_eq] at ok
  obtain ⟨⟨o1, o3⟩, o4⟩ := ok
  have o4' : d.shown.length ≤ sizeLine := Nat.le_trans o4 (by rw [sizeLine_eq]; decide)
  have rz := dp.rz I rx
  have top : ∀ {a : Addr}, u = .ref a → wpAny (model X.prog X.w) X.A (call (.builtin "repr") [u]) (EP X pins σ Q) X.xe s := fun {a} eu => by
    subst eu
    obtain ⟨T, idr, S⟩ := Rz.shows (prog := X.prog) (w := X.w) rz o1 o4'
    refine call_repr_slot (by omega) (S.typeIs s fun _ _ z => z) S.slotRepr (S.call X.A.in1 _ s _ hg (by show X.A.units + 1 + d.depth < cLine; omega) (fun _ _ z => z) fun h' t tk kp => ⟨_, _, rfl, ?_⟩)
    exact ⟨.str _, H, I.kept kp, ⟨_, rfl⟩, q⟩
  cases dp with
  | non => cases rx; exact PySem.P.repr_of_none ⟨.str "None", H, I.tok _, ⟨_, rfl⟩, q⟩
  | bl b => cases rx; exact PySem.P.repr_of_bool ⟨.str _, H, I.tok _, ⟨_, rfl⟩, q⟩
  | int i => obtain ⟨t, rfl⟩ := rx; exact PySem.P.repr_of_int (of_decide_eq_true o1) ⟨.str _, H, I.tok _, ⟨_, rfl⟩, q⟩
  | str z => obtain ⟨t, rfl⟩ := rx; exact PySem.P.repr_of_str ⟨.str _, H, I.tok _, ⟨_, rfl⟩, q⟩ o4'
  | lst hq ha => cases rx; exact top rfl
  | tup hq ha => cases rx; exact top rfl
  | dct hq ha => cases rx; exact top rfl
end Pv
end
section
set_option Elab.async false
set_option linter.all false
set_option maxRecDepth 100000
set_option maxHeartbeats 2000000
namespace Pv
open PySem PySem.Spec PyProof.Rows L2 PySem.SeqAt PySem.MeetsSeq
abbrev DictObj (es : Array DictEntry) (ep : Nat) (dd : Option Addr) (sl : Array (Option Value)) : Obj := { cls := .type "dict", dict := dd, data := .dict es ep, slots := sl }
theorem dq_str (l : Addr) (es : Array DictEntry) (ep : Nat) (dd : Option Addr) (sl : Array (Option Value)) (b : Str) (u : Tok) :
    Meets (Builtin.«dict.__eq__» ⟨[.ref l, .str b u], []⟩) (fun _ R s => s.heap.get? l = some (DictObj es ep dd sl) ∧ R (.ok (.ret .notImplemented)) s) :=
  .of_wp fun prog w A R s z => by
    obtain ⟨hp, g, d, tk, os⟩ := s
    obtain ⟨hl, z⟩ := z
    have f1 := F.sub_str_dict
    wp_walk using wpAny_loadPart' hl, wpAny_load hl
    exact ⟨_, rfl, z⟩
theorem dq_int (l : Addr) (es : Array DictEntry) (ep : Nat) (dd : Option Addr) (sl : Array (Option Value)) (b : Int) (u : Tok) :
    Meets (Builtin.«dict.__eq__» ⟨[.ref l, .int b u], []⟩) (fun _ R s => s.heap.get? l = some (DictObj es ep dd sl) ∧ R (.ok (.ret .notImplemented)) s) :=
  .of_wp fun prog w A R s z => by
    obtain ⟨hp, g, d, tk, os⟩ := s
    obtain ⟨hl, z⟩ := z
    have f1 := F.sub_int_dict
    wp_walk using wpAny_loadPart' hl, wpAny_load hl
    exact ⟨_, rfl, z⟩
theorem dn_str (l : Addr) (es : Array DictEntry) (ep : Nat) (dd : Option Addr) (sl : Array (Option Value)) (b : Str) (u : Tok) :
    Meets (Builtin.«dict.__ne__» ⟨[.ref l, .str b u], []⟩) (fun _ R s => s.heap.get? l = some (DictObj es ep dd sl) ∧ R (.ok (.ret .notImplemented)) s) :=
  .of_wp fun prog w A R s z => by
    obtain ⟨hp, g, d, tk, os⟩ := s
    obtain ⟨hl, z⟩ := z
    have f1 := F.sub_str_dict
    wp_walk using wpAny_loadPart' hl, wpAny_load hl
    exact ⟨_, rfl, z⟩
theorem sq_dict (l : Addr) (es : Array DictEntry) (ep : Nat) (dd : Option Addr) (sl : Array (Option Value)) (b : Str) (u : Tok) :
    Meets (Builtin.«str.__eq__» ⟨[.str b u, .ref l], []⟩) (fun _ R s => s.heap.get? l = some (DictObj es ep dd sl) ∧ R (.ok (.ret .notImplemented)) s) :=
  .of_wp fun prog w A R s z => by
    obtain ⟨hp, g, d, tk, os⟩ := s
    obtain ⟨hl, z⟩ := z
    wp_walk using wpAny_loadPart' hl, wpAny_load hl
    exact ⟨_, rfl, z⟩
theorem sn_dict (l : Addr) (es : Array DictEntry) (ep : Nat) (dd : Option Addr) (sl : Array (Option Value)) (b : Str) (u : Tok) :
    Meets (Builtin.«str.__ne__» ⟨[.str b u, .ref l], []⟩) (fun _ R s => s.heap.get? l = some (DictObj es ep dd sl) ∧ R (.ok (.ret .notImplemented)) s) :=
  .of_wp fun prog w A R s z => by
    obtain ⟨hp, g, d, tk, os⟩ := s
    obtain ⟨hl, z⟩ := z
    wp_walk using wpAny_loadPart' hl, wpAny_load hl
    exact ⟨_, rfl, z⟩
theorem iq_dict (l : Addr) (es : Array DictEntry) (ep : Nat) (dd : Option Addr) (sl : Array (Option Value)) (b : Int) (u : Tok) :
    Meets (Builtin.«int.__eq__» ⟨[.int b u, .ref l], []⟩) (fun _ R s => s.heap.get? l = some (DictObj es ep dd sl) ∧ R (.ok (.ret .notImplemented)) s) :=
  .of_wp fun prog w A R s z => by
    obtain ⟨hp, g, d, tk, os⟩ := s
    obtain ⟨hl, z⟩ := z
    wp_walk using wpAny_loadPart' hl, wpAny_load hl
    exact ⟨_, rfl, z⟩
section
variable {A : Around} {s : Shared} {l : Addr} {es : Array DictEntry} {ep : Nat} {dd : Option Addr} {sl : Array (Option Value)}
theorem rc_dict_str (b : Str) (u : Tok) (ho : s.heap.get? l = some (DictObj es ep dd sl)) (hu : A.units < cLine) : RcAt A s (.ref l) (.str b u) false := fun prog w E Q q =>
  rc_eq_decline_or (k := false) ⟨_, ho, rfl⟩ (typeIs_str s b u) (by decide) F.sub_str_dict F.slot_dict_eq F.slot_str_eq_refl
    (fun _ z => call_meets F.slot_dict_eq ⟨_, ho, rfl⟩ F.entry_dict_eq (F.args_dict_eq_2 _ _) (dq_str l es ep dd sl b u) ⟨ho, z⟩)
    (fun _ z => call_meets F.slot_str_eq_refl (typeIs_str s b u) F.entry_str_eq (F.args_str_eq_2 _ _) (sq_dict l es ep dd sl b u) ⟨ho, z⟩)
    (fun _ z => wpAny_of_eq (rfl : isSame (.ref l) (.str b u) = pure false) z) (.inr hu) q
theorem rc_dict_int (b : Int) (u : Tok) (ho : s.heap.get? l = some (DictObj es ep dd sl)) (hu : A.units < cLine) : RcAt A s (.ref l) (.int b u) false := fun prog w E Q q =>
  rc_eq_decline_or (k := false) ⟨_, ho, rfl⟩ (typeIs_int s b u) (by decide) F.sub_int_dict F.slot_dict_eq F.slot_int_eq_refl
    (fun _ z => call_meets F.slot_dict_eq ⟨_, ho, rfl⟩ F.entry_dict_eq (F.args_dict_eq_2 _ _) (dq_int l es ep dd sl b u) ⟨ho, z⟩)
    (fun _ z => call_meets F.slot_int_eq_refl (typeIs_int s b u) F.entry_int_eq (F.args_int_eq_2 _ _) (iq_dict l es ep dd sl b u) ⟨ho, z⟩)
    (fun _ z => wpAny_of_eq (rfl : isSame (.ref l) (.int b u) = pure false) z) (.inr hu) q
theorem rc_str_dict (b : Str) (u : Tok) (ho : s.heap.get? l = some (DictObj es ep dd sl)) (hu : A.units < cLine) : RcAt A s (.str b u) (.ref l) false := fun prog w E Q q =>
  rc_eq_decline_or (k := false) (typeIs_str s b u) ⟨_, ho, rfl⟩ (by decide) F.sub_dict_str F.slot_str_eq F.slot_dict_eq_refl
    (fun _ z => call_meets F.slot_str_eq (typeIs_str s b u) F.entry_str_eq (F.args_str_eq_2 _ _) (sq_dict l es ep dd sl b u) ⟨ho, z⟩)
    (fun _ z => call_meets F.slot_dict_eq_refl ⟨_, ho, rfl⟩ F.entry_dict_eq (F.args_dict_eq_2 _ _) (dq_str l es ep dd sl b u) ⟨ho, z⟩)
    (fun _ z => wpAny_of_eq (rfl : isSame (.str b u) (.ref l) = pure false) z) (.inr hu) q
theorem rn_dict_str (b : Str) (u : Tok) (ho : s.heap.get? l = some (DictObj es ep dd sl)) (hu : A.units < cLine) : RcNeAt A s (.ref l) (.str b u) true := fun prog w E Q q =>
  rc_ne_decline_or (k := false) ⟨_, ho, rfl⟩ (typeIs_str s b u) (by decide) F.sub_str_dict F.slot_dict_ne F.slot_str_ne_refl
    (fun _ z => call_meets F.slot_dict_ne ⟨_, ho, rfl⟩ F.entry_dict_ne (F.args_dict_ne_2 _ _) (dn_str l es ep dd sl b u) ⟨ho, z⟩)
    (fun _ z => call_meets F.slot_str_ne_refl (typeIs_str s b u) F.entry_str_ne (F.args_str_ne_2 _ _) (sn_dict l es ep dd sl b u) ⟨ho, z⟩)
    (fun _ z => wpAny_of_eq (rfl : isSame (.ref l) (.str b u) = pure false) z) (.inr hu) q
theorem eq_str_dict (b : Str) (u : Tok) (ho : s.heap.get? l = some (DictObj es ep dd sl)) (hu : A.units < cLine) : EqAt A s (.str b u) (.ref l) false := fun prog w E Q q => by
  unfold eqBool
  refine wpAny_holding (wpAny_ite_split (fun z => absurd (eq_of_beq z) nofun) fun _ => ?_)
  exact wpAny_bind (rc_str_dict b u ho hu prog w E _ (wpAny_truthy_bool q))
end
end Pv
end
section
set_option Elab.async false
set_option linter.all false
set_option maxRecDepth 100000
set_option maxHeartbeats 4000000
namespace Pw
open PySem PySem.Spec PyProof.Rows L2 Pv
def ivs : List (Key × D) → Option (List Int)
  | [] => some []
  | (_, .int i) :: r => (ivs r).map (i :: ·)
  | _ :: _ => none
mutual
def pyQ : D → Option PyData
  | .non => some .none
  | .bl b => some (.bool b)
  | .int i => some (.int i)
  | .str x => some (.str x)
  | .tup ds => (pyQs ds).bind fun ps => some (.tuple ps)
  | .tx ds => (pyQs ds).bind fun ps => some (.tuple ps)
  | .fl ds => (pyQs ds).bind fun ps => some (.list ps)
  | .lst ds => (pyQs ds).bind fun ps => some (.list ps)
  | .dk kvs => (ivs kvs).bind fun is => some (.dict ((kvs.map fun p => kP p.1).zip (is.map .int)))
  | .dt _ => none
  | .rl _ _ => none
def pyQs : List D → Option (List PyData)
  | [] => some []
  | d :: ds => (pyQ d).bind fun x => (pyQs ds).bind fun xs => some (x :: xs)
end
section
variable {K : FRG} {tb : List Addr} {φ ψ : List Addr} {H : Hp}
theorem ivs_is : ∀ {kvs : List (Key × D)} {is : List Int}, ivs kvs = some is → kvs.map (fun p => p.2) = is.map D.int
  | [], is, e => by cases e; rfl
  | (k, d) :: r, is, e => by
    cases d <;> first | (cases e) | skip
    rename_i i
    obtain ⟨js, e1, rfl⟩ := Option.map_eq_some_iff.mp (show (ivs r).map (i :: ·) = some is from e)
    rw [List.map_cons, List.map_cons, ivs_is e1]
theorem reps_iq : ∀ {is : List Int} {vs : List V}, Reps K φ ψ H (is.map D.int) vs → DqAll K H vs (is.map PyData.int)
  | [], _, .nil => .nil
  | i :: is, _, .cons h r => by cases h; exact .cons (.int i) (reps_iq r)
theorem dq_dict {a : Addr} {vs : List (Key × V)} {kvs : List (Key × D)} {is : List Int} (h : Rd H a (.dK vs)) (hk : kvs.map (fun p => p.1) = vs.map (fun p => p.1)) (r : Reps K φ ψ H (kvs.map fun p => p.2) (vs.map fun p => p.2)) (e : ivs kvs = some is) :
    Dq K H (.ref a) (.dict ((kvs.map fun p => kP p.1).zip (is.map .int))) := by
  have e1 : (kvs.map fun p => kP p.1) = vs.map fun p => kP p.1 := by
    have := congrArg (List.map kP) hk
    rw [List.map_map, List.map_map] at this
    exact this
  rw [e1]
  rw [ivs_is e] at r
  exact .dct h (reps_iq r)
mutual
theorem pyQ_dq : ∀ {d : D} {v : V} {p : PyData}, Rep K φ ψ H d v → pyQ d = some p → Dq K H v p
  | .non, v, p, h, e => by cases h; rw [pyQ] at e; cases e; exact .non
  | .bl b, v, p, h, e => by cases h; rw [pyQ] at e; cases e; exact .bl b
  | .int i, v, p, h, e => by cases h; rw [pyQ] at e; cases e; exact .int i
  | .str x, v, p, h, e => by cases h; rw [pyQ] at e; cases e; exact .str x
  | .tup ds, v, p, h, e => by
    rw [pyQ] at e
    obtain ⟨ps, e1, e⟩ := bnd e
    cases e
    cases h with
    | tup h r => exact .tup h.1 (pyQs_dq r e1)
  | .tx ds, v, p, h, e => by
    rw [pyQ] at e
    obtain ⟨ps, e1, e⟩ := bnd e
    cases e
    cases h with
    | tx h r => exact .tup h.sq (pyQs_dq r e1)
  | .fl ds, v, p, h, e => by
    rw [pyQ] at e
    obtain ⟨ps, e1, e⟩ := bnd e
    cases e
    cases h with
    | fl h r => exact .lst h.sq (pyQs_dq r e1)
  | .lst ds, v, p, h, e => by
    rw [pyQ] at e
    obtain ⟨ps, e1, e⟩ := bnd e
    cases e
    cases h with
    | lst h1 h2 h r => exact .lst (SqL.of h) (pyQs_dq r e1)
  | .dk kvs, v, p, h, e => by
    rw [pyQ] at e
    obtain ⟨is, e1, e⟩ := bnd e
    cases e
    cases h with
    | dk h1 h2 h3 h4 r => exact dq_dict h3 h4 r e1
  | .dt _, v, p, h, e => by rw [pyQ] at e; cases e
  | .rl _ _, v, p, h, e => by rw [pyQ] at e; cases e
theorem pyQs_dq : ∀ {ds : List D} {vs : List V} {ps : List PyData}, Reps K φ ψ H ds vs → pyQs ds = some ps → DqAll K H vs ps
  | [], vs, ps, h, e => by cases h; rw [pyQs] at e; cases e; exact .nil
  | d :: ds, vs, ps, h, e => by
    rw [pyQs] at e
    obtain ⟨p, e1, e⟩ := bnd e
    obtain ⟨qs, e2, e⟩ := bnd e
    cases e
    cases h with
    | cons h r => exact .cons (pyQ_dq h e1) (pyQs_dq r e2)
end
theorem RepC.dq {d : D} {v : V} {p : PyData} (h : RepC K φ ψ H d v) (e : pyQ d = some p) : Dq K H v p := by
  rcases h with h | ⟨a, mo, rfl, rfl, q⟩
  · exact pyQ_dq h e
  · cases mo with
    | lst ds =>
      rw [moD, pyQ] at e
      obtain ⟨ps, e1, e⟩ := bnd e
      cases e
      obtain ⟨vs, q1, q2⟩ := q
      exact .lst (SqL.of q1) (pyQs_dq q2 e1)
    | dk kvs =>
      rw [moD, pyQ] at e
      obtain ⟨is, e1, e⟩ := bnd e
      cases e
      obtain ⟨vs, q1, q2, q3⟩ := q
      exact dq_dict (.inl q1) q2 q3 e1
    | dt kvs => rw [moD, pyQ] at e; cases e
    | rl b k => rw [moD, pyQ] at e; cases e
def reprQD : List D → Option W
  | [d] => (pyQ d).bind fun p => if shownQ p = true then some (.v (.str p.shown)) else none
  | _ => none
abbrev RQ (K : FRG) : List V → Hp → VK → Prop := fun xs H Q => ∃ x d, xs = [x] ∧ Dq K H x d ∧ shownQ d = true ∧ Q (.str d.shown) H
theorem reprQ_s : CallS K tb (RQ K) reprQD := fun φ ψ H m vs ds w Q R r e k => by
  unfold reprQD at e
  split at e
  · obtain ⟨p, e1, e⟩ := bnd e
    split at e
    · rename_i hs
      cases e
      cases r with
      | cons h r => cases r; exact ⟨_, p, rfl, h.dq e1, hs, Go.val k R (.str _)⟩
    · cases e
  · cases e
def Hld (K : FRG) (H : Hp) (a : Addr) : Prop := (∃ xs, SqL K H a xs) ∨ (∃ xs, SqT K H a xs) ∨ ∃ kvs, Rd H a (.dK kvs)
def rEqO (K : FRG) : R2 := fun x y H Q => (∃ a, x = .ref a ∧ Hld K H a ∧ ((∃ b, y = .str b) ∨ ∃ i, y = .int i) ∧ Q (.bl false) H) ∨ ∃ a b xs, x = .ref a ∧ y = .ref b ∧ SqT K H a xs ∧ SqT K H b [] ∧ Q (.bl xs.isEmpty) H
def rNeO (K : FRG) : R2 := fun x y H Q => ∃ a b, x = .ref a ∧ Hld K H a ∧ y = .str b ∧ Q (.bl true) H
theorem op_eqO {X : Cx} (hu : X.A.units + 64 < cLine) : OpR X (compareOp .Eq) (rEqO X.K) := by
  intro pins s σ H x y v u Q I rx ry h
  rcases h with ⟨a, rfl, hd, hy, q⟩ | ⟨a, b, xs, rfl, rfl, ha, hb, q⟩
  · cases rx
    have fin : SeqAt.RcAt X.A s (.ref a) u false → wpAny (model X.prog X.w) X.A (compareOp .Eq (.ref a) u) (EP X pins σ Q) X.xe s := fun rc => rc X.prog X.w _ _ ⟨.bl false, H, I, rfl, q⟩
    apply fin
    have hu' : X.A.units < cLine := by omega
    rcases hd with ⟨xs, hs⟩ | ⟨xs, hs⟩ | ⟨kvs, hs⟩
    · obtain ⟨its, rv, hl, _⟩ := I.list hs
      rcases hy with ⟨b, rfl⟩ | ⟨i, rfl⟩
      · obtain ⟨t, rfl⟩ := ry
        exact SeqAt.RcAt.list_str b t hl.isList hu'
      · obtain ⟨t, rfl⟩ := ry
        exact SeqAt.RcAt.list_int i t hl.isList hu'
    · obtain ⟨its, rv, ⟨o, e1, e2, n, e3⟩, _⟩ := I.tuple hs
      rcases hy with ⟨b, rfl⟩ | ⟨i, rfl⟩
      · obtain ⟨t, rfl⟩ := ry
        exact SeqAt.RcAt.tuple_str b t ⟨o, e1, e2, n, e3⟩ hu'
      · obtain ⟨t, rfl⟩ := ry
        exact SeqAt.RcAt.tuple_int i t ⟨o, e1, e2, n, e3⟩ hu'
    · obtain ⟨_, _, us, rel, ⟨cls, dd, data, sl⟩, es, ep, e1, ex, e3, _⟩ := dk_rd I.hok hs
      simp only at e3
      have ec : cls = .type "dict" := ex.1
      subst ec e3
      rcases hy with ⟨b, rfl⟩ | ⟨i, rfl⟩
      · obtain ⟨t, rfl⟩ := ry
        exact Pv.rc_dict_str b t e1 hu'
      · obtain ⟨t, rfl⟩ := ry
        exact Pv.rc_dict_int i t e1 hu'
  · cases rx
    cases ry
    obtain ⟨its, rv, ⟨o, e1, e2, n, e3⟩, _⟩ := I.tuple ha
    obtain ⟨its2, rv2, ⟨o2, g1, g2, n2, g3⟩, _⟩ := I.tuple hb
    cases rv2
    have rc : SeqAt.RcAt X.A s (.ref a) (.ref b) _ := SeqAt.RcAt.tuples (e := fun _ => true) (items := its.toArray) (items2 := [].toArray) ⟨o, e1, e2, n, e3⟩ ⟨o2, g1, g2, n2, g3⟩ (by omega) fun j h1 h2 => by simp at h2
    refine rc X.prog X.w _ _ ⟨.bl xs.isEmpty, H, I, ?_, q⟩
    have := rv.length
    show Value.bool _ = Value.bool _
    congr 1
    cases its <;> cases xs <;> simp_all
theorem op_neO {X : Cx} (hu : X.A.units + 64 < cLine) : OpR X (compareOp .NotEq) (rNeO X.K) := by
  intro pins s σ H x y v u Q I rx ry h
  obtain ⟨a, b, rfl, hd, rfl, q⟩ := h
  cases rx
  obtain ⟨t, rfl⟩ := ry
  have fin : SeqAt.RcNeAt X.A s (.ref a) (.str b t) true → wpAny (model X.prog X.w) X.A (compareOp .NotEq (.ref a) (.str b t)) (EP X pins σ Q) X.xe s := fun rc => rc X.prog X.w _ _ ⟨.bl true, H, I, rfl, q⟩
  apply fin
  have hu' : X.A.units < cLine := by omega
  rcases hd with ⟨xs, hs⟩ | ⟨xs, hs⟩ | ⟨kvs, hs⟩
  · obtain ⟨its, rv, hl, _⟩ := I.list hs
    exact SeqAt.RcNeAt.list_str b t hl.isList hu'
  · obtain ⟨its, rv, ⟨o, e1, e2, n, e3⟩, _⟩ := I.tuple hs
    exact SeqAt.RcNeAt.tuple_str b t ⟨o, e1, e2, n, e3⟩ hu'
  · obtain ⟨_, _, us, rel, ⟨cls, dd, data, sl⟩, es, ep, e1, ex, e3, _⟩ := dk_rd I.hok hs
    simp only at e3
    have ec : cls = .type "dict" := ex.1
    subst ec e3
    exact Pv.rn_dict_str b t e1 hu'
def holdB : D → Bool
  | .dk _ | .tup _ | .lst _ | .tx _ | .fl _ => true
  | _ => false
def eqOD : D → D → Option W := fun dx dy => match dy with
  | .str y => if holdB dx = true then some (.v (.bl false)) else eqD false dx (.str y)
  | .int y => if holdB dx = true then some (.v (.bl false)) else eqD false dx (.int y)
  | .tup [] => match dx with
    | .tup xs => some (.v (.bl xs.isEmpty))
    | dx => eqD false dx (.tup [])
  | dy => eqD false dx dy
def neOD : D → D → Option W := fun dx dy => match dy with
  | .str y => if holdB dx = true then some (.v (.bl true)) else eqD true dx (.str y)
  | dy => eqD true dx dy
abbrev rEqP (K : FRG) : R2 := fun x y H Q => rEqA K x y H Q ∨ rEqO K x y H Q
abbrev rNeP (K : FRG) : R2 := fun x y H Q => rNeA K x y H Q ∨ rNeO K x y H Q
theorem op_eqP {X : Cx} (hu : X.A.units + 64 < cLine) : OpR X (compareOp .Eq) (rEqP X.K) := (op_eqA hu).or (op_eqO hu)
theorem op_neP {X : Cx} (hu : X.A.units + 64 < cLine) : OpR X (compareOp .NotEq) (rNeP X.K) := (op_neA hu).or (op_neO hu)
theorem hold_ref {d : D} {v : V} (h : RepC K φ ψ H d v) (hb : holdB d = true) : ∃ a, v = .ref a ∧ Hld K H a := by
  cases d with
  | dk kvs => obtain ⟨a, vs, e, r, _⟩ := h.dk; exact ⟨a, e, .inr (.inr ⟨vs, r⟩)⟩
  | tup xs => obtain ⟨a, vs, e, r, _⟩ := h.tup; exact ⟨a, e, .inr (.inl ⟨vs, r⟩)⟩
  | lst xs => obtain ⟨a, vs, e, r, _⟩ := h.lst; exact ⟨a, e, .inl ⟨vs, SqL.of r⟩⟩
  | fl xs => obtain ⟨a, vs, e, r, _⟩ := h.fl; exact ⟨a, e, .inl ⟨vs, r⟩⟩
  | tx xs =>
    rcases h with h | ⟨a, mo, rfl, e, q⟩
    · cases h with
      | tx h r => exact ⟨_, rfl, .inr (.inl ⟨_, h.sq⟩)⟩
    · cases mo <;> cases e
  | non => cases hb
  | bl b => cases hb
  | int i => cases hb
  | str x => cases hb
  | dt k => cases hb
  | rl b k => cases hb
theorem eqO_s : OpS K tb (rEqP K) eqOD := fun φ ψ H m x y dx dy w Q R hx hy e k => by
  unfold eqOD at e
  split at e
  · split at e
    · rename_i hb
      cases e
      obtain ⟨a, rfl, hd⟩ := hold_ref hx hb
      exact .inr (.inl ⟨a, rfl, hd, .inl ⟨_, hy.str⟩, Go.val k R (.bl _)⟩)
    · exact .inl (eq_s φ ψ H m x y _ _ w Q R hx hy e k)
  · split at e
    · rename_i hb
      cases e
      obtain ⟨a, rfl, hd⟩ := hold_ref hx hb
      exact .inr (.inl ⟨a, rfl, hd, .inr ⟨_, hy.int⟩, Go.val k R (.bl _)⟩)
    · exact .inl (eq_s φ ψ H m x y _ _ w Q R hx hy e k)
  · split at e
    · cases e
      obtain ⟨a, vs, rfl, hq, r⟩ := hx.tup
      obtain ⟨b, us, rfl, hq2, r2⟩ := hy.tup
      cases r2
      refine .inr (.inr ⟨a, b, vs, rfl, rfl, hq, hq2, ?_⟩)
      cases r <;> exact Go.val k R (.bl _)
    · exact .inl (eq_s φ ψ H m x y _ _ w Q R hx hy e k)
  · exact .inl (eq_s φ ψ H m x y _ _ w Q R hx hy e k)
theorem neO_s : OpS K tb (rNeP K) neOD := fun φ ψ H m x y dx dy w Q R hx hy e k => by
  unfold neOD at e
  split at e
  · split at e
    · rename_i hb
      cases e
      obtain ⟨a, rfl, hd⟩ := hold_ref hx hb
      exact .inr ⟨a, _, rfl, hd, hy.str, Go.val k R (.bl _)⟩
    · exact .inl (ne_s φ ψ H m x y _ _ w Q R hx hy e k)
  · exact .inl (ne_s φ ψ H m x y _ _ w Q R hx hy e k)
def rInO (K : FRG) (neg : Bool) : R2 := fun x y H Q => ∃ a b, ∃ ts : List Str, x = .ref a ∧ Hld K H a ∧ y = .ref b ∧ SqT K H b (ts.map V.str) ∧ Q (.bl neg) H
theorem texts_items : ∀ {ts : List Str} {us : List Value}, Vals (ts.map V.str) us → ∀ y ∈ us, ∃ x t, y = .str x t
  | [], _, .nil, y, h => by cases h
  | x :: ts, _, .cons r rs, y, h => by
    rcases List.mem_cons.mp h with rfl | h
    · obtain ⟨t, rfl⟩ := r; exact ⟨x, t, rfl⟩
    · exact texts_items rs y h
theorem eq_item {X : Cx} {pins : List (Addr × Obj)} {σ : L2.St} {s : Shared} {a : Addr} {x : Str} {t : Tok} (I : Inv X pins σ H s) (hd : Hld X.K H a) {A : Around} (hu : A.units < cLine) : SeqAt.EqAt A s (.str x t) (.ref a) false := by
  rcases hd with ⟨xs, hs⟩ | ⟨xs, hs⟩ | ⟨kvs, hs⟩
  · obtain ⟨its, rv, hl, _⟩ := I.list hs
    exact SeqAt.EqAt.str_list x t hl.isList hu
  · obtain ⟨its, rv, ⟨o, e1, e2, n, e3⟩, _⟩ := I.tuple hs
    exact SeqAt.EqAt.str_tuple x t ⟨o, e1, e2, n, e3⟩ hu
  · obtain ⟨_, _, us, rel, ⟨cls, dd, data, sl⟩, es, ep, e1, ex, e3, _⟩ := dk_rd I.hok hs
    simp only at e3
    have ec : cls = .type "dict" := ex.1
    subst ec e3
    exact Pv.eq_str_dict x t e1 hu
theorem op_notInO {X : Cx} (hu : X.A.units + 64 < cLine) : OpR X (compareOp .NotIn) (rInO X.K true) := by
  intro pins s σ H x y v u Q I rx ry h
  obtain ⟨a, b, ts, rfl, hd, rfl, hb, q⟩ := h
  cases rx
  cases ry
  obtain ⟨its, rv, ⟨o, e1, e2, n, e3⟩, _⟩ := I.tuple hb
  refine SeqAt.notIn_tupleAt (fun _ => false) (items := its.toArray) ⟨o, e1, e2, n, e3⟩ (fun y hy => ?_) ⟨.bl true, H, I, ?_, q⟩
  · obtain ⟨z, t, rfl⟩ := texts_items rv y (by simpa using hy)
    exact eq_item I hd (by show X.A.units + 1 < cLine; omega)
  · show Value.bool _ = Value.bool _
    simp
def txs : List D → Option (List Str)
  | [] => some []
  | .str x :: r => (txs r).map (x :: ·)
  | _ :: _ => none
def inOD (neg : Bool) : D → D → Option W := fun dx dy => match dy with
  | .tup ds => if holdB dx = true then (txs ds).bind fun _ => some (.v (.bl neg)) else inD neg dx (.tup ds)
  | dy => inD neg dx dy
theorem txs_rep : ∀ {ds : List D} {ts : List Str} {vs : List V}, txs ds = some ts → Reps K φ ψ H ds vs → vs = ts.map V.str
  | [], _, _, e, .nil => by cases e; rfl
  | d :: ds, ts, _, e, .cons h r => by
    cases d <;> first | (cases e) | skip
    rename_i x
    obtain ⟨us, e1, rfl⟩ := Option.map_eq_some_iff.mp (show (txs ds).map (x :: ·) = some ts from e)
    cases h
    rw [List.map_cons, txs_rep e1 r]
abbrev rInP (K : FRG) (neg : Bool) : R2 := fun x y H Q => rIn K neg x y H Q ∨ rInO K neg x y H Q
theorem op_notInP {X : Cx} (hu : X.A.units + 64 < cLine) : OpR X (compareOp .NotIn) (rInP X.K true) := op_notIn_seq.or (op_notInO hu)
theorem inO_s {neg : Bool} : OpS K tb (rInP K neg) (inOD neg) := fun φ ψ H m x y dx dy w Q R hx hy e k => by
  unfold inOD at e
  split at e
  · split at e
    · rename_i hb
      obtain ⟨ts, e1, e⟩ := bnd e
      cases e
      obtain ⟨a, rfl, hd⟩ := hold_ref hx hb
      obtain ⟨b, us, rfl, hq2, r2⟩ := hy.tup
      rw [txs_rep e1 r2] at hq2
      exact .inr ⟨a, b, ts, rfl, hd, rfl, hq2, Go.val k R (.bl _)⟩
    · exact .inl (in_s φ ψ H m x y _ _ w Q R hx hy e k)
  · exact .inl (in_s φ ψ H m x y _ _ w Q R hx hy e k)
end
end Pw
end
section
set_option Elab.async false
set_option linter.all false
set_option maxRecDepth 100000
set_option maxHeartbeats 1000000
namespace Od
open PySem L2 Pw Pv Lx Ls Lq Lo
mutual
def okq (B : Nat) : Nat → D → Bool
  | _, .non => true
  | _, .bl _ => true
  | _, .int i => decide (i.natAbs ≤ B)
  | _, .str x => decide ((reprText x).length ≤ 2000) && PyData.strOk x
  | _, .dk [] => true
  | _, .dk [(.inl 0, .int 1)] => true
  | n + 1, .tup ds => okqs B n ds
  | n + 1, .lst ds => okqs B n ds
  | _, _ => false
def okqs (B : Nat) : Nat → List D → Bool
  | _, [] => true
  | n, d :: ds => okq B n d && okqs B n ds
end
mutual
def wq : D → Nat
  | .tup ds => 1 + wqs ds
  | .lst ds => 1 + wqs ds
  | .dk _ => 3
  | _ => 1
def wqs : List D → Nat
  | [] => 0
  | d :: ds => wq d + wqs ds
end
theorem wqs_app : ∀ (a b : List D), wqs (a ++ b) = wqs a + wqs b
  | [], b => by rw [List.nil_append, wqs]; omega
  | d :: a, b => by rw [List.cons_append, wqs, wqs, wqs_app a b]; omega
theorem wq_pos (d : D) : 1 ≤ wq d := by cases d <;> rw [wq] <;> first | omega | (intro _ h; cases h) | skip
theorem wqs_len : ∀ ds : List D, ds.length ≤ wqs ds
  | [] => by rw [wqs]; simp
  | d :: ds => by have := wqs_len ds; have := wq_pos d; rw [wqs, List.length_cons]; omega
theorem okqs_iff {B n : Nat} : ∀ {ds : List D}, okqs B n ds = true ↔ ∀ d ∈ ds, okq B n d = true
  | [] => by rw [okqs]; exact ⟨(fun _ _ h => nomatch h), fun _ => rfl⟩
  | d :: ds => by
    rw [okqs, Bool.and_eq_true, okqs_iff (ds := ds)]
    exact ⟨fun ⟨a, b⟩ x hx => by
      rcases List.mem_cons.mp hx with rfl | hx
      · exact a
      · exact b x hx, fun h => ⟨h d List.mem_cons_self, fun x hx => h x (List.mem_cons_of_mem _ hx)⟩⟩
theorem okq_t {B n : Nat} {ds : List D} (h : ∀ d ∈ ds, okq B n d = true) : okq B (n + 1) (.tup ds) = true := by rw [okq]; exact okqs_iff.mpr h
theorem okq_l {B n : Nat} {ds : List D} (h : ∀ d ∈ ds, okq B n d = true) : okq B (n + 1) (.lst ds) = true := by rw [okq]; exact okqs_iff.mpr h
theorem okq_tup {B n : Nat} {ds : List D} (h : okq B n (.tup ds) = true) : ∃ k, n = k + 1 ∧ ∀ d ∈ ds, okq B k d = true := by
  cases n with
  | zero => simp [okq] at h
  | succ n => rw [okq] at h; exact ⟨n, rfl, okqs_iff.mp h⟩
theorem okq_lst {B n : Nat} {ds : List D} (h : okq B n (.lst ds) = true) : ∃ k, n = k + 1 ∧ ∀ d ∈ ds, okq B k d = true := by
  cases n with
  | zero => simp [okq] at h
  | succ n => rw [okq] at h; exact ⟨n, rfl, okqs_iff.mp h⟩
theorem okq_i {B n : Nat} {i : Int} (h : i.natAbs ≤ B) : okq B n (.int i) = true := by rw [okq]; exact decide_eq_true h
theorem okq_s {B n : Nat} {x : Str} (h : (reprText x).length ≤ 2000) (h2 : PyData.strOk x = true) : okq B n (.str x) = true := by rw [okq, decide_eq_true h, h2]; rfl
theorem okq_b {B n : Nat} {b : Bool} : okq B n (.bl b) = true := by rw [okq]
theorem okq_n {B n : Nat} : okq B n .non = true := by rw [okq]
theorem okq_d {B n : Nat} : okq B n (.dk []) = true := by rw [okq]
theorem okq_d1 {B n : Nat} : okq B n (.dk [(.inl 0, .int 1)]) = true := by rw [okq]
theorem okq_cases {B n : Nat} {d : D} (h : okq B n d = true) : d = .non ∨ (∃ b, d = .bl b) ∨ (∃ i : Int, d = .int i ∧ i.natAbs ≤ B) ∨ (∃ x, d = .str x ∧ (reprText x).length ≤ 2000 ∧ PyData.strOk x = true) ∨
    (∃ ds k, d = .tup ds ∧ n = k + 1 ∧ ∀ x ∈ ds, okq B k x = true) ∨ (∃ ds k, d = .lst ds ∧ n = k + 1 ∧ ∀ x ∈ ds, okq B k x = true) ∨ d = .dk [] ∨ d = .dk [(.inl 0, .int 1)] := by
  cases d with
  | non => exact .inl rfl
  | bl b => exact .inr (.inl ⟨b, rfl⟩)
  | int i => rw [okq, decide_eq_true_eq] at h; exact .inr (.inr (.inl ⟨i, rfl, h⟩))
  | str x => rw [okq, Bool.and_eq_true, decide_eq_true_eq] at h; exact .inr (.inr (.inr (.inl ⟨x, rfl, h.1, h.2⟩)))
  | tup ds => obtain ⟨k, e, h'⟩ := okq_tup h; exact .inr (.inr (.inr (.inr (.inl ⟨ds, k, rfl, e, h'⟩))))
  | lst ds => obtain ⟨k, e, h'⟩ := okq_lst h; exact .inr (.inr (.inr (.inr (.inr (.inl ⟨ds, k, rfl, e, h'⟩)))))
  | dk kvs =>
    refine .inr (.inr (.inr (.inr (.inr (.inr ?_)))))
    unfold okq at h
    split at h <;> simp_all
  | tx _ => simp [okq] at h
  | fl _ => simp [okq] at h
  | dt _ => simp [okq] at h
  | rl _ _ => simp [okq] at h
theorem okq_le {B C : Nat} (hB : B ≤ C) : ∀ {n k : Nat} {d : D}, okq B n d = true → n ≤ k → okq C k d = true := by
  intro n
  induction n with
  | zero =>
    intro k d h _
    rcases okq_cases h with rfl | ⟨b, rfl⟩ | ⟨i, rfl, hi⟩ | ⟨x, rfl, h1, h2⟩ | ⟨ds, j, rfl, e, _⟩ | ⟨ds, j, rfl, e, _⟩ | rfl | rfl
    · exact okq_n
    · exact okq_b
    · exact okq_i (by omega)
    · exact okq_s h1 h2
    · cases e
    · cases e
    · exact okq_d
    · exact okq_d1
  | succ n ih =>
    intro k d h hk
    obtain ⟨l, rfl⟩ : ∃ l, k = l + 1 := ⟨k - 1, by omega⟩
    rcases okq_cases h with rfl | ⟨b, rfl⟩ | ⟨i, rfl, hi⟩ | ⟨x, rfl, h1, h2⟩ | ⟨ds, j, rfl, e, q⟩ | ⟨ds, j, rfl, e, q⟩ | rfl | rfl
    · exact okq_n
    · exact okq_b
    · exact okq_i (by omega)
    · exact okq_s h1 h2
    · cases e; exact okq_t fun x hx => ih (q x hx) (by omega)
    · cases e; exact okq_l fun x hx => ih (q x hx) (by omega)
    · exact okq_d
    · exact okq_d1
theorem int_big {i : Int} (h : i.natAbs ≤ 10 ^ 50) : (PyData.int i).showable = true ∧ (PyData.int i).shown.length ≤ 2000 := by
  have h2 : i.natAbs < 2 ^ 200 := Nat.lt_of_le_of_lt h (by decide)
  have h3 : i.natAbs.log2 < 200 := by
    by_cases hz : i.natAbs = 0
    · rw [hz]; decide
    · exact (Nat.log2_lt hz).mpr h2
  refine ⟨?_, ?_⟩
  · rw [PyData.showable, decide_eq_true_eq]
    exact Nat.lt_of_lt_of_le h3 (by decide)
  · rw [PyData.shown]
    exact Nat.le_trans (PyProof.Rows.int_text_len_1921 (Nat.lt_of_lt_of_le h3 (by decide))) (by decide)
def Shn (n : Nat) (d : D) : Prop := ∃ p, pyQ d = some p ∧ p.showable = true ∧ p.depth ≤ n + 1 ∧ p.shown.length + 2 ≤ 2020 * wq d
theorem shns {n : Nat} : ∀ {ds : List D}, (∀ d ∈ ds, Shn n d) → ∃ ps, pyQs ds = some ps ∧ PyData.showableAll ps = true ∧ PyData.depthAll ps ≤ n + 1 ∧ piled (PyData.shownAll ps) ≤ 2020 * wqs ds
  | [], h => by rw [pyQs]; exact ⟨_, rfl, rfl, Nat.zero_le _, by rw [wqs]; exact Nat.le_refl _⟩
  | d :: ds, h => by
    obtain ⟨p, e1, a1, c1, f1⟩ := h d List.mem_cons_self
    obtain ⟨ps, e2, a2, c2, f2⟩ := shns fun y hy => h y (List.mem_cons_of_mem _ hy)
    rw [pyQs, e1]
    simp only [Option.bind_some]
    rw [e2]
    refine ⟨_, rfl, by rw [PyData.showableAll, a1, a2]; rfl, by rw [PyData.depthAll]; omega, ?_⟩
    have := wq_pos d
    rw [PyData.shownAll, piled_cons, wqs]
    omega
theorem shn_scal {n : Nat} {d : D} {p : PyData} (h : pyQ d = some p) (a : p.showable = true) (b : p.depth = 0) (c : p.shown.length ≤ 2010) : Shn n d := by
  have := wq_pos d
  exact ⟨p, h, a, by omega, by omega⟩
theorem shn_dict {n : Nat} : Shn n (.dk []) := ⟨.dict [], by rw [pyQ]; rfl, by decide +kernel, by simp only [PyData.depth, PyData.depthKv]; omega, by rw [wq]; decide +kernel⟩
theorem shn_dict1 {n : Nat} : Shn n (.dk [(.inl 0, .int 1)]) := ⟨.dict [(.int 0, .int 1)], by rw [pyQ]; rfl, by decide +kernel, by simp only [PyData.depth, PyData.depthKv]; omega, by rw [wq]; decide +kernel⟩
theorem okq_shown {B : Nat} (hB : B ≤ 10 ^ 50) : ∀ {n : Nat} {d : D}, okq B n d = true → Shn n d := by
  intro n
  induction n with
  | zero =>
    intro d h
    rcases okq_cases h with rfl | ⟨b, rfl⟩ | ⟨i, rfl, hi⟩ | ⟨x, rfl, h1, h2⟩ | ⟨ds, j, rfl, e, _⟩ | ⟨ds, j, rfl, e, _⟩ | rfl | rfl
    · exact shn_scal (p := .none) (by rw [pyQ]) rfl rfl (by decide)
    · exact shn_scal (p := .bool b) (by rw [pyQ]) rfl rfl (by cases b <;> decide)
    · have q := int_big (Nat.le_trans hi hB)
      exact shn_scal (p := .int i) (by rw [pyQ]) q.1 rfl (by omega)
    · exact shn_scal (p := .str x) (by rw [pyQ]) rfl rfl (by rw [PyData.shown]; omega)
    · cases e
    · cases e
    · exact shn_dict
    · exact shn_dict1
  | succ n ih =>
    intro d h
    rcases okq_cases h with rfl | ⟨b, rfl⟩ | ⟨i, rfl, hi⟩ | ⟨x, rfl, h1, h2⟩ | ⟨ds, j, rfl, e, q⟩ | ⟨ds, j, rfl, e, q⟩ | rfl | rfl
    · exact shn_scal (p := .none) (by rw [pyQ]) rfl rfl (by decide)
    · exact shn_scal (p := .bool b) (by rw [pyQ]) rfl rfl (by cases b <;> decide)
    · have q := int_big (Nat.le_trans hi hB)
      exact shn_scal (p := .int i) (by rw [pyQ]) q.1 rfl (by omega)
    · exact shn_scal (p := .str x) (by rw [pyQ]) rfl rfl (by rw [PyData.shown]; omega)
    · cases e
      obtain ⟨ps, e0, a, c, e⟩ := shns fun x hx => ih (q x hx)
      refine ⟨.tuple ps, by rw [pyQ, e0]; rfl, by rw [PyData.showable]; exact a, by rw [PyData.depth]; omega, ?_⟩
      have := wqs_len ds
      rw [PyData.shown, wq]
      have := tt_le (PyData.shownAll ps)
      omega
    · cases e
      obtain ⟨ps, e0, a, c, e⟩ := shns fun x hx => ih (q x hx)
      refine ⟨.list ps, by rw [pyQ, e0]; rfl, by rw [PyData.showable]; exact a, by rw [PyData.depth]; omega, ?_⟩
      rw [PyData.shown, wq]
      have := lt_le (PyData.shownAll ps)
      omega
    · exact shn_dict
    · exact shn_dict1
theorem reprQ_ex {d : D} {B n : Nat} (h : okq B n d = true) (hB : B ≤ 10 ^ 50) (hn : n ≤ 50) (hz : wq d ≤ 7900) : ∃ t, reprQD [d] = some (.v (.str t)) := by
  obtain ⟨p, e0, a, c, e⟩ := okq_shown hB h
  refine ⟨p.shown, ?_⟩
  show (pyQ d).bind (fun p => if shownQ p = true then some (W.v (D.str p.shown)) else none) = _
  rw [e0]
  simp only [Option.bind_some]
  rw [if_pos]
  unfold shownQ
  rw [a, decide_eq_true (show p.depth ≤ 60 by omega), decide_eq_true (show p.shown.length ≤ 16000000 by omega)]
  rfl
end Od
end
section
set_option Elab.async false
set_option linter.all false
set_option maxRecDepth 100000
set_option maxHeartbeats 1000000
namespace Lb
open PySem L2 Pw Pv Lx Ls Lq Lo
end Lb
end
section
set_option Elab.async false
set_option linter.all false
set_option maxRecDepth 100000
set_option maxHeartbeats 1000000
namespace Lb
open PySem L2 Pw Pv Lx Ls Lq Lv Lo
section
variable {ns : List Int} {L many : Nat}
theorem if_t {t : Tx} {a b : Sx} {ρ : Pw.Env} {m m1 : Mem} {x : Option (Out × Pw.Env × Mem)} (h : t ρ m = some (true, m1)) (h2 : a ρ m1 = x) : sIf t a b ρ m = x := by
  unfold sIf
  rw [h]
  simp only [Option.bind_some, if_true]
  exact h2
theorem if_f {t : Tx} {a : Sx} {ρ : Pw.Env} {m m1 : Mem} (h : t ρ m = some (false, m1)) : sIf t a sNil ρ m = some (.nx, ρ, m1) := by
  unfold sIf
  rw [h]
  rfl
theorem ret_at {a : Ex} {ρ : Pw.Env} {m m1 : Mem} {d : D} (h : a ρ m = some (.v d, m1)) : sRet a ρ m = some (.ret (.v d), ρ, m1) := by
  unfold sRet
  rw [h]; rfl
end
end Lb
end
section
set_option Elab.async false
set_option linter.all false
set_option maxRecDepth 100000
set_option maxHeartbeats 2000000
namespace Od
open PySem L2 Pw Pv Lx Ls Lq Lo Lv
section
variable {ns : List Int} {many B : Nat} {s : Lx.St} {m : Mem}
theorem isd_cases (d : D) (h : okq B n d = true) : (∃ ds, d = .tup ds) ∨ (isD .tuple d = false ∧ ∀ ds, d ≠ .tup ds) := La.isd_tup (by
  rcases okq_cases h with rfl | ⟨b, rfl⟩ | ⟨i, rfl, hi⟩ | ⟨x, rfl, h1, h2⟩ | ⟨ds, j, rfl, e, q⟩ | ⟨ds, j, rfl, e, q⟩ | rfl | rfl <;> rfl)
theorem ty_at {d : D} {k : Ty} {i : Nat} {ρ : Pw.Env} (hi : ρ[i]? = some (some (.v d))) (M : Mem) : tTru (eIs k (eVar i)) ρ M = some (isD k d, M) := by
  simp [tTru, eIs, eVar, hi, truD]
theorem eqO_i {i j : Int} : eqOD (.int i) (.int j) = some (.v (.bl (decide (i = j)))) := by
  show eqD false (.int i) (.int j) = _
  simp
theorem or_at {a b : Tx} {x y : Bool} {ρ : Pw.Env} {M : Mem} (h1 : a ρ M = some (x, M)) (h2 : b ρ M = some (y, M)) : tOr' a b ρ M = some (x || y, M) := by
  cases x <;> simp [tOr', h1, h2]
theorem not_at {a : Tx} {x : Bool} {ρ : Pw.Env} {M : Mem} (h1 : a ρ M = some (x, M)) : tNot' a ρ M = some (!x, M) := by
  simp [tNot', h1]
theorem cut_up {ds : List D} {k : Nat} : cutD ds none (some (k : Int)) = ds.take k := by
  unfold cutD
  rw [HT.sIx_none, HT.sIx_nat]
  by_cases h : k ≤ ds.length
  · rw [Nat.min_eq_left h, Nat.sub_zero, List.drop_zero]
  · rw [Nat.min_eq_right (by omega), Nat.sub_zero, List.drop_zero, List.take_of_length_le (Nat.le_refl _), List.take_of_length_le (by omega)]
theorem cut_dn {ds : List D} {k : Nat} : cutD ds (some (k : Int)) none = ds.drop k := by
  unfold cutD
  rw [HT.sIx_none, HT.sIx_nat]
  by_cases h : k ≤ ds.length
  · rw [Nat.min_eq_left h, List.take_of_length_le (by rw [List.length_drop]; omega)]
  · rw [Nat.min_eq_right (by omega), List.drop_length, List.drop_of_length_le (by omega), List.take_nil]
section
variable {ρ : Pw.Env} {ds es fs : List D} {a k : Nat} {X Y E : Ex} {M M1 : Mem}
theorem cat_at (h1 : X ρ M = some (.v (.tup es), M1)) (h2 : Y ρ M1 = some (.v (.tup fs), M1)) (hl : es.length + fs.length ≤ 1000000) : eOp addD X Y ρ M = some (.v (.tup (es ++ fs)), M1) := by
  refine op_at (m1 := M1) (m2 := M1) h1 h2 rfl rfl ?_
  show (if es.length + fs.length ≤ 1000000 then _ else none) = _
  rw [if_pos hl]
theorem cat_at' (h1 : X ρ M = some (.v (.tup es), M)) (h2 : Y ρ M = some (.v (.tup fs), M1)) (hl : es.length + fs.length ≤ 1000000) : eOp addD X Y ρ M = some (.v (.tup (es ++ fs)), M1) := by
  refine op_at (m1 := M) (m2 := M1) h1 h2 rfl rfl ?_
  show (if es.length + fs.length ≤ 1000000 then _ else none) = _
  rw [if_pos hl]
theorem one_at {w : Pw.W} {d : D} (h : E ρ M = some (w, M1)) (hw : w = .v d ∨ w = .f d) : eTup (aCons E aNil) ρ M = some (.v (.tup [d]), M1) := by
  rcases hw with rfl | rfl <;> simp [eTup, aCons, aNil, h, stl]
end
end
end Od
end
section
set_option Elab.async false
set_option linter.all false
set_option maxRecDepth 100000
set_option maxHeartbeats 1000000
namespace Od
open PySem L2 Pw Pv Lx Ls Lq Wk Lv Lz Dg Lg Lo
open La (ntx)
section
variable {F : List Fo} {B : List Nw} {r : Rw} {day lim : Int} {m : Mem}
theorem okq_ntx {B n : Nat} {d : D} (h : okq B n d = true) : ntx d = true := by
  rcases okq_cases h with rfl | ⟨b, rfl⟩ | ⟨i, rfl, hi⟩ | ⟨x, rfl, h1, h2⟩ | ⟨ds, j, rfl, e, q⟩ | ⟨ds, j, rfl, e, q⟩ | rfl | rfl <;> rfl
theorem src_tup {ds : List D} {i : Nat} {ρ : Pw.Env} (hi : ρ[i]? = some (some (.v (.tup ds)))) (M : Mem) : iSeq (eVar i) ρ M = some (.seq ds, M) := by
  simp [iSeq, eVar, hi]
end
end Od
end
section
set_option Elab.async false
set_option linter.all false
set_option maxRecDepth 100000
set_option maxHeartbeats 1000000
namespace La
open PySem L2 Pw Pv Lx Ls Lq Wk Lv Lz Dg Lg Lo
open Le (F_is_tuple_of F_is_rising)
end La
end
section
set_option Elab.async false
set_option linter.all false
set_option maxRecDepth 100000
set_option maxHeartbeats 1000000
namespace La
open PySem L2 Pw Pv Lx Ls Lq Wk Lv Lz Dg Lg Lo
end La
end
section
set_option Elab.async false
set_option linter.all false
set_option maxRecDepth 100000
set_option maxHeartbeats 1000000
namespace Lb
open PySem L2 Pw Pv Lx Ls Lq Wk Lv Lz Dg Lg Lo
end Lb
end
section
set_option Elab.async false
set_option linter.all false
set_option maxRecDepth 100000
set_option maxHeartbeats 1000000
namespace Od
open PySem L2 Pw Pv Lx Ls Lq Wk Lv Lz Dg Lg Lo
def PT (B n V : Nat) (d : D) : Prop := okq B n d = true ∧ wq d ≤ V
theorem PT.of {B n V : Nat} {d : D} (h : okq B n d = true) (hw : wq d ≤ V) : PT B n V d := ⟨h, hw⟩
theorem wq_i {i : Int} : wq (.int i) = 1 := by
  unfold wq
  rfl
end Od
end
section
set_option Elab.async false
set_option linter.all false
set_option maxRecDepth 100000
set_option maxHeartbeats 1000000
namespace Od
open PySem L2 Pw Pv Lx Ls Lq Wk Lv Lz Dg Lg Lo
variable {F : List Fo} {B : List Nw} {r : Rw} {lim : Int} {C n : Nat}
theorem okq_cons {d : D} {ds : List D} (h : okq C n d = true) (h2 : ∀ x ∈ ds, okq C n x = true) : ∀ x ∈ d :: ds, okq C n x = true := fun x hx => by
  rcases List.mem_cons.mp hx with rfl | hx
  · exact h
  · exact h2 x hx
theorem okq_nil : ∀ x ∈ ([] : List D), okq C n x = true := fun x hx => nomatch hx
end Od
end
section
set_option Elab.async false
set_option linter.all false
set_option maxRecDepth 100000
set_option maxHeartbeats 400000
namespace Od
open PySem L2 Pw Pv Lx Ls Lq Wk Lv Lz Dg Lg Lo
section
variable {a b c : Ex} {x y : Bool} {ρ : Pw.Env} {M : Mem}
theorem andE (h1 : a ρ M = some (.v (.bl x), M)) (h2 : x = true → b ρ M = some (.v (.bl y), M)) : eAnd a b ρ M = some (.v (.bl (x && y)), M) := by
  cases x with
  | true => simp [eAnd, tVal, h1, h2 rfl]
  | false => simp [eAnd, tVal, h1]
theorem tru_at (h : a ρ M = some (.v (.bl x), M)) : tTru a ρ M = some (x, M) := by
  simp [tTru, h, truD]
theorem val_at (h : a ρ M = some (.v (.bl x), M)) : tVal a ρ M = some (x, M) := by
  simp [tVal, h]
theorem orT {p q : Tx} {x y : Bool} (h1 : p ρ M = some (x, M)) (h2 : x = false → q ρ M = some (y, M)) : tOr' p q ρ M = some (x || y, M) := by
  cases x <;> simp [tOr', h1, h2]
end
theorem num_int {d : D} (h : La.isNum d = true) : ∃ i, d = .int i := by
  cases d <;> first | exact ⟨_, rfl⟩ | cases h
end Od
end
section
set_option Elab.async false
set_option linter.all false
set_option maxRecDepth 100000
set_option maxHeartbeats 400000
namespace Od
open PySem L2 Pw Pv Lx Ls Lq Wk Lv Lz Dg Lg Lo
variable {C n U V k : Nat} {ρ : Pw.Env} {M : Mem} {X : Ex} {A : Ax}
def Sm (C n U : Nat) (ρ : Pw.Env) (M : Mem) (X : Ex) : Prop := ∃ (w : Pw.W) (d : D), X ρ M = some (w, M) ∧ (w = .v d ∨ w = .f d) ∧ PT C n U d
def Lm (C n U : Nat) (ρ : Pw.Env) (M : Mem) (A : Ax) (k : Nat) : Prop := ∃ L : List D, A ρ M = some (L.map W.v, M) ∧ (∀ d ∈ L, PT C n U d) ∧ L.length = k
theorem lm_nil : Lm C n U ρ M aNil 0 := ⟨[], rfl, (fun _ h => nomatch h), rfl⟩
theorem lm_cons (h : Sm C n U ρ M X) (h2 : Lm C n U ρ M A k) : Lm C n U ρ M (aCons X A) (k + 1) := by
  obtain ⟨w, d, e, hw, p⟩ := h
  obtain ⟨L, e2, q, hl⟩ := h2
  refine ⟨d :: L, ?_, fun x hx => ?_, by simp [hl]⟩
  · unfold aCons
    rw [e]
    simp only [Option.bind_some, e2]
    rcases hw with rfl | rfl <;> rfl
  · rcases List.mem_cons.mp hx with rfl | hx
    · exact p
    · exact q x hx
theorem vls_v : ∀ L : List D, vls (L.map W.v) = some L
  | [] => rfl
  | d :: L => by
    rw [List.map_cons, vls, vls_v L]; rfl
theorem wqs_le : ∀ {L : List D}, (∀ d ∈ L, wq d ≤ U) → wqs L ≤ L.length * U
  | [], _ => by rw [wqs]; exact Nat.zero_le _
  | d :: L, h => by
    rw [wqs, List.length_cons, Nat.succ_mul]
    have := h d List.mem_cons_self
    have := wqs_le (L := L) fun x hx => h x (List.mem_cons_of_mem _ hx)
    omega
theorem sm_tup (h : Lm C n U ρ M A k) (hk : k ≤ 1000000) : Sm C (n + 1) (1 + k * U) ρ M (eTup A) := by
  obtain ⟨L, e, q, hl⟩ := h
  refine ⟨.v (.tup L), .tup L, ?_, .inl rfl, okq_t fun x hx => (q x hx).1, ?_⟩
  · unfold eTup
    rw [e]
    simp only [Option.bind_some, vls_v]
    rw [if_pos (by omega)]
  · rw [wq]
    have := wqs_le (L := L) fun x hx => (q x hx).2
    rw [hl] at this
    omega
theorem lst_lm (h : Lm C n U ρ M A k) (hk : k ≤ 1000000) : ∃ L : List D, eLst A ρ M = some (.f (.lst L), M) ∧ (∀ d ∈ L, PT C n U d) ∧ L.length = k := by
  obtain ⟨L, e, q, hl⟩ := h
  refine ⟨L, ?_, q, hl⟩
  unfold eLst
  rw [e]
  simp only [Option.bind_some, vls_v]
  rw [if_pos (by omega)]
theorem sm_le {C' n' U' : Nat} (h : Sm C n U ρ M X) (hC : C ≤ C') (hn : n ≤ n') (hU : U ≤ U') : Sm C' n' U' ρ M X := by
  obtain ⟨w, d, e, hw, p, q⟩ := h
  exact ⟨w, d, e, hw, okq_le hC p hn, by omega⟩
theorem PT.le {C' n' U' : Nat} {d : D} (h : PT C n U d) (hC : C ≤ C') (hn : n ≤ n') (hU : U ≤ U') : PT C' n' U' d := ⟨okq_le hC h.1 hn, by have := h.2; omega⟩
theorem sm_neg {i : Int} (h : i.natAbs ≤ C) : Sm C n 1 ρ M (eUn negD (eC (.int i))) := ⟨.v (.int (-i)), .int (-i), rfl, .inl rfl, okq_i (by omega), by rw [wq_i]; exact Nat.le_refl _⟩
theorem sm_non : Sm C n 1 ρ M (eC .non) := ⟨.v .non, .non, rfl, .inl rfl, okq_n, by unfold wq; exact Nat.le_refl _⟩
theorem sm_var {i : Nat} {d : D} (h : ρ[i]? = some (some (.v d))) (p : PT C n U d) : Sm C n U ρ M (eVar i) := ⟨.v d, d, by unfold eVar; rw [h]; rfl, .inl rfl, p⟩
end Od
end
section
set_option Elab.async false
set_option linter.all false
set_option maxRecDepth 100000
set_option maxHeartbeats 400000
namespace Pw
open PySem PySem.Spec PyProof.Rows L2 Pv
section
variable {K : FRG} {tb : List Addr} {φ : Nat → Addr} {ψ : Nat → Addr} {H : Hp} {m : Mem}
def rNeL (K : FRG) : R2 := fun x y H Q => ∃ a b xs, x = .ref a ∧ y = .ref b ∧ SqL K H a xs ∧ SqL K H b [] ∧ Q (.bl (!xs.isEmpty)) H
theorem op_neL {X : Cx} (hu : X.A.units + 64 < cLine) : OpR X (compareOp .NotEq) (rNeL X.K) := by
  intro pins s σ H x y v u Q I rx ry h
  obtain ⟨a, b, xs, rfl, rfl, ha, hb, q⟩ := h
  cases rx
  cases ry
  obtain ⟨its, rv, hl, _⟩ := I.list ha
  obtain ⟨its2, rv2, hl2, _⟩ := I.list hb
  cases rv2
  have fin : SeqAt.RcNeAt X.A s (.ref a) (.ref b) (!xs.isEmpty) → wpAny (model X.prog X.w) X.A (compareOp .NotEq (.ref a) (.ref b)) (EP X pins σ Q) X.xe s := fun rc => rc X.prog X.w _ _ ⟨.bl (!xs.isEmpty), H, I, rfl, q⟩
  apply fin
  cases rv with
  | nil => exact SeqAt.RcNeAt.lists (e := fun _ => true) hl.isList hl2.isList rfl (by omega) (fun j h1 h2 => by simp at h2)
  | cons h t => exact SeqAt.RcNeAt.lists_lengths hl.isList hl2.isList (by simp) (by omega)
def neLD : D → D → Option W := fun dx dy => match dx, dy with
  | .lst xs, .lst [] => some (.v (.bl (!xs.isEmpty)))
  | dx, dy => neOD dx dy
abbrev rNeQ (K : FRG) : R2 := fun x y H Q => rNeP K x y H Q ∨ rNeL K x y H Q
theorem op_neQ {X : Cx} (hu : X.A.units + 64 < cLine) : OpR X (compareOp .NotEq) (rNeQ X.K) := (op_neP hu).or (op_neL hu)
theorem neQ_s : OpS K tb (rNeQ K) neLD := fun φ ψ H m x y dx dy w Q R hx hy e k => by
  unfold neLD at e
  split at e
  · cases e
    obtain ⟨a, vs, rfl, hq, r⟩ := hx.lst
    obtain ⟨b, us, rfl, hq2, r2⟩ := hy.lst
    cases r2
    refine .inr ⟨a, b, vs, rfl, rfl, SqL.of hq, SqL.of hq2, ?_⟩
    cases r <;> exact Go.val k R (.bl _)
  · exact .inl (neO_s φ ψ H m x y _ _ w Q R hx hy e k)
end
end Pw
end
section
set_option Elab.async false
set_option linter.all false
set_option maxRecDepth 100000
set_option maxHeartbeats 400000
namespace Pw
open PySem PySem.Spec PyProof.Rows L2 Pv
end Pw
end
section
set_option Elab.async false
set_option linter.all false
set_option maxRecDepth 100000
set_option maxHeartbeats 400000
namespace Pw
open PySem PySem.Spec PyProof.Rows L2 Pv
section
variable {K : FRG} {tb : List Addr}
def rEqB (K : FRG) : R2 := fun x y H Q => ∃ b i, x = .bl b ∧ y = .int i ∧ Q (.bl ((if b = true then 1 else 0) == i)) H
theorem op_eqB1 {X : Cx} (hu : X.A.units + 64 < cLine) : OpR X (compareOp .Eq) (rEqB X.K) := by
  intro pins s σ H x y v u Q I rx ry h
  obtain ⟨b, i, rfl, rfl, q⟩ := h
  cases rx
  obtain ⟨t, rfl⟩ := ry
  have fin : SeqAt.RcAt X.A s (.bool b) (.int i t) ((if b = true then 1 else 0) == i) → wpAny (model X.prog X.w) X.A (compareOp .Eq (.bool b) (.int i t)) (EP X pins σ Q) X.xe s := fun rc => rc X.prog X.w _ _ ⟨.bl ((if b = true then 1 else 0) == i), H, I, rfl, q⟩
  exact fin (SeqAt.RcAt.bool_int b i t)
def eqBD : D → D → Option W := fun dx dy => match dx, dy with
  | .bl b, .int i => some (.v (.bl ((if b = true then 1 else 0) == i)))
  | dx, dy => eqOD dx dy
abbrev rEqQ (K : FRG) : R2 := fun x y H Q => rEqP K x y H Q ∨ rEqB K x y H Q
theorem op_eqQ {X : Cx} (hu : X.A.units + 64 < cLine) : OpR X (compareOp .Eq) (rEqQ X.K) := (op_eqP hu).or (op_eqB1 hu)
theorem RepC.blv {φ ψ : List Addr} {H : Hp} {b : Bool} {v : V} (h : RepC K φ ψ H (.bl b) v) : v = .bl b := by
  rcases h with h | ⟨a, mo, rfl, e, q⟩
  · cases h; rfl
  · cases mo <;> cases e
theorem eqQ_s : OpS K tb (rEqQ K) eqBD := fun φ ψ H m x y dx dy w Q R hx hy e k => by
  unfold eqBD at e
  split at e
  · cases e
    rw [hx.blv, hy.int]
    exact .inr ⟨_, _, rfl, rfl, Go.val k R (.bl _)⟩
  · exact .inl (eqO_s φ ψ H m x y _ _ w Q R hx hy e k)
end
end Pw
end
section
set_option Elab.async false
set_option linter.all false
set_option maxRecDepth 100000
set_option maxHeartbeats 400000
namespace Ob
open PySem L2 Pw Pv Lx Ls Lq Lo Lv Od
def oddL : List D := [.non, .bl true, .bl false, .int 0, .int 1, .int (-1), .int 60, .int 61, .str "", .str "0", .str "line", .tup [], .tup [.int 0], .lst [], .lst [.int 0], .dk [], .dk [(.inl 0, .int 1)], .tup [.tup []], .tup [.non]]
theorem odd_ix (c : Int) (h0 : 0 ≤ c) (h1 : c < 19) : ∃ d, ixD (.lst oddL) (.int c) = some (.v d) ∧ okq 100 2 d = true ∧ wq d ≤ 3 := by
  have : c = 0 ∨ c = 1 ∨ c = 2 ∨ c = 3 ∨ c = 4 ∨ c = 5 ∨ c = 6 ∨ c = 7 ∨ c = 8 ∨ c = 9 ∨ c = 10 ∨ c = 11 ∨ c = 12 ∨ c = 13 ∨ c = 14 ∨ c = 15 ∨ c = 16 ∨ c = 17 ∨ c = 18 := by omega
  rcases this with rfl | rfl | rfl | rfl | rfl | rfl | rfl | rfl | rfl | rfl | rfl | rfl | rfl | rfl | rfl | rfl | rfl | rfl | rfl
  all_goals exact ⟨_, rfl, by decide +kernel, by decide +kernel⟩
end Ob
end
section
set_option Elab.async false
set_option linter.all false
set_option maxRecDepth 100000
set_option maxHeartbeats 1000000
namespace Lk
open PySem L2 Pw Pv Lx
section
variable {α : Type} {src : Ix} {t : Gx} {c : Tx} {f : Ex} {vs : List Nat} {ρ : Pw.Env} {m m1 : Mem}
theorem lcL_sel {xs : List D} {ρ : Pw.Env} (Inv : Nat → List D → Mem → Prop) (g : α → D) : ∀ (L : List α) (i : Nat), (∀ k a, L[k]? = some a → ∀ acc m, Inv (i + k) acc m → ∃ ρ1 b m1, t (g a) ρ = some ρ1 ∧ c ρ1 m = some (b, m1) ∧ (b = true → ∃ w v, f ρ1 m1 = some (w, m1) ∧ vl w = some v ∧ Inv (i + k + 1) (acc ++ [v]) m1) ∧ (b = false → Inv (i + k + 1) acc m1)) →
    ∀ (acc : List D) (m : Mem), Inv i acc m → acc.length + L.length ≤ 1000000 → ∃ acc' m', lcL (.seq xs) xs t c f ρ (L.map g) acc m = some (acc', m') ∧ Inv (i + L.length) acc' m'
  | [], i, step, acc, m, inv, _ => ⟨acc, m, by simp [lcL, itemsAt], by simpa using inv⟩
  | a :: L, i, step, acc, m, inv, hl => by
    rw [List.length_cons] at hl
    obtain ⟨ρ1, b, m1, q1, q2, q3, q4⟩ := step 0 a rfl acc m inv
    have next : ∀ acc2 m2, Inv (i + 1) acc2 m2 → acc2.length + L.length ≤ 1000000 → ∃ acc' m', lcL (.seq xs) xs t c f ρ (L.map g) acc2 m2 = some (acc', m') ∧ Inv (i + 1 + L.length) acc' m' := fun acc2 m2 hi h2 =>
      lcL_sel Inv g L (i + 1) (fun k a ha acc m hi => by
        have := step (k + 1) a (by simpa using ha) acc m (by rw [show i + (k + 1) = i + 1 + k by omega]; exact hi)
        rw [show i + (k + 1) + 1 = i + 1 + k + 1 by omega] at this
        exact this) acc2 m2 hi h2
    rw [List.map_cons, List.length_cons, show i + (L.length + 1) = i + 1 + L.length by omega]
    unfold lcL
    rw [if_pos (show itemsAt (.seq xs) m = some xs from rfl)]
    simp only [q1, q2, Option.bind_some]
    cases b with
    | true =>
      obtain ⟨w, v, f1, f2, hi⟩ := q3 rfl
      obtain ⟨acc', m', e, hi'⟩ := next (acc ++ [v]) m1 hi (by simp; omega)
      refine ⟨acc', m', ?_, hi'⟩
      simp only [if_true, f1, f2, Option.bind_some]
      rw [if_pos (by omega)]
      exact e
    | false =>
      obtain ⟨acc', m', e, hi'⟩ := next acc m1 (q4 rfl) (by omega)
      refine ⟨acc', m', ?_, hi'⟩
      simpa using e
theorem lc_sel (L : List α) (g : α → D) (Inv : Nat → List D → Mem → Prop) (hs : src ρ m = some (.seq (L.map g), m1)) (h0 : Inv 0 [] m1)
    (step : ∀ k a, L[k]? = some a → ∀ acc m, Inv k acc m → ∃ ρ1 b m1, t (g a) (wipeD ρ vs) = some ρ1 ∧ c ρ1 m = some (b, m1) ∧ (b = true → ∃ w v, f ρ1 m1 = some (w, m1) ∧ vl w = some v ∧ Inv (k + 1) (acc ++ [v]) m1) ∧ (b = false → Inv (k + 1) acc m1)) (hl : L.length ≤ 1000000) :
    ∃ acc m', eLc src t c f vs ρ m = some (.f (.lst acc), m') ∧ Inv L.length acc m' := by
  obtain ⟨acc, m', e, inv⟩ := lcL_sel (xs := L.map g) Inv g L 0 (fun k a ha acc m hi => by
    have := step k a ha acc m (by simpa using hi)
    simpa using this) [] m1 h0 (by simpa using hl)
  refine ⟨acc, m', ?_, by simpa using inv⟩
  unfold eLc
  rw [hs]
  simp only [Option.bind_some, items_seq]
  rw [e]; rfl
end
end Lk
end
section
set_option Elab.async false
set_option linter.all false
set_option maxRecDepth 100000
set_option maxHeartbeats 400000
namespace Pw
open PySem PySem.Spec PyProof.Rows L2 Pv
section
variable {K : FRG} {tb : List Addr}
def boolD : List D → Option W
  | [.int i] => some (.v (.bl (i != 0)))
  | [.bl b] => some (.v (.bl b))
  | _ => none
theorem bool_s : CallS K tb (fun xs H Q => (∃ i, xs = [.int i] ∧ Q (.bl (i != 0)) H) ∨ ∃ k, xs = [.bl k] ∧ Q (.bl k) H) boolD := fun φ ψ H m vs ds w Q R r e k => by
  unfold boolD at e
  split at e
  · cases e
    cases r with
    | cons h1 r => cases r; rw [h1.int]; exact .inl ⟨_, rfl, Go.val k R (.bl _)⟩
  · cases e
    cases r with
    | cons h1 r => cases r; rw [h1.bl]; exact .inr ⟨_, rfl, Go.val k R (.bl _)⟩
  · cases e
end
end Pw
end
section
set_option Elab.async false
set_option linter.all false
set_option maxRecDepth 100000
set_option maxHeartbeats 4000000
namespace K64
open PySem PySem.Spec PyProof.Rows L2 Pw
def topS (i : Nat) : Stmt := PySem.Challenge.pw_thronewalk_k64_joins_said.main.body.getD i (.Pass ⟨0, 0, 0, 0⟩)
abbrev s_l_is_number : Stmt := topS 17
abbrev N_l_is_number : List Str := ["_law_thing"]
abbrev P_l_is_number : List Str := ["_law_thing"]
theorem sc_l_is_number : FnScope N_l_is_number P_l_is_number (defScope s_l_is_number) := ⟨rfl, rfl, rfl, by decide +kernel, rfl, by decide +kernel, by decide +kernel⟩
abbrev s_is_join : Stmt := topS 18
abbrev N_is_join : List Str := ["_law_one", "_law_other", "_law_thing", "_law_left", "_law_deaths", "_law_who", "_law_order", "_law_number"]
abbrev P_is_join : List Str := ["_law_one", "_law_other", "_law_thing"]
theorem sc_is_join : FnScope N_is_join P_is_join (defScope s_is_join) := ⟨rfl, rfl, rfl, by decide +kernel, rfl, by decide +kernel, by decide +kernel⟩
abbrev s_take : Stmt := topS 11
abbrev N_take : List Str := ["_law_state", "_law_below", "_law_cell", "_law_found"]
abbrev P_take : List Str := ["_law_state", "_law_below"]
theorem sc_take : FnScope N_take P_take (defScope s_take) := ⟨rfl, rfl, rfl, by decide +kernel, rfl, by decide +kernel, by decide +kernel⟩
abbrev s_pool : Stmt := topS 16
abbrev N_pool : List Str := ["_law_state", "_law_some"]
abbrev P_pool : List Str := ["_law_state"]
theorem sc_pool : FnScope N_pool P_pool (defScope s_pool) := ⟨rfl, rfl, rfl, by decide +kernel, rfl, by decide +kernel, by decide +kernel⟩
abbrev s_says : Stmt := topS 13
abbrev N_says : List Str := ["_law_found", "_law_due"]
abbrev P_says : List Str := ["_law_found", "_law_due"]
theorem sc_says : FnScope N_says P_says (defScope s_says) := ⟨rfl, rfl, rfl, by decide +kernel, rfl, by decide +kernel, by decide +kernel⟩
abbrev s_odd : Stmt := topS 12
abbrev N_odd : List Str := ["_law_number", "_law_odd_here"]
abbrev P_odd : List Str := ["_law_number"]
theorem sc_odd : FnScope N_odd P_odd (defScope s_odd) := ⟨rfl, rfl, rfl, by decide +kernel, rfl, by decide +kernel, by decide +kernel⟩
abbrev s_things : Stmt := topS 19
abbrev N_things : List Str := ["_law_state", "_law_one", "_law_other", "_law_found", "_law_who", "_law_deaths", "_law_more", "_law_at", "_law_odd_here", "_law_number"]
abbrev P_things : List Str := ["_law_state", "_law_one", "_law_other"]
theorem sc_things : FnScope N_things P_things (defScope s_things) := ⟨rfl, rfl, rfl, by decide +kernel, rfl, by decide +kernel, by decide +kernel⟩
abbrev s_drawn_order : Stmt := topS 14
abbrev N_drawn_order : List Str := ["_law_state", "_law_pool_here", "_law_many", "_law_left", "_law_found", "_law_k"]
abbrev P_drawn_order : List Str := ["_law_state", "_law_pool_here", "_law_many"]
theorem sc_drawn_order : FnScope N_drawn_order P_drawn_order (defScope s_drawn_order) := ⟨rfl, rfl, rfl, by decide +kernel, rfl, by decide +kernel, by decide +kernel⟩
abbrev s_two_orders : Stmt := topS 15
abbrev N_two_orders : List Str := ["_law_state", "_law_pool_here", "_law_most", "_law_one", "_law_way", "_law_at", "_law_rest", "_law_number"]
abbrev P_two_orders : List Str := ["_law_state", "_law_pool_here", "_law_most"]
theorem sc_two_orders : FnScope N_two_orders P_two_orders (defScope s_two_orders) := ⟨rfl, rfl, rfl, by decide +kernel, rfl, by decide +kernel, by decide +kernel⟩
abbrev s_is_number : Stmt := topS 3
abbrev N_is_number : List Str := ["thing"]
abbrev P_is_number : List Str := ["thing"]
theorem sc_is_number : FnScope N_is_number P_is_number (defScope s_is_number) := ⟨rfl, rfl, rfl, by decide +kernel, rfl, by decide +kernel, by decide +kernel⟩
abbrev s_is_rising : Stmt := topS 5
abbrev N_is_rising : List Str := ["things", "at"]
abbrev P_is_rising : List Str := ["things"]
theorem sc_is_rising : FnScope N_is_rising P_is_rising (defScope s_is_rising) := ⟨rfl, rfl, rfl, by decide +kernel, rfl, by decide +kernel, by decide +kernel⟩
abbrev s_are_deaths_of : Stmt := topS 9
abbrev N_are_deaths_of : List Str := ["folk", "thing", "part"]
abbrev P_are_deaths_of : List Str := ["folk", "thing"]
theorem sc_are_deaths_of : FnScope N_are_deaths_of P_are_deaths_of (defScope s_are_deaths_of) := ⟨rfl, rfl, rfl, by decide +kernel, rfl, by decide +kernel, by decide +kernel⟩
abbrev s_folk_at : Stmt := topS 1
abbrev N_folk_at : List Str := ["folk", "place"]
abbrev P_folk_at : List Str := ["folk", "place"]
theorem sc_folk_at : FnScope N_folk_at P_folk_at (defScope s_folk_at) := ⟨rfl, rfl, rfl, by decide +kernel, rfl, by decide +kernel, by decide +kernel⟩
abbrev s_first_behind : Stmt := topS 8
abbrev N_first_behind : List Str := ["order", "deaths", "who"]
abbrev P_first_behind : List Str := ["order", "deaths"]
theorem sc_first_behind : FnScope N_first_behind P_first_behind (defScope s_first_behind) := ⟨rfl, rfl, rfl, by decide +kernel, rfl, by decide +kernel, by decide +kernel⟩
abbrev s_is_tuple_of : Stmt := topS 4
abbrev N_is_tuple_of : List Str := ["thing", "many"]
abbrev P_is_tuple_of : List Str := ["thing", "many"]
theorem sc_is_tuple_of : FnScope N_is_tuple_of P_is_tuple_of (defScope s_is_tuple_of) := ⟨rfl, rfl, rfl, by decide +kernel, rfl, by decide +kernel, by decide +kernel⟩
abbrev s_right_join : Stmt := topS 7
abbrev N_right_join : List Str := ["one", "other", "thing", "deaths", "who"]
abbrev P_right_join : List Str := ["one", "other", "thing"]
theorem sc_right_join : FnScope N_right_join P_right_join (defScope s_right_join) := ⟨rfl, rfl, rfl, by decide +kernel, rfl, by decide +kernel, by decide +kernel⟩
abbrev s_law : Stmt := topS 20
abbrev N_law : List Str := ["_law_script", "_law_state", "_law_turn", "_law_thing", "_law_one", "_law_other", "_law_kept", "_law_due"]
abbrev P_law : List Str := ["_law_script"]
theorem sc_law : FnScope N_law P_law (defScope s_law) := ⟨rfl, rfl, rfl, by decide +kernel, rfl, by decide +kernel, by decide +kernel⟩
structure Ctx (K : FRG) (mg : Str → Option Value) (tb : List Addr) where
  f_l_is_number : Addr
  fd_l_is_number : FuncData
  cd_l_is_number : Value
  F_l_is_number : FunC K "_law_is_number" "_law_is_number" s_l_is_number f_l_is_number fd_l_is_number cd_l_is_number
  b_l_is_number : Binds K fd_l_is_number P_l_is_number []
  g_l_is_number : mg "_law_is_number" = some (.ref f_l_is_number)
  f_is_join : Addr
  fd_is_join : FuncData
  cd_is_join : Value
  F_is_join : FunC K "_law_is_join" "_law_is_join" s_is_join f_is_join fd_is_join cd_is_join
  b_is_join : Binds K fd_is_join P_is_join []
  g_is_join : mg "_law_is_join" = some (.ref f_is_join)
  f_take : Addr
  fd_take : FuncData
  cd_take : Value
  F_take : FunC K "_law_take" "_law_take" s_take f_take fd_take cd_take
  b_take : Binds K fd_take P_take []
  g_take : mg "_law_take" = some (.ref f_take)
  f_pool : Addr
  fd_pool : FuncData
  cd_pool : Value
  F_pool : FunC K "_law_pool" "_law_pool" s_pool f_pool fd_pool cd_pool
  b_pool : Binds K fd_pool P_pool []
  g_pool : mg "_law_pool" = some (.ref f_pool)
  f_says : Addr
  fd_says : FuncData
  cd_says : Value
  F_says : FunC K "_law_says" "_law_says" s_says f_says fd_says cd_says
  b_says : Binds K fd_says P_says []
  g_says : mg "_law_says" = some (.ref f_says)
  f_odd : Addr
  fd_odd : FuncData
  cd_odd : Value
  F_odd : FunC K "_law_odd" "_law_odd" s_odd f_odd fd_odd cd_odd
  b_odd : Binds K fd_odd P_odd []
  g_odd : mg "_law_odd" = some (.ref f_odd)
  f_things : Addr
  fd_things : FuncData
  cd_things : Value
  F_things : FunC K "_law_things" "_law_things" s_things f_things fd_things cd_things
  b_things : Binds K fd_things P_things []
  g_things : mg "_law_things" = some (.ref f_things)
  f_drawn_order : Addr
  fd_drawn_order : FuncData
  cd_drawn_order : Value
  F_drawn_order : FunC K "_law_drawn_order" "_law_drawn_order" s_drawn_order f_drawn_order fd_drawn_order cd_drawn_order
  b_drawn_order : Binds K fd_drawn_order P_drawn_order []
  g_drawn_order : mg "_law_drawn_order" = some (.ref f_drawn_order)
  f_two_orders : Addr
  fd_two_orders : FuncData
  cd_two_orders : Value
  F_two_orders : FunC K "_law_two_orders" "_law_two_orders" s_two_orders f_two_orders fd_two_orders cd_two_orders
  b_two_orders : Binds K fd_two_orders P_two_orders []
  g_two_orders : mg "_law_two_orders" = some (.ref f_two_orders)
  f_is_number : Addr
  fd_is_number : FuncData
  cd_is_number : Value
  F_is_number : FunC K "is_number" "is_number" s_is_number f_is_number fd_is_number cd_is_number
  b_is_number : Binds K fd_is_number P_is_number []
  g_is_number : mg "is_number" = some (.ref f_is_number)
  f_is_rising : Addr
  fd_is_rising : FuncData
  cd_is_rising : Value
  F_is_rising : FunC K "is_rising" "is_rising" s_is_rising f_is_rising fd_is_rising cd_is_rising
  b_is_rising : Binds K fd_is_rising P_is_rising []
  g_is_rising : mg "is_rising" = some (.ref f_is_rising)
  co_is_rising : Addr
  tb_is_rising : Addr
  c_is_rising : cd_is_rising = .ref co_is_rising
  m_is_rising : InTb K tb tb_is_rising
  f_are_deaths_of : Addr
  fd_are_deaths_of : FuncData
  cd_are_deaths_of : Value
  F_are_deaths_of : FunC K "are_deaths_of" "are_deaths_of" s_are_deaths_of f_are_deaths_of fd_are_deaths_of cd_are_deaths_of
  b_are_deaths_of : Binds K fd_are_deaths_of P_are_deaths_of []
  g_are_deaths_of : mg "are_deaths_of" = some (.ref f_are_deaths_of)
  co_are_deaths_of : Addr
  tb_are_deaths_of : Addr
  c_are_deaths_of : cd_are_deaths_of = .ref co_are_deaths_of
  m_are_deaths_of : InTb K tb tb_are_deaths_of
  f_folk_at : Addr
  fd_folk_at : FuncData
  cd_folk_at : Value
  F_folk_at : FunC K "folk_at" "folk_at" s_folk_at f_folk_at fd_folk_at cd_folk_at
  b_folk_at : Binds K fd_folk_at P_folk_at []
  g_folk_at : mg "folk_at" = some (.ref f_folk_at)
  f_first_behind : Addr
  fd_first_behind : FuncData
  cd_first_behind : Value
  F_first_behind : FunC K "first_behind" "first_behind" s_first_behind f_first_behind fd_first_behind cd_first_behind
  b_first_behind : Binds K fd_first_behind P_first_behind []
  g_first_behind : mg "first_behind" = some (.ref f_first_behind)
  f_is_tuple_of : Addr
  fd_is_tuple_of : FuncData
  cd_is_tuple_of : Value
  F_is_tuple_of : FunC K "is_tuple_of" "is_tuple_of" s_is_tuple_of f_is_tuple_of fd_is_tuple_of cd_is_tuple_of
  b_is_tuple_of : Binds K fd_is_tuple_of P_is_tuple_of []
  g_is_tuple_of : mg "is_tuple_of" = some (.ref f_is_tuple_of)
  f_right_join : Addr
  fd_right_join : FuncData
  cd_right_join : Value
  F_right_join : FunC K "right_join" "right_join" s_right_join f_right_join fd_right_join cd_right_join
  b_right_join : Binds K fd_right_join P_right_join []
  g_right_join : mg "right_join" = some (.ref f_right_join)
  f_law : Addr
  fd_law : FuncData
  cd_law : Value
  F_law : FunC K "law" "law" s_law f_law fd_law cd_law
  b_law : Binds K fd_law P_law []
  g_law : mg "law" = some (.ref f_law)
  z_all : mg "all" = none
  z_bool : mg "bool" = none
  z_int : mg "int" = none
  z_isinstance : mg "isinstance" = none
  z_len : mg "len" = none
  z_list : mg "list" = none
  z_min : mg "min" = none
  z_range : mg "range" = none
  z_repr : mg "repr" = none
  z_set : mg "set" = none
  z_sorted : mg "sorted" = none
  z_tuple : mg "tuple" = none
noncomputable def B_l_is_number : Sx := (sRet (eAnd (eIs .int (eVar 0)) (eNot (eIs .bool (eVar 0)))))
noncomputable abbrev F_l_is_number : Fx := runF P_l_is_number.length N_l_is_number.length B_l_is_number
noncomputable def E_is_join_1 : Ex := eLc (iSeq (eVar 6)) (gN 7) (tVal (eOp (inOD true) (eVar 7) (eVar 4))) (eVar 7) [7]
noncomputable def E_is_join_2 : Ex := eLc (iSeq (eTup (aCons (eVar 0) (aCons (eVar 1) aNil)))) (gN 6) tYes' E_is_join_1 [6]
noncomputable def E_is_join_3 : Ex := eLc (iSeq (eVar 4)) (gN 7) (tVal (eOp (inOD true) (eVar 7) (eOp addD (eVar 0) (eVar 1)))) (eVar 7) [7]
noncomputable def E_is_join_4 : Ex := eLc (iSeq (eVar 4)) (gN 7) (tNot' (tTru (eCall F_l_is_number (aCons (eVar 7) aNil)))) (eVar 7) [7]
noncomputable def B_is_join : Sx := (sSeq (sIf (tOr' (tNot' (tTru (eIs .tuple (eVar 2)))) (tOr' (tVal (eOp neOD (eCB lenD (aCons (eVar 2) aNil)) (eC (.int 2)))) (tNot' (tTru (eIs .tuple (eOp ixD (eVar 2) (eC (.int 0)))))))) (sRet (eC (.bl false))) sNil) (sSeq (sAsg (gTL [gN 4, gN 5]) (eVar 2)) (sSeq (sIf (tOr' (tVal (eOp neLD E_is_join_4 (eLst aNil))) (tNot' (tTru (eCall F_l_is_number (aCons (eVar 5) aNil))))) (sRet (eC (.bl false))) sNil) (sSeq (sIf (tOr' (tVal (eOp neOD (eCB listD (aCons (eVar 4) aNil)) (eCB sortSetD (aCons (eVar 4) aNil)))) (tVal (eOp neLD E_is_join_3 (eLst aNil)))) (sRet (eC (.bl false))) sNil) (sSeq (sSet 3 E_is_join_2) (sRet (eAnd (eOp eqBD (eSlc (eOp ixD (eVar 3) (eC (.int 0))) oNone (oSome (eC (.int 1)))) (eLst (aCons (eVar 5) aNil))) (eOp eqBD (eSlc (eOp ixD (eVar 3) (eC (.int 1))) oNone (oSome (eC (.int 1)))) (eLst (aCons (eVar 5) aNil))))))))))
noncomputable abbrev F_is_join : Fx := runF P_is_join.length N_is_join.length B_is_join
noncomputable abbrev B_take : Sx := Lx.B_take
noncomputable abbrev F_take : Fx := runF P_take.length N_take.length B_take
noncomputable abbrev B_pool : Sx := Lq.B_pool
noncomputable abbrev F_pool : Fx := runF P_pool.length N_pool.length B_pool
noncomputable abbrev B_says : Sx := Le.B_says
noncomputable abbrev F_says : Fx := runF P_says.length N_says.length B_says
noncomputable def B_odd : Sx := (sSeq (sSet 1 (eLst (aCons (eC .non) (aCons (eC (.bl true)) (aCons (eC (.bl false)) (aCons (eC (.int 0)) (aCons (eC (.int 1)) (aCons (eUn negD (eC (.int 1))) (aCons (eC (.int 60)) (aCons (eC (.int 61)) (aCons (eC (.str "")) (aCons (eC (.str "0")) (aCons (eC (.str "line")) (aCons (eTup aNil) (aCons (eTup (aCons (eC (.int 0)) aNil)) (aCons (eLst aNil) (aCons (eLst (aCons (eC (.int 0)) aNil)) (aCons eNewK (aCons (eDisp [((eC (.int 0)), (eC (.int 1)))]) (aCons (eTup (aCons (eTup aNil) aNil)) (aCons (eTup (aCons (eC .non) aNil)) aNil))))))))))))))))))))) (sRet (eOp ixD (eVar 1) (eOp modD (eVar 0) (eC (.int 19))))))
noncomputable abbrev F_odd : Fx := runF P_odd.length N_odd.length B_odd
noncomputable def E_things_1 : Ex := eLc (iSeq (eFg (eVar 1))) (gN 9) (tVal (eOp (inD false) (eVar 9) (eFg (eVar 2)))) (eVar 9) [9]
noncomputable def E_things_2 : Ex := eLc (iSeq (eOp addD (eFg (eVar 1)) (eFg (eVar 2)))) (gN 9) (tAnd' (tVal (eOp (eqD false) (eCall F_take (aCons (eVar 0) (aCons (eC (.int 3)) aNil))) (eC (.int 0)))) (tVal (eOp (eqD true) (eVar 9) (eVar 4)))) (eVar 9) [9]
noncomputable def L_things_1 : Sx := (sSeq (sSet 5 (eCB tupleD (aCons (eCB sortSetD (aCons (eOp addD (eSlc (eFg (eVar 1)) oNone (oSome (eMt isTx idxTD (eVar 1) (aCons (eVar 4) aNil)))) (eSlc (eFg (eVar 2)) oNone (oSome (eMt isTx idxTD (eVar 2) (aCons (eVar 4) aNil))))) aNil)) aNil))) (sSeq (sSet 6 E_things_2) (sSeq (sSet 3 (eOp addD (eVar 3) (eLst (aCons (eTup (aCons (eVar 5) (aCons (eVar 4) aNil))) (aCons (eTup (aCons (eCB tupleD (aCons (eCB sortSetD (aCons (eOp addD (eVar 5) (eCB tupleD (aCons (eVar 6) aNil))) aNil)) aNil)) (aCons (eVar 4) aNil))) (aCons (eTup (aCons (eVar 5) (aCons (eUn negD (eC (.int 1))) aNil))) (aCons (eLst (aCons (eVar 5) (aCons (eVar 4) aNil))) aNil))))))) (sSeq (sSet 3 (eOp addD (eVar 3) (eLst (aCons (eTup (aCons (eCB tupleD (aCons (eCB sortSetD (aCons (eOp addD (eVar 5) (eTup (aCons (eVar 4) aNil))) aNil)) aNil)) (aCons (eVar 4) aNil))) (aCons (eTup (aCons (eVar 5) (aCons (eVar 4) (aCons (eVar 4) aNil)))) (aCons (eTup (aCons (eCB listD (aCons (eVar 5) aNil)) (aCons (eVar 4) aNil))) aNil)))))) (sSeq (sSet 7 (eCall F_take (aCons (eVar 0) (aCons (eOp addD (eCB lenD (aCons (eVar 5) aNil)) (eC (.int 1))) aNil)))) (sSeq (sSet 8 (eOp ixD (eLst (aCons (eC (.int 61)) (aCons (eUn negD (eC (.int 1))) (aCons (eC (.int 60)) (aCons (eC (.bl true)) (aCons (eC .non) (aCons (eC (.str "0")) (aCons (eOp ixD (eFg (eVar 1)) (eUn negD (eC (.int 1)))) (aCons (eTup (aCons (eC (.int 0)) aNil)) aNil))))))))) (eCall F_take (aCons (eVar 0) (aCons (eC (.int 8)) aNil))))) (sSeq (sSet 3 (eOp addD (eVar 3) (eLst (aCons (eTup (aCons (eOp addD (eSlc (eVar 5) oNone (oSome (eVar 7))) (eSlc (eVar 5) (oSome (eOp addD (eVar 7) (eC (.int 1)))) oNone)) (aCons (eVar 4) aNil))) (aCons (eTup (aCons (eOp addD (eSlc (eVar 5) oNone (oSome (eOp addD (eVar 7) (eC (.int 1))))) (eSlc (eVar 5) (oSome (eVar 7)) oNone)) (aCons (eVar 4) aNil))) aNil))))) (sSeq (sSet 3 (eOp addD (eVar 3) (eLst (aCons (eTup (aCons (eUn revTD (eVar 5)) (aCons (eVar 4) aNil))) (aCons (eTup (aCons (eOp addD (eOp addD (eSlc (eVar 5) oNone (oSome (eVar 7))) (eTup (aCons (eVar 8) aNil))) (eSlc (eVar 5) (oSome (eVar 7)) oNone)) (aCons (eVar 4) aNil))) aNil))))) (sSet 3 (eOp addD (eVar 3) (eLst (aCons (eTup (aCons (eVar 5) (aCons (eOp ixD (eFg (eVar 2)) (eUn negD (eC (.int 1)))) aNil))) (aCons (eTup (aCons (eVar 5) (aCons (eCB boolD (aCons (eVar 4) aNil)) aNil))) (aCons (eTup (aCons (eVar 5) aNil)) aNil))))))))))))))
noncomputable def B_things : Sx := (sSeq (sSet 3 (eLst (aCons (eTup (aCons (eTup aNil) (aCons (eUn negD (eC (.int 1))) aNil))) (aCons (eTup (aCons (eTup aNil) (aCons (eOp ixD (eOp addD (eOp addD (eFg (eVar 1)) (eFg (eVar 2))) (eTup (aCons (eC (.int 0)) aNil))) (eC (.int 0))) aNil))) (aCons (eTup (aCons (eCB tupleD (aCons (eCB sortSetD (aCons (eOp addD (eFg (eVar 1)) (eFg (eVar 2))) aNil)) aNil)) (aCons (eUn negD (eC (.int 1))) aNil))) (aCons (eTup aNil) (aCons (eC .non) aNil))))))) (sSeq (sSet 3 (eOp addD (eVar 3) (eLst (aCons (eCall F_odd (aCons (eCall F_take (aCons (eVar 0) (aCons (eC (.int 19)) aNil))) aNil)) (aCons (eTup (aCons (eTup aNil) (aCons (eC (.bl true)) aNil))) aNil))))) (sSeq (sFor (iSeq (eSlc E_things_1 oNone (oSome (eC (.int 4))))) (gN 4) L_things_1 [4, 5, 6, 7, 8]) (sRet (eVar 3)))))
noncomputable abbrev F_things : Fx := runF P_things.length N_things.length B_things
noncomputable def L_drawn_order_1 : Sx := Lq.L_drawn_order_1
noncomputable def B_drawn_order : Sx := (sSeq (sSet 3 (eOwn (eCB listD (aCons (eVar 1) aNil)))) (sSeq (sSet 4 (eOwn (eLst aNil))) (sSeq (sFor (iRngA (aCons (eCB (two minI) (aCons (eVar 2) (aCons (eCB lenD (aCons (eVar 3) aNil)) aNil))) aNil)) (gN 5) L_drawn_order_1 [5]) (sRet (eCB tupleXD (aCons (eVar 4) aNil))))))
noncomputable abbrev F_drawn_order : Fx := runF P_drawn_order.length N_drawn_order.length B_drawn_order
noncomputable def E_two_orders_1 : Ex := Lu.E_two_orders_1
noncomputable def B_two_orders : Sx := (sSeq (sSet 3 (eCall F_drawn_order (aCons (eVar 0) (aCons (eVar 1) (aCons (eCall F_take (aCons (eVar 0) (aCons (eOp addD (eVar 2) (eC (.int 1))) aNil))) aNil))))) (sSeq (sSet 4 (eCall F_take (aCons (eVar 0) (aCons (eC (.int 6)) aNil)))) (sSeq (sSet 5 (eCall F_take (aCons (eVar 0) (aCons (eOp addD (eCB lenD (aCons (eFg (eVar 3)) aNil)) (eC (.int 1))) aNil)))) (sSeq (sSet 6 E_two_orders_1) (sSeq (sIf (tVal (eOp (eqD false) (eVar 4) (eC (.int 0)))) (sRet (eLst (aCons (eVar 3) (aCons (eVar 3) aNil)))) sNil) (sSeq (sIf (tVal (eOp (eqD false) (eVar 4) (eC (.int 1)))) (sRet (eLst (aCons (eVar 3) (aCons (eSlcX (eVar 3) oNone (oSome (eVar 5))) aNil)))) sNil) (sSeq (sIf (tVal (eOp (cmpD ltI) (eVar 4) (eC (.int 4)))) (sRet (eLst (aCons (eVar 3) (aCons (eOp addXD (eSlcX (eVar 3) oNone (oSome (eVar 5))) (eCall F_drawn_order (aCons (eVar 0) (aCons (eVar 6) (aCons (eCall F_take (aCons (eVar 0) (aCons (eOp subD (eOp addD (eVar 2) (eC (.int 1))) (eVar 5)) aNil))) aNil))))) aNil)))) sNil) (sSeq (sIf (tVal (eOp (eqD false) (eVar 4) (eC (.int 4)))) (sRet (eLst (aCons (eVar 3) (aCons (eCall F_drawn_order (aCons (eVar 0) (aCons (eFg (eVar 3)) (aCons (eCB lenD (aCons (eFg (eVar 3)) aNil)) aNil)))) aNil)))) sNil) (sRet (eLst (aCons (eVar 3) (aCons (eCall F_drawn_order (aCons (eVar 0) (aCons (eVar 1) (aCons (eCall F_take (aCons (eVar 0) (aCons (eOp addD (eVar 2) (eC (.int 1))) aNil))) aNil)))) aNil))))))))))))
noncomputable abbrev F_two_orders : Fx := runF P_two_orders.length N_two_orders.length B_two_orders
noncomputable abbrev B_is_number : Sx := Ls.B_is_number
noncomputable abbrev F_is_number : Fx := runF P_is_number.length N_is_number.length B_is_number
noncomputable abbrev B_is_rising : Sx := Le.B_is_rising
noncomputable abbrev F_is_rising : Fx := runF P_is_rising.length N_is_rising.length B_is_rising
noncomputable def E_are_deaths_of_1 : Ex := eAll true (iSeq (eVar 1)) (gN 2) tYes' (eOp (inD false) (eVar 2) (eVar 0)) [2]
noncomputable def E_are_deaths_of_2 : Ex := eAll true (iSeq (eVar 1)) (gN 2) tYes' (eCall F_is_number (aCons (eVar 2) aNil)) [2]
noncomputable def B_are_deaths_of : Sx := (sSeq (sIf (tOr' (tNot' (tTru (eIs .tuple (eVar 1)))) (tNot' (tTru E_are_deaths_of_2))) (sRet (eC (.bl false))) sNil) (sRet (eAnd (eCall F_is_rising (aCons (eVar 1) aNil)) E_are_deaths_of_1)))
noncomputable abbrev F_are_deaths_of : Fx := runF P_are_deaths_of.length N_are_deaths_of.length B_are_deaths_of
noncomputable abbrev B_folk_at : Sx := Le.B_folk_at
noncomputable abbrev F_folk_at : Fx := runF P_folk_at.length N_folk_at.length B_folk_at
noncomputable def E_first_behind_1 : Ex := eLc (iSeq (eVar 0)) (gN 2) (tVal (eOp (inD true) (eVar 2) (eVar 1))) (eVar 2) [2]
noncomputable def B_first_behind : Sx := (sRet (eCall F_folk_at (aCons E_first_behind_1 (aCons (eC (.int 0)) aNil))))
noncomputable abbrev F_first_behind : Fx := runF P_first_behind.length N_first_behind.length B_first_behind
noncomputable abbrev B_is_tuple_of : Sx := Le.B_is_tuple_of
noncomputable abbrev F_is_tuple_of : Fx := runF P_is_tuple_of.length N_is_tuple_of.length B_is_tuple_of
noncomputable def B_right_join : Sx := (sSeq (sIf (tOr' (tNot' (tTru (eCall F_is_tuple_of (aCons (eVar 2) (aCons (eC (.int 2)) aNil))))) (tNot' (tTru (eCall F_is_number (aCons (eOp ixD (eVar 2) (eC (.int 1))) aNil))))) (sRet (eC (.bl false))) sNil) (sSeq (sAsg (gT [gN 3, gN 4]) (eVar 2)) (sSeq (sIf (tNot' (tTru (eCall F_are_deaths_of (aCons (eOp addD (eVar 0) (eVar 1)) (aCons (eVar 3) aNil))))) (sRet (eC (.bl false))) sNil) (sRet (eAnd (eOp neOD (eVar 4) (eUn negD (eC (.int 1)))) (eAnd (eOp eqBD (eCall F_first_behind (aCons (eVar 0) (aCons (eVar 3) aNil))) (eVar 4)) (eOp eqBD (eCall F_first_behind (aCons (eVar 1) (aCons (eVar 3) aNil))) (eVar 4))))))))
noncomputable abbrev F_right_join : Fx := runF P_right_join.length N_right_join.length B_right_join
noncomputable def L_law_1 : Sx := (sSeq (sSet 6 (eCB reprQD (aCons (eVar 3) aNil))) (sSeq (sSet 7 (eCall F_is_join (aCons (eFg (eVar 4)) (aCons (eFg (eVar 5)) (aCons (eVar 3) aNil))))) (sIf (tOr' (tNot' (tTru (eCall F_says (aCons (eCall F_right_join (aCons (eFg (eVar 4)) (aCons (eFg (eVar 5)) (aCons (eVar 3) aNil)))) (aCons (eVar 7) aNil))))) (tVal (eOp (eqD true) (eCB reprQD (aCons (eVar 3) aNil)) (eVar 6)))) (sRet (eC (.bl false))) sNil)))
noncomputable def L_law_2 : Sx := (sSeq (sAsg (gTL [gN 4, gN 5]) (eFg (eCall F_two_orders (aCons (eVar 1) (aCons (eCall F_pool (aCons (eVar 1) aNil)) (aCons (eC (.int 14)) aNil)))))) (sFor (iSeq (eCall F_things (aCons (eVar 1) (aCons (eVar 4) (aCons (eVar 5) aNil))))) (gN 3) L_law_1 [3, 6, 7]))
noncomputable def B_law : Sx := (sSeq (sSet 1 (eOwn (eLst (aCons (eVar 0) (aCons (eC (.int 0)) (aCons (eC (.int 0)) (aCons (eC (.int 64)) aNil))))))) (sSeq (sFor (iRngA (aCons (eC (.int 3)) aNil)) (gN 2) L_law_2 [2, 3, 4, 5, 6, 7]) (sRet (eC (.bl true)))))
noncomputable abbrev F_law : Fx := runF P_law.length N_law.length B_law
section
variable {P : Program} {w : World} {K : FRG} {mg : Str → Option Value} {base : Heap} {tb : List Addr}
structure TBs (C : Ctx K mg tb) : Prop where
  TB_is_rising : GxR.TabB base mg C.co_is_rising C.tb_is_rising
  TB_are_deaths_of : GxR.TabB base mg C.co_are_deaths_of C.tb_are_deaths_of
theorem ok_l_is_number (C : Ctx K mg tb) (T : TBs (base := base) C) : FnG P w K mg base 1 C.f_l_is_number C.fd_l_is_number P_l_is_number (spF K tb P_l_is_number.length F_l_is_number) := by
  refine okG (k := 0) C.F_l_is_number sc_l_is_number fun A outer s H E hgd hr => ?_
  exact (bs_one (bs_ret (ex_and (ex_isi .int (by rfl) C.z_isinstance (by rfl) C.z_int (by decide +kernel) (ex_var 0)) (ex_one (ex_not (ex_isi .bool (by rfl) C.z_isinstance (by rfl) C.z_bool (by decide +kernel) (ex_var 0)))))))
theorem ok_is_join (C : Ctx K mg tb) (T : TBs (base := base) C) : FnG P w K mg base 2 C.f_is_join C.fd_is_join P_is_join (spF K tb P_is_join.length F_is_join) := by
  refine okG (k := 1) C.F_is_join sc_is_join fun A outer s H E hgd hr => ?_
  exact (bs_cons (bs_if (pwt (tw_or (tx_not (tx_tru (ex_isi .tuple (by rfl) C.z_isinstance (by rfl) C.z_tuple (by decide +kernel) (ex_var 2)))) (tw_or (tx_cmp (op_neP hr.units) neO_s (ex_callB len_s cr_lenA (by rfl) C.z_len PySem.boot_len (ax_cons (ex_var 2) ax_nil)) ex_int (nomark _)) (tw_or1 (tx_not (tx_tru (ex_isi .tuple (by rfl) C.z_isinstance (by rfl) C.z_tuple (by decide +kernel) (ex_ix (ex_var 2) ex_int)))))))) (bs_one (bs_ret ex_bl)) bs_nil)
      (bs_cons (bs_asg (tg_tl rfl (tgs_cons (tg_name 4) (tgs_cons (tg_name 5) tgs_nil))) (ex_var 2) (pg_tl rfl (pgs_cons (pgn (i := 4) sc_is_join.nd rfl) (pgs_cons (pgn (i := 5) sc_is_join.nd rfl) pgs_nil))))
      (bs_cons (bs_if (pwt (tw_or (tx_cmp (op_neQ hr.units) neQ_s (ex_lc (own := [("_law_number", 7)]) rfl sc_is_join.nd (tg_name 7) (tw_name 7 (by decide)) (ix_seq' (ex_var 4)) (blkOk_by (own := [("_law_number", 7)]) (N := N_is_join) (sc := defScope s_is_join) (by decide +kernel)) (fun _ _ _ _ _ => (pgn (i := 7) sc_is_join.nd rfl)) (fun _ _ _ _ _ => (ts_one (tx_not (tx_tru (ex_cg (ok_l_is_number (P := P) (w := w) C T) hgd (hr.mono (by decide)) (by rfl) C.g_l_is_number C.F_l_is_number.kp C.b_l_is_number (ax_cons (ex_var 7) ax_nil)))))) (fun _ _ _ _ _ => (ex_var 7))) (ex_lst ax_nil) (nomark _)) (tw_or1 (tx_not (tx_tru (ex_cg (ok_l_is_number (P := P) (w := w) C T) hgd (hr.mono (by decide)) (by rfl) C.g_l_is_number C.F_l_is_number.kp C.b_l_is_number (ax_cons (ex_var 5) ax_nil))))))) (bs_one (bs_ret ex_bl)) bs_nil)
      (bs_cons (bs_if (pwt (tw_or (tx_cmp (op_neP hr.units) neO_s (ex_callTy list_s call_list_of (by rfl) C.z_list (by decide +kernel) (ax_cons (ex_var 4) ax_nil)) (ex_sortSet rfl hr.units (by rfl) C.z_sorted (by rfl) C.z_set (ex_var 4)) (nomark _)) (tw_or1 (tx_cmp (op_neQ hr.units) neQ_s (ex_lc (own := [("_law_number", 7)]) rfl sc_is_join.nd (tg_name 7) (tw_name 7 (by decide)) (ix_seq' (ex_var 4)) (blkOk_by (own := [("_law_number", 7)]) (N := N_is_join) (sc := defScope s_is_join) (by decide +kernel)) (fun _ _ _ _ _ => (pgn (i := 7) sc_is_join.nd rfl)) (fun _ _ _ _ _ => (ts_one (tx_cmp (op_notInP hr.units) inO_s (ex_var 7) (ex_op op_addA add_s (ex_var 0) (ex_var 1)) (by rfl)))) (fun _ _ _ _ _ => (ex_var 7))) (ex_lst ax_nil) (nomark _))))) (bs_one (bs_ret ex_bl)) bs_nil)
      (bs_cons (bs_setLc 3 (own := [("_law_order", 6)]) rfl sc_is_join.nd (tg_name 6) (tw_name 6 (by decide)) (ix_seq' (ex_tup (ax_cons (ex_var 0) (ax_cons (ex_var 1) ax_nil)))) (blkOk_by (own := [("_law_order", 6)]) (N := N_is_join) (sc := defScope s_is_join) (by decide +kernel)) (fun _ _ _ _ _ => (pgn (i := 6) sc_is_join.nd rfl)) (fun _ _ _ _ _ => ts_nil) (fun _ _ _ _ _ => (ex_lc (own := [("_law_number", 7)]) rfl sc_is_join.nd (tg_name 7) (tw_name 7 (by decide)) (ix_seq' (ex_var 6)) (blkOk_by (own := [("_law_number", 7)]) rfl) (fun _ _ _ _ _ => (pgn (i := 7) sc_is_join.nd rfl)) (fun _ _ _ _ _ => (ts_one (tx_cmp (op_notInP hr.units) inO_s (ex_var 7) (ex_var 4) (by rfl)))) (fun _ _ _ _ _ => (ex_var 7)))) (sw_true rfl rfl rfl (by decide +kernel)))
      (bs_one (bs_ret (ex_and (ex_cmp (op_eqQ hr.units) eqQ_s (ex_sl (ex_ix (ex_var 3) ex_int) ox_none (ox_some ex_int)) (ex_lst (ax_cons (ex_var 5) ax_nil)) (nomark _)) (ex_one (ex_cmp (op_eqQ hr.units) eqQ_s (ex_sl (ex_ix (ex_var 3) ex_int) ox_none (ox_some ex_int)) (ex_lst (ax_cons (ex_var 5) ax_nil)) (nomark _)))))))))))
theorem ok_take (C : Ctx K mg tb) (T : TBs (base := base) C) : FnG P w K mg base 1 C.f_take C.fd_take P_take (spF K tb P_take.length F_take) := by
  refine okG (k := 0) C.F_take sc_take fun A outer s H E hgd hr => ?_
  exact (bs_cons (bs_fog [3] (bs_if (tx_cmp op_gt gt_s (ex_ix (ex_var 0) ex_int) ex_int (nomark _)) (bs_cons (bs_set 3 sc_take.nd (ex_op op_mod mod_s (ex_ix (ex_var 0) ex_int) (ex_var 1)))
      (bs_cons (bs_put (ex_var 0) ex_int (ex_op op_fdiv div_s (ex_ix (ex_var 0) ex_int) (ex_var 1)))
      (bs_one (bs_ret (ex_var 3))))) bs_nil))
      (bs_cons (bs_set 2 sc_take.nd ex_int)
      (bs_cons (bs_if (tx_cmp op_lt lt_s (ex_ix (ex_var 0) ex_int) (ex_callB len_s cr_lenA (by rfl) C.z_len PySem.boot_len (ax_cons (ex_ix (ex_var 0) ex_int) ax_nil)) (nomark _)) (bs_one (bs_set 2 sc_take.nd (ex_ix (ex_ix (ex_var 0) ex_int) (ex_ix (ex_var 0) ex_int)))) bs_nil)
      (bs_cons (bs_put (ex_var 0) ex_int (ex_op op_addA add_s (ex_ix (ex_var 0) ex_int) ex_int))
      (bs_cons (bs_if (tx_cmp op_ge ge_s (ex_var 2) (ex_op op_pow pow_s ex_int ex_int) (nomark _)) (bs_cons (bs_put (ex_var 0) ex_int (ex_op op_fdiv div_s (ex_var 2) (ex_var 1)))
      (bs_one (bs_ret (ex_op op_mod mod_s (ex_var 2) (ex_var 1))))) bs_nil)
      (bs_cons (bs_put (ex_var 0) ex_int (ex_op op_mod mod_s (ex_op op_addA add_s (ex_op op_addA add_s (ex_op op_mulA mul_s (ex_ix (ex_var 0) ex_int) ex_int) (ex_op op_mod mod_s (ex_var 2) ex_int)) (ex_op op_mulA mul_s ex_int (ex_ix (ex_var 0) ex_int))) ex_int))
      (bs_one (bs_ret (ex_op op_mod mod_s (ex_op op_fdiv div_s (ex_op op_mod mod_s (ex_op op_pow pow_s (ex_ix (ex_var 0) ex_int) ex_int) ex_int) ex_int) (ex_var 1))))))))))
theorem ok_pool (C : Ctx K mg tb) (T : TBs (base := base) C) : FnG P w K mg base 2 C.f_pool C.fd_pool P_pool (spF K tb P_pool.length F_pool) := by
  refine okG (k := 1) C.F_pool sc_pool fun A outer s H E hgd hr => ?_
  exact (bs_cons (bs_set 1 sc_pool.nd (ex_ix (ex_lst (ax_cons ex_int (ax_cons ex_int (ax_cons ex_int (ax_cons ex_int ax_nil))))) (ex_cg (ok_take (P := P) (w := w) C T) hgd (hr.mono (by decide)) (by rfl) C.g_take C.F_take.kp C.b_take (ax_cons (ex_var 0) (ax_cons ex_int ax_nil)))))
      (bs_one (bs_ret (ex_ix (ex_lst (ax_cons (ex_lrg rfl (by rfl) C.z_list (by rfl) C.z_range (ex_var 1)) (ax_cons (ex_lrg2 rfl (by rfl) C.z_list (by rfl) C.z_range (ex_op op_sub sub_s ex_int (ex_var 1)) ex_int) ax_nil))) (ex_cg (ok_take (P := P) (w := w) C T) hgd (hr.mono (by decide)) (by rfl) C.g_take C.F_take.kp C.b_take (ax_cons (ex_var 0) (ax_cons ex_int ax_nil)))))))
theorem ok_says (C : Ctx K mg tb) (T : TBs (base := base) C) : FnG P w K mg base 1 C.f_says C.fd_says P_says (spF K tb P_says.length F_says) := by
  refine okG (k := 0) C.F_says sc_says fun A outer s H E hgd hr => ?_
  exact (bs_cons (bs_if (tx_tru (ex_var 1)) (bs_one (bs_ret (ex_cmp op_isB isB_s (ex_var 0) ex_bl (nomark _)))) bs_nil)
      (bs_one (bs_ret (ex_cmp op_isB isB_s (ex_var 0) ex_bl (nomark _)))))
theorem ok_odd (C : Ctx K mg tb) (T : TBs (base := base) C) : FnG P w K mg base 1 C.f_odd C.fd_odd P_odd (spF K tb P_odd.length F_odd) := by
  refine okG (k := 0) C.F_odd sc_odd fun A outer s H E hgd hr => ?_
  exact (bs_cons (bs_set 1 sc_odd.nd (ex_lst (ax_cons ex_non (ax_cons ex_bl (ax_cons ex_bl (ax_cons ex_int (ax_cons ex_int (ax_cons (ex_un un_neg neg_s ex_int) (ax_cons ex_int (ax_cons ex_int (ax_cons ex_str (ax_cons ex_str (ax_cons ex_str (ax_cons (ex_tup ax_nil) (ax_cons (ex_tup (ax_cons ex_int ax_nil)) (ax_cons (ex_lst ax_nil) (ax_cons (ex_lst (ax_cons ex_int ax_nil)) (ax_cons ex_newK (ax_cons (ex_disp [((eC (.int 0)), (eC (.int 1)))] (pps_cons ex_int ex_int pps_nil) rfl rfl (by simp) (by decide)) (ax_cons (ex_tup (ax_cons (ex_tup ax_nil) ax_nil)) (ax_cons (ex_tup (ax_cons ex_non ax_nil)) ax_nil)))))))))))))))))))))
      (bs_one (bs_ret (ex_ix (ex_var 1) (ex_op op_mod mod_s (ex_var 0) ex_int)))))
theorem ok_things (C : Ctx K mg tb) (T : TBs (base := base) C) : FnG P w K mg base 2 C.f_things C.fd_things P_things (spF K tb P_things.length F_things) := by
  refine okG (k := 1) C.F_things sc_things fun A outer s H E hgd hr => ?_
  exact (bs_cons (bs_set 3 sc_things.nd (ex_lst (ax_cons (ex_tup (ax_cons (ex_tup ax_nil) (ax_cons (ex_un un_neg neg_s ex_int) ax_nil))) (ax_cons (ex_tup (ax_cons (ex_tup ax_nil) (ax_cons (ex_ix (ex_op op_addA add_s (ex_op op_addA add_s (ex_fg (ex_var 1)) (ex_fg (ex_var 2))) (ex_tup (ax_cons ex_int ax_nil))) ex_int) ax_nil))) (ax_cons (ex_tup (ax_cons (ex_callTy tuple_s call_tuple_of (by rfl) C.z_tuple (by decide +kernel) (ax_cons (ex_sortSet rfl hr.units (by rfl) C.z_sorted (by rfl) C.z_set (ex_op op_addA add_s (ex_fg (ex_var 1)) (ex_fg (ex_var 2)))) ax_nil)) (ax_cons (ex_un un_neg neg_s ex_int) ax_nil))) (ax_cons (ex_tup ax_nil) (ax_cons ex_non ax_nil)))))))
      (bs_cons (bs_set 3 sc_things.nd (ex_op op_addA add_s (ex_var 3) (ex_lst (ax_cons (ex_cg (ok_odd (P := P) (w := w) C T) hgd (hr.mono (by decide)) (by rfl) C.g_odd C.F_odd.kp C.b_odd (ax_cons (ex_cg (ok_take (P := P) (w := w) C T) hgd (hr.mono (by decide)) (by rfl) C.g_take C.F_take.kp C.b_take (ax_cons (ex_var 0) (ax_cons ex_int ax_nil))) ax_nil)) (ax_cons (ex_tup (ax_cons (ex_tup ax_nil) (ax_cons ex_bl ax_nil))) ax_nil)))))
      (bs_cons (bs_for (dd := [4, 5, 6, 7, 8]) rfl (tg_name 4) PassesOwn.never (ix_seq' (ex_sl (ex_lc (own := [("_law_number", 9)]) rfl sc_things.nd (tg_name 9) (tw_name 9 (by decide)) (ix_seq' (ex_fg (ex_var 1))) (blkOk_by (own := [("_law_number", 9)]) (N := N_things) (sc := defScope s_things) (by decide +kernel)) (fun _ _ _ _ _ => (pgn (i := 9) sc_things.nd rfl)) (fun _ _ _ _ _ => (ts_one (tx_cmp op_in_seq in_s (ex_var 9) (ex_fg (ex_var 2)) (by rfl)))) (fun _ _ _ _ _ => (ex_var 9))) ox_none (ox_some ex_int))) (pgn (i := 4) sc_things.nd rfl) (bs_cons (bs_set 5 sc_things.nd (ex_callTy tuple_s call_tuple_of (by rfl) C.z_tuple (by decide +kernel) (ax_cons (ex_sortSet rfl hr.units (by rfl) C.z_sorted (by rfl) C.z_set (ex_op op_addA add_s (ex_sl (ex_fg (ex_var 1)) ox_none (ox_some (ex_indexT (ex_var 1) (ax_cons (ex_var 4) ax_nil)))) (ex_sl (ex_fg (ex_var 2)) ox_none (ox_some (ex_indexT (ex_var 2) (ax_cons (ex_var 4) ax_nil)))))) ax_nil)))
      (bs_cons (bs_setLc 6 (own := [("_law_number", 9)]) rfl sc_things.nd (tg_name 9) (tw_name 9 (by decide)) (ix_seq' (ex_op op_addA add_s (ex_fg (ex_var 1)) (ex_fg (ex_var 2)))) (blkOk_by (own := [("_law_number", 9)]) (N := N_things) (sc := defScope s_things) (by decide +kernel)) (fun _ _ _ _ _ => (pgn (i := 9) sc_things.nd rfl)) (fun _ _ _ _ _ => (ts_one (pwt (tw_and (tx_cmp (op_eqA hr.units) eq_s (ex_cg (ok_take (P := P) (w := w) C T) hgd (hr.mono (by decide)) (by rfl) C.g_take C.F_take.kp C.b_take (ax_cons (ex_var 0) (ax_cons ex_int ax_nil))) ex_int (nomark _)) (tw_and1 (tx_cmp (op_neA hr.units) ne_s (ex_var 9) (ex_var 4) (nomark _))))))) (fun _ _ _ _ _ => (ex_var 9)) (sw_true rfl rfl rfl (by decide +kernel)))
      (bs_cons (bs_set 3 sc_things.nd (ex_op op_addA add_s (ex_var 3) (ex_lst (ax_cons (ex_tup (ax_cons (ex_var 5) (ax_cons (ex_var 4) ax_nil))) (ax_cons (ex_tup (ax_cons (ex_callTy tuple_s call_tuple_of (by rfl) C.z_tuple (by decide +kernel) (ax_cons (ex_sortSet rfl hr.units (by rfl) C.z_sorted (by rfl) C.z_set (ex_op op_addA add_s (ex_var 5) (ex_callTy tuple_s call_tuple_of (by rfl) C.z_tuple (by decide +kernel) (ax_cons (ex_var 6) ax_nil)))) ax_nil)) (ax_cons (ex_var 4) ax_nil))) (ax_cons (ex_tup (ax_cons (ex_var 5) (ax_cons (ex_un un_neg neg_s ex_int) ax_nil))) (ax_cons (ex_lst (ax_cons (ex_var 5) (ax_cons (ex_var 4) ax_nil))) ax_nil)))))))
      (bs_cons (bs_set 3 sc_things.nd (ex_op op_addA add_s (ex_var 3) (ex_lst (ax_cons (ex_tup (ax_cons (ex_callTy tuple_s call_tuple_of (by rfl) C.z_tuple (by decide +kernel) (ax_cons (ex_sortSet rfl hr.units (by rfl) C.z_sorted (by rfl) C.z_set (ex_op op_addA add_s (ex_var 5) (ex_tup (ax_cons (ex_var 4) ax_nil)))) ax_nil)) (ax_cons (ex_var 4) ax_nil))) (ax_cons (ex_tup (ax_cons (ex_var 5) (ax_cons (ex_var 4) (ax_cons (ex_var 4) ax_nil)))) (ax_cons (ex_tup (ax_cons (ex_callTy list_s call_list_of (by rfl) C.z_list (by decide +kernel) (ax_cons (ex_var 5) ax_nil)) (ax_cons (ex_var 4) ax_nil))) ax_nil))))))
      (bs_cons (bs_set 7 sc_things.nd (ex_cg (ok_take (P := P) (w := w) C T) hgd (hr.mono (by decide)) (by rfl) C.g_take C.F_take.kp C.b_take (ax_cons (ex_var 0) (ax_cons (ex_op op_addA add_s (ex_callB len_s cr_lenA (by rfl) C.z_len PySem.boot_len (ax_cons (ex_var 5) ax_nil)) ex_int) ax_nil))))
      (bs_cons (bs_set 8 sc_things.nd (ex_ix (ex_lst (ax_cons ex_int (ax_cons (ex_un un_neg neg_s ex_int) (ax_cons ex_int (ax_cons ex_bl (ax_cons ex_non (ax_cons ex_str (ax_cons (ex_ix (ex_fg (ex_var 1)) (ex_un un_neg neg_s ex_int)) (ax_cons (ex_tup (ax_cons ex_int ax_nil)) ax_nil))))))))) (ex_cg (ok_take (P := P) (w := w) C T) hgd (hr.mono (by decide)) (by rfl) C.g_take C.F_take.kp C.b_take (ax_cons (ex_var 0) (ax_cons ex_int ax_nil)))))
      (bs_cons (bs_set 3 sc_things.nd (ex_op op_addA add_s (ex_var 3) (ex_lst (ax_cons (ex_tup (ax_cons (ex_op op_addA add_s (ex_sl (ex_var 5) ox_none (ox_some (ex_var 7))) (ex_sl (ex_var 5) (ox_some (ex_op op_addA add_s (ex_var 7) ex_int)) ox_none)) (ax_cons (ex_var 4) ax_nil))) (ax_cons (ex_tup (ax_cons (ex_op op_addA add_s (ex_sl (ex_var 5) ox_none (ox_some (ex_op op_addA add_s (ex_var 7) ex_int))) (ex_sl (ex_var 5) (ox_some (ex_var 7)) ox_none)) (ax_cons (ex_var 4) ax_nil))) ax_nil)))))
      (bs_cons (bs_set 3 sc_things.nd (ex_op op_addA add_s (ex_var 3) (ex_lst (ax_cons (ex_tup (ax_cons (ex_revT (ex_var 5)) (ax_cons (ex_var 4) ax_nil))) (ax_cons (ex_tup (ax_cons (ex_op op_addA add_s (ex_op op_addA add_s (ex_sl (ex_var 5) ox_none (ox_some (ex_var 7))) (ex_tup (ax_cons (ex_var 8) ax_nil))) (ex_sl (ex_var 5) (ox_some (ex_var 7)) ox_none)) (ax_cons (ex_var 4) ax_nil))) ax_nil)))))
      (bs_one (bs_set 3 sc_things.nd (ex_op op_addA add_s (ex_var 3) (ex_lst (ax_cons (ex_tup (ax_cons (ex_var 5) (ax_cons (ex_ix (ex_fg (ex_var 2)) (ex_un un_neg neg_s ex_int)) ax_nil))) (ax_cons (ex_tup (ax_cons (ex_var 5) (ax_cons (ex_callTy bool_s call_bool1 (by rfl) C.z_bool (by decide +kernel) (ax_cons (ex_var 4) ax_nil)) ax_nil))) (ax_cons (ex_tup (ax_cons (ex_var 5) ax_nil)) ax_nil))))))))))))))))
      (bs_one (bs_ret (ex_var 3))))))
theorem ok_drawn_order (C : Ctx K mg tb) (T : TBs (base := base) C) : FnG P w K mg base 2 C.f_drawn_order C.fd_drawn_order P_drawn_order (spF K tb P_drawn_order.length F_drawn_order) := by
  refine okG (k := 1) C.F_drawn_order sc_drawn_order fun A outer s H E hgd hr => ?_
  exact (bs_cons (bs_set 3 sc_drawn_order.nd (ex_own (ex_callTy list_s call_list_of (by rfl) C.z_list (by decide +kernel) (ax_cons (ex_var 1) ax_nil))))
      (bs_cons (bs_set 4 sc_drawn_order.nd (ex_own (ex_lst ax_nil)))
      (bs_cons (bs_for (dd := [5]) rfl (tg_name 5) PassesOwn.never (ix_rng1 (by rfl) C.z_range (ax_cons (ex_callB two_s (cr_min rfl) (by rfl) C.z_min (by decide +kernel) (ax_cons (ex_var 2) (ax_cons (ex_callB len_s cr_lenA (by rfl) C.z_len PySem.boot_len (ax_cons (ex_var 3) ax_nil)) ax_nil))) ax_nil)) (pgn (i := 5) sc_drawn_order.nd rfl) (bs_one (bs_drop (ex_append (ex_var 4) (ax_cons (ex_popAt (ex_var 3) (ax_cons (ex_cg (ok_take (P := P) (w := w) C T) hgd (hr.mono (by decide)) (by rfl) C.g_take C.F_take.kp C.b_take (ax_cons (ex_var 0) (ax_cons (ex_callB len_s cr_lenA (by rfl) C.z_len PySem.boot_len (ax_cons (ex_var 3) ax_nil)) ax_nil))) ax_nil)) ax_nil)))))
      (bs_one (bs_ret (ex_callTy tupleX_s Pv.cr_tupX (by rfl) C.z_tuple (by decide +kernel) (ax_cons (ex_var 4) ax_nil)))))))
theorem ok_two_orders (C : Ctx K mg tb) (T : TBs (base := base) C) : FnG P w K mg base 3 C.f_two_orders C.fd_two_orders P_two_orders (spF K tb P_two_orders.length F_two_orders) := by
  refine okG (k := 2) C.F_two_orders sc_two_orders fun A outer s H E hgd hr => ?_
  exact (bs_cons (bs_set 3 sc_two_orders.nd (ex_cg (ok_drawn_order (P := P) (w := w) C T) hgd (hr.mono (by decide)) (by rfl) C.g_drawn_order C.F_drawn_order.kp C.b_drawn_order (ax_cons (ex_var 0) (ax_cons (ex_var 1) (ax_cons (ex_cg (ok_take (P := P) (w := w) C T) hgd (hr.mono (by decide)) (by rfl) C.g_take C.F_take.kp C.b_take (ax_cons (ex_var 0) (ax_cons (ex_op op_addA add_s (ex_var 2) ex_int) ax_nil))) ax_nil)))))
      (bs_cons (bs_set 4 sc_two_orders.nd (ex_cg (ok_take (P := P) (w := w) C T) hgd (hr.mono (by decide)) (by rfl) C.g_take C.F_take.kp C.b_take (ax_cons (ex_var 0) (ax_cons ex_int ax_nil))))
      (bs_cons (bs_set 5 sc_two_orders.nd (ex_cg (ok_take (P := P) (w := w) C T) hgd (hr.mono (by decide)) (by rfl) C.g_take C.F_take.kp C.b_take (ax_cons (ex_var 0) (ax_cons (ex_op op_addA add_s (ex_callB len_s cr_lenA (by rfl) C.z_len PySem.boot_len (ax_cons (ex_fg (ex_var 3)) ax_nil)) ex_int) ax_nil))))
      (bs_cons (bs_setLc 6 (own := [("_law_number", 7)]) rfl sc_two_orders.nd (tg_name 7) (tw_name 7 (by decide)) (ix_seq' (ex_var 1)) (blkOk_by (own := [("_law_number", 7)]) (N := N_two_orders) (sc := defScope s_two_orders) (by decide +kernel)) (fun _ _ _ _ _ => (pgn (i := 7) sc_two_orders.nd rfl)) (fun _ _ _ _ _ => (ts_one (tx_cmp op_notIn_seq in_s (ex_var 7) (ex_sl (ex_fg (ex_var 3)) ox_none (ox_some (ex_var 5))) (by rfl)))) (fun _ _ _ _ _ => (ex_var 7)) (sw_true rfl rfl rfl (by decide +kernel)))
      (bs_cons (bs_if (tx_cmp (op_eqA hr.units) eq_s (ex_var 4) ex_int (nomark _)) (bs_one (bs_ret (ex_lst (ax_cons (ex_var 3) (ax_cons (ex_var 3) ax_nil))))) bs_nil)
      (bs_cons (bs_if (tx_cmp (op_eqA hr.units) eq_s (ex_var 4) ex_int (nomark _)) (bs_one (bs_ret (ex_lst (ax_cons (ex_var 3) (ax_cons (ex_slX (ex_var 3) ox_none (ox_some (ex_var 5))) ax_nil))))) bs_nil)
      (bs_cons (bs_if (tx_cmp op_lt lt_s (ex_var 4) ex_int (nomark _)) (bs_one (bs_ret (ex_lst (ax_cons (ex_var 3) (ax_cons (ex_op op_addX addX_s (ex_slX (ex_var 3) ox_none (ox_some (ex_var 5))) (ex_cg (ok_drawn_order (P := P) (w := w) C T) hgd (hr.mono (by decide)) (by rfl) C.g_drawn_order C.F_drawn_order.kp C.b_drawn_order (ax_cons (ex_var 0) (ax_cons (ex_var 6) (ax_cons (ex_cg (ok_take (P := P) (w := w) C T) hgd (hr.mono (by decide)) (by rfl) C.g_take C.F_take.kp C.b_take (ax_cons (ex_var 0) (ax_cons (ex_op op_sub sub_s (ex_op op_addA add_s (ex_var 2) ex_int) (ex_var 5)) ax_nil))) ax_nil))))) ax_nil))))) bs_nil)
      (bs_cons (bs_if (tx_cmp (op_eqA hr.units) eq_s (ex_var 4) ex_int (nomark _)) (bs_one (bs_ret (ex_lst (ax_cons (ex_var 3) (ax_cons (ex_cg (ok_drawn_order (P := P) (w := w) C T) hgd (hr.mono (by decide)) (by rfl) C.g_drawn_order C.F_drawn_order.kp C.b_drawn_order (ax_cons (ex_var 0) (ax_cons (ex_fg (ex_var 3)) (ax_cons (ex_callB len_s cr_lenA (by rfl) C.z_len PySem.boot_len (ax_cons (ex_fg (ex_var 3)) ax_nil)) ax_nil)))) ax_nil))))) bs_nil)
      (bs_one (bs_ret (ex_lst (ax_cons (ex_var 3) (ax_cons (ex_cg (ok_drawn_order (P := P) (w := w) C T) hgd (hr.mono (by decide)) (by rfl) C.g_drawn_order C.F_drawn_order.kp C.b_drawn_order (ax_cons (ex_var 0) (ax_cons (ex_var 1) (ax_cons (ex_cg (ok_take (P := P) (w := w) C T) hgd (hr.mono (by decide)) (by rfl) C.g_take C.F_take.kp C.b_take (ax_cons (ex_var 0) (ax_cons (ex_op op_addA add_s (ex_var 2) ex_int) ax_nil))) ax_nil)))) ax_nil)))))))))))))
theorem ok_is_number (C : Ctx K mg tb) (T : TBs (base := base) C) : FnG P w K mg base 1 C.f_is_number C.fd_is_number P_is_number (spF K tb P_is_number.length F_is_number) := by
  refine okG (k := 0) C.F_is_number sc_is_number fun A outer s H E hgd hr => ?_
  exact (bs_one (bs_ret (ex_and (ex_isi .int (by rfl) C.z_isinstance (by rfl) C.z_int (by decide +kernel) (ex_var 0)) (ex_one (ex_not (ex_isi .bool (by rfl) C.z_isinstance (by rfl) C.z_bool (by decide +kernel) (ex_var 0)))))))
theorem ok_is_rising (C : Ctx K mg tb) (T : TBs (base := base) C) : FnG P w K mg base 2 C.f_is_rising C.fd_is_rising P_is_rising (spF K tb P_is_rising.length F_is_rising) := by
  refine okG (k := 1) C.F_is_rising sc_is_rising fun A outer s H E hgd hr => ?_
  exact (bs_one (bs_ret (ex_allG (own := [("at", 1)]) hr hgd rfl sc_is_rising.nd T.TB_is_rising C.m_is_rising (by first | exact C.c_is_rising | rfl) ⟨rfl, by decide +kernel, rfl⟩ (tg_name 1) (tw_name 1 (by decide)) (ix_rng1 (by rfl) C.z_range (ax_cons (ex_op op_sub sub_s (ex_callB len_s cr_lenA (by rfl) C.z_len PySem.boot_len (ax_cons (ex_var 0) ax_nil)) ex_int) ax_nil)) (blkOk_by (own := [("at", 1)]) (N := N_is_rising) (sc := defScope s_is_rising) (by decide +kernel)) (fun _ _ _ _ _ _ _ => (pgn (i := 1) sc_is_rising.nd rfl)) (fun _ _ _ _ _ _ _ hgd hr => ts_nil) (fun _ _ _ _ _ _ _ hgd hr => (ex_cmp op_lt lt_s (ex_ix (ex_var 0) (ex_var 1)) (ex_ix (ex_var 0) (ex_op op_addA add_s (ex_var 1) ex_int)) (nomark _))) (by rfl) C.z_all (by decide +kernel))))
theorem ok_are_deaths_of (C : Ctx K mg tb) (T : TBs (base := base) C) : FnG P w K mg base 3 C.f_are_deaths_of C.fd_are_deaths_of P_are_deaths_of (spF K tb P_are_deaths_of.length F_are_deaths_of) := by
  refine okG (k := 2) C.F_are_deaths_of sc_are_deaths_of fun A outer s H E hgd hr => ?_
  exact (bs_cons (bs_if (pwt (tw_or (tx_not (tx_tru (ex_isi .tuple (by rfl) C.z_isinstance (by rfl) C.z_tuple (by decide +kernel) (ex_var 1)))) (tw_or1 (tx_not (tx_tru (ex_allG (own := [("part", 2)]) hr hgd rfl sc_are_deaths_of.nd T.TB_are_deaths_of C.m_are_deaths_of (by first | exact C.c_are_deaths_of | rfl) ⟨rfl, by decide +kernel, rfl⟩ (tg_name 2) (tw_name 2 (by decide)) (ix_seq' (ex_var 1)) (blkOk_by (own := [("part", 2)]) (N := N_are_deaths_of) (sc := defScope s_are_deaths_of) (by decide +kernel)) (fun _ _ _ _ _ _ _ => (pgn (i := 2) sc_are_deaths_of.nd rfl)) (fun _ _ _ _ _ _ _ hgd hr => ts_nil) (fun _ _ _ _ _ _ _ hgd hr => (ex_cg (ok_is_number (P := P) (w := w) C T) hgd (hr.mono (by decide)) (by rfl) C.g_is_number C.F_is_number.kp C.b_is_number (ax_cons (ex_var 2) ax_nil))) (by rfl) C.z_all (by decide +kernel))))))) (bs_one (bs_ret ex_bl)) bs_nil)
      (bs_one (bs_ret (ex_and (ex_cg (ok_is_rising (P := P) (w := w) C T) hgd (hr.mono (by decide)) (by rfl) C.g_is_rising C.F_is_rising.kp C.b_is_rising (ax_cons (ex_var 1) ax_nil)) (ex_one (ex_allG (own := [("part", 2)]) hr hgd rfl sc_are_deaths_of.nd T.TB_are_deaths_of C.m_are_deaths_of (by first | exact C.c_are_deaths_of | rfl) ⟨rfl, by decide +kernel, rfl⟩ (tg_name 2) (tw_name 2 (by decide)) (ix_seq' (ex_var 1)) (blkOk_by (own := [("part", 2)]) (N := N_are_deaths_of) (sc := defScope s_are_deaths_of) (by decide +kernel)) (fun _ _ _ _ _ _ _ => (pgn (i := 2) sc_are_deaths_of.nd rfl)) (fun _ _ _ _ _ _ _ hgd hr => ts_nil) (fun _ _ _ _ _ _ _ hgd hr => (ex_cmp op_in_seq in_s (ex_var 2) (ex_var 0) (by rfl))) (by rfl) C.z_all (by decide +kernel)))))))
theorem ok_folk_at (C : Ctx K mg tb) (T : TBs (base := base) C) : FnG P w K mg base 1 C.f_folk_at C.fd_folk_at P_folk_at (spF K tb P_folk_at.length F_folk_at) := by
  refine okG (k := 0) C.F_folk_at sc_folk_at fun A outer s H E hgd hr => ?_
  exact (bs_one (bs_ret (ex_if (tx_cmp op_lt lt_s (ex_var 1) (ex_callB len_s cr_lenA (by rfl) C.z_len PySem.boot_len (ax_cons (ex_var 0) ax_nil)) (nomark _)) (ex_ix (ex_var 0) (ex_var 1)) (ex_un un_neg neg_s ex_int))))
theorem ok_first_behind (C : Ctx K mg tb) (T : TBs (base := base) C) : FnG P w K mg base 2 C.f_first_behind C.fd_first_behind P_first_behind (spF K tb P_first_behind.length F_first_behind) := by
  refine okG (k := 1) C.F_first_behind sc_first_behind fun A outer s H E hgd hr => ?_
  exact (bs_one (bs_ret (ex_cg (ok_folk_at (P := P) (w := w) C T) hgd (hr.mono (by decide)) (by rfl) C.g_folk_at C.F_folk_at.kp C.b_folk_at (ax_cons (ex_lc (own := [("who", 2)]) rfl sc_first_behind.nd (tg_name 2) (tw_name 2 (by decide)) (ix_seq' (ex_var 0)) (blkOk_by (own := [("who", 2)]) (N := N_first_behind) (sc := defScope s_first_behind) (by decide +kernel)) (fun _ _ _ _ _ => (pgn (i := 2) sc_first_behind.nd rfl)) (fun _ _ _ _ _ => (ts_one (tx_cmp op_notIn_seq in_s (ex_var 2) (ex_var 1) (by rfl)))) (fun _ _ _ _ _ => (ex_var 2))) (ax_cons ex_int ax_nil)))))
theorem ok_is_tuple_of (C : Ctx K mg tb) (T : TBs (base := base) C) : FnG P w K mg base 1 C.f_is_tuple_of C.fd_is_tuple_of P_is_tuple_of (spF K tb P_is_tuple_of.length F_is_tuple_of) := by
  refine okG (k := 0) C.F_is_tuple_of sc_is_tuple_of fun A outer s H E hgd hr => ?_
  exact (bs_one (bs_ret (ex_and (ex_isi .tuple (by rfl) C.z_isinstance (by rfl) C.z_tuple (by decide +kernel) (ex_var 0)) (ex_one (ex_cmp (op_eqA hr.units) eq_s (ex_callB len_s cr_lenA (by rfl) C.z_len PySem.boot_len (ax_cons (ex_var 0) ax_nil)) (ex_var 1) (nomark _))))))
theorem ok_right_join (C : Ctx K mg tb) (T : TBs (base := base) C) : FnG P w K mg base 4 C.f_right_join C.fd_right_join P_right_join (spF K tb P_right_join.length F_right_join) := by
  refine okG (k := 3) C.F_right_join sc_right_join fun A outer s H E hgd hr => ?_
  exact (bs_cons (bs_if (pwt (tw_or (tx_not (tx_tru (ex_cg (ok_is_tuple_of (P := P) (w := w) C T) hgd (hr.mono (by decide)) (by rfl) C.g_is_tuple_of C.F_is_tuple_of.kp C.b_is_tuple_of (ax_cons (ex_var 2) (ax_cons ex_int ax_nil))))) (tw_or1 (tx_not (tx_tru (ex_cg (ok_is_number (P := P) (w := w) C T) hgd (hr.mono (by decide)) (by rfl) C.g_is_number C.F_is_number.kp C.b_is_number (ax_cons (ex_ix (ex_var 2) ex_int) ax_nil))))))) (bs_one (bs_ret ex_bl)) bs_nil)
      (bs_cons (bs_asg (tg_tup rfl (tgs_cons (tg_name 3) (tgs_cons (tg_name 4) tgs_nil))) (ex_var 2) (pg_tup rfl (pgs_cons (pgn (i := 3) sc_right_join.nd rfl) (pgs_cons (pgn (i := 4) sc_right_join.nd rfl) pgs_nil))))
      (bs_cons (bs_if (tx_not (tx_tru (ex_cg (ok_are_deaths_of (P := P) (w := w) C T) hgd (hr.mono (by decide)) (by rfl) C.g_are_deaths_of C.F_are_deaths_of.kp C.b_are_deaths_of (ax_cons (ex_op op_addA add_s (ex_var 0) (ex_var 1)) (ax_cons (ex_var 3) ax_nil))))) (bs_one (bs_ret ex_bl)) bs_nil)
      (bs_one (bs_ret (ex_and (ex_cmp (op_neP hr.units) neO_s (ex_var 4) (ex_un un_neg neg_s ex_int) (nomark _)) (ex_and (ex_cmp (op_eqQ hr.units) eqQ_s (ex_cg (ok_first_behind (P := P) (w := w) C T) hgd (hr.mono (by decide)) (by rfl) C.g_first_behind C.F_first_behind.kp C.b_first_behind (ax_cons (ex_var 0) (ax_cons (ex_var 3) ax_nil))) (ex_var 4) (nomark _)) (ex_one (ex_cmp (op_eqQ hr.units) eqQ_s (ex_cg (ok_first_behind (P := P) (w := w) C T) hgd (hr.mono (by decide)) (by rfl) C.g_first_behind C.F_first_behind.kp C.b_first_behind (ax_cons (ex_var 1) (ax_cons (ex_var 3) ax_nil))) (ex_var 4) (nomark _))))))))))
theorem ok_law (C : Ctx K mg tb) (T : TBs (base := base) C) : FnG P w K mg base 5 C.f_law C.fd_law P_law (spF K tb P_law.length F_law) := by
  refine okG (k := 4) C.F_law sc_law fun A outer s H E hgd hr => ?_
  exact (bs_cons (bs_set 1 sc_law.nd (ex_own (ex_lst (ax_cons (ex_var 0) (ax_cons ex_int (ax_cons ex_int (ax_cons ex_int ax_nil)))))))
      (bs_cons (bs_for (dd := [2, 3, 4, 5, 6, 7]) rfl (tg_name 2) PassesOwn.never (ix_rng1 (by rfl) C.z_range (ax_cons ex_int ax_nil)) (pgn (i := 2) sc_law.nd rfl) (bs_cons (bs_asg (tg_tl rfl (tgs_cons (tg_name 4) (tgs_cons (tg_name 5) tgs_nil))) (ex_fg (ex_cg (ok_two_orders (P := P) (w := w) C T) hgd (hr.mono (by decide)) (by rfl) C.g_two_orders C.F_two_orders.kp C.b_two_orders (ax_cons (ex_var 1) (ax_cons (ex_cg (ok_pool (P := P) (w := w) C T) hgd (hr.mono (by decide)) (by rfl) C.g_pool C.F_pool.kp C.b_pool (ax_cons (ex_var 1) ax_nil)) (ax_cons ex_int ax_nil))))) (pg_tl rfl (pgs_cons (pgn (i := 4) sc_law.nd rfl) (pgs_cons (pgn (i := 5) sc_law.nd rfl) pgs_nil))))
      (bs_one (bs_for (dd := [3, 6, 7]) rfl (tg_name 3) PassesOwn.never (ix_seq' (ex_cg (ok_things (P := P) (w := w) C T) hgd (hr.mono (by decide)) (by rfl) C.g_things C.F_things.kp C.b_things (ax_cons (ex_var 1) (ax_cons (ex_var 4) (ax_cons (ex_var 5) ax_nil))))) (pgn (i := 3) sc_law.nd rfl) (bs_cons (bs_set 6 sc_law.nd (ex_callB reprQ_s (Pv.cr_reprQ hgd (Pv.roomU hr)) (by rfl) C.z_repr (by decide +kernel) (ax_cons (ex_var 3) ax_nil)))
      (bs_cons (bs_set 7 sc_law.nd (ex_cg (ok_is_join (P := P) (w := w) C T) hgd (hr.mono (by decide)) (by rfl) C.g_is_join C.F_is_join.kp C.b_is_join (ax_cons (ex_fg (ex_var 4)) (ax_cons (ex_fg (ex_var 5)) (ax_cons (ex_var 3) ax_nil)))))
      (bs_one (bs_if (pwt (tw_or (tx_not (tx_tru (ex_cg (ok_says (P := P) (w := w) C T) hgd (hr.mono (by decide)) (by rfl) C.g_says C.F_says.kp C.b_says (ax_cons (ex_cg (ok_right_join (P := P) (w := w) C T) hgd (hr.mono (by decide)) (by rfl) C.g_right_join C.F_right_join.kp C.b_right_join (ax_cons (ex_fg (ex_var 4)) (ax_cons (ex_fg (ex_var 5)) (ax_cons (ex_var 3) ax_nil)))) (ax_cons (ex_var 7) ax_nil))))) (tw_or1 (tx_cmp (op_neA hr.units) ne_s (ex_callB reprQ_s (Pv.cr_reprQ hgd (Pv.roomU hr)) (by rfl) C.z_repr (by decide +kernel) (ax_cons (ex_var 3) ax_nil)) (ex_var 6) (nomark _))))) (bs_one (bs_ret ex_bl)) bs_nil))))))))
      (bs_one (bs_ret ex_bl))))
end
end K64
end
section
set_option Elab.async false
set_option linter.all false
set_option maxRecDepth 100000
set_option maxHeartbeats 400000
namespace K64
open PySem L2 Pw Pv Lx Ls Lq Lo Lv Od
section
variable {xs ys zs is : List Int} {d a : D} {C n : Nat} {m : Mem}
abbrev tI (xs : List Int) : D := .tup (xs.map D.int)
def numsOf : List D → List Int
  | [] => []
  | .int i :: ds => i :: numsOf ds
  | _ :: ds => numsOf ds
theorem all_int : ∀ {ds : List D}, ds.all La.isNum = true → ds = (numsOf ds).map D.int
  | [], _ => rfl
  | d :: ds, h => by
    rw [List.all_cons, Bool.and_eq_true] at h
    obtain ⟨i, rfl⟩ : ∃ i, d = .int i := by
      cases d <;> first | exact ⟨_, rfl⟩ | cases h.1
    rw [numsOf, List.map_cons, ← all_int h.2]
def deathsX (zs : List Int) : D → Bool
  | .tup es => es.all La.isNum && (La.risB (numsOf es) && (numsOf es).all fun i => decide (i ∈ zs))
  | _ => false
def fbI (xs ds : List Int) : Int := (xs.filter fun i => decide (i ∈ ds) != true).headD (-1)
def joinX (xs ys : List Int) : D → Bool
  | .tup [.tup es, .int w] => deathsX (xs ++ ys) (.tup es) && (!decide (w = -1) && (decide (fbI xs (numsOf es) = w) && decide (fbI ys (numsOf es) = w)))
  | _ => false
theorem deaths_any (h : okq C n a = true) (hl : wq a ≤ 100000) (m : Mem) : K64.F_are_deaths_of [.v (tI zs), .v a] m = some (.v (.bl (deathsX zs a)), m) := by
  let ρ : Pw.Env := [some (.v (tI zs)), some (.v a), none]
  have go : ∀ {x : Bool} {ρ' : Pw.Env}, B_are_deaths_of ρ m = some (.ret (.v (.bl x)), ρ', m) → K64.F_are_deaths_of [.v (tI zs), .v a] m = some (.v (.bl x), m) := fun {x ρ'} hb => run_eq (ρ := ρ') (m' := m) rfl hb (by simp [outW])
  have ty := not_at (ty_at (k := .tuple) (i := 1) (ρ := ρ) (d := a) rfl m)
  rcases isd_cases a h with ⟨es, rfl⟩ | ⟨it, ne⟩
  · rw [wq] at hl
    have wl := wqs_len es
    have al : E_are_deaths_of_2 ρ m = some (.v (.bl (es.all La.isNum)), m) := by
      refine Ls.all_map es (fun x => x) La.isNum (by rw [List.map_id']; exact src_tup rfl m) fun x hx => ⟨_, rfl, rfl, ?_⟩
      exact call_at (ws := [.v x]) rfl (La.number_any m)
    have tt := orT ty fun _ => not_at (tru_at al)
    show K64.F_are_deaths_of [.v (tI zs), .v (.tup es)] m = some (.v (.bl (es.all La.isNum && (La.risB (numsOf es) && (numsOf es).all fun i => decide (i ∈ zs)))), m)
    cases hn : es.all La.isNum with
    | false =>
      rw [hn] at tt
      exact go (Lp.seq_ret (Lb.if_t tt (Lb.ret_at (d := .bl false) rfl)))
    | true =>
      rw [hn] at tt
      rw [Bool.true_and]
      have e0 := all_int hn
      generalize hI : numsOf es = is at *
      subst e0
      rw [List.length_map] at wl
      have r1 : eCall K64.F_is_rising (aCons (eVar 1) aNil) ρ m = some (.v (.bl (La.risB is)), m) := call_at (ws := [.v (tI is)]) rfl (La.rising_any (by omega) m)
      have r2 : E_are_deaths_of_1 ρ m = some (.v (.bl (is.all fun i => decide (i ∈ zs))), m) := by
        refine Ls.all_map is D.int (fun i => decide (i ∈ zs)) (src_tup rfl m) fun x hx => ⟨_, rfl, rfl, ?_⟩
        exact op_at (m1 := m) (m2 := m) (wa := .v (.int x)) (wb := .v (tI zs)) rfl rfl rfl rfl (by rw [Lm.in_tup, Bool.bne_false])
      exact go (seq_at (Lb.if_f tt) (Lb.ret_at (andE r1 fun _ => r2)))
  · have e : deathsX zs a = false := by cases a <;> first | rfl | exact absurd rfl (ne _)
    rw [e]
    rw [it] at ty
    exact go (Lp.seq_ret (Lb.if_t (orT (y := true) ty fun z => nomatch z) (Lb.ret_at (d := .bl false) rfl)))
theorem behind_at (hl : xs.length ≤ 1000) (m : Mem) : K64.F_first_behind [.v (tI xs), .v (tI is)] m = some (.v (.int (fbI xs is)), m) := by
  let ρ : Pw.Env := [some (.v (tI xs)), some (.v (tI is)), none]
  have lc := lc_map (src := iSeq (eVar 0)) (t := gN 2) (vs := [2]) (c := tVal (eOp (inD true) (eVar 2) (eVar 1))) (f := eVar 2) (ρ := ρ) (m := m) (m1 := m) xs D.int (fun i => decide (i ∈ is) != true) D.int (src_tup rfl m) (fun x _ => ⟨_, rfl, val_at (op_at (m1 := m) (m2 := m) (wa := .v (.int x)) (wb := .v (tI is)) rfl rfl rfl rfl Lm.in_tup), fun _ => ⟨.v (.int x), rfl, rfl⟩⟩) (by omega)
  unfold fbI
  have lf := List.length_filter_le (fun i => decide (i ∈ is) != true) xs
  generalize xs.filter (fun i => decide (i ∈ is) != true) = L at lc lf
  have fo : K64.F_folk_at [.v (.lst (L.map D.int)), .v (.int 0)] m = some (.v (.int (L.headD (-1))), m) := by
    let σ : Pw.Env := [some (.v (.lst (L.map D.int))), some (.v (.int 0))]
    have ln : eCB lenD (aCons (eVar 0) aNil) σ m = some (.v (.int (L.length : Int)), m) := by
      have : lenD [.lst (L.map D.int)] = some (.v (.int (L.length : Int))) := by
        show some (W.v (.int ((L.map D.int).length : Int))) = _
        rw [List.length_map]
      have e0 : eVar 0 σ m = some (.v (.lst (L.map D.int)), m) := rfl
      generalize D.lst (L.map D.int) = T at *
      simp only [eCB, aCons, aNil, e0, Option.bind_some, stl, gts, gt, this]
    have t : tVal (eOp (cmpD ltI) (eVar 1) (eCB lenD (aCons (eVar 0) aNil))) σ m = some (decide ((0 : Int) < (L.length : Int)), m) := val_at (op_at (m1 := m) (m2 := m) (wa := .v (.int 0)) rfl ln rfl rfl rfl)
    have r : eIf (tVal (eOp (cmpD ltI) (eVar 1) (eCB lenD (aCons (eVar 0) aNil)))) (eOp ixD (eVar 0) (eVar 1)) (eUn negD (eC (.int 1))) σ m = some (.v (.int (L.headD (-1))), m) := by
      unfold eIf
      rw [t]
      cases L with
      | nil => rfl
      | cons i L =>
        have e : decide ((0 : Int) < (((i :: L).length : Nat) : Int)) = true := decide_eq_true (by simp)
        rw [e]
        simp only [Option.bind_some, if_true]
        have i0 : ixD (.lst ((i :: L).map D.int)) (.int 0) = some (.v (.int i)) := by
          show (atI (D.int i :: L.map D.int) 0).bind _ = _
          rw [at0]; rfl
        exact op_at (m1 := m) (m2 := m) (wa := .v (.lst ((i :: L).map D.int))) (wb := .v (.int 0)) rfl rfl rfl rfl i0
    exact run_eq (ρ := σ) (m' := m) rfl (Lb.ret_at r) (by simp [outW])
  have ar : aCons E_first_behind_1 (aCons (eC (.int 0)) aNil) ρ m = some ([.v (.lst (L.map D.int)), .v (.int 0)], m) := by
    have lc' : E_first_behind_1 ρ m = some (.f (.lst (L.map D.int)), m) := lc
    generalize E_first_behind_1 = X at lc'
    simp only [aCons, aNil, lc', eC, Option.bind_some, stl]
  exact run_eq (ρ := ρ) (m' := m) rfl (Lb.ret_at (call_at ar fo)) (by simp [outW])
theorem two_of {d : D} (h : La.tupN 2 d = true) : ∃ a b, d = .tup [a, b] := La.tup2 h
theorem join_no2 (h : La.tupN 2 d = false) : joinX xs ys d = false := by
  unfold joinX
  split
  · cases h
  · rfl
theorem right_join_any (h : okq C n d = true) (hl : wq d ≤ 100000) (lx : xs.length ≤ 1000) (ly : ys.length ≤ 1000) (m : Mem) : K64.F_right_join [.v (tI xs), .v (tI ys), .v d] m = some (.v (.bl (joinX xs ys d)), m) := by
  have nt := okq_ntx h
  let ρ0 : Pw.Env := [some (.v (tI xs)), some (.v (tI ys)), some (.v d), none, none]
  have go : ∀ {x : Bool} {ρ' : Pw.Env}, B_right_join ρ0 m = some (.ret (.v (.bl x)), ρ', m) → K64.F_right_join [.v (tI xs), .v (tI ys), .v d] m = some (.v (.bl x), m) := fun {x ρ'} hb => run_eq (ρ := ρ') (m' := m) rfl hb (by simp [outW])
  have t2 : K64.F_is_tuple_of [.v d, .v (.int 2)] m = some (.v (.bl (La.tupN 2 d)), m) := La.tuple_any (k := 2) nt m
  have t2' : tNot' (tTru (eCall K64.F_is_tuple_of (aCons (eVar 2) (aCons (eC (.int 2)) aNil)))) ρ0 m = some (!La.tupN 2 d, m) := not_at (tru_at (call_at (ws := [.v d, .v (.int 2)]) rfl t2))
  cases h2 : La.tupN 2 d with
  | false =>
    rw [h2] at t2'
    rw [join_no2 h2]
    exact go (Lp.seq_ret (Lb.if_t (orT (y := true) t2' fun z => nomatch z) (Lb.ret_at (d := .bl false) rfl)))
  | true =>
    obtain ⟨a, b, rfl⟩ := two_of h2
    rw [h2] at t2'
    obtain ⟨k, rfl, hq⟩ := okq_tup h
    have wt : wq (.tup [a, b]) = 1 + (wq a + (wq b + 0)) := by rw [wq, wqs, wqs, wqs]
    have x1 : eOp ixD (eVar 2) (eC (.int 1)) ρ0 m = some (.v b, m) := rfl
    have n1 : eCall K64.F_is_number (aCons (eOp ixD (eVar 2) (eC (.int 1))) aNil) ρ0 m = some (.v (.bl (La.isNum b)), m) := call_at (ws := [.v b]) (m1 := m) (by simp [aCons, aNil, x1]) (La.number_any m)
    have tt := orT t2' fun _ => not_at (tru_at n1)
    cases hb : La.isNum b with
    | false =>
      rw [hb] at tt
      have e : joinX xs ys (.tup [a, b]) = false := by
        unfold joinX
        split
        · rename_i es w heq
          injection heq with heq
          injection heq with _ heq
          injection heq with heq _
          rw [heq] at hb
          cases hb
        · rfl
      rw [e]
      exact go (Lp.seq_ret (Lb.if_t tt (Lb.ret_at (d := .bl false) rfl)))
    | true =>
      rw [hb] at tt
      obtain ⟨w, rfl⟩ := num_int hb
      let ρ : Pw.Env := [some (.v (tI xs)), some (.v (tI ys)), some (.v (.tup [a, .int w])), some (.v a), some (.v (.int w))]
      have asg : sAsg (gT [gN 3, gN 4]) (eVar 2) [some (.v (tI xs)), some (.v (tI ys)), some (.v (.tup [a, .int w])), none, none] m = some (.nx, ρ, m) := rfl
      have cat : eOp addD (eVar 0) (eVar 1) ρ m = some (.v (tI (xs ++ ys)), m) := by
        have := cat_at' (X := eVar 0) (Y := eVar 1) (ρ := ρ) (M := m) (M1 := m) (es := xs.map D.int) (fs := ys.map D.int) rfl rfl (by rw [List.length_map, List.length_map]; omega)
        rw [← List.map_append] at this
        exact this
      have dt : tNot' (tTru (eCall K64.F_are_deaths_of (aCons (eOp addD (eVar 0) (eVar 1)) (aCons (eVar 3) aNil)))) ρ m = some (!deathsX (xs ++ ys) a, m) := by
        refine not_at (tru_at (call_at (ws := [.v (tI (xs ++ ys)), .v a]) (m1 := m) ?_ (deaths_any (hq a (by simp)) (by omega) m)))
        have e3 : eVar 3 ρ m = some (.v a, m) := rfl
        generalize eOp addD (eVar 0) (eVar 1) = X at cat
        simp only [aCons, aNil, cat, e3, Option.bind_some, stl]
      cases hd : deathsX (xs ++ ys) a with
      | false =>
        rw [hd] at dt
        have e : joinX xs ys (.tup [a, .int w]) = false := by
          unfold joinX
          split
          · rename_i es w' heq
            injection heq with heq
            injection heq with h1 heq
            rw [← h1, hd]; rfl
          · rfl
        rw [e]
        exact go (seq_at (Lb.if_f tt) (seq_at asg (Lp.seq_ret (Lb.if_t dt (Lb.ret_at (d := .bl false) rfl)))))
      | true =>
        rw [hd] at dt
        obtain ⟨es, rfl⟩ : ∃ es, a = .tup es := by cases a <;> first | exact ⟨_, rfl⟩ | cases hd
        have hd' : (es.all La.isNum && (La.risB (numsOf es) && (numsOf es).all fun i => decide (i ∈ xs ++ ys))) = true := hd
        rw [Bool.and_eq_true] at hd'
        have e0 := all_int hd'.1
        have ev : joinX xs ys (.tup [.tup es, .int w]) = (!decide (w = -1) && (decide (fbI xs (numsOf es) = w) && decide (fbI ys (numsOf es) = w))) := by
          show (deathsX (xs ++ ys) (.tup es) && _) = _
          rw [hd, Bool.true_and]
        rw [ev]
        generalize numsOf es = is at *
        subst e0
        have o1 := op_at (g := neOD) (a := eVar 4) (b := eUn negD (eC (.int 1))) (ρ := ρ) (m := m) (m1 := m) (m2 := m) (wa := .v (.int w)) (wb := .v (.int (-1))) rfl rfl rfl rfl (show neOD (.int w) (.int (-1)) = some (.v (.bl (!decide (w = -1)))) by
          show eqD true (.int w) (.int (-1)) = _
          rw [eq_i, Bool.bne_true])
        have c1 : eCall K64.F_first_behind (aCons (eVar 0) (aCons (eVar 3) aNil)) ρ m = some (.v (.int (fbI xs is)), m) := call_at (ws := [.v (tI xs), .v (tI is)]) rfl (behind_at lx m)
        have c2 : eCall K64.F_first_behind (aCons (eVar 1) (aCons (eVar 3) aNil)) ρ m = some (.v (.int (fbI ys is)), m) := call_at (ws := [.v (tI ys), .v (tI is)]) rfl (behind_at ly m)
        have o2 := op_at (g := eqBD) (b := eVar 4) (m1 := m) (m2 := m) (wb := .v (.int w)) c1 rfl rfl rfl (show eqBD (.int (fbI xs is)) (.int w) = some (.v (.bl (decide (fbI xs is = w)))) from eqO_i)
        have o3 := op_at (g := eqBD) (b := eVar 4) (m1 := m) (m2 := m) (wb := .v (.int w)) c2 rfl rfl rfl (show eqBD (.int (fbI ys is)) (.int w) = some (.v (.bl (decide (fbI ys is = w)))) from eqO_i)
        exact go (seq_at (Lb.if_f tt) (seq_at asg (seq_at (Lb.if_f dt) (Lb.ret_at (andE o1 fun _ => andE o2 fun _ => o3)))))
end
end K64
end
section
set_option Elab.async false
set_option linter.all false
set_option maxRecDepth 100000
set_option maxHeartbeats 400000
namespace K64
open PySem L2 Pw Pv Lx Ls Lq Lo Lv Od
theorem filt_any {p : D → Bool} (ds : List D) : (ds.filter fun x => !p x).isEmpty = ds.all p := by
  induction ds with
  | nil => rfl
  | cons a ds ih =>
    rw [List.filter_cons, List.all_cons]
    cases ha : p a with
    | true => simpa using ih
    | false => simp
theorem filt_int {p : Int → Bool} (is : List Int) : ((is.filter fun x => !p x).map D.int).isEmpty = is.all p := by
  induction is with
  | nil => rfl
  | cons a is ih =>
    rw [List.filter_cons, List.all_cons]
    cases ha : p a with
    | true => simpa using ih
    | false => simp
theorem ri_sort (is : List Int) : decide (is = sortU iLt is) = La.risB is := by
  rw [Bool.eq_iff_iff, decide_eq_true_eq]
  constructor
  · intro h
    have sp := sortU_sorted lin_i is
    rw [← h] at sp
    unfold La.risB
    rw [List.all_eq_true]
    intro i hi
    have hl := List.mem_range.mp hi
    have := (List.pairwise_iff_getElem.mp sp) i (i + 1) (by omega) (by omega) (by omega)
    rw [List.getD_eq_getElem?_getD, List.getD_eq_getElem?_getD, List.getElem?_eq_getElem (by omega), List.getElem?_eq_getElem (by omega)]
    exact this
  · intro h
    have hp := La.ris_true h
    have sp := sortU_sorted lin_i is
    have n1 : is.Nodup := hp.imp fun h => by intro z; omega
    have n2 : (sortU iLt is).Nodup := sp.imp fun {x y} h => by
      intro z
      have : x < y := of_decide_eq_true h
      omega
    have pm : is.Perm (sortU iLt is) := (List.perm_ext_iff_of_nodup n1 n2).mpr fun x => mem_sortU.symm
    refine sortedM_uniq lin_i (hp.imp fun {x y} h => ?_) (sp.imp fun {x y} h => ?_) pm
    · show decide (y < x) = false
      exact decide_eq_false (by omega)
    · have : x < y := of_decide_eq_true h
      show decide (y < x) = false
      exact decide_eq_false (by omega)
section
variable {xs ys zs is : List Int} {d a : D} {C n : Nat} {m : Mem}
theorem neL_at {L : List D} {X : Ex} {ρ : Pw.Env} (h : X ρ m = some (.f (.lst L), m)) : tVal (eOp neLD X (eLst aNil)) ρ m = some (!L.isEmpty, m) := by
  have o := op_at (g := neLD) (a := X) (b := eLst aNil) (ρ := ρ) (m := m) (m1 := m) (m2 := m) (wa := .f (.lst L)) (wb := .f (.lst [])) h rfl rfl rfl (show neLD (.lst L) (.lst []) = some (.v (.bl (!L.isEmpty))) from rfl)
  exact val_at o
theorem left_is {w : Int} (h0 : ∀ x ∈ xs, 0 ≤ x) (is : List Int) : decide ((xs.filter fun i => decide (i ∈ is) != true).take 1 = [w]) = (!decide (w = -1) && decide (fbI xs is = w)) := by
  unfold fbI
  have hm : ∀ x ∈ xs.filter (fun i => decide (i ∈ is) != true), 0 ≤ x := fun x hx => h0 x (List.mem_filter.mp hx).1
  cases hL : xs.filter (fun i => decide (i ∈ is) != true) with
  | nil =>
    by_cases hw : w = -1
    · rw [decide_eq_true hw]; simp
    · rw [decide_eq_false hw]
      have : ¬ ((-1 : Int) = w) := fun z => hw z.symm
      simp [this]
  | cons x L =>
    rw [hL] at hm
    have x0 := hm x (by simp)
    show decide ([x] = [w]) = (!decide (w = -1) && decide (x = w))
    by_cases hx : x = w
    · rw [decide_eq_true hx, hx, decide_eq_false (show ¬ w = -1 by omega)]; simp
    · rw [decide_eq_false hx]; simp [hx]
theorem is_join_any (h : okq C n d = true) (hl : wq d ≤ 3000) (lx : xs.length ≤ 1000) (ly : ys.length ≤ 1000) (hx : ∀ x ∈ xs, 0 ≤ x) (hy : ∀ x ∈ ys, 0 ≤ x) (m : Mem) : K64.F_is_join [.v (tI xs), .v (tI ys), .v d] m = some (.v (.bl (joinX xs ys d)), m) := by
  let ρ0 : Pw.Env := [some (.v (tI xs)), some (.v (tI ys)), some (.v d), none, none, none, none, none]
  have go : ∀ {x : Bool} {ρ' : Pw.Env}, B_is_join ρ0 m = some (.ret (.v (.bl x)), ρ', m) → K64.F_is_join [.v (tI xs), .v (tI ys), .v d] m = some (.v (.bl x), m) := fun {x ρ'} hb => run_eq (ρ := ρ') (m' := m) rfl hb (by simp [outW])
  have ty := not_at (ty_at (k := .tuple) (i := 2) (ρ := ρ0) (d := d) rfl m)
  rcases isd_cases d h with ⟨ds, rfl⟩ | ⟨it, ne⟩
  · have ln : eCB lenD (aCons (eVar 2) aNil) ρ0 m = some (.v (.int (ds.length : Int)), m) := rfl
    have eq2 : neOD (.int (ds.length : Int)) (.int 2) = some (.v (.bl (!La.tupN 2 (.tup ds)))) := by
      show eqD true (.int (ds.length : Int)) (.int 2) = _
      rw [eq_i, Bool.bne_true]
      congr 4
      show decide ((ds.length : Int) = 2) = decide (ds.length = 2)
      rw [decide_eq_decide]; omega
    have t2 := val_at (op_at (g := neOD) (b := eC (.int 2)) (m1 := m) (m2 := m) (wb := .v (.int 2)) ln rfl rfl rfl eq2)
    cases h2 : La.tupN 2 (.tup ds) with
    | false =>
      rw [h2] at t2
      rw [join_no2 h2]
      exact go (Lp.seq_ret (Lb.if_t (orT (y := true) ty fun _ => orT (y := true) t2 fun z => nomatch z) (Lb.ret_at (d := .bl false) rfl)))
    | true =>
      rw [h2] at t2
      obtain ⟨a, b, hd⟩ := two_of h2
      have hds : ds = [a, b] := by injection hd
      subst hds
      obtain ⟨k, rfl, hq⟩ := okq_tup h
      have wt : wq (.tup [a, b]) = 1 + (wq a + (wq b + 0)) := by rw [wq, wqs, wqs, wqs]
      have x0 : eOp ixD (eVar 2) (eC (.int 0)) ρ0 m = some (.v a, m) := rfl
      have ta : tTru (eIs .tuple (eOp ixD (eVar 2) (eC (.int 0)))) ρ0 m = some (isD .tuple a, m) := by simp [tTru, eIs, x0, truD]
      have t1 := orT ty fun _ => orT t2 fun _ => not_at ta
      rcases isd_cases a (hq a (by simp)) with ⟨es, rfl⟩ | ⟨it, ne⟩
      · rw [show isD .tuple (.tup es) = true from rfl] at t1
        have we : wq (.tup es) = 1 + wqs es := by rw [wq]
        have wl := wqs_len es
        let ρ : Pw.Env := [some (.v (tI xs)), some (.v (tI ys)), some (.v (.tup [.tup es, b])), none, some (.v (.tup es)), some (.v b), none, none]
        have asg : sAsg (gTL [gN 4, gN 5]) (eVar 2) [some (.v (tI xs)), some (.v (tI ys)), some (.v (.tup [.tup es, b])), none, none, none, none, none] m = some (.nx, ρ, m) := rfl
        have lc4 := lc_map (src := iSeq (eVar 4)) (t := gN 7) (vs := [7]) (c := tNot' (tTru (eCall K64.F_l_is_number (aCons (eVar 7) aNil)))) (f := eVar 7) (ρ := ρ) (m := m) (m1 := m) es (fun x => x) (fun x => !La.isNum x) (fun x => x) (by rw [List.map_id']; exact src_tup rfl m) (fun x _ => ⟨_, rfl, not_at (tru_at (call_at (ws := [.v x]) rfl (La.number_any m))), fun _ => ⟨.v x, rfl, rfl⟩⟩) (by omega)
        rw [List.map_id'] at lc4
        have n4 := neL_at (X := E_is_join_4) lc4
        rw [filt_any] at n4
        have nb : tNot' (tTru (eCall K64.F_l_is_number (aCons (eVar 5) aNil))) ρ m = some (!La.isNum b, m) := not_at (tru_at (call_at (ws := [.v b]) rfl (La.number_any m)))
        have t3 := orT n4 fun _ => nb
        rw [← Bool.not_and] at t3
        cases hc : (es.all La.isNum && La.isNum b) with
        | false =>
          rw [hc] at t3
          have e : joinX xs ys (.tup [.tup es, b]) = false := by
            cases z : joinX xs ys (.tup [.tup es, b]) with
            | false => rfl
            | true =>
              unfold joinX at z
              split at z
              · rename_i es' w heq
                injection heq with heq
                injection heq with h1 heq
                injection h1 with h1
                injection heq with h2 _
                subst h1 h2
                rw [Bool.and_eq_true] at z
                have z1 : (es.all La.isNum && _) = true := z.1
                rw [Bool.and_eq_true] at z1
                rw [z1.1] at hc
                cases hc
              · cases z
          rw [e]
          exact go (seq_at (Lb.if_f t1) (seq_at asg (Lp.seq_ret (Lb.if_t t3 (Lb.ret_at (d := .bl false) rfl)))))
        | true =>
          rw [hc] at t3
          rw [Bool.and_eq_true] at hc
          obtain ⟨w, rfl⟩ := num_int hc.2
          have e0 := all_int hc.1
          have ev : joinX xs ys (.tup [.tup es, .int w]) = ((La.risB (numsOf es) && (numsOf es).all fun i => decide (i ∈ xs ++ ys)) && (!decide (w = -1) && (decide (fbI xs (numsOf es) = w) && decide (fbI ys (numsOf es) = w)))) := by
            show ((es.all La.isNum && (La.risB (numsOf es) && (numsOf es).all fun i => decide (i ∈ xs ++ ys))) && _) = _
            rw [hc.1, Bool.true_and]
          rw [ev]
          generalize numsOf es = is at *
          subst e0
          rw [List.length_map] at wl
          have sl : eCB sortSetD (aCons (eVar 4) aNil) ρ m = some (.f (.lst ((sortU iLt is).map D.int)), m) := by
            have ss : sortSetD [tI is] = some (.f (.lst ((sortU iLt is).map D.int))) := by
              simp only [sortSetD, itmD, Option.bind_some, allI_i]
              rw [if_pos (by omega)]
            have e4 : eVar 4 ρ m = some (.v (tI is), m) := rfl
            generalize (sortU iLt is).map D.int = SL at *
            generalize tI is = T at *
            simp only [eCB, aCons, aNil, e4, Option.bind_some, stl, gts, gt, ss]
          have ls : eCB listD (aCons (eVar 4) aNil) ρ m = some (.f (.lst (is.map D.int)), m) := rfl
          have tS := val_at (op_at (g := neOD) (m1 := m) (m2 := m) ls sl rfl rfl (show neOD (.lst (is.map D.int)) (.lst ((sortU iLt is).map D.int)) = some (.v (.bl (!La.risB is))) by
            show eqD true (lI is) (lI (sortU iLt is)) = _
            rw [eq_li, ri_sort, Bool.bne_true]))
          have cat : eOp addD (eVar 0) (eVar 1) = eOp addD (eVar 0) (eVar 1) := rfl
          have catE : ∀ (τ : Pw.Env), τ[0]? = some (some (.v (tI xs))) → τ[1]? = some (some (.v (tI ys))) → eOp addD (eVar 0) (eVar 1) τ m = some (.v (tI (xs ++ ys)), m) := fun τ k0 k1 => by
            have := cat_at' (X := eVar 0) (Y := eVar 1) (ρ := τ) (M := m) (M1 := m) (es := xs.map D.int) (fs := ys.map D.int) (by unfold eVar; rw [k0]; rfl) (by unfold eVar; rw [k1]; rfl) (by rw [List.length_map, List.length_map]; omega)
            rw [← List.map_append] at this
            exact this
          have lc3 := lc_map (src := iSeq (eVar 4)) (t := gN 7) (vs := [7]) (c := tVal (eOp (inOD true) (eVar 7) (eOp addD (eVar 0) (eVar 1)))) (f := eVar 7) (ρ := ρ) (m := m) (m1 := m) is D.int (fun i => !decide (i ∈ xs ++ ys)) D.int (src_tup rfl m) (fun x _ => ⟨_, rfl, val_at (op_at (m1 := m) (m2 := m) (wa := .v (.int x)) (wb := .v (tI (xs ++ ys))) rfl (catE _ rfl rfl) rfl rfl (by
            show inD true (.int x) (tI (xs ++ ys)) = _
            rw [Lm.in_tup, Bool.bne_true])), fun _ => ⟨.v (.int x), rfl, rfl⟩⟩) (by omega)
          have n3 := neL_at (X := E_is_join_3) lc3
          have em : ((is.filter fun i => !decide (i ∈ xs ++ ys)).map D.int).isEmpty = is.all fun i => decide (i ∈ xs ++ ys) := filt_int is
          rw [em] at n3
          have t4 := orT tS fun _ => n3
          rw [← Bool.not_and] at t4
          cases hr : (La.risB is && is.all fun i => decide (i ∈ xs ++ ys)) with
          | false =>
            rw [hr] at t4
            rw [Bool.false_and]
            exact go (seq_at (Lb.if_f t1) (seq_at asg (seq_at (Lb.if_f t3) (Lp.seq_ret (Lb.if_t t4 (Lb.ret_at (d := .bl false) rfl))))))
          | true =>
            rw [hr] at t4
            rw [Bool.true_and]
            let fl : List Int → List Int := fun L => L.filter fun i => decide (i ∈ is) != true
            let ρ3 : Pw.Env := [some (.v (tI xs)), some (.v (tI ys)), some (.v (.tup [tI is, .int w])), some (.v (.lst [.lst ((fl xs).map D.int), .lst ((fl ys).map D.int)])), some (.v (tI is)), some (.v (.int w)), none, none]
            have inner : ∀ (L : List Int) (τ : Pw.Env), L.length ≤ 1000 → τ = [some (.v (tI xs)), some (.v (tI ys)), some (.v (.tup [tI is, .int w])), none, some (.v (tI is)), some (.v (.int w)), some (.v (tI L)), none] → E_is_join_1 τ m = some (.f (.lst ((fl L).map D.int)), m) := fun L τ hL e => by
              subst e
              exact lc_map (src := iSeq (eVar 6)) (t := gN 7) (vs := [7]) (c := tVal (eOp (inOD true) (eVar 7) (eVar 4))) (f := eVar 7) (m := m) (m1 := m) L D.int (fun i => decide (i ∈ is) != true) D.int (src_tup rfl m) (fun x _ => ⟨_, rfl, val_at (op_at (m1 := m) (m2 := m) (wa := .v (.int x)) (wb := .v (tI is)) rfl rfl rfl rfl (show inOD true (.int x) (tI is) = _ from Lm.in_tup)), fun _ => ⟨.v (.int x), rfl, rfl⟩⟩) (by omega)
            have lc2 := lc_map (src := iSeq (eTup (aCons (eVar 0) (aCons (eVar 1) aNil)))) (t := gN 6) (vs := [6]) (c := tYes') (f := E_is_join_1) (ρ := ρ) (m := m) (m1 := m) [xs, ys] tI (fun _ => true) (fun L => D.lst ((fl L).map D.int)) rfl (fun L hL => ⟨_, rfl, rfl, fun _ => ⟨.f (.lst ((fl L).map D.int)), inner L _ (by
              simp only [List.mem_cons, List.not_mem_nil, or_false] at hL
              rcases hL with rfl | rfl <;> omega) rfl, rfl⟩⟩) (by simp)
            have a3 : sSet 3 E_is_join_2 ρ m = some (.nx, ρ3, m) := set_at (i := 3) (w := .f (.lst [.lst ((fl xs).map D.int), .lst ((fl ys).map D.int)])) lc2
            have one1 : ∀ (L : List Int) (j : Int), ixD (.lst [.lst ((fl xs).map D.int), .lst ((fl ys).map D.int)]) (.int j) = some (.v (.lst ((fl L).map D.int))) → eOp eqBD (eSlc (eOp ixD (eVar 3) (eC (.int j))) oNone (oSome (eC (.int 1)))) (eLst (aCons (eVar 5) aNil)) ρ3 m = some (.v (.bl (decide ((fl L).take 1 = [w]))), m) := fun L j hj => by
              have y0 : eOp ixD (eVar 3) (eC (.int j)) ρ3 m = some (.v (.lst ((fl L).map D.int)), m) := op_at (m1 := m) (m2 := m) (wa := .v (.lst [.lst ((fl xs).map D.int), .lst ((fl ys).map D.int)])) (wb := .v (.int j)) rfl rfl rfl rfl hj
              have sd : slcD (.lst ((fl L).map D.int)) none (some 1) = some (.f (.lst (((fl L).take 1).map D.int))) := by
                have c1 : cutD ((fl L).map D.int) none (some ((1 : Nat) : Int)) = ((fl L).map D.int).take 1 := cut_up
                show some (W.f (.lst (cutD ((fl L).map D.int) none (some ((1 : Nat) : Int))))) = _
                rw [c1, List.map_take]
              have y1 : eSlc (eOp ixD (eVar 3) (eC (.int j))) oNone (oSome (eC (.int 1))) ρ3 m = some (.f (.lst (((fl L).take 1).map D.int)), m) := by
                generalize eOp ixD (eVar 3) (eC (.int j)) = X at y0
                generalize (fl L).map D.int = T at y0 sd
                generalize ((fl L).take 1).map D.int = T2 at *
                simp [eSlc, y0, oNone, oSome, eC, inD', sd]
              have y2 : eLst (aCons (eVar 5) aNil) ρ3 m = some (.f (.lst [.int w]), m) := rfl
              exact op_at (m1 := m) (m2 := m) y1 y2 rfl rfl (show eqBD (.lst (((fl L).take 1).map D.int)) (.lst [.int w]) = some (.v (.bl (decide ((fl L).take 1 = [w])))) by
                have := eq_li (neg := false) (xs := (fl L).take 1) (ys := [w])
                rw [Bool.bne_false] at this
                exact this)
            have rr := andE (one1 xs 0 rfl) fun _ => one1 ys 1 rfl
            rw [left_is hx, left_is hy] at rr
            have eb : ((!decide (w = -1) && decide (fbI xs is = w)) && (!decide (w = -1) && decide (fbI ys is = w))) = (!decide (w = -1) && (decide (fbI xs is = w) && decide (fbI ys is = w))) := by
              cases decide (w = -1) <;> cases decide (fbI xs is = w) <;> cases decide (fbI ys is = w) <;> rfl
            rw [eb] at rr
            exact go (seq_at (Lb.if_f t1) (seq_at asg (seq_at (Lb.if_f t3) (seq_at (Lb.if_f t4) (seq_at a3 (Lb.ret_at rr))))))
      · rw [it] at t1
        have e : joinX xs ys (.tup [a, b]) = false := by
          unfold joinX
          split
          · rename_i es' w heq
            injection heq with heq
            injection heq with h1 _
            exact absurd h1 (ne _)
          · rfl
        rw [e]
        exact go (Lp.seq_ret (Lb.if_t t1 (Lb.ret_at (d := .bl false) rfl)))
  · have e : joinX xs ys d = false := join_no2 (by cases d <;> first | rfl | exact absurd rfl (ne _))
    rw [e]
    rw [it] at ty
    exact go (Lp.seq_ret (Lb.if_t (orT (y := true) ty fun z => nomatch z) (Lb.ret_at (d := .bl false) rfl)))
end
end K64
end
section
set_option Elab.async false
set_option linter.all false
set_option maxRecDepth 100000
set_option maxHeartbeats 400000
namespace K64
open PySem L2 Pw Pv Lx Ls Lq Lo Lv Od
section
variable {A B is : List Int} {ns : List Int} {s : Lx.St} {m : Mem} {ρ : Pw.Env} {M : Mem} {C n U : Nat}
abbrev G (i : Int) : Prop := 0 ≤ i ∧ i ≤ 60
theorem odd_spec {c : Int} (h0 : 0 ≤ c) (h1 : c < 19) (m : Mem) : ∃ d, K64.F_odd [.v (.int c)] m = some (.v d, m) ∧ okq 100 2 d = true ∧ wq d ≤ 3 := by
  obtain ⟨d, ix, a, b⟩ := Ob.odd_ix c h0 h1
  let ρ : Pw.Env := [some (.v (.int c)), some (.v (.lst Ob.oddL))]
  have md : modD (.int c) (.int 19) = some (.v (.int c)) := by rw [mod_i (by decide), Int.emod_eq_of_lt h0 h1]
  have y3 : eOp modD (eVar 0) (eC (.int 19)) ρ m = some (.v (.int c), m) := op_at (m1 := m) (m2 := m) (wa := .v (.int c)) (wb := .v (.int 19)) rfl rfl rfl rfl md
  refine ⟨d, run_eq (ρ := ρ) (m' := m) (w := .v d) rfl (seq_at (ρ1 := ρ) (m1 := m) rfl (Lb.ret_at (op_at (m1 := m) (m2 := m) (wa := .v (.lst Ob.oddL)) rfl y3 rfl rfl ix))) (by simp [outW]), a, b⟩
theorem ints_pt {L : List Int} (h : ∀ i ∈ L, G i) (hl : L.length ≤ 90) : PT 100 1 91 (tI L) := by
  refine ⟨okq_t fun x hx => ?_, ?_⟩
  · obtain ⟨i, hi, rfl⟩ := List.mem_map.mp hx
    have := h i hi
    exact okq_i (by omega)
  · rw [wq]
    have := wqs_le (U := 1) (L := L.map D.int) fun x hx => by
      obtain ⟨i, hi, rfl⟩ := List.mem_map.mp hx
      rw [wq_i]; exact Nat.le_refl _
    rw [List.length_map] at this
    omega
theorem ss_at {X : Ex} {L : List Int} (hX : X ρ M = some (.v (tI L), M)) (hl : L.length ≤ 90) : eCB tupleD (aCons (eCB sortSetD (aCons X aNil)) aNil) ρ M = some (.v (tI (sortU iLt L)), M) := by
  have ss : sortSetD [tI L] = some (.f (.lst ((sortU iLt L).map D.int))) := by
    simp only [sortSetD, itmD, Option.bind_some, allI_i]
    rw [if_pos (by omega)]
  have tp : tupleD [.lst ((sortU iLt L).map D.int)] = some (.v (tI (sortU iLt L))) := rfl
  generalize tI (sortU iLt L) = T2 at *
  generalize (sortU iLt L).map D.int = SL at *
  generalize tI L = T at *
  simp only [eCB, aCons, aNil, hX, Option.bind_some, stl, gts, gt, ss, tp]
theorem ss_g {L : List Int} (h : ∀ i ∈ L, G i) : ∀ i ∈ sortU iLt L, G i := fun i hi => h i (mem_sortU.mp hi)
theorem catI {X Y : Ex} {L K : List Int} (hX : X ρ M = some (.v (tI L), M)) (hY : Y ρ M = some (.v (tI K), M)) (h : L.length + K.length ≤ 1000) : eOp addD X Y ρ M = some (.v (tI (L ++ K)), M) := by
  have := cat_at' (X := X) (Y := Y) (ρ := ρ) (M := M) (M1 := M) (es := L.map D.int) (fs := K.map D.int) hX hY (by rw [List.length_map, List.length_map]; omega)
  rw [← List.map_append] at this
  exact this
theorem upI {a : Nat} {X Z : Ex} {L : List Int} (hZ : Z ρ M = some (.v (tI L), M)) (hX : X ρ M = some (.v (nD a), M)) : eSlc Z oNone (oSome X) ρ M = some (.v (tI (L.take a)), M) := by
  have q := cut_up (ds := L.map D.int) (k := a)
  have sd : slcD (tI L) none (some (a : Int)) = some (.v (tI (L.take a))) := by
    show some (W.v (.tup (cutD (L.map D.int) none (some (a : Int))))) = _
    rw [q, ← List.map_take]
  generalize tI (L.take a) = T2 at *
  generalize tI L = T at *
  simp [eSlc, hZ, oNone, oSome, hX, inD', sd]
theorem dnI {a : Nat} {X Z : Ex} {L : List Int} (hZ : Z ρ M = some (.v (tI L), M)) (hX : X ρ M = some (.v (nD a), M)) : eSlc Z (oSome X) oNone ρ M = some (.v (tI (L.drop a)), M) := by
  have q := cut_dn (ds := L.map D.int) (k := a)
  have sd : slcD (tI L) (some (a : Int)) none = some (.v (tI (L.drop a))) := by
    show some (W.v (.tup (cutD (L.map D.int) (some (a : Int)) none))) = _
    rw [q, ← List.map_drop]
  generalize tI (L.drop a) = T2 at *
  generalize tI L = T at *
  simp [eSlc, hZ, oNone, oSome, hX, inD', sd]
theorem smI {X : Ex} {L : List Int} (hX : X ρ M = some (.v (tI L), M)) (h : ∀ i ∈ L, G i) (hl : L.length ≤ 90) : Sm 100 3 91 ρ M X := ⟨_, _, hX, .inl rfl, (ints_pt h hl).le (Nat.le_refl _) (by decide) (Nat.le_refl _)⟩
abbrev P1 (d : D) : Prop := PT 100 4 300 d
theorem two_sm {X Y : Ex} (h1 : Sm 100 3 91 ρ M X) (h2 : Sm 100 3 91 ρ M Y) : Sm 100 4 300 ρ M (eTup (aCons X (aCons Y aNil))) := sm_le (sm_tup (lm_cons h1 (lm_cons h2 lm_nil)) (by decide)) (Nat.le_refl _) (Nat.le_refl _) (by decide)
theorem three_sm {X Y Z : Ex} (h1 : Sm 100 3 91 ρ M X) (h2 : Sm 100 3 91 ρ M Y) (h3 : Sm 100 3 91 ρ M Z) : Sm 100 4 300 ρ M (eTup (aCons X (aCons Y (aCons Z aNil)))) := sm_le (sm_tup (lm_cons h1 (lm_cons h2 (lm_cons h3 lm_nil))) (by decide)) (Nat.le_refl _) (Nat.le_refl _) (by decide)
theorem lst_sm {X Y : Ex} (h1 : Sm 100 3 91 ρ M X) (h2 : Sm 100 3 91 ρ M Y) : Sm 100 4 300 ρ M (eLst (aCons X (aCons Y aNil))) := by
  obtain ⟨L, e, q, l⟩ := lst_lm (lm_cons h1 (lm_cons h2 lm_nil)) (by decide)
  refine ⟨.f (.lst L), .lst L, e, .inr rfl, okq_l fun x hx => (q x hx).1, ?_⟩
  rw [wq]
  have := wqs_le (U := 91) (L := L) fun x hx => (q x hx).2
  rw [l] at this
  omega
theorem val_add {k : Nat} {Ar : Ax} {Q : List D} (h4 : ρ[3]? = some (some (.v (.lst Q)))) (hX : Lm 100 4 300 ρ M Ar k) (hQ : ∀ d ∈ Q, P1 d) (hl : Q.length + k ≤ 1000000) :
    ∃ Q', sSet 3 (eOp addD (eVar 3) (eLst Ar)) ρ M = some (.nx, ρ.set 3 (some (.v (.lst Q'))), M) ∧ (∀ d ∈ Q', P1 d) ∧ Q'.length = Q.length + k := by
  obtain ⟨S, eS, qS, lS⟩ := lst_lm hX (by omega)
  have ad : addD (.lst Q) (.lst S) = some (.f (.lst (Q ++ S))) := by
    show (if Q.length + S.length ≤ 1000000 then _ else none) = _
    rw [if_pos (by omega)]
  refine ⟨Q ++ S, set_at (i := 3) (w := .f (.lst (Q ++ S))) (op_at (g := addD) (a := eVar 3) (b := eLst Ar) (ρ := ρ) (m := M) (m1 := M) (m2 := M) (wa := .v (.lst Q)) (wb := .f (.lst S)) (by unfold eVar; rw [h4]; rfl) eS rfl rfl ad), fun d hd => ?_, by rw [List.length_append]; omega⟩
  rcases List.mem_append.mp hd with z | z
  · exact hQ d z
  · exact qS d z
abbrev eT (A B : List Int) (Q : List D) (x4 x5 x6 x7 x8 : Option W) : Pw.Env := [some (.r 0), some (.v (Lu.tX A)), some (.v (Lu.tX B)), some (.v (.lst Q)), x4, x5, x6, x7, x8, none]
theorem more_at {who : Int} {Q : List D} {x5 x6 x7 x8 : Option W} (hA : ∀ x ∈ A, G x) (hB : ∀ x ∈ B, G x) (lA : A.length ≤ 14) (lB : B.length ≤ 14) (m : Mem) : ∃ (L : List Int) (s' : Lx.St), E_things_2 (eT A B Q (some (.v (.int who))) x5 x6 x7 x8) (stD ns s :: m) = some (.f (.lst (L.map D.int)), stD ns s' :: m) ∧ (∀ x ∈ L, G x) ∧ L.length ≤ 28 := by
  let ρ := eT A B Q (some (.v (.int who))) x5 x6 x7 x8
  have cat : ∀ M, eOp addD (eFg (eVar 1)) (eFg (eVar 2)) ρ M = some (.v (tI (A ++ B)), M) := fun M => catI (L := A) (K := B) rfl rfl (by omega)
  have src : iSeq (eOp addD (eFg (eVar 1)) (eFg (eVar 2))) ρ (stD ns s :: m) = some (.seq ((A ++ B).map D.int), stD ns s :: m) := by
    unfold iSeq
    rw [cat]; rfl
  obtain ⟨acc, m', e, s', L, h1, h2, h3, h4⟩ := Lk.lc_sel (src := iSeq (eOp addD (eFg (eVar 1)) (eFg (eVar 2)))) (t := gN 9) (c := tAnd' (tVal (eOp (eqD false) (eCall K64.F_take (aCons (eVar 0) (aCons (eC (.int 3)) aNil))) (eC (.int 0)))) (tVal (eOp (eqD true) (eVar 9) (eVar 4)))) (f := eVar 9) (vs := [9]) (ρ := ρ) (m := stD ns s :: m) (m1 := stD ns s :: m) (A ++ B) D.int
    (fun k acc M => ∃ (s' : Lx.St) (L : List Int), acc = L.map D.int ∧ M = stD ns s' :: m ∧ (∀ x ∈ L, G x) ∧ L.length ≤ k) src ⟨s, [], rfl, rfl, (fun x hx => nomatch hx), Nat.le_refl _⟩
    (fun k a ha acc M ⟨s', L, h1, h2, h3, h4⟩ => by
      subst h1 h2
      obtain ⟨c, s2, t, _, _⟩ := take_int (ns := ns) (s := s') (b := 3) (by decide) (by decide) m
      let τ : Pw.Env := [some (.r 0), some (.v (Lu.tX A)), some (.v (Lu.tX B)), some (.v (.lst Q)), some (.v (.int who)), x5, x6, x7, x8, some (.v (.int a))]
      have tk : eCall K64.F_take (aCons (eVar 0) (aCons (eC (.int 3)) aNil)) τ (stD ns s' :: m) = some (.v (.int c), stD ns s2 :: m) := call_at (ws := [.r 0, .v (.int 3)]) (m1 := stD ns s' :: m) rfl t
      have t1 : tVal (eOp (eqD false) (eCall K64.F_take (aCons (eVar 0) (aCons (eC (.int 3)) aNil))) (eC (.int 0))) τ (stD ns s' :: m) = some (decide (c = 0), stD ns s2 :: m) := by
        have o := op_at (g := eqD false) (b := eC (.int 0)) (m1 := stD ns s2 :: m) (m2 := stD ns s2 :: m) (wb := .v (.int 0)) tk rfl rfl rfl (show eqD false (.int c) (.int 0) = some (.v (.bl (decide (c = 0)))) by rw [eq_i, Bool.bne_false])
        unfold tVal
        rw [o]; rfl
      have t2 : tVal (eOp (eqD true) (eVar 9) (eVar 4)) τ (stD ns s2 :: m) = some (!decide (a = who), stD ns s2 :: m) := val_at (op_at (m1 := stD ns s2 :: m) (m2 := stD ns s2 :: m) (wa := .v (.int a)) (wb := .v (.int who)) rfl rfl rfl rfl (by rw [eq_i, Bool.bne_true]))
      have ga : G a := by
        rcases List.mem_append.mp (List.mem_of_getElem? ha) with z | z
        · exact hA a z
        · exact hB a z
      refine ⟨τ, decide (c = 0) && !decide (a = who), stD ns s2 :: m, rfl, ?_, fun _ => ⟨.v (.int a), .int a, rfl, rfl, s2, L ++ [a], by rw [List.map_append]; rfl, rfl, fun x hx => ?_, by simp; omega⟩, fun _ => ⟨s2, L, rfl, rfl, h3, by omega⟩⟩
      · unfold tAnd'
        rw [t1]
        cases decide (c = 0) with
        | true => simpa using t2
        | false => rfl
      · rcases List.mem_append.mp hx with z | z
        · exact h3 x z
        · rw [List.mem_singleton.mp z]; exact ga) (by rw [List.length_append]; omega)
  subst h1 h2
  exact ⟨L, s', e, h3, by rw [List.length_append] at h4; omega⟩
end
end K64
end
section
set_option Elab.async false
set_option linter.all false
set_option maxRecDepth 100000
set_option maxHeartbeats 1000000
namespace K64
open PySem L2 Pw Pv Lx Ls Lq Lo Lv Od
section
variable {A B : List Int} {ns : List Int} {s : Lx.St} {m : Mem}
theorem last_i {L : List Int} (h : L ≠ []) : ∃ z, z ∈ L ∧ ixD (tI L) (.int (-1)) = some (.v (.int z)) := by
  obtain ⟨L0, z, rfl⟩ : ∃ L0 z, L = L0 ++ [z] := ⟨L.dropLast, L.getLast h, (List.dropLast_concat_getLast h).symm⟩
  refine ⟨z, by simp, ?_⟩
  show (atI ((L0 ++ [z]).map D.int) (-1)).bind _ = _
  rw [List.map_append]
  show (atI (L0.map D.int ++ [D.int z]) (-1)).bind _ = _
  rw [at_last]; rfl
theorem eight_ix {z c : Int} (hz : G z) (h0 : 0 ≤ c) (h1 : c < 8) : ∃ d, ixD (.lst [.int 61, .int (-1), .int 60, .bl true, .non, .str "0", .int z, .tup [.int 0]]) (.int c) = some (.v d) ∧ okq 100 1 d = true ∧ wq d ≤ 3 := by
  have : c = 0 ∨ c = 1 ∨ c = 2 ∨ c = 3 ∨ c = 4 ∨ c = 5 ∨ c = 6 ∨ c = 7 := by omega
  rcases this with rfl | rfl | rfl | rfl | rfl | rfl | rfl | rfl
  · exact ⟨_, rfl, by decide +kernel, by decide +kernel⟩
  · exact ⟨_, rfl, by decide +kernel, by decide +kernel⟩
  · exact ⟨_, rfl, by decide +kernel, by decide +kernel⟩
  · exact ⟨_, rfl, by decide +kernel, by decide +kernel⟩
  · exact ⟨_, rfl, by decide +kernel, by decide +kernel⟩
  · exact ⟨_, rfl, by decide +kernel, by decide +kernel⟩
  · exact ⟨_, rfl, okq_i (by omega), by rw [wq_i]; omega⟩
  · exact ⟨_, rfl, by decide +kernel, by decide +kernel⟩
theorem turn {who : Int} {Q : List D} (hA : ∀ x ∈ A, G x) (hB : ∀ x ∈ B, G x) (lA : A.length ≤ 14) (lB : B.length ≤ 14) (wA : who ∈ A) (wB : who ∈ B) (hQ : ∀ d ∈ Q, P1 d) (hl : Q.length ≤ 1000) (m : Mem) :
    ∃ (ρ2 : Pw.Env) (s' : Lx.St) (Q' : List D), L_things_1 (eT A B Q (some (.v (.int who))) none none none none) (stD ns s :: m) = some (.nx, ρ2, stD ns s' :: m) ∧ wipeD ρ2 [4, 5, 6, 7, 8] = eT A B Q' none none none none none ∧ (∀ d ∈ Q', P1 d) ∧ Q'.length ≤ Q.length + 14 := by
  have gw := hA who wA
  let M0 : Mem := stD ns s :: m
  let E0 := eT A B Q (some (.v (.int who))) none none none none
  obtain ⟨k1, hk1⟩ : ∃ k : Nat, idxTD (.v (Lu.tX A)) [.v (.int who)] M0 = some (.v (nD k), M0) := ⟨_, Lu.idx_tx wA⟩
  obtain ⟨k2, hk2⟩ : ∃ k : Nat, idxTD (.v (Lu.tX B)) [.v (.int who)] M0 = some (.v (nD k), M0) := ⟨_, Lu.idx_tx wB⟩
  have ia : eMt isTx idxTD (eVar 1) (aCons (eVar 4) aNil) E0 M0 = some (.v (nD k1), M0) := hk1
  have ib : eMt isTx idxTD (eVar 2) (aCons (eVar 4) aNil) E0 M0 = some (.v (nD k2), M0) := hk2
  let Z := sortU iLt (A.take k1 ++ B.take k2)
  have lz : Z.length ≤ 28 := by
    have := sortU_len (lt := iLt) (A.take k1 ++ B.take k2)
    rw [List.length_append, List.length_take, List.length_take] at this
    show (sortU iLt (A.take k1 ++ B.take k2)).length ≤ 28
    omega
  have gz : ∀ i ∈ Z, G i := ss_g fun i hi => by
    rcases List.mem_append.mp hi with z | z
    · exact hA i (List.mem_of_mem_take z)
    · exact hB i (List.mem_of_mem_take z)
  have b1 : sSet 5 (eCB tupleD (aCons (eCB sortSetD (aCons (eOp addD (eSlc (eFg (eVar 1)) oNone (oSome (eMt isTx idxTD (eVar 1) (aCons (eVar 4) aNil)))) (eSlc (eFg (eVar 2)) oNone (oSome (eMt isTx idxTD (eVar 2) (aCons (eVar 4) aNil))))) aNil)) aNil)) E0 M0 = some (.nx, eT A B Q (some (.v (.int who))) (some (.v (tI Z))) none none none, M0) :=
    set_at (i := 5) (w := .v (tI Z)) (ss_at (catI (upI (L := A) rfl ia) (upI (L := B) rfl ib) (by rw [List.length_take, List.length_take]; omega)) (by rw [List.length_append, List.length_take, List.length_take]; omega))
  obtain ⟨L, s1, eL, gL, lL⟩ := more_at (ns := ns) (s := s) (Q := Q) (who := who) (x5 := some (.v (tI Z))) (x6 := none) (x7 := none) (x8 := none) hA hB lA lB m
  let M1 : Mem := stD ns s1 :: m
  let E2 := eT A B Q (some (.v (.int who))) (some (.v (tI Z))) (some (.v (.lst (L.map D.int)))) none none
  have b2 : sSet 6 E_things_2 (eT A B Q (some (.v (.int who))) (some (.v (tI Z))) none none none) M0 = some (.nx, E2, M1) := set_at (i := 6) (w := .f (.lst (L.map D.int))) eL
  -- what the names hold
  have sw : ∀ {ρ : Pw.Env} {M : Mem}, ρ[4]? = some (some (.v (.int who))) → Sm 100 3 91 ρ M (eVar 4) := fun h => sm_var h ⟨okq_i (by omega), by rw [wq_i]; decide⟩
  have sz : ∀ {ρ : Pw.Env} {M : Mem}, ρ[5]? = some (some (.v (tI Z))) → Sm 100 3 91 ρ M (eVar 5) := fun {ρ M} h => smI (L := Z) (by unfold eVar; rw [h]; rfl) gz (by omega)
  have n1 : ∀ {ρ : Pw.Env} {M : Mem}, Sm 100 3 91 ρ M (eUn negD (eC (.int 1))) := sm_le (sm_neg (C := 100) (n := 3) (by decide)) (Nat.le_refl _) (Nat.le_refl _) (by decide)
  have gzw : ∀ {K : List Int}, (∀ i ∈ K, G i) → ∀ i ∈ Z ++ K, G i := fun hK i hi => by
    rcases List.mem_append.mp hi with z | z
    · exact gz i z
    · exact hK i z
  have e2a : eCB tupleD (aCons (eCB sortSetD (aCons (eOp addD (eVar 5) (eCB tupleD (aCons (eVar 6) aNil))) aNil)) aNil) E2 M1 = some (.v (tI (sortU iLt (Z ++ L))), M1) := ss_at (catI (L := Z) (K := L) rfl rfl (by omega)) (by rw [List.length_append]; omega)
  have l2a := sortU_len (lt := iLt) (Z ++ L)
  rw [List.length_append] at l2a
  obtain ⟨Q1, b3, q1, c1⟩ := val_add (ρ := E2) (M := M1) (Q := Q) rfl (lm_cons (two_sm (sz rfl) (sw rfl)) (lm_cons (two_sm (smI e2a (ss_g (gzw gL)) (by omega)) (sw rfl)) (lm_cons (two_sm (sz rfl) n1) (lm_cons (lst_sm (sz rfl) (sw rfl)) lm_nil)))) hQ (by omega)
  let E3 := eT A B Q1 (some (.v (.int who))) (some (.v (tI Z))) (some (.v (.lst (L.map D.int)))) none none
  have e3a : eCB tupleD (aCons (eCB sortSetD (aCons (eOp addD (eVar 5) (eTup (aCons (eVar 4) aNil))) aNil)) aNil) E3 M1 = some (.v (tI (sortU iLt (Z ++ [who]))), M1) := ss_at (catI (L := Z) (K := [who]) rfl rfl (by simp; omega)) (by rw [List.length_append]; simp; omega)
  have l3a := sortU_len (lt := iLt) (Z ++ [who])
  rw [List.length_append, List.length_singleton] at l3a
  have g1 : ∀ i ∈ [who], G i := fun i hi => by rw [List.mem_singleton.mp hi]; exact gw
  have ld : Sm 100 3 91 E3 M1 (eCB listD (aCons (eVar 5) aNil)) := by
    have p := ints_pt gz (by omega)
    obtain ⟨_, e0, q⟩ := okq_tup p.1
    cases e0
    refine ⟨.f (.lst (Z.map D.int)), _, rfl, .inr rfl, okq_le (Nat.le_refl _) (okq_l q) (by decide), ?_⟩
    have e1 : wq (.tup (Z.map D.int)) = 1 + wqs (Z.map D.int) := by rw [wq]
    have e2 : wq (.lst (Z.map D.int)) = 1 + wqs (Z.map D.int) := by rw [wq]
    have p2 : wq (.tup (Z.map D.int)) ≤ 91 := p.2
    rw [e1] at p2
    show wq (.lst (Z.map D.int)) ≤ 91
    rw [e2]
    exact p2
  obtain ⟨Q2, b4, q2, c2⟩ := val_add (ρ := E3) (M := M1) (Q := Q1) rfl (lm_cons (two_sm (smI e3a (ss_g (gzw g1)) (by omega)) (sw rfl)) (lm_cons (three_sm (sz rfl) (sw rfl) (sw rfl)) (lm_cons (two_sm ld (sw rfl)) lm_nil))) q1 (by omega)
  let E4 := eT A B Q2 (some (.v (.int who))) (some (.v (tI Z))) (some (.v (.lst (L.map D.int)))) none none
  obtain ⟨a, s2, t2, ha⟩ := take_nat (ns := ns) (s := s1) (n := Z.length + 1) (by omega) (by omega) m
  let M2 : Mem := stD ns s2 :: m
  let E5 := eT A B Q2 (some (.v (.int who))) (some (.v (tI Z))) (some (.v (.lst (L.map D.int)))) (some (.v (nD a))) none
  have b5 : sSet 7 (eCall K64.F_take (aCons (eVar 0) (aCons (eOp addD (eCB lenD (aCons (eVar 5) aNil)) (eC (.int 1))) aNil))) E4 M1 = some (.nx, E5, M2) := by
    have t2' : K64.F_take [.r 0, .v (.int ((Z.length + 1 : Nat) : Int))] M1 = some (.v (nD a), M2) := t2
    refine set_at (i := 7) (w := .v (nD a)) (call_at (ws := [.r 0, .v (.int ((Z.length + 1 : Nat) : Int))]) (m1 := M1) ?_ t2')
    have ln : eCB lenD (aCons (eVar 5) aNil) E4 M1 = some (.v (.int (Z.length : Int)), M1) := by
      have : lenD [tI Z] = some (.v (.int (Z.length : Int))) := by
        show some (W.v (.int ((Z.map D.int).length : Int))) = _
        rw [List.length_map]
      have e5 : eVar 5 E4 M1 = some (.v (tI Z), M1) := rfl
      generalize tI Z = T at *
      simp only [eCB, aCons, aNil, e5, Option.bind_some, stl, gts, gt, this]
    have ad : eOp addD (eCB lenD (aCons (eVar 5) aNil)) (eC (.int 1)) E4 M1 = some (.v (.int ((Z.length + 1 : Nat) : Int)), M1) := by
      refine op_at (m1 := M1) (m2 := M1) (wb := .v (.int 1)) ln rfl rfl rfl ?_
      show some (W.v (.int ((Z.length : Int) + 1))) = some (W.v (.int ((Z.length + 1 : Nat) : Int)))
      congr 3
    have e0 : eVar 0 E4 M1 = some (.r 0, M1) := rfl
    generalize eOp addD (eCB lenD (aCons (eVar 5) aNil)) (eC (.int 1)) = X at ad
    simp only [aCons, aNil, e0, ad, Option.bind_some, stl]
  obtain ⟨z, mz, iz⟩ := last_i (L := A) (List.ne_nil_of_mem wA)
  obtain ⟨zb, mzb, izb⟩ := last_i (L := B) (List.ne_nil_of_mem wB)
  obtain ⟨c8, s3, t3, u0, u1⟩ := take_int (ns := ns) (s := s2) (b := 8) (by decide) (by decide) m
  obtain ⟨od, ix8, ok8, wq8⟩ := eight_ix (hA z mz) u0 u1
  let M3 : Mem := stD ns s3 :: m
  let E6 := eT A B Q2 (some (.v (.int who))) (some (.v (tI Z))) (some (.v (.lst (L.map D.int)))) (some (.v (nD a))) (some (.v od))
  have b6 : sSet 8 (eOp ixD (eLst (aCons (eC (.int 61)) (aCons (eUn negD (eC (.int 1))) (aCons (eC (.int 60)) (aCons (eC (.bl true)) (aCons (eC .non) (aCons (eC (.str "0")) (aCons (eOp ixD (eFg (eVar 1)) (eUn negD (eC (.int 1)))) (aCons (eTup (aCons (eC (.int 0)) aNil)) aNil))))))))) (eCall K64.F_take (aCons (eVar 0) (aCons (eC (.int 8)) aNil)))) E5 M2 = some (.nx, E6, M3) := by
    have y0 : eOp ixD (eFg (eVar 1)) (eUn negD (eC (.int 1))) E5 M2 = some (.v (.int z), M2) := op_at (m1 := M2) (m2 := M2) (wa := .v (tI A)) (wb := .v (.int (-1))) rfl rfl rfl rfl iz
    have y1 : eLst (aCons (eC (.int 61)) (aCons (eUn negD (eC (.int 1))) (aCons (eC (.int 60)) (aCons (eC (.bl true)) (aCons (eC .non) (aCons (eC (.str "0")) (aCons (eOp ixD (eFg (eVar 1)) (eUn negD (eC (.int 1)))) (aCons (eTup (aCons (eC (.int 0)) aNil)) aNil)))))))) E5 M2 = some (.f (.lst [.int 61, .int (-1), .int 60, .bl true, .non, .str "0", .int z, .tup [.int 0]]), M2) := by
      generalize eOp ixD (eFg (eVar 1)) (eUn negD (eC (.int 1))) = X at y0
      generalize M2 = MM at *
      generalize E5 = EE at *
      simp [eLst, aCons, aNil, eC, eUn, eTup, y0, stl]
    have tk : eCall K64.F_take (aCons (eVar 0) (aCons (eC (.int 8)) aNil)) E5 M2 = some (.v (.int c8), M3) := call_at (ws := [.r 0, .v (.int 8)]) (m1 := M2) rfl t3
    exact set_at (i := 8) (w := .v od) (op_at (m1 := M2) (m2 := M3) y1 tk rfl rfl ix8)
  have v7 : ∀ (Q : List D), eVar 7 (eT A B Q (some (.v (.int who))) (some (.v (tI Z))) (some (.v (.lst (L.map D.int)))) (some (.v (nD a))) (some (.v od))) M3 = some (.v (nD a), M3) := fun Q => rfl
  have v71 : ∀ (Q : List D), eOp addD (eVar 7) (eC (.int 1)) (eT A B Q (some (.v (.int who))) (some (.v (tI Z))) (some (.v (.lst (L.map D.int)))) (some (.v (nD a))) (some (.v od))) M3 = some (.v (nD (a + 1)), M3) := fun Q => by
    refine op_at (m1 := M3) (m2 := M3) (wa := .v (nD a)) (wb := .v (.int 1)) rfl rfl rfl rfl ?_
    show some (W.v (.int ((a : Int) + 1))) = some (W.v (.int ((a + 1 : Nat) : Int)))
    congr 3
  have gt : ∀ k j, ∀ i ∈ Z.take k ++ Z.drop j, G i := fun k j i hi => by
    rcases List.mem_append.mp hi with z | z
    · exact gz i (List.mem_of_mem_take z)
    · exact gz i (List.mem_of_mem_drop z)
  have x1 := catI (upI (L := Z) (Z := eVar 5) (ρ := E6) (M := M3) rfl (v7 _)) (dnI (L := Z) (Z := eVar 5) rfl (v71 _)) (by rw [List.length_take, List.length_drop]; omega)
  have x2 := catI (upI (L := Z) (Z := eVar 5) (ρ := E6) (M := M3) rfl (v71 _)) (dnI (L := Z) (Z := eVar 5) rfl (v7 _)) (by rw [List.length_take, List.length_drop]; omega)
  obtain ⟨Q3, b7, q3, c3⟩ := val_add (ρ := E6) (M := M3) (Q := Q2) rfl (lm_cons (two_sm (smI x1 (gt _ _) (by rw [List.length_append, List.length_take, List.length_drop]; omega)) (sw rfl)) (lm_cons (two_sm (smI x2 (gt _ _) (by rw [List.length_append, List.length_take, List.length_drop]; omega)) (sw rfl)) lm_nil)) q2 (by omega)
  let E7 := eT A B Q3 (some (.v (.int who))) (some (.v (tI Z))) (some (.v (.lst (L.map D.int)))) (some (.v (nD a))) (some (.v od))
  have rv : Sm 100 3 91 E7 M3 (eUn revTD (eVar 5)) := smI (L := Z.reverse) (by show some (W.v (.tup (Z.map D.int).reverse), M3) = _; rw [← List.map_reverse]) (fun i hi => gz i (List.mem_reverse.mp hi)) (by rw [List.length_reverse]; omega)
  have mid : Sm 100 3 91 E7 M3 (eOp addD (eOp addD (eSlc (eVar 5) oNone (oSome (eVar 7))) (eTup (aCons (eVar 8) aNil))) (eSlc (eVar 5) (oSome (eVar 7)) oNone)) := by
    have y1 := upI (L := Z) (Z := eVar 5) (ρ := E7) (M := M3) rfl (v7 _)
    have y2 := dnI (L := Z) (Z := eVar 5) (ρ := E7) (M := M3) rfl (v7 _)
    have v8 : eVar 8 E7 M3 = some (.v od, M3) := rfl
    have y3 := cat_at (cat_at' y1 (one_at v8 (.inl rfl)) (by simp; omega)) y2 (by simp; omega)
    have p1 := ints_pt (L := Z.take a) (fun i hi => gz i (List.mem_of_mem_take hi)) (by rw [List.length_take]; omega)
    have p2 := ints_pt (L := Z.drop a) (fun i hi => gz i (List.mem_of_mem_drop hi)) (by rw [List.length_drop]; omega)
    obtain ⟨_, e1, k1⟩ := okq_tup p1.1
    cases e1
    obtain ⟨_, e2, k2⟩ := okq_tup p2.1
    cases e2
    refine ⟨_, _, y3, .inl rfl, okq_le (Nat.le_refl _) (okq_t (n := 1) fun x hx => ?_) (by decide), ?_⟩
    · rcases List.mem_append.mp hx with z | z
      · rcases List.mem_append.mp z with z | z
        · exact okq_le (Nat.le_refl _) (k1 x z) (by decide)
        · rw [List.mem_singleton.mp z]; exact ok8
      · exact okq_le (Nat.le_refl _) (k2 x z) (by decide)
    · have w1 := wqs_le (U := 1) (L := (Z.take a).map D.int) fun x hx => by
        obtain ⟨i, _, rfl⟩ := List.mem_map.mp hx
        rw [wq_i]; exact Nat.le_refl _
      have w2 := wqs_le (U := 1) (L := (Z.drop a).map D.int) fun x hx => by
        obtain ⟨i, _, rfl⟩ := List.mem_map.mp hx
        rw [wq_i]; exact Nat.le_refl _
      rw [List.length_map, List.length_take] at w1
      rw [List.length_map, List.length_drop] at w2
      rw [wq, wqs_app, wqs_app, wqs, wqs]; omega
  obtain ⟨Q4, b8, q4, c4⟩ := val_add (ρ := E7) (M := M3) (Q := Q3) rfl (lm_cons (two_sm rv (sw rfl)) (lm_cons (two_sm mid (sw rfl)) lm_nil)) q3 (by omega)
  let E8 := eT A B Q4 (some (.v (.int who))) (some (.v (tI Z))) (some (.v (.lst (L.map D.int)))) (some (.v (nD a))) (some (.v od))
  have lb : Sm 100 3 91 E8 M3 (eOp ixD (eFg (eVar 2)) (eUn negD (eC (.int 1)))) := by
    have gb := hB zb mzb
    exact ⟨_, _, op_at (m1 := M3) (m2 := M3) (wa := .v (tI B)) (wb := .v (.int (-1))) rfl rfl rfl rfl izb, .inl rfl, okq_i (by omega), by rw [wq_i]; decide⟩
  have bo : Sm 100 3 91 E8 M3 (eCB boolD (aCons (eVar 4) aNil)) := ⟨.v (.bl (who != 0)), _, rfl, .inl rfl, okq_b, by unfold wq; decide⟩
  have on : Sm 100 4 300 E8 M3 (eTup (aCons (eVar 5) aNil)) := sm_le (sm_tup (lm_cons (sz rfl) lm_nil) (by decide)) (Nat.le_refl _) (Nat.le_refl _) (by decide)
  obtain ⟨Q5, b9, q5, c5⟩ := val_add (ρ := E8) (M := M3) (Q := Q4) rfl (lm_cons (two_sm (sz rfl) lb) (lm_cons (two_sm (sz rfl) bo) (lm_cons on lm_nil))) q4 (by omega)
  refine ⟨_, s3, Q5, seq_at b1 (seq_at b2 (seq_at b3 (seq_at b4 (seq_at b5 (seq_at b6 (seq_at b7 (seq_at b8 b9))))))), rfl, q5, by omega⟩
end
end K64
end
section
set_option Elab.async false
set_option linter.all false
set_option maxRecDepth 100000
set_option maxHeartbeats 400000
namespace K64
open PySem L2 Pw Pv Lx Ls Lq Lo Lv Od
section
variable {A B : List Int} {ns : List Int} {s : Lx.St} {m : Mem}
theorem things_spec (hA : ∀ x ∈ A, G x) (hB : ∀ x ∈ B, G x) (lA : A.length ≤ 14) (lB : B.length ≤ 14) (m : Mem) :
    ∃ (Q : List D) (s' : Lx.St), K64.F_things [.r 0, .v (Lu.tX A), .v (Lu.tX B)] (stD ns s :: m) = some (.v (.lst Q), stD ns s' :: m) ∧ (∀ d ∈ Q, P1 d) ∧ Q.length ≤ 1000 := by
  let M0 : Mem := stD ns s :: m
  let E0 : Pw.Env := [some (.r 0), some (.v (Lu.tX A)), some (.v (Lu.tX B)), none, none, none, none, none, none, none]
  have em : ∀ {ρ : Pw.Env} {M : Mem}, Sm 100 3 91 ρ M (eTup aNil) := fun {ρ M} => ⟨.v (.tup []), _, rfl, .inl rfl, okq_t okq_nil, by rw [wq, wqs]; decide⟩
  have n1 : ∀ {ρ : Pw.Env} {M : Mem}, Sm 100 3 91 ρ M (eUn negD (eC (.int 1))) := fun {ρ M} => sm_le (sm_neg (C := 100) (n := 3) (by decide)) (Nat.le_refl _) (Nat.le_refl _) (by decide)
  have gab : ∀ i ∈ A ++ B, G i := fun i hi => by
    rcases List.mem_append.mp hi with z | z
    · exact hA i z
    · exact hB i z
  have x1 : eOp addD (eFg (eVar 1)) (eFg (eVar 2)) E0 M0 = some (.v (tI (A ++ B)), M0) := catI (L := A) (K := B) rfl rfl (by omega)
  have x2 : eOp addD (eOp addD (eFg (eVar 1)) (eFg (eVar 2))) (eTup (aCons (eC (.int 0)) aNil)) E0 M0 = some (.v (tI ((A ++ B) ++ [0])), M0) := catI (K := [0]) x1 rfl (by rw [List.length_append]; simp; omega)
  obtain ⟨h, hh, ih⟩ : ∃ h : Int, G h ∧ ixD (tI ((A ++ B) ++ [0])) (.int 0) = some (.v (.int h)) := by
    cases hL : (A ++ B) ++ [0] with
    | nil => simp at hL
    | cons i L =>
      refine ⟨i, ?_, ?_⟩
      · have : i ∈ (A ++ B) ++ [0] := by rw [hL]; simp
        rcases List.mem_append.mp this with z | z
        · exact gab i z
        · rw [List.mem_singleton.mp z]; exact ⟨by omega, by omega⟩
      · show (atI (D.int i :: L.map D.int) 0).bind _ = _
        rw [at0]; rfl
  have x3 : Sm 100 3 91 E0 M0 (eOp ixD (eOp addD (eOp addD (eFg (eVar 1)) (eFg (eVar 2))) (eTup (aCons (eC (.int 0)) aNil))) (eC (.int 0))) := ⟨_, _, op_at (m1 := M0) (m2 := M0) (wb := .v (.int 0)) x2 rfl rfl rfl ih, .inl rfl, okq_i (by omega), by rw [wq_i]; decide⟩
  have sl := sortU_len (lt := iLt) (A ++ B)
  rw [List.length_append] at sl
  have x4 : Sm 100 3 91 E0 M0 (eCB tupleD (aCons (eCB sortSetD (aCons (eOp addD (eFg (eVar 1)) (eFg (eVar 2))) aNil)) aNil)) := smI (ss_at x1 (by rw [List.length_append]; omega)) (ss_g gab) (by omega)
  obtain ⟨S, eS, qS, lS⟩ := lst_lm (lm_cons (two_sm em n1) (lm_cons (two_sm em x3) (lm_cons (two_sm x4 n1) (lm_cons (sm_le em (Nat.le_refl _) (by decide) (by decide)) (lm_cons (sm_le (sm_non (C := 100) (n := 3)) (Nat.le_refl _) (by decide) (by decide)) lm_nil))))) (by decide)
  let E1 := eT A B S none none none none none
  have b1 := set_at (i := 3) eS
  -- the odd one
  obtain ⟨c, s1, t1, u0, u1⟩ := take_int (ns := ns) (s := s) (b := 19) (by decide) (by decide) m
  let M1 : Mem := stD ns s1 :: m
  obtain ⟨d, od, k1, k2⟩ := odd_spec u0 u1 M1
  have tk : eCall K64.F_take (aCons (eVar 0) (aCons (eC (.int 19)) aNil)) E1 M0 = some (.v (.int c), M1) := call_at (ws := [.r 0, .v (.int 19)]) (m1 := M0) rfl t1
  have y1 : eCall K64.F_odd (aCons (eCall K64.F_take (aCons (eVar 0) (aCons (eC (.int 19)) aNil))) aNil) E1 M0 = some (.v d, M1) := by
    refine call_at (ws := [.v (.int c)]) (m1 := M1) ?_ od
    generalize eCall K64.F_take (aCons (eVar 0) (aCons (eC (.int 19)) aNil)) = X at tk
    simp only [aCons, aNil, tk, Option.bind_some, stl]
  let S2 : List D := [d, .tup [.tup [], .bl true]]
  have y2 : eLst (aCons (eCall K64.F_odd (aCons (eCall K64.F_take (aCons (eVar 0) (aCons (eC (.int 19)) aNil))) aNil)) (aCons (eTup (aCons (eTup aNil) (aCons (eC (.bl true)) aNil))) aNil)) E1 M0 = some (.f (.lst S2), M1) := by
    have y3 : eTup (aCons (eTup aNil) (aCons (eC (.bl true)) aNil)) E1 M1 = some (.v (.tup [.tup [], .bl true]), M1) := rfl
    generalize eCall K64.F_odd (aCons (eCall K64.F_take (aCons (eVar 0) (aCons (eC (.int 19)) aNil))) aNil) = X at y1
    generalize eTup (aCons (eTup aNil) (aCons (eC (.bl true)) aNil)) = Y at y3
    generalize M0 = MM at *
    generalize M1 = MN at *
    generalize E1 = EE at *
    simp [eLst, aCons, aNil, y1, y3, stl, S2]
  have ad : addD (.lst S) (.lst S2) = some (.f (.lst (S ++ S2))) := by
    have : S2.length = 2 := rfl
    show (if S.length + S2.length ≤ 1000000 then _ else none) = _
    rw [if_pos (by omega)]
  have b2 := set_at (i := 3) (op_at (g := addD) (a := eVar 3) (ρ := E1) (m := M0) (m1 := M0) (m2 := M1) (wa := .v (.lst S)) (wb := .f (.lst S2)) rfl y2 rfl rfl ad)
  have qT : ∀ x ∈ S ++ S2, P1 x := fun x hx => by
    rcases List.mem_append.mp hx with z | z
    · exact qS x z
    · simp only [S2, List.mem_cons, List.not_mem_nil, or_false] at z
      rcases z with rfl | rfl
      · exact ⟨okq_le (by decide) k1 (by decide), by omega⟩
      · exact ⟨okq_t (okq_cons (okq_t okq_nil) (okq_cons okq_b okq_nil)), by simp only [wq, wqs]; decide⟩
  have lT : (S ++ S2).length = 7 := by rw [List.length_append, lS]; rfl
  generalize S ++ S2 = T at b2 qT lT
  let E2 := eT A B T none none none none none
  let WW := (A.filter fun i => decide (i ∈ B)).take 4
  have lcE : E_things_1 E2 M1 = some (.f (.lst ((A.filter fun i => decide (i ∈ B)).map D.int)), M1) := by
    exact lc_map (src := iSeq (eFg (eVar 1))) (t := gN 9) (vs := [9]) (c := tVal (eOp (inD false) (eVar 9) (eFg (eVar 2)))) (f := eVar 9) (ρ := E2) (m := M1) (m1 := M1) A D.int (fun i => decide (i ∈ B)) D.int rfl (fun x _ => ⟨_, rfl, val_at (op_at (m1 := M1) (m2 := M1) (wa := .v (.int x)) (wb := .v (tI B)) rfl rfl rfl rfl (by rw [Lm.in_tup, Bool.bne_false])), fun _ => ⟨.v (.int x), rfl, rfl⟩⟩) (by omega)
  have src : iSeq (eSlc E_things_1 oNone (oSome (eC (.int 4)))) E2 M1 = some (.seq (WW.map D.int), M1) := by
    have sd : slcD (.lst ((A.filter fun i => decide (i ∈ B)).map D.int)) none (some 4) = some (.f (.lst (WW.map D.int))) := by
      have c1 : cutD ((A.filter fun i => decide (i ∈ B)).map D.int) none (some ((4 : Nat) : Int)) = ((A.filter fun i => decide (i ∈ B)).map D.int).take 4 := cut_up
      show some (W.f (.lst (cutD ((A.filter fun i => decide (i ∈ B)).map D.int) none (some ((4 : Nat) : Int))))) = _
      rw [c1, ← List.map_take]
    generalize E_things_1 = X at lcE
    generalize (A.filter fun i => decide (i ∈ B)).map D.int = T1 at lcE sd
    generalize WW.map D.int = T2 at *
    simp [iSeq, eSlc, lcE, oNone, oSome, eC, inD', sd]
  obtain ⟨ρ3, M3, b3, s3, Q, h1, h2, h3, h4⟩ := for_inv (t := gN 4) (b := L_things_1) (dd := [4, 5, 6, 7, 8]) WW D.int
    (fun k ρ M => ∃ (s' : Lx.St) (Q : List D), ρ = eT A B Q none none none none none ∧ M = stD ns s' :: m ∧ (∀ d ∈ Q, P1 d) ∧ Q.length ≤ 7 + 14 * k) src ⟨s1, T, rfl, rfl, qT, by omega⟩
    (fun k w hw ρ M ⟨s', Q, h1, h2, h3, h4⟩ => by
      have mw := List.mem_of_getElem? hw
      have mw2 := List.mem_filter.mp (List.mem_of_mem_take mw)
      have hk : k < 4 := by
        have := (List.getElem?_eq_some_iff.mp hw).1
        have : WW.length ≤ 4 := List.length_take_le _ _
        omega
      subst h1 h2
      obtain ⟨ρ2, s2, Q2, t1, t2, t3, t4⟩ := turn (ns := ns) (s := s') (who := w) (Q := Q) hA hB lA lB mw2.1 (of_decide_eq_true mw2.2) h3 (by omega) m
      exact ⟨_, ρ2, _, rfl, t1, s2, Q2, t2, rfl, t3, by omega⟩)
  subst h1 h2
  have lW : WW.length ≤ 4 := List.length_take_le _ _
  exact ⟨Q, s3, run_eq (ρ := eT A B Q none none none none none) (m' := stD ns s3 :: m) (w := .v (.lst Q)) rfl (seq_at b1 (seq_at b2 (seq_at b3 rfl))) (by simp [outW]), h3, by omega⟩
end
end K64
end
section
set_option Elab.async false
set_option linter.all false
set_option maxRecDepth 100000
set_option maxHeartbeats 400000
namespace K64
open PySem L2 Pw Pv Lx Ls Lq Lo Lv Od
theorem pool_is : K64.F_pool = Lq.F_pool := rfl
theorem two_is : K64.F_two_orders = Lu.F_two_orders := rfl
section
variable {A B : List Int} {ns : List Int} {s : Lx.St}
abbrev eL (ns : List Int) (t x3 x4 x5 x6 x7 : Option W) : Pw.Env := [some (.v (.fl (ns.map .int))), some (.r 0), t, x3, x4, x5, x6, x7]
theorem says_at (b : Bool) (m : Mem) : K64.F_says [.v (.bl b), .v (.bl b)] m = some (.v (.bl true), m) := by
  let ρ : Pw.Env := [some (.v (.bl b)), some (.v (.bl b))]
  have t : tTru (eVar 1) ρ m = some (b, m) := tru_at rfl
  cases b with
  | true => exact run_eq (ρ := ρ) (m' := m) (w := .v (.bl true)) rfl (Lp.seq_ret (Lb.if_t t rfl)) (by simp [outW])
  | false => exact run_eq (ρ := ρ) (m' := m) (w := .v (.bl true)) rfl (seq_at (Lb.if_f t) rfl) (by simp [outW])
theorem one_thing {t : Option W} {d : D} (hA : ∀ x ∈ A, G x) (hB : ∀ x ∈ B, G x) (lA : A.length ≤ 14) (lB : B.length ≤ 14) (hd : P1 d) (M : Mem) :
    ∃ ρ2, L_law_1 (eL ns t (some (.v d)) (some (.v (Lu.tX A))) (some (.v (Lu.tX B))) none none) M = some (.nx, ρ2, M) ∧ wipeD ρ2 [3, 6, 7] = eL ns t none (some (.v (Lu.tX A))) (some (.v (Lu.tX B))) none none := by
  have hw := hd.2
  obtain ⟨tx, ht⟩ := reprQ_ex hd.1 (by decide) (by decide) (by omega)
  let b := joinX A B d
  have rp : ∀ (ρ : Pw.Env), ρ[3]? = some (some (.v d)) → eCB reprQD (aCons (eVar 3) aNil) ρ M = some (.v (.str tx), M) := fun ρ h => by
    have e : eVar 3 ρ M = some (.v d, M) := by unfold eVar; rw [h]; rfl
    simp only [eCB, aCons, aNil, e, Option.bind_some, stl, gts, gt, ht]
  let ρ1 := eL ns t (some (.v d)) (some (.v (Lu.tX A))) (some (.v (Lu.tX B))) (some (.v (.str tx))) none
  let ρ2 := eL ns t (some (.v d)) (some (.v (Lu.tX A))) (some (.v (Lu.tX B))) (some (.v (.str tx))) (some (.v (.bl b)))
  have a1 : sSet 6 (eCB reprQD (aCons (eVar 3) aNil)) (eL ns t (some (.v d)) (some (.v (Lu.tX A))) (some (.v (Lu.tX B))) none none) M = some (.nx, ρ1, M) := set_at (i := 6) (w := .v (.str tx)) (rp _ rfl)
  have a2 : sSet 7 (eCall K64.F_is_join (aCons (eFg (eVar 4)) (aCons (eFg (eVar 5)) (aCons (eVar 3) aNil)))) ρ1 M = some (.nx, ρ2, M) := set_at (i := 7) (w := .v (.bl b)) (call_at (ws := [.v (tI A), .v (tI B), .v d]) rfl (is_join_any hd.1 (by omega) (by omega) (by omega) (fun x hx => (hA x hx).1) (fun x hx => (hB x hx).1) M))
  have rj : eCall K64.F_right_join (aCons (eFg (eVar 4)) (aCons (eFg (eVar 5)) (aCons (eVar 3) aNil))) ρ2 M = some (.v (.bl b), M) := call_at (ws := [.v (tI A), .v (tI B), .v d]) rfl (right_join_any hd.1 (by omega) (by omega) (by omega) M)
  have ar : aCons (eCall K64.F_right_join (aCons (eFg (eVar 4)) (aCons (eFg (eVar 5)) (aCons (eVar 3) aNil)))) (aCons (eVar 7) aNil) ρ2 M = some ([.v (.bl b), .v (.bl b)], M) := by
    have e7 : eVar 7 ρ2 M = some (.v (.bl b), M) := rfl
    generalize eCall K64.F_right_join (aCons (eFg (eVar 4)) (aCons (eFg (eVar 5)) (aCons (eVar 3) aNil))) = X at rj
    simp only [aCons, aNil, rj, e7, Option.bind_some, stl]
  have t1 := not_at (tru_at (call_at (G := K64.F_says) ar (says_at b M)))
  have t2 := val_at (op_at (g := eqD true) (b := eVar 6) (m1 := M) (m2 := M) (wb := .v (.str tx)) (rp ρ2 rfl) rfl rfl rfl (show eqD true (.str tx) (.str tx) = some (.v (.bl false)) by simp))
  exact ⟨ρ2, seq_at a1 (seq_at a2 (Lb.if_f (or_at t1 t2))), rfl⟩
theorem one_turn {t : Option W} : ∃ (ρ2 : Pw.Env) (s' : Lx.St), L_law_2 (eL ns t none none none none none) [stD ns s] = some (.nx, ρ2, [stD ns s']) ∧ wipeD ρ2 [2, 3, 4, 5, 6, 7] = eL ns none none none none none none := by
  obtain ⟨P, s1, e1, nd, gp, p0, p1⟩ := Lq.pool_spec (ns := ns) (s := s) []
  obtain ⟨A, B, s2, e2, oA, oB, lA, lB⟩ := Lu.two_spec (ns := ns) (s := s1) (most := 14) nd p1 (by decide) (by decide) []
  have e1' : K64.F_pool [.r 0] [stD ns s] = some (.v (lI P), [stD ns s1]) := by rw [pool_is]; exact e1
  have e2' : K64.F_two_orders [.r 0, .v (lI P), .v (.int 14)] [stD ns s1] = some (.f (.lst [Lu.tX A, Lu.tX B]), [stD ns s2]) := by rw [two_is]; exact e2
  have hA : ∀ x ∈ A, G x := fun x hx => gp x (oA.sub x hx)
  have hB : ∀ x ∈ B, G x := fun x hx => gp x (oB.sub x hx)
  let E0 := eL ns t none none none none none
  let E1 := eL ns t none (some (.v (Lu.tX A))) (some (.v (Lu.tX B))) none none
  have c1 : eCall K64.F_pool (aCons (eVar 1) aNil) E0 [stD ns s] = some (.v (lI P), [stD ns s1]) := call_at (ws := [.r 0]) (m1 := [stD ns s]) rfl e1'
  have ar : aCons (eVar 1) (aCons (eCall K64.F_pool (aCons (eVar 1) aNil)) (aCons (eC (.int 14)) aNil)) E0 [stD ns s] = some ([.r 0, .v (lI P), .v (.int 14)], [stD ns s1]) := by
    have e1 : eVar 1 E0 [stD ns s] = some (.r 0, [stD ns s]) := rfl
    generalize eCall K64.F_pool (aCons (eVar 1) aNil) = X at c1
    simp only [aCons, aNil, e1, c1, eC, Option.bind_some, stl]
  have c2 := call_at (G := K64.F_two_orders) ar e2'
  have a1 : sAsg (gTL [gN 4, gN 5]) (eFg (eCall K64.F_two_orders (aCons (eVar 1) (aCons (eCall K64.F_pool (aCons (eVar 1) aNil)) (aCons (eC (.int 14)) aNil))))) E0 [stD ns s] = some (.nx, E1, [stD ns s2]) := by
    generalize eCall K64.F_two_orders (aCons (eVar 1) (aCons (eCall K64.F_pool (aCons (eVar 1) aNil)) (aCons (eC (.int 14)) aNil))) = X at c2
    have c3 : eFg X E0 [stD ns s] = some (.f (.lst [Lu.tX A, Lu.tX B]), [stD ns s2]) := by
      unfold eFg
      rw [c2]; rfl
    unfold sAsg
    rw [c3]
    rfl
  obtain ⟨Q, s3, e3, hQ, lQ⟩ := things_spec (ns := ns) (s := s2) hA hB (by omega) (by omega) []
  have src : iSeq (eCall K64.F_things (aCons (eVar 1) (aCons (eVar 4) (aCons (eVar 5) aNil)))) E1 [stD ns s2] = some (.seq (Q.map fun x => x), [stD ns s3]) := by
    rw [List.map_id']
    have c4 := call_at (G := K64.F_things) (ρ := E1) (f := aCons (eVar 1) (aCons (eVar 4) (aCons (eVar 5) aNil))) (m := [stD ns s2]) (m1 := [stD ns s2]) (ws := [.r 0, .v (Lu.tX A), .v (Lu.tX B)]) rfl e3
    generalize eCall K64.F_things (aCons (eVar 1) (aCons (eVar 4) (aCons (eVar 5) aNil))) = X at c4
    unfold iSeq
    rw [c4]; rfl
  obtain ⟨ρ', M', e4, h1, h2⟩ := for_inv (t := gN 3) (b := L_law_1) (dd := [3, 6, 7]) Q (fun x : D => x) (fun k ρ M => ρ = E1 ∧ M = [stD ns s3]) src ⟨rfl, rfl⟩
    (fun k x hx ρ M ⟨h1, h2⟩ => by
      subst h1 h2
      obtain ⟨ρ2, t1, t2⟩ := one_thing (ns := ns) (t := t) hA hB (by omega) (by omega) (hQ x (List.mem_of_getElem? hx)) [stD ns s3]
      exact ⟨_, ρ2, _, rfl, t1, t2, rfl⟩)
  subst h1 h2
  exact ⟨_, s3, seq_at a1 e4, rfl⟩
end
theorem holds (ns : List Int) (h : ns.length ≤ 63) : ∃ m', F_law [.v (.fl (ns.map .int))] [] = some (.v (.bl true), m') := by
  let s0 : Lx.St := ⟨0, 0, 64, by decide, by decide, by decide, by decide⟩
  have st : ([MO.lst [.fl (ns.map .int), .int 0, .int 0, .int 64]] : Mem) = [stD ns s0] := rfl
  have a1 : sSet 1 (eOwn (eLst (aCons (eVar 0) (aCons (eC (.int 0)) (aCons (eC (.int 0)) (aCons (eC (.int 64)) aNil)))))) [some (.v (.fl (ns.map .int))), none, none, none, none, none, none, none] [] = some (.nx, eL ns none none none none none none, [stD ns s0]) := by
    rw [← st]
    simp [sSet, eOwn, eLst, aCons, aNil, eVar, eC]
  obtain ⟨ρ', M', e, s', h1, h2⟩ := for_inv (src := iRngA (aCons (eC (.int 3)) aNil)) (t := gN 2) (b := L_law_2) (dd := [2, 3, 4, 5, 6, 7]) (ρ := eL ns none none none none none none) (m := [stD ns s0]) (m1 := [stD ns s0]) (List.range 3) nD
    (fun k ρ M => ∃ s' : Lx.St, ρ = eL ns none none none none none none ∧ M = [stD ns s']) rfl ⟨s0, rfl, rfl⟩
    (fun k x hx ρ M ⟨s', h1, h2⟩ => by
      subst h1 h2
      obtain ⟨ρ2, s2, t1, t2⟩ := one_turn (ns := ns) (s := s') (t := some (.v (nD x)))
      exact ⟨_, ρ2, _, rfl, t1, s2, t2, rfl⟩)
  subst h1 h2
  refine ⟨[stD ns s'].take 0, ?_⟩
  exact run_eq (np := 1) (n := 8) (b := B_law) (ws := [.v (.fl (ns.map .int))]) (m := []) (w := .v (.bl true)) (m' := [stD ns s']) rfl (seq_at a1 (seq_at e rfl)) (by simp [outW])
end K64
end
section
set_option Elab.async false
set_option linter.all false
set_option maxRecDepth 100000
set_option maxHeartbeats 4000000
namespace K64
open PySem PySem.Spec PyProof.Rows L2 Pw
theorem all_mk {l : PySem.W.OpenLaw} {w : World} {K : FRG} {h : Heap} {mg : Str → Option Value} {fa : Addr} (X : K.In h) (G : h.Ns mainGlobals mg) (hfa : mg "law" = some (.ref fa))
    {f0 : Addr} {od0 an0 : Option Addr} {sl0 : Array (Option Value)} {oc0 kV0 dc0 pm0 cd0 ct0 : Value}
    (a0 : PySem.W.nsIn K mainGlobals "_law_is_number" = some (some (.ref f0))) (l0 : K.lookup f0 = some ⟨oc0, od0, .func (PySem.W.fnOf "_law_is_number" "_law_is_number" (defArgs s_l_is_number) (defBody s_l_is_number) (defScope s_l_is_number) .none kV0 dc0 pm0 an0 cd0 ct0), sl0⟩) (c0 : PySem.W.codeIn K cd0 "_law_is_number" = true) (k0 : PySem.W.keepIn K (.ref f0) = true)
    {f1 : Addr} {od1 an1 : Option Addr} {sl1 : Array (Option Value)} {oc1 kV1 dc1 pm1 cd1 ct1 : Value}
    (a1 : PySem.W.nsIn K mainGlobals "_law_is_join" = some (some (.ref f1))) (l1 : K.lookup f1 = some ⟨oc1, od1, .func (PySem.W.fnOf "_law_is_join" "_law_is_join" (defArgs s_is_join) (defBody s_is_join) (defScope s_is_join) .none kV1 dc1 pm1 an1 cd1 ct1), sl1⟩) (c1 : PySem.W.codeIn K cd1 "_law_is_join" = true) (k1 : PySem.W.keepIn K (.ref f1) = true)
    {f2 : Addr} {od2 an2 : Option Addr} {sl2 : Array (Option Value)} {oc2 kV2 dc2 pm2 cd2 ct2 : Value}
    (a2 : PySem.W.nsIn K mainGlobals "_law_take" = some (some (.ref f2))) (l2 : K.lookup f2 = some ⟨oc2, od2, .func (PySem.W.fnOf "_law_take" "_law_take" (defArgs s_take) (defBody s_take) (defScope s_take) .none kV2 dc2 pm2 an2 cd2 ct2), sl2⟩) (c2 : PySem.W.codeIn K cd2 "_law_take" = true) (k2 : PySem.W.keepIn K (.ref f2) = true)
    {f3 : Addr} {od3 an3 : Option Addr} {sl3 : Array (Option Value)} {oc3 kV3 dc3 pm3 cd3 ct3 : Value}
    (a3 : PySem.W.nsIn K mainGlobals "_law_pool" = some (some (.ref f3))) (l3 : K.lookup f3 = some ⟨oc3, od3, .func (PySem.W.fnOf "_law_pool" "_law_pool" (defArgs s_pool) (defBody s_pool) (defScope s_pool) .none kV3 dc3 pm3 an3 cd3 ct3), sl3⟩) (c3 : PySem.W.codeIn K cd3 "_law_pool" = true) (k3 : PySem.W.keepIn K (.ref f3) = true)
    {f4 : Addr} {od4 an4 : Option Addr} {sl4 : Array (Option Value)} {oc4 kV4 dc4 pm4 cd4 ct4 : Value}
    (a4 : PySem.W.nsIn K mainGlobals "_law_says" = some (some (.ref f4))) (l4 : K.lookup f4 = some ⟨oc4, od4, .func (PySem.W.fnOf "_law_says" "_law_says" (defArgs s_says) (defBody s_says) (defScope s_says) .none kV4 dc4 pm4 an4 cd4 ct4), sl4⟩) (c4 : PySem.W.codeIn K cd4 "_law_says" = true) (k4 : PySem.W.keepIn K (.ref f4) = true)
    {f5 : Addr} {od5 an5 : Option Addr} {sl5 : Array (Option Value)} {oc5 kV5 dc5 pm5 cd5 ct5 : Value}
    (a5 : PySem.W.nsIn K mainGlobals "_law_odd" = some (some (.ref f5))) (l5 : K.lookup f5 = some ⟨oc5, od5, .func (PySem.W.fnOf "_law_odd" "_law_odd" (defArgs s_odd) (defBody s_odd) (defScope s_odd) .none kV5 dc5 pm5 an5 cd5 ct5), sl5⟩) (c5 : PySem.W.codeIn K cd5 "_law_odd" = true) (k5 : PySem.W.keepIn K (.ref f5) = true)
    {f6 : Addr} {od6 an6 : Option Addr} {sl6 : Array (Option Value)} {oc6 kV6 dc6 pm6 cd6 ct6 : Value}
    (a6 : PySem.W.nsIn K mainGlobals "_law_things" = some (some (.ref f6))) (l6 : K.lookup f6 = some ⟨oc6, od6, .func (PySem.W.fnOf "_law_things" "_law_things" (defArgs s_things) (defBody s_things) (defScope s_things) .none kV6 dc6 pm6 an6 cd6 ct6), sl6⟩) (c6 : PySem.W.codeIn K cd6 "_law_things" = true) (k6 : PySem.W.keepIn K (.ref f6) = true)
    {f7 : Addr} {od7 an7 : Option Addr} {sl7 : Array (Option Value)} {oc7 kV7 dc7 pm7 cd7 ct7 : Value}
    (a7 : PySem.W.nsIn K mainGlobals "_law_drawn_order" = some (some (.ref f7))) (l7 : K.lookup f7 = some ⟨oc7, od7, .func (PySem.W.fnOf "_law_drawn_order" "_law_drawn_order" (defArgs s_drawn_order) (defBody s_drawn_order) (defScope s_drawn_order) .none kV7 dc7 pm7 an7 cd7 ct7), sl7⟩) (c7 : PySem.W.codeIn K cd7 "_law_drawn_order" = true) (k7 : PySem.W.keepIn K (.ref f7) = true)
    {f8 : Addr} {od8 an8 : Option Addr} {sl8 : Array (Option Value)} {oc8 kV8 dc8 pm8 cd8 ct8 : Value}
    (a8 : PySem.W.nsIn K mainGlobals "_law_two_orders" = some (some (.ref f8))) (l8 : K.lookup f8 = some ⟨oc8, od8, .func (PySem.W.fnOf "_law_two_orders" "_law_two_orders" (defArgs s_two_orders) (defBody s_two_orders) (defScope s_two_orders) .none kV8 dc8 pm8 an8 cd8 ct8), sl8⟩) (c8 : PySem.W.codeIn K cd8 "_law_two_orders" = true) (k8 : PySem.W.keepIn K (.ref f8) = true)
    {f9 : Addr} {od9 an9 : Option Addr} {sl9 : Array (Option Value)} {oc9 kV9 dc9 pm9 cd9 ct9 : Value}
    (a9 : PySem.W.nsIn K mainGlobals "is_number" = some (some (.ref f9))) (l9 : K.lookup f9 = some ⟨oc9, od9, .func (PySem.W.fnOf "is_number" "is_number" (defArgs s_is_number) (defBody s_is_number) (defScope s_is_number) .none kV9 dc9 pm9 an9 cd9 ct9), sl9⟩) (c9 : PySem.W.codeIn K cd9 "is_number" = true) (k9 : PySem.W.keepIn K (.ref f9) = true)
    {f10 : Addr} {od10 an10 : Option Addr} {sl10 : Array (Option Value)} {oc10 kV10 dc10 pm10 cd10 ct10 : Value}
    (a10 : PySem.W.nsIn K mainGlobals "is_rising" = some (some (.ref f10))) (l10 : K.lookup f10 = some ⟨oc10, od10, .func (PySem.W.fnOf "is_rising" "is_rising" (defArgs s_is_rising) (defBody s_is_rising) (defScope s_is_rising) .none kV10 dc10 pm10 an10 cd10 ct10), sl10⟩) (c10 : PySem.W.codeIn K cd10 "is_rising" = true) (k10 : PySem.W.keepIn K (.ref f10) = true)
    {f11 : Addr} {od11 an11 : Option Addr} {sl11 : Array (Option Value)} {oc11 kV11 dc11 pm11 cd11 ct11 : Value}
    (a11 : PySem.W.nsIn K mainGlobals "are_deaths_of" = some (some (.ref f11))) (l11 : K.lookup f11 = some ⟨oc11, od11, .func (PySem.W.fnOf "are_deaths_of" "are_deaths_of" (defArgs s_are_deaths_of) (defBody s_are_deaths_of) (defScope s_are_deaths_of) .none kV11 dc11 pm11 an11 cd11 ct11), sl11⟩) (c11 : PySem.W.codeIn K cd11 "are_deaths_of" = true) (k11 : PySem.W.keepIn K (.ref f11) = true)
    {f12 : Addr} {od12 an12 : Option Addr} {sl12 : Array (Option Value)} {oc12 kV12 dc12 pm12 cd12 ct12 : Value}
    (a12 : PySem.W.nsIn K mainGlobals "folk_at" = some (some (.ref f12))) (l12 : K.lookup f12 = some ⟨oc12, od12, .func (PySem.W.fnOf "folk_at" "folk_at" (defArgs s_folk_at) (defBody s_folk_at) (defScope s_folk_at) .none kV12 dc12 pm12 an12 cd12 ct12), sl12⟩) (c12 : PySem.W.codeIn K cd12 "folk_at" = true) (k12 : PySem.W.keepIn K (.ref f12) = true)
    {f13 : Addr} {od13 an13 : Option Addr} {sl13 : Array (Option Value)} {oc13 kV13 dc13 pm13 cd13 ct13 : Value}
    (a13 : PySem.W.nsIn K mainGlobals "first_behind" = some (some (.ref f13))) (l13 : K.lookup f13 = some ⟨oc13, od13, .func (PySem.W.fnOf "first_behind" "first_behind" (defArgs s_first_behind) (defBody s_first_behind) (defScope s_first_behind) .none kV13 dc13 pm13 an13 cd13 ct13), sl13⟩) (c13 : PySem.W.codeIn K cd13 "first_behind" = true) (k13 : PySem.W.keepIn K (.ref f13) = true)
    {f14 : Addr} {od14 an14 : Option Addr} {sl14 : Array (Option Value)} {oc14 kV14 dc14 pm14 cd14 ct14 : Value}
    (a14 : PySem.W.nsIn K mainGlobals "is_tuple_of" = some (some (.ref f14))) (l14 : K.lookup f14 = some ⟨oc14, od14, .func (PySem.W.fnOf "is_tuple_of" "is_tuple_of" (defArgs s_is_tuple_of) (defBody s_is_tuple_of) (defScope s_is_tuple_of) .none kV14 dc14 pm14 an14 cd14 ct14), sl14⟩) (c14 : PySem.W.codeIn K cd14 "is_tuple_of" = true) (k14 : PySem.W.keepIn K (.ref f14) = true)
    {f15 : Addr} {od15 an15 : Option Addr} {sl15 : Array (Option Value)} {oc15 kV15 dc15 pm15 cd15 ct15 : Value}
    (a15 : PySem.W.nsIn K mainGlobals "right_join" = some (some (.ref f15))) (l15 : K.lookup f15 = some ⟨oc15, od15, .func (PySem.W.fnOf "right_join" "right_join" (defArgs s_right_join) (defBody s_right_join) (defScope s_right_join) .none kV15 dc15 pm15 an15 cd15 ct15), sl15⟩) (c15 : PySem.W.codeIn K cd15 "right_join" = true) (k15 : PySem.W.keepIn K (.ref f15) = true)
    {f16 : Addr} {od16 an16 : Option Addr} {sl16 : Array (Option Value)} {oc16 kV16 dc16 pm16 cd16 ct16 : Value}
    (a16 : PySem.W.nsIn K mainGlobals "law" = some (some (.ref f16))) (l16 : K.lookup f16 = some ⟨oc16, od16, .func (PySem.W.fnOf "law" "law" (defArgs s_law) (defBody s_law) (defScope s_law) .none kV16 dc16 pm16 an16 cd16 ct16), sl16⟩) (c16 : PySem.W.codeIn K cd16 "law" = true) (k16 : PySem.W.keepIn K (.ref f16) = true)
    {co_is_rising tb_is_rising : Addr} {e_is_rising : Value} {dd_is_rising : Option Addr} {vs_is_rising : Array Value} {sl_is_rising : Array (Option Value)} (cc_is_rising : cd10 = .ref co_is_rising) (ti_is_rising : K.lookup co_is_rising = some ⟨e_is_rising, dd_is_rising, .fields vs_is_rising, sl_is_rising⟩) (vv_is_rising : vs_is_rising[11]? = some (.ref tb_is_rising)) (nk_is_rising : K.lookup tb_is_rising = none) (tt_is_rising : PySem.W.tabIn K "is_rising" = some (co_is_rising, tb_is_rising) → PySem.W.CodeHd h co_is_rising tb_is_rising ∧ h.get? tb_is_rising = some { cls := .none, data := .fields #[] })
    {co_are_deaths_of tb_are_deaths_of : Addr} {e_are_deaths_of : Value} {dd_are_deaths_of : Option Addr} {vs_are_deaths_of : Array Value} {sl_are_deaths_of : Array (Option Value)} (cc_are_deaths_of : cd11 = .ref co_are_deaths_of) (ti_are_deaths_of : K.lookup co_are_deaths_of = some ⟨e_are_deaths_of, dd_are_deaths_of, .fields vs_are_deaths_of, sl_are_deaths_of⟩) (vv_are_deaths_of : vs_are_deaths_of[11]? = some (.ref tb_are_deaths_of)) (nk_are_deaths_of : K.lookup tb_are_deaths_of = none) (tt_are_deaths_of : PySem.W.tabIn K "are_deaths_of" = some (co_are_deaths_of, tb_are_deaths_of) → PySem.W.CodeHd h co_are_deaths_of tb_are_deaths_of ∧ h.get? tb_are_deaths_of = some { cls := .none, data := .fields #[] })
    (z_all : PySem.W.nsIn K mainGlobals "all" = some none)
    (z_bool : PySem.W.nsIn K mainGlobals "bool" = some none)
    (z_int : PySem.W.nsIn K mainGlobals "int" = some none)
    (z_isinstance : PySem.W.nsIn K mainGlobals "isinstance" = some none)
    (z_len : PySem.W.nsIn K mainGlobals "len" = some none)
    (z_list : PySem.W.nsIn K mainGlobals "list" = some none)
    (z_min : PySem.W.nsIn K mainGlobals "min" = some none)
    (z_range : PySem.W.nsIn K mainGlobals "range" = some none)
    (z_repr : PySem.W.nsIn K mainGlobals "repr" = some none)
    (z_set : PySem.W.nsIn K mainGlobals "set" = some none)
    (z_sorted : PySem.W.nsIn K mainGlobals "sorted" = some none)
    (z_tuple : PySem.W.nsIn K mainGlobals "tuple" = some none)
    (no_by_nearness : PySem.W.nsIn K mainGlobals "by_nearness" = some none)
    (no_to_join : PySem.W.nsIn K mainGlobals "to_join" = some none)
    : ∃ (fd : FuncData) (cs : List (Addr × Addr)), (∀ p ∈ cs, h.get? p.2 = some { cls := .none, data := .fields #[] }) ∧ (∀ p ∈ cs, K.lookup p.2 = none) ∧ (∀ p ∈ cs, PySem.W.CodeHd h p.1 p.2) ∧ (∀ (s : Shared) (u : Value), BindsTo s fd ⟨[u], []⟩ [("_law_script", u)]) ∧
      ∀ base : Heap, K.In base → base.Ns mainGlobals mg → (∀ p ∈ cs, GxR.TabB base mg p.1 p.2) → FnG l.prog w K mg base 5 fa fd ["_law_script"] (spF K (cs.map (·.2)) P_law.length F_law) := by
  have isLaw : fa = f16 := by
    have e := hfa.symm.trans (PySem.W.mg_of X G a16)
    cases e; rfl
  have F0 : FunC K "_law_is_number" "_law_is_number" s_l_is_number f0 _ cd0 := ⟨⟨oc0, od0, kV0, dc0, pm0, an0, ct0, sl0, rfl, l0, c0⟩, k0⟩
  have b0 := F0.binds (ps := P_l_is_number) fun _ _ _ _ _ us hl => match us, hl with | [_], _ => rfl
  have F1 : FunC K "_law_is_join" "_law_is_join" s_is_join f1 _ cd1 := ⟨⟨oc1, od1, kV1, dc1, pm1, an1, ct1, sl1, rfl, l1, c1⟩, k1⟩
  have b1 := F1.binds (ps := P_is_join) fun _ _ _ _ _ us hl => match us, hl with | [_, _, _], _ => rfl
  have F2 : FunC K "_law_take" "_law_take" s_take f2 _ cd2 := ⟨⟨oc2, od2, kV2, dc2, pm2, an2, ct2, sl2, rfl, l2, c2⟩, k2⟩
  have b2 := F2.binds (ps := P_take) fun _ _ _ _ _ us hl => match us, hl with | [_, _], _ => rfl
  have F3 : FunC K "_law_pool" "_law_pool" s_pool f3 _ cd3 := ⟨⟨oc3, od3, kV3, dc3, pm3, an3, ct3, sl3, rfl, l3, c3⟩, k3⟩
  have b3 := F3.binds (ps := P_pool) fun _ _ _ _ _ us hl => match us, hl with | [_], _ => rfl
  have F4 : FunC K "_law_says" "_law_says" s_says f4 _ cd4 := ⟨⟨oc4, od4, kV4, dc4, pm4, an4, ct4, sl4, rfl, l4, c4⟩, k4⟩
  have b4 := F4.binds (ps := P_says) fun _ _ _ _ _ us hl => match us, hl with | [_, _], _ => rfl
  have F5 : FunC K "_law_odd" "_law_odd" s_odd f5 _ cd5 := ⟨⟨oc5, od5, kV5, dc5, pm5, an5, ct5, sl5, rfl, l5, c5⟩, k5⟩
  have b5 := F5.binds (ps := P_odd) fun _ _ _ _ _ us hl => match us, hl with | [_], _ => rfl
  have F6 : FunC K "_law_things" "_law_things" s_things f6 _ cd6 := ⟨⟨oc6, od6, kV6, dc6, pm6, an6, ct6, sl6, rfl, l6, c6⟩, k6⟩
  have b6 := F6.binds (ps := P_things) fun _ _ _ _ _ us hl => match us, hl with | [_, _, _], _ => rfl
  have F7 : FunC K "_law_drawn_order" "_law_drawn_order" s_drawn_order f7 _ cd7 := ⟨⟨oc7, od7, kV7, dc7, pm7, an7, ct7, sl7, rfl, l7, c7⟩, k7⟩
  have b7 := F7.binds (ps := P_drawn_order) fun _ _ _ _ _ us hl => match us, hl with | [_, _, _], _ => rfl
  have F8 : FunC K "_law_two_orders" "_law_two_orders" s_two_orders f8 _ cd8 := ⟨⟨oc8, od8, kV8, dc8, pm8, an8, ct8, sl8, rfl, l8, c8⟩, k8⟩
  have b8 := F8.binds (ps := P_two_orders) fun _ _ _ _ _ us hl => match us, hl with | [_, _, _], _ => rfl
  have F9 : FunC K "is_number" "is_number" s_is_number f9 _ cd9 := ⟨⟨oc9, od9, kV9, dc9, pm9, an9, ct9, sl9, rfl, l9, c9⟩, k9⟩
  have b9 := F9.binds (ps := P_is_number) fun _ _ _ _ _ us hl => match us, hl with | [_], _ => rfl
  have F10 : FunC K "is_rising" "is_rising" s_is_rising f10 _ cd10 := ⟨⟨oc10, od10, kV10, dc10, pm10, an10, ct10, sl10, rfl, l10, c10⟩, k10⟩
  have b10 := F10.binds (ps := P_is_rising) fun _ _ _ _ _ us hl => match us, hl with | [_], _ => rfl
  have F11 : FunC K "are_deaths_of" "are_deaths_of" s_are_deaths_of f11 _ cd11 := ⟨⟨oc11, od11, kV11, dc11, pm11, an11, ct11, sl11, rfl, l11, c11⟩, k11⟩
  have b11 := F11.binds (ps := P_are_deaths_of) fun _ _ _ _ _ us hl => match us, hl with | [_, _], _ => rfl
  have F12 : FunC K "folk_at" "folk_at" s_folk_at f12 _ cd12 := ⟨⟨oc12, od12, kV12, dc12, pm12, an12, ct12, sl12, rfl, l12, c12⟩, k12⟩
  have b12 := F12.binds (ps := P_folk_at) fun _ _ _ _ _ us hl => match us, hl with | [_, _], _ => rfl
  have F13 : FunC K "first_behind" "first_behind" s_first_behind f13 _ cd13 := ⟨⟨oc13, od13, kV13, dc13, pm13, an13, ct13, sl13, rfl, l13, c13⟩, k13⟩
  have b13 := F13.binds (ps := P_first_behind) fun _ _ _ _ _ us hl => match us, hl with | [_, _], _ => rfl
  have F14 : FunC K "is_tuple_of" "is_tuple_of" s_is_tuple_of f14 _ cd14 := ⟨⟨oc14, od14, kV14, dc14, pm14, an14, ct14, sl14, rfl, l14, c14⟩, k14⟩
  have b14 := F14.binds (ps := P_is_tuple_of) fun _ _ _ _ _ us hl => match us, hl with | [_, _], _ => rfl
  have F15 : FunC K "right_join" "right_join" s_right_join f15 _ cd15 := ⟨⟨oc15, od15, kV15, dc15, pm15, an15, ct15, sl15, rfl, l15, c15⟩, k15⟩
  have b15 := F15.binds (ps := P_right_join) fun _ _ _ _ _ us hl => match us, hl with | [_, _, _], _ => rfl
  have F16 : FunC K "law" "law" s_law f16 _ cd16 := ⟨⟨oc16, od16, kV16, dc16, pm16, an16, ct16, sl16, rfl, l16, c16⟩, k16⟩
  have b16 := F16.binds (ps := P_law) fun _ _ _ _ _ us hl => match us, hl with | [_], _ => rfl
  have tt_is_rising := tt_is_rising (Pv.tab_in a10 l10 cc_is_rising ti_is_rising vv_is_rising)
  have tt_are_deaths_of := tt_are_deaths_of (Pv.tab_in a11 l11 cc_are_deaths_of ti_are_deaths_of vv_are_deaths_of)
  let C : Ctx K mg ([(co_is_rising, tb_is_rising), (co_are_deaths_of, tb_are_deaths_of)].map (·.2)) := { f_l_is_number := f0, fd_l_is_number := _, cd_l_is_number := cd0, F_l_is_number := F0, b_l_is_number := b0, g_l_is_number := PySem.W.mg_of X G a0, f_is_join := f1, fd_is_join := _, cd_is_join := cd1, F_is_join := F1, b_is_join := b1, g_is_join := PySem.W.mg_of X G a1, f_take := f2, fd_take := _, cd_take := cd2, F_take := F2, b_take := b2, g_take := PySem.W.mg_of X G a2, f_pool := f3, fd_pool := _, cd_pool := cd3, F_pool := F3, b_pool := b3, g_pool := PySem.W.mg_of X G a3, f_says := f4, fd_says := _, cd_says := cd4, F_says := F4, b_says := b4, g_says := PySem.W.mg_of X G a4, f_odd := f5, fd_odd := _, cd_odd := cd5, F_odd := F5, b_odd := b5, g_odd := PySem.W.mg_of X G a5, f_things := f6, fd_things := _, cd_things := cd6, F_things := F6, b_things := b6, g_things := PySem.W.mg_of X G a6, f_drawn_order := f7, fd_drawn_order := _, cd_drawn_order := cd7, F_drawn_order := F7, b_drawn_order := b7, g_drawn_order := PySem.W.mg_of X G a7, f_two_orders := f8, fd_two_orders := _, cd_two_orders := cd8, F_two_orders := F8, b_two_orders := b8, g_two_orders := PySem.W.mg_of X G a8, f_is_number := f9, fd_is_number := _, cd_is_number := cd9, F_is_number := F9, b_is_number := b9, g_is_number := PySem.W.mg_of X G a9, f_is_rising := f10, fd_is_rising := _, cd_is_rising := cd10, F_is_rising := F10, b_is_rising := b10, g_is_rising := PySem.W.mg_of X G a10, co_is_rising := co_is_rising, tb_is_rising := tb_is_rising, c_is_rising := cc_is_rising, m_is_rising := ⟨(by simp), (notL_of (.inl (tabIn_none no_by_nearness)) (.inl (tabIn_none no_to_join)))⟩, f_are_deaths_of := f11, fd_are_deaths_of := _, cd_are_deaths_of := cd11, F_are_deaths_of := F11, b_are_deaths_of := b11, g_are_deaths_of := PySem.W.mg_of X G a11, co_are_deaths_of := co_are_deaths_of, tb_are_deaths_of := tb_are_deaths_of, c_are_deaths_of := cc_are_deaths_of, m_are_deaths_of := ⟨(by simp), (notL_of (.inl (tabIn_none no_by_nearness)) (.inl (tabIn_none no_to_join)))⟩, f_folk_at := f12, fd_folk_at := _, cd_folk_at := cd12, F_folk_at := F12, b_folk_at := b12, g_folk_at := PySem.W.mg_of X G a12, f_first_behind := f13, fd_first_behind := _, cd_first_behind := cd13, F_first_behind := F13, b_first_behind := b13, g_first_behind := PySem.W.mg_of X G a13, f_is_tuple_of := f14, fd_is_tuple_of := _, cd_is_tuple_of := cd14, F_is_tuple_of := F14, b_is_tuple_of := b14, g_is_tuple_of := PySem.W.mg_of X G a14, f_right_join := f15, fd_right_join := _, cd_right_join := cd15, F_right_join := F15, b_right_join := b15, g_right_join := PySem.W.mg_of X G a15, f_law := f16, fd_law := _, cd_law := cd16, F_law := F16, b_law := b16, g_law := PySem.W.mg_of X G a16, z_all := PySem.W.mg_none_of X G z_all, z_bool := PySem.W.mg_none_of X G z_bool, z_int := PySem.W.mg_none_of X G z_int, z_isinstance := PySem.W.mg_none_of X G z_isinstance, z_len := PySem.W.mg_none_of X G z_len, z_list := PySem.W.mg_none_of X G z_list, z_min := PySem.W.mg_none_of X G z_min, z_range := PySem.W.mg_none_of X G z_range, z_repr := PySem.W.mg_none_of X G z_repr, z_set := PySem.W.mg_none_of X G z_set, z_sorted := PySem.W.mg_none_of X G z_sorted, z_tuple := PySem.W.mg_none_of X G z_tuple }
  exact ⟨_, [(co_is_rising, tb_is_rising), (co_are_deaths_of, tb_are_deaths_of)], (fun p hp => by (rcases List.mem_cons.mp hp with z | hp; (· rw [z]; exact tt_is_rising.2); (· (rcases List.mem_cons.mp hp with z | hp; (· rw [z]; exact tt_are_deaths_of.2); (· cases hp))))), (fun p hp => by (rcases List.mem_cons.mp hp with z | hp; (· rw [z]; exact nk_is_rising); (· (rcases List.mem_cons.mp hp with z | hp; (· rw [z]; exact nk_are_deaths_of); (· cases hp))))), (fun p hp => by (rcases List.mem_cons.mp hp with z | hp; (· rw [z]; exact tt_is_rising.1); (· (rcases List.mem_cons.mp hp with z | hp; (· rw [z]; exact tt_are_deaths_of.1); (· cases hp))))), fun s u => .of_eq rfl, fun base _ _ hT => by rw [isLaw]; exact ok_law C ⟨(hT (co_is_rising, tb_is_rising) (by simp)), (hT (co_are_deaths_of, tb_are_deaths_of) (by simp))⟩⟩
end K64
open PySem PySem.W PyProof.Rows
set_option maxHeartbeats 0 in
theorem PySem.Challenge.cw_thronewalk_k64_joins_said_holds : PySem.Challenge.rw_thronewalk_k64_joins_said.Holds := by
  w_on; o_law; k_head; (case hw => w_witness2)
  k_fill
  refine Pw.walkG (l := PySem.Challenge.rw_thronewalk_k64_joins_said) (n := 63) (k := 5) (x := "_law_script") (F := K64.F_law) rfl (by decide) rfl ⟨rfl, by decide, by decide⟩ (fun w h Y => by first | exact PySem.W.kIn_of Y | exact PySem.W.km_in_of Y) ?F K64.holds
  case F =>
    intro w mg fa h KX G hmg tabs
    refine' K64.all_mk KX G hmg ?a0 ?l0 ?c0 ?k0 ?a1 ?l1 ?c1 ?k1 ?a2 ?l2 ?c2 ?k2 ?a3 ?l3 ?c3 ?k3 ?a4 ?l4 ?c4 ?k4 ?a5 ?l5 ?c5 ?k5 ?a6 ?l6 ?c6 ?k6 ?a7 ?l7 ?c7 ?k7 ?a8 ?l8 ?c8 ?k8 ?a9 ?l9 ?c9 ?k9 ?a10 ?l10 ?c10 ?k10 ?a11 ?l11 ?c11 ?k11 ?a12 ?l12 ?c12 ?k12 ?a13 ?l13 ?c13 ?k13 ?a14 ?l14 ?c14 ?k14 ?a15 ?l15 ?c15 ?k15 ?a16 ?l16 ?c16 ?k16 ?cc_is_rising ?ti_is_rising ?vv_is_rising ?nk_is_rising ?tt_is_rising ?cc_are_deaths_of ?ti_are_deaths_of ?vv_are_deaths_of ?nk_are_deaths_of ?tt_are_deaths_of ?z_all ?z_bool ?z_int ?z_isinstance ?z_len ?z_list ?z_min ?z_range ?z_repr ?z_set ?z_sorted ?z_tuple ?no_by_nearness ?no_to_join
    (case a0 => k_is)
    (case l0 => k_is)
    (case c0 => k_is)
    (case k0 => k_is)
    (case a1 => k_is)
    (case l1 => k_is)
    (case c1 => k_is)
    (case k1 => k_is)
    (case a2 => k_is)
    (case l2 => k_is)
    (case c2 => k_is)
    (case k2 => k_is)
    (case a3 => k_is)
    (case l3 => k_is)
    (case c3 => k_is)
    (case k3 => k_is)
    (case a4 => k_is)
    (case l4 => k_is)
    (case c4 => k_is)
    (case k4 => k_is)
    (case a5 => k_is)
    (case l5 => k_is)
    (case c5 => k_is)
    (case k5 => k_is)
    (case a6 => k_is)
    (case l6 => k_is)
    (case c6 => k_is)
    (case k6 => k_is)
    (case a7 => k_is)
    (case l7 => k_is)
    (case c7 => k_is)
    (case k7 => k_is)
    (case a8 => k_is)
    (case l8 => k_is)
    (case c8 => k_is)
    (case k8 => k_is)
    (case a9 => k_is)
    (case l9 => k_is)
    (case c9 => k_is)
    (case k9 => k_is)
    (case a10 => k_is)
    (case l10 => k_is)
    (case c10 => k_is)
    (case k10 => k_is)
    (case a11 => k_is)
    (case l11 => k_is)
    (case c11 => k_is)
    (case k11 => k_is)
    (case a12 => k_is)
    (case l12 => k_is)
    (case c12 => k_is)
    (case k12 => k_is)
    (case a13 => k_is)
    (case l13 => k_is)
    (case c13 => k_is)
    (case k13 => k_is)
    (case a14 => k_is)
    (case l14 => k_is)
    (case c14 => k_is)
    (case k14 => k_is)
    (case a15 => k_is)
    (case l15 => k_is)
    (case c15 => k_is)
    (case k15 => k_is)
    (case a16 => k_is)
    (case l16 => k_is)
    (case c16 => k_is)
    (case k16 => k_is)
    (case cc_is_rising => rfl)
    (case ti_is_rising => k_is)
    (case vv_is_rising => rfl)
    (case nk_is_rising => first | rfl | decide +kernel)
    (case tt_is_rising => exact tabs "is_rising" _ _ _ rfl)
    (case cc_are_deaths_of => rfl)
    (case ti_are_deaths_of => k_is)
    (case vv_are_deaths_of => rfl)
    (case nk_are_deaths_of => first | rfl | decide +kernel)
    (case tt_are_deaths_of => exact tabs "are_deaths_of" _ _ _ rfl)
    (case z_all => k_is)
    (case z_bool => k_is)
    (case z_int => k_is)
    (case z_isinstance => k_is)
    (case z_len => k_is)
    (case z_list => k_is)
    (case z_min => k_is)
    (case z_range => k_is)
    (case z_repr => k_is)
    (case z_set => k_is)
    (case z_sorted => k_is)
    (case z_tuple => k_is)
    (case no_by_nearness => k_is)
    (case no_to_join => k_is)
end
