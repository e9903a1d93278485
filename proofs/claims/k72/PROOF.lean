import PyProof.Rows.All
import HandS.ForMost
import HandS.Flow
import HandS.SortInts
import HandS.TupAny
import HandS.EndTab
import HandS.AnyAll
import HandS.Lambda
import HandS.Records
import KE.KMinKey
import HandS.SortKw
import HandS.Deep
import HandS.Strs
import HandS.SetFor
import KE.KSortTupG
import HandS.TupSets
import KE.KSortTupUse
import KE.LtData
import PyProof.TupleOfGen
import HandS.Conv
import HandS.More
import HandS.Style
import PyProof.Rows.MinMaxN
import HandS.DictComp
import HandS.Rev
import HandS.GenOver
import HandS.GenBody
import PyProof.GenQ
import HandS.GenList
import HandS.Zip
import HandS.IsInst
import HandS.IterVal
import HandS.NoneIn
import HandS.Text
import HandS.TupLe
import KE.KSortTup
import KE.GoesMore
import HandS.Iter
import KE.SortKeyHeap
import KE.DataMinKey
import KE.SortData
import PyProof.SeqRoads
import HandS.Dict
import PyProof.EqAt
import PySem.Challenge.RW_thronewalk_k72_thrones_ask
import Wide.All
import OpenK.AllK
import Wide.FinOn
section
set_option Elab.async false
set_option linter.all false
set_option maxRecDepth 100000
set_option maxHeartbeats 1000000
namespace Pw
open PySem PySem.Spec PyProof.Rows L2
inductive D where
  | non | bl (b : Bool) | int (i : Int) | str (x : Str) | tup (xs : List D) | tx (xs : List D) | fl (xs : List D) | lst (xs : List D) | dk (kvs : List (Key × D)) | dt (kvs : List (List Key × D)) | rl (b k : Nat)
inductive MO where
  | lst (xs : List D)
  | dk (kvs : List (Key × D))
  | dt (kvs : List (List Key × D))
  | rl (b k : Nat)
inductive W where
  | v (d : D) | r (n : Nat) | f (d : D)
abbrev Mem := List MO
abbrev Env := List (Option W)
abbrev FRG := PySem.W.Frag
def Fz (K : FRG) (H : Hp) (a : Addr) (vs : List V) : Prop :=
  (∃ o, H a = some (.frz o (.lst vs))) ∨
    ∃ (o : Obj) (its : Array Value) (n : Nat), K.lookup a = some o ∧ o.cls = .type "list" ∧ o.dict = none ∧ o.data = .seq its n ∧ its.size ≤ sizeLine ∧ Vals vs its.toList
theorem Fz.sq {K : FRG} {H : Hp} {a : Addr} {vs : List V} (h : Fz K H a vs) : SqL K H a vs := by
  rcases h with ⟨o, h⟩ | h
  · exact .inl (.inr ⟨o, h⟩)
  · exact .inr h
def kyV : List V → Bool
  | .str _ :: .int _ :: _ => true
  | _ => false
def SqN (K : FRG) (H : Hp) (a : Addr) (vs : List V) : Prop := SqT K H a vs ∧ (kyV vs = true → H a = some (.tup vs))
theorem SqN.of {K : FRG} {H : Hp} {a : Addr} {vs : List V} (h : H a = some (.tup vs)) : SqN K H a vs := ⟨SqT.of h, fun _ => h⟩
theorem SqN.no {K : FRG} {H : Hp} {a : Addr} {vs : List V} (h : SqT K H a vs) (n : kyV vs = false) : SqN K H a vs := ⟨h, fun z => by rw [n] at z; cases z⟩
theorem kyV_no : ∀ {vs : List V}, (∀ x, V.str x ∉ vs) → kyV vs = false
  | [], _ => rfl
  | v :: vs, h => by
    cases v with
    | str x => exact absurd List.mem_cons_self (h x)
    | _ => rfl
def Tz (H : Hp) (a : Addr) (vs : List V) : Prop := ∃ o : Obj, H a = some (.frz o (.tup vs)) ∧ o.dict = none ∧ ∀ x, V.str x ∉ vs
theorem Tz.sq {K : FRG} {H : Hp} {a : Addr} {vs : List V} (h : Tz H a vs) : SqT K H a vs := by
  obtain ⟨o, h, _⟩ := h
  exact .inl (.inr ⟨o, h⟩)
theorem Tz.no {H : Hp} {a : Addr} {vs : List V} (h : Tz H a vs) : ∀ x, V.str x ∉ vs := h.choose_spec.2.2
mutual
inductive Rep (K : FRG) (φ ψ : List Addr) (H : Hp) : D → V → Prop
  | non : Rep K φ ψ H .non .non
  | bl (b : Bool) : Rep K φ ψ H (.bl b) (.bl b)
  | int (i : Int) : Rep K φ ψ H (.int i) (.int i)
  | str (x : Str) : Rep K φ ψ H (.str x) (.str x)
  | tup {a : Addr} {vs : List V} {ds : List D} : SqN K H a vs → Reps K φ ψ H ds vs → Rep K φ ψ H (.tup ds) (.ref a)
  | tx {a : Addr} {vs : List V} {ds : List D} : Tz H a vs → Reps K φ ψ H ds vs → Rep K φ ψ H (.tx ds) (.ref a)
  | fl {a : Addr} {vs : List V} {ds : List D} : Fz K H a vs → Reps K φ ψ H ds vs → Rep K φ ψ H (.fl ds) (.ref a)
  | lst {a : Addr} {vs : List V} {ds : List D} : a ∉ φ → a ∉ ψ → H a = some (.lst vs) → Reps K φ ψ H ds vs → Rep K φ ψ H (.lst ds) (.ref a)
  | dk {a : Addr} {vs : List (Key × V)} {kvs : List (Key × D)} : a ∉ φ → a ∉ ψ → Rd H a (.dK vs) → kvs.map (·.1) = vs.map (·.1) → Reps K φ ψ H (kvs.map (·.2)) (vs.map (·.2)) → Rep K φ ψ H (.dk kvs) (.ref a)
  | dt {a : Addr} {vs : List (List Key × V)} {kvs : List (List Key × D)} : a ∉ φ → a ∉ ψ → H a = some (.dT vs) → kvs.map (·.1) = vs.map (·.1) → Reps K φ ψ H (kvs.map (·.2)) (vs.map (·.2)) → Rep K φ ψ H (.dt kvs) (.ref a)
inductive Reps (K : FRG) (φ ψ : List Addr) (H : Hp) : List D → List V → Prop
  | nil : Reps K φ ψ H [] []
  | cons {d : D} {v : V} {ds : List D} {vs : List V} : Rep K φ ψ H d v → Reps K φ ψ H ds vs → Reps K φ ψ H (d :: ds) (v :: vs)
end
def ObjR (K : FRG) (φ ψ : List Addr) (H : Hp) (a : Addr) : MO → Prop
  | .lst ds => ∃ vs, H a = some (.lst vs) ∧ Reps K φ ψ H ds vs
  | .dk kvs => ∃ vs : List (Key × V), H a = some (.dK vs) ∧ kvs.map (·.1) = vs.map (·.1) ∧ Reps K φ ψ H (kvs.map (·.2)) (vs.map (·.2))
  | .dt kvs => ∃ vs : List (List Key × V), H a = some (.dT vs) ∧ kvs.map (·.1) = vs.map (·.1) ∧ Reps K φ ψ H (kvs.map (·.2)) (vs.map (·.2))
  | .rl b k => H a = some (.lst ((List.range k).map fun i => .ref (φ.getD (b + i) 0))) ∧ φ[b + k]? = some a
def lamDefs : List Str := ["by_nearness", "to_join"]
def lamQ (x : Str) : Str := x ++ ".<locals>." ++ "<lambda>"
def TabL (K : FRG) (H : Hp) (P : Addr) : Prop := ∀ x ∈ lamDefs, ∀ c, PySem.W.tabIn K x = some (c, P) → LamX.TabS H P (lamQ x)
def NotL (K : FRG) (P : Addr) : Prop := ∀ x ∈ lamDefs, ∀ c, PySem.W.tabIn K x ≠ some (c, P)
theorem TabL.of {K : FRG} {H H' : Hp} {P : Addr} (h : TabL K H P) (e : H' P = H P) (k : ∀ c φ, H c = some (.ext φ) → H' c = H c) : TabL K H' P := fun x hx c hc => by
  obtain ⟨ps, h1, h2, h3⟩ := h x hx c hc
  refine ⟨ps, e.trans h1, h2, fun pos cv hcv => ?_⟩
  obtain ⟨d, e1, e2⟩ := h3 pos cv hcv
  exact ⟨d, e1, (k d _ e2).trans e2⟩
theorem TabL.upd {K : FRG} {H : Hp} {P a : Addr} {o : HO} (h : TabL K H P) (n : P ≠ a) (x : ∀ φ, H a ≠ some (.ext φ)) : TabL K (upd H a o) P :=
  h.of (upd_ne n) fun c φ e => upd_ne fun z => x φ (by rw [← z]; exact e)
structure Rel (K : FRG) (tb : List Addr) (φ ψ : List Addr) (H : Hp) (m : Mem) : Prop where
  len : φ.length = m.length
  nd : φ.Nodup
  obj : ∀ (n : Nat) (mo : MO) (a : Addr), m[n]? = some mo → φ[n]? = some a → ObjR K φ ψ H a mo
  tab : ∀ p ∈ tb, GxR.TabG H p
  sd : ∀ p ∈ ψ, H p ≠ none
  ap : ∀ p ∈ ψ, p ∉ φ
  lam : ∀ p ∈ tb, TabL K H p
def Kp (ψ : List Addr) (H' : Hp) (b : Addr) (o : HO) : Prop := H' b = some o ∨ (b ∉ ψ ∧ ∃ kvs od, o = .dK kvs ∧ H' b = some (.frz od o))
theorem Kp.ex {ψ : List Addr} {H' : Hp} {b : Addr} {o : HO} (h : Kp ψ H' b o) (n : ∀ kvs, o ≠ .dK kvs) : H' b = some o := by
  rcases h with h | ⟨_, kvs, _, e, _⟩
  · exact h
  · exact absurd e (n kvs)
theorem Kp.own {ψ : List Addr} {H' : Hp} {b : Addr} {o : HO} (h : Kp ψ H' b o) (n : b ∈ ψ) : H' b = some o := by
  rcases h with h | ⟨z, _⟩
  · exact h
  · exact absurd n z
structure Post (φ ψ : List Addr) (H : Hp) (φ' ψ' : List Addr) (H' : Hp) : Prop where
  pre : φ <+: φ'
  new : ∀ a ∈ φ', a ∈ φ ∨ H a = none
  side : ∀ a ∈ ψ', a ∈ ψ ∨ H a = none
  frm : ∀ b o, b ∉ φ → H b = some o → (∀ ps, o ≠ .tbl ps) → Kp ψ H' b o
  kp : ∀ b, H' b = none → H b = none
  sub : ∀ a ∈ ψ, a ∈ ψ'
section
variable {K : FRG} {tb φ φ1 φ2 φ' ψ ψ1 ψ2 ψ' : List Addr} {H H1 H2 H' : Hp} {m : Mem}
theorem Post.refl : Post φ ψ H φ ψ H := ⟨List.prefix_refl _, fun _ h => .inl h, fun _ h => .inl h, fun _ _ _ h _ => .inl h, fun _ h => h, fun _ h => h⟩
theorem Post.trans (p : Post φ ψ H φ1 ψ1 H1) (q : Post φ1 ψ1 H1 φ2 ψ2 H2) : Post φ ψ H φ2 ψ2 H2 := by
  refine ⟨p.pre.trans q.pre, fun a h => ?_, fun a h => ?_, fun b o hb e ht => ?_, fun b h => p.kp b (q.kp b h), fun a h => q.sub a (p.sub a h)⟩
  · rcases q.new a h with z | z
    · exact p.new a z
    · exact .inr (p.kp a z)
  · rcases q.side a h with z | z
    · exact p.side a z
    · exact .inr (p.kp a z)
  · have nb : b ∉ φ1 := fun z => by
      rcases p.new b z with y | y
      · exact hb y
      · rw [y] at e; cases e
    rcases p.frm b o hb e ht with h1 | ⟨h0, kvs, od, rfl, h1⟩
    · rcases q.frm b o nb h1 ht with h2 | ⟨h3, h2⟩
      · exact .inl h2
      · exact .inr ⟨fun z => h3 (p.sub b z), h2⟩
    · exact .inr ⟨h0, kvs, od, rfl, (q.frm b _ nb h1 fun _ z => nomatch z).ex fun _ z => nomatch z⟩
theorem Rel.mut {a : Addr} (R : Rel K tb φ ψ H m) (h : a ∈ φ) : (∃ vs, H a = some (.lst vs)) ∨ (∃ vs, H a = some (.dK vs)) ∨ ∃ vs, H a = some (.dT vs) := by
  obtain ⟨n, hn, e⟩ := List.getElem_of_mem h
  have e' : φ[n]? = some a := by rw [List.getElem?_eq_getElem hn, e]
  have hm : n < m.length := by rw [← R.len]; exact hn
  have q := R.obj n m[n] a (List.getElem?_eq_getElem hm) e'
  cases z : m[n] with
  | lst ds => rw [z] at q; obtain ⟨vs, q, _⟩ := q; exact .inl ⟨vs, q⟩
  | dk kvs => rw [z] at q; obtain ⟨vs, q, _⟩ := q; exact .inr (.inl ⟨vs, q⟩)
  | dt kvs => rw [z] at q; obtain ⟨vs, q, _⟩ := q; exact .inr (.inr ⟨vs, q⟩)
  | rl b k => rw [z] at q; exact .inl ⟨_, q.1⟩
theorem Rel.trk {a : Addr} (R : Rel K tb φ ψ H m) (h : a ∈ φ) : H a ≠ none := by
  rcases R.mut h with ⟨vs, e⟩ | ⟨vs, e⟩ | ⟨vs, e⟩ <;> (rw [e]; exact fun z => nomatch z)
theorem Rel.fresh {a : Addr} (R : Rel K tb φ ψ H m) (h : H a = none) : a ∉ φ := fun z => R.trk z h
theorem Rel.freshS {a : Addr} (R : Rel K tb φ ψ H m) (h : H a = none) : a ∉ ψ := fun z => R.sd a z h
theorem Rel.ntup {a : Addr} {xs : List V} (R : Rel K tb φ ψ H m) (h : H a = some (.tup xs)) : a ∉ φ := fun z => by
  rcases R.mut z with ⟨vs, e⟩ | ⟨vs, e⟩ | ⟨vs, e⟩ <;> (rw [h] at e; cases e)
theorem Rel.nfrz {a : Addr} {o : Obj} {u : HO} (R : Rel K tb φ ψ H m) (h : H a = some (.frz o u)) : a ∉ φ := fun z => by
  rcases R.mut z with ⟨vs, e⟩ | ⟨vs, e⟩ | ⟨vs, e⟩ <;> (rw [h] at e; cases e)
theorem Rel.ntbl {a : Addr} {ps : Array Value} (R : Rel K tb φ ψ H m) (h : H a = some (.tbl ps)) : a ∉ φ := fun z => by
  rcases R.mut z with ⟨vs, e⟩ | ⟨vs, e⟩ | ⟨vs, e⟩ <;> (rw [h] at e; cases e)
theorem Post.sqT {a : Addr} {xs : List V} (p : Post φ ψ H φ' ψ' H') (R : Rel K tb φ ψ H m) (h : SqT K H a xs) : SqT K H' a xs := by
  rcases h with (h | ⟨o, h⟩) | h
  · exact .inl (.inl ((p.frm _ _ (R.ntup h) h fun _ z => nomatch z).ex fun _ z => nomatch z))
  · exact .inl (.inr ⟨o, (p.frm _ _ (R.nfrz h) h fun _ z => nomatch z).ex fun _ z => nomatch z⟩)
  · exact .inr h
theorem Post.sqN {a : Addr} {xs : List V} (p : Post φ ψ H φ' ψ' H') (R : Rel K tb φ ψ H m) (h : SqN K H a xs) : SqN K H' a xs := ⟨p.sqT R h.1, fun z => (p.frm _ _ (R.ntup (h.2 z)) (h.2 z) fun _ z => nomatch z).ex fun _ z => nomatch z⟩
theorem Post.off {a : Addr} {o : HO} (p : Post φ ψ H φ' ψ' H') (h1 : a ∉ φ) (h2 : a ∉ ψ) (h : H a = some o) (ht : ∀ ps, o ≠ .tbl ps) (hk : ∀ kvs, o ≠ .dK kvs) : a ∉ φ' ∧ a ∉ ψ' ∧ H' a = some o := by
  refine ⟨fun z => ?_, fun z => ?_, (p.frm a o h1 h ht).ex hk⟩
  · rcases p.new a z with y | y
    · exact h1 y
    · rw [h] at y; cases y
  · rcases p.side a z with y | y
    · exact h2 y
    · rw [h] at y; cases y
theorem Post.offD {a : Addr} {kvs : List (Key × V)} (p : Post φ ψ H φ' ψ' H') (R : Rel K tb φ ψ H m) (h1 : a ∉ φ) (h2 : a ∉ ψ) (h : Rd H a (.dK kvs)) : a ∉ φ' ∧ a ∉ ψ' ∧ Rd H' a (.dK kvs) := by
  have n : H a ≠ none := fun z => by rcases h with h | ⟨o, h⟩ <;> (rw [z] at h; cases h)
  refine ⟨fun z => ?_, fun z => ?_, ?_⟩
  · rcases p.new a z with y | y
    · exact h1 y
    · exact n y
  · rcases p.side a z with y | y
    · exact h2 y
    · exact n y
  · rcases h with h | ⟨o, h⟩
    · rcases p.frm a _ h1 h fun _ z => nomatch z with q | ⟨_, _, od, _, q⟩
      · exact .inl q
      · exact .inr ⟨od, q⟩
    · exact .inr ⟨o, (p.frm a _ h1 h fun _ z => nomatch z).ex fun _ z => nomatch z⟩
theorem Post.fz {a : Addr} {xs : List V} (p : Post φ ψ H φ' ψ' H') (R : Rel K tb φ ψ H m) (h : Fz K H a xs) : Fz K H' a xs := by
  rcases h with ⟨o, h⟩ | h
  · exact .inl ⟨o, (p.frm _ _ (R.nfrz h) h fun _ z => nomatch z).ex fun _ z => nomatch z⟩
  · exact .inr h
theorem Post.tz {a : Addr} {xs : List V} (p : Post φ ψ H φ' ψ' H') (R : Rel K tb φ ψ H m) (h : Tz H a xs) : Tz H' a xs := by
  obtain ⟨o, h, d⟩ := h
  exact ⟨o, (p.frm _ _ (R.nfrz h) h fun _ z => nomatch z).ex (fun _ z => nomatch z), d⟩
theorem pre_get {n : Nat} {a : Addr} (p : φ <+: φ') (h : φ[n]? = some a) : φ'[n]? = some a := by
  obtain ⟨t, rfl⟩ := p
  obtain ⟨hn, _⟩ := List.getElem?_eq_some_iff.mp h
  rw [List.getElem?_append_left hn]; exact h
mutual
theorem Rep.map (ht : ∀ a xs, SqN K H a xs → SqN K H' a xs) (hz : ∀ a xs, Tz H a xs → Tz H' a xs) (hf : ∀ a xs, Fz K H a xs → Fz K H' a xs) (hd : ∀ a o, a ∉ φ → a ∉ ψ → H a = some o → (∀ ps, o ≠ .tbl ps) → (∀ kvs, o ≠ .dK kvs) → a ∉ φ' ∧ a ∉ ψ' ∧ H' a = some o) (hD : ∀ a kvs, a ∉ φ → a ∉ ψ → Rd H a (.dK kvs) → a ∉ φ' ∧ a ∉ ψ' ∧ Rd H' a (.dK kvs)) : ∀ {d : D} {v : V}, Rep K φ ψ H d v → Rep K φ' ψ' H' d v
  | _, _, .non => .non
  | _, _, .bl b => .bl b
  | _, _, .int i => .int i
  | _, _, .str x => .str x
  | _, _, .tup h r => .tup (ht _ _ h) (Reps.map ht hz hf hd hD r)
  | _, _, .tx h r => .tx (hz _ _ h) (Reps.map ht hz hf hd hD r)
  | _, _, .fl h r => .fl (hf _ _ h) (Reps.map ht hz hf hd hD r)
  | _, _, .lst h1 h2 h3 r => let z := hd _ _ h1 h2 h3 (fun _ z => nomatch z) fun _ z => nomatch z; .lst z.1 z.2.1 z.2.2 (Reps.map ht hz hf hd hD r)
  | _, _, .dk h1 h2 h3 h4 r => let z := hD _ _ h1 h2 h3; .dk z.1 z.2.1 z.2.2 h4 (Reps.map ht hz hf hd hD r)
  | _, _, .dt h1 h2 h3 h4 r => let z := hd _ _ h1 h2 h3 (fun _ z => nomatch z) fun _ z => nomatch z; .dt z.1 z.2.1 z.2.2 h4 (Reps.map ht hz hf hd hD r)
theorem Reps.map (ht : ∀ a xs, SqN K H a xs → SqN K H' a xs) (hz : ∀ a xs, Tz H a xs → Tz H' a xs) (hf : ∀ a xs, Fz K H a xs → Fz K H' a xs) (hd : ∀ a o, a ∉ φ → a ∉ ψ → H a = some o → (∀ ps, o ≠ .tbl ps) → (∀ kvs, o ≠ .dK kvs) → a ∉ φ' ∧ a ∉ ψ' ∧ H' a = some o) (hD : ∀ a kvs, a ∉ φ → a ∉ ψ → Rd H a (.dK kvs) → a ∉ φ' ∧ a ∉ ψ' ∧ Rd H' a (.dK kvs)) : ∀ {ds : List D} {vs : List V}, Reps K φ ψ H ds vs → Reps K φ' ψ' H' ds vs
  | _, _, .nil => .nil
  | _, _, .cons h r => .cons (Rep.map ht hz hf hd hD h) (Reps.map ht hz hf hd hD r)
end
theorem Rep.mono (p : Post φ ψ H φ' ψ' H') (R : Rel K tb φ ψ H m) {d : D} {v : V} (h : Rep K φ ψ H d v) : Rep K φ' ψ' H' d v := h.map (fun _ _ => p.sqN R) (fun _ _ => p.tz R) (fun _ _ => p.fz R) (fun _ _ h1 h2 h3 h4 h5 => p.off h1 h2 h3 h4 h5) fun _ _ h1 h2 h3 => p.offD R h1 h2 h3
theorem Reps.mono (p : Post φ ψ H φ' ψ' H') (R : Rel K tb φ ψ H m) {ds : List D} {vs : List V} (h : Reps K φ ψ H ds vs) : Reps K φ' ψ' H' ds vs := h.map (fun _ _ => p.sqN R) (fun _ _ => p.tz R) (fun _ _ => p.fz R) (fun _ _ h1 h2 h3 h4 h5 => p.off h1 h2 h3 h4 h5) fun _ _ h1 h2 h3 => p.offD R h1 h2 h3
theorem Rep.fewer (h : ∀ a, a ∉ φ → a ∉ ψ → a ∉ φ' ∧ a ∉ ψ') {d : D} {v : V} (q : Rep K φ ψ H d v) : Rep K φ' ψ' H d v := q.map (fun _ _ z => z) (fun _ _ z => z) (fun _ _ z => z) (fun a _ h1 h2 z _ _ => ⟨(h a h1 h2).1, (h a h1 h2).2, z⟩) fun a _ h1 h2 z => ⟨(h a h1 h2).1, (h a h1 h2).2, z⟩
theorem Reps.fewer (h : ∀ a, a ∉ φ → a ∉ ψ → a ∉ φ' ∧ a ∉ ψ') {d : List D} {v : List V} (q : Reps K φ ψ H d v) : Reps K φ' ψ' H d v := q.map (fun _ _ z => z) (fun _ _ z => z) (fun _ _ z => z) (fun a _ h1 h2 z _ _ => ⟨(h a h1 h2).1, (h a h1 h2).2, z⟩) fun a _ h1 h2 z => ⟨(h a h1 h2).1, (h a h1 h2).2, z⟩
theorem getD_of {l l' : List Addr} {i : Nat} (h : l'[i]? = l[i]?) : l'.getD i 0 = l.getD i 0 := by
  rw [List.getD_eq_getElem?_getD, List.getD_eq_getElem?_getD, h]
theorem ObjR.fewer (h : ∀ a, a ∉ φ → a ∉ ψ → a ∉ φ' ∧ a ∉ ψ') {a : Addr} {mo : MO} (q : ObjR K φ ψ H a mo) (hφ : (∃ b k, mo = .rl b k) → ∀ n : Nat, φ[n]? = some a → ∀ i : Nat, i ≤ n → φ'[i]? = φ[i]? := by first | exact (fun _ _ _ _ _ => rfl)) : ObjR K φ' ψ' H a mo := by
  cases mo with
  | rl b k =>
    have hh := hφ ⟨b, k, rfl⟩ _ q.2
    refine ⟨q.1.trans ?_, (hh _ (Nat.le_refl _)).trans q.2⟩
    congr 2
    refine List.map_congr_left fun i hi => ?_
    rw [getD_of (hh (b + i) (by have := List.mem_range.mp hi; omega))]
  | lst ds => obtain ⟨vs, q1, q2⟩ := q; exact ⟨vs, q1, q2.fewer h⟩
  | dk kvs => obtain ⟨vs, q1, q2, q3⟩ := q; exact ⟨vs, q1, q2, q3.fewer h⟩
  | dt kvs => obtain ⟨vs, q1, q2, q3⟩ := q; exact ⟨vs, q1, q2, q3.fewer h⟩
theorem Reps.length : ∀ {ds : List D} {vs : List V}, Reps K φ ψ H ds vs → ds.length = vs.length
  | _, _, .nil => rfl
  | _, _, .cons _ r => by simp [Reps.length r]
theorem Reps.get : ∀ {ds : List D} {vs : List V} {i : Nat} {d : D}, Reps K φ ψ H ds vs → ds[i]? = some d → ∃ v, vs[i]? = some v ∧ Rep K φ ψ H d v
  | _, _, _, _, .nil, e => by simp at e
  | _, _, 0, _, .cons h _, e => by simp at e; subst e; exact ⟨_, rfl, h⟩
  | _, _, i + 1, d, .cons _ r, e => by
    obtain ⟨v, h1, h2⟩ := Reps.get (i := i) (d := d) r (by simpa using e)
    exact ⟨v, by simpa using h1, h2⟩
theorem Reps.app : ∀ {ds es : List D} {vs ws : List V}, Reps K φ ψ H ds vs → Reps K φ ψ H es ws → Reps K φ ψ H (ds ++ es) (vs ++ ws)
  | _, _, _, _, .nil, s => s
  | _, _, _, _, .cons h r, s => .cons h (Reps.app r s)
theorem Reps.set {d : D} {v : V} (h : Rep K φ ψ H d v) : ∀ {ds : List D} {vs : List V} (i : Nat), Reps K φ ψ H ds vs → Reps K φ ψ H (ds.set i d) (vs.set i v)
  | _, _, _, .nil => .nil
  | _, _, 0, .cons _ r => .cons h r
  | _, _, i + 1, .cons q r => .cons q (Reps.set h i r)
theorem Reps.take : ∀ {ds : List D} {vs : List V} (n : Nat), Reps K φ ψ H ds vs → Reps K φ ψ H (ds.take n) (vs.take n)
  | _, _, 0, _ => .nil
  | _, _, _ + 1, .nil => .nil
  | _, _, n + 1, .cons h r => .cons h (Reps.take n r)
theorem Reps.drop : ∀ {ds : List D} {vs : List V} (n : Nat), Reps K φ ψ H ds vs → Reps K φ ψ H (ds.drop n) (vs.drop n)
  | _, _, 0, r => r
  | _, _, _ + 1, .nil => .nil
  | _, _, n + 1, .cons _ r => Reps.drop n r
theorem Reps.snoc {ds : List D} {vs : List V} {d : D} {v : V} (r : Reps K φ ψ H ds vs) (h : Rep K φ ψ H d v) : Reps K φ ψ H (ds ++ [d]) (vs ++ [v]) := r.app (.cons h .nil)
theorem ObjR.mono {a : Addr} {mo : MO} (p : Post φ ψ H φ' ψ' H') (R : Rel K tb φ ψ H m) (q : ObjR K φ ψ H a mo) (e : H' a = H a) : ObjR K φ' ψ' H' a mo := by
  cases mo with
  | rl b k =>
    have q' : ObjR K φ' ψ' H' a (.rl b k) := by
      obtain ⟨t, rfl⟩ := p.pre
      have hl := (List.getElem?_eq_some_iff.mp q.2).1
      refine ⟨(e.trans q.1).trans ?_, by rw [List.getElem?_append_left hl]; exact q.2⟩
      congr 2
      refine List.map_congr_left fun i hi => ?_
      rw [getD_of (l := φ) (l' := φ ++ t) (List.getElem?_append_left (by have := List.mem_range.mp hi; omega))]
    exact q'
  | lst ds => obtain ⟨vs, q1, q2⟩ := q; exact ⟨vs, e.trans q1, q2.mono p R⟩
  | dk kvs => obtain ⟨vs, q1, q2, q3⟩ := q; exact ⟨vs, e.trans q1, q2, q3.mono p R⟩
  | dt kvs => obtain ⟨vs, q1, q2, q3⟩ := q; exact ⟨vs, e.trans q1, q2, q3.mono p R⟩
theorem TabG.keep {p : Addr} (h : GxR.TabG H p) (e : H' p = H p) : GxR.TabG H' p := by
  obtain ⟨ps, q, r⟩ := h; exact ⟨ps, e.trans q, r⟩
theorem Rel.tsome {p : Addr} (R : Rel K tb φ ψ H m) (h : p ∈ tb) : H p ≠ none := by
  obtain ⟨ps, q, _⟩ := R.tab p h; rw [q]; exact fun z => nomatch z
theorem Rel.tnot {p : Addr} (R : Rel K tb φ ψ H m) (h : p ∈ tb) : p ∉ φ := by
  obtain ⟨ps, q, _⟩ := R.tab p h; exact R.ntbl q
theorem Post.lay {p : Addr} {o : HO} (h : H p = none) : Post φ ψ H φ ψ (upd H p o) :=
  ⟨List.prefix_refl _, fun _ z => .inl z, fun _ z => .inl z, fun b u _ e _ => .inl (by rw [upd_ne (ne_of_none e h)]; exact e), (fun b z => by
    by_cases hb : b = p
    · rw [hb]; exact h
    · rw [upd_ne hb] at z; exact z), fun _ z => z⟩
theorem Rel.lay {p : Addr} {o : HO} (R : Rel K tb φ ψ H m) (h : H p = none) : Rel K tb φ ψ (upd H p o) m := by
  refine ⟨R.len, R.nd, fun n mo a e1 e2 => ?_, fun q hq => TabG.keep (R.tab q hq) (upd_ne fun z => R.tsome hq (z ▸ h)), fun q hq z => R.sd q hq ((Post.lay (φ := φ) (ψ := ψ) h).kp q z), R.ap, fun q hq => (R.lam q hq).upd (fun z => R.tsome hq (z ▸ h)) fun _ e => by rw [h] at e; cases e⟩
  exact (R.obj n mo a e1 e2).mono (Post.lay h) R (upd_ne fun z => R.trk (List.mem_of_getElem? e2) (z ▸ h))
theorem Post.nw {p : Addr} {o : HO} (h : H p = none) : Post φ ψ H φ (p :: ψ) (upd H p o) :=
  ⟨List.prefix_refl _, fun _ z => .inl z, fun a z => by
    rcases List.mem_cons.mp z with z | z
    · rw [z]; exact .inr h
    · exact .inl z, (Post.lay (φ := φ) (ψ := ψ) h).frm, (Post.lay (φ := φ) (ψ := ψ) h).kp, fun _ z => List.mem_cons_of_mem _ z⟩
theorem Rel.nw {p : Addr} {o : HO} (R : Rel K tb φ ψ H m) (h : H p = none) : Rel K tb φ (p :: ψ) (upd H p o) m := by
  refine ⟨R.len, R.nd, fun n mo a e1 e2 => ?_, (R.lay (o := o) h).tab, fun q hq => ?_, fun q hq => ?_, (R.lay (o := o) h).lam⟩
  · exact (R.obj n mo a e1 e2).mono (Post.nw h) R (upd_ne fun z => R.trk (List.mem_of_getElem? e2) (z ▸ h))
  · rcases List.mem_cons.mp hq with z | z
    · rw [z, upd_same]; exact fun z => nomatch z
    · exact (R.lay (o := o) h).sd q z
  · rcases List.mem_cons.mp hq with z | z
    · rw [z]; exact R.fresh h
    · exact R.ap q z
theorem Rel.weak {p : Addr} (R : Rel K tb φ (p :: ψ) H m) : Rel K tb φ ψ H m :=
  ⟨R.len, R.nd, fun n mo a e1 e2 => (R.obj n mo a e1 e2).fewer fun b h1 h2 => ⟨h1, fun z => h2 (List.mem_cons_of_mem _ z)⟩, R.tab, fun q hq => R.sd q (List.mem_cons_of_mem _ hq), fun q hq => R.ap q (List.mem_cons_of_mem _ hq), R.lam⟩
theorem Post.weak {p : Addr} (P : Post φ ψ H φ' (p :: ψ') H') (hp : p ∉ ψ) : Post φ ψ H φ' ψ' H' := ⟨P.pre, P.new, fun a z => P.side a (List.mem_cons_of_mem _ z), P.frm, P.kp, fun a z => by
  rcases List.mem_cons.mp (P.sub a z) with y | y
  · exact absurd (y ▸ z) hp
  · exact y⟩
theorem Rep.weak {p : Addr} {d : D} {v : V} (h : Rep K φ (p :: ψ) H d v) : Rep K φ ψ H d v := h.fewer fun b h1 h2 => ⟨h1, fun z => h2 (List.mem_cons_of_mem _ z)⟩
theorem Reps.weak {p : Addr} {d : List D} {v : List V} (h : Reps K φ (p :: ψ) H d v) : Reps K φ ψ H d v := h.fewer fun b h1 h2 => ⟨h1, fun z => h2 (List.mem_cons_of_mem _ z)⟩
theorem nodup_snoc {p : Addr} (nd : φ.Nodup) (h : p ∉ φ) : (φ ++ [p]).Nodup := by
  rw [List.nodup_append]
  exact ⟨nd, by simp, fun a ha b hb => by rw [List.mem_singleton.mp hb]; exact fun z => h (z ▸ ha)⟩
theorem own_off {p : Addr} : ∀ a, a ∉ φ → a ∉ p :: ψ → a ∉ φ ++ [p] ∧ a ∉ ψ := fun a h1 h2 => ⟨fun z => by
    rcases List.mem_append.mp z with z | z
    · exact h1 z
    · rw [List.mem_singleton.mp z] at h2; exact h2 List.mem_cons_self, fun z => h2 (List.mem_cons_of_mem _ z)⟩
theorem Rel.own {p : Addr} {mo : MO} (R : Rel K tb φ (p :: ψ) H m) (hp : p ∉ ψ) (q : ObjR K φ (p :: ψ) H p mo) : Rel K tb (φ ++ [p]) ψ H (m ++ [mo]) := by
  have np := R.ap p List.mem_cons_self
  refine ⟨by simp [R.len], nodup_snoc R.nd np, fun n mo' a e1 e2 => ?_, R.tab, fun q hq => R.sd q (List.mem_cons_of_mem _ hq), fun q hq z => ?_, R.lam⟩
  · rcases Nat.lt_trichotomy n m.length with hn | hn | hn
    · rw [List.getElem?_append_left hn] at e1
      rw [List.getElem?_append_left (by rw [R.len]; exact hn)] at e2
      exact (R.obj n mo' a e1 e2).fewer own_off fun _ k hk i hi => List.getElem?_append_left (by have := (List.getElem?_eq_some_iff.mp hk).1; omega)
    · subst hn
      rw [List.getElem?_append_right (Nat.le_refl _), Nat.sub_self] at e1
      rw [← R.len, List.getElem?_append_right (Nat.le_refl _), Nat.sub_self] at e2
      have e1' : mo = mo' := Option.some.inj e1
      have e2' : p = a := Option.some.inj e2
      rw [← e1', ← e2']; exact q.fewer own_off fun _ k hk => absurd (List.mem_of_getElem? hk) np
    · rw [List.getElem?_eq_none (by simp; omega)] at e1; cases e1
  · rcases List.mem_append.mp z with z | z
    · exact R.ap q (List.mem_cons_of_mem _ hq) z
    · rw [List.mem_singleton.mp z] at hq; exact hp hq
theorem Post.own {p : Addr} (P : Post φ ψ H φ' (p :: ψ) H') (hp : p ∉ ψ) : Post φ ψ H (φ' ++ [p]) ψ H' :=
  ⟨P.pre.trans (List.prefix_append _ _), fun a z => by
    rcases List.mem_append.mp z with z | z
    · exact P.new a z
    · rw [List.mem_singleton.mp z]
      rcases P.side p List.mem_cons_self with y | y
      · exact absurd y hp
      · exact .inr y, fun a z => .inl z, P.frm, P.kp, fun _ z => z⟩
theorem Post.wr {a : Addr} {o : HO} (h : a ∈ φ) (hs : H a ≠ none) : Post φ ψ H φ ψ (upd H a o) :=
  ⟨List.prefix_refl _, fun _ z => .inl z, fun _ z => .inl z, fun b u hb e _ => .inl (by rw [upd_ne (fun z => hb (by rw [z]; exact h))]; exact e), (fun b z => by
    by_cases hb : b = a
    · rw [hb, upd_same] at z; cases z
    · rw [upd_ne hb] at z; exact z), fun _ z => z⟩
theorem Rel.wr {a : Addr} {n : Nat} {o : HO} {mo : MO} (R : Rel K tb φ ψ H m) (h : φ[n]? = some a) (q : ObjR K φ ψ (upd H a o) a mo) : Rel K tb φ ψ (upd H a o) (m.set n mo) := by
  have ha : a ∈ φ := List.mem_of_getElem? h
  have P : Post φ ψ H φ ψ (upd H a o) := Post.wr (o := o) ha (R.trk ha)
  obtain ⟨hn, en⟩ := List.getElem?_eq_some_iff.mp h
  refine ⟨by simp [R.len], R.nd, fun k mo' b e1 e2 => ?_, fun q hq => TabG.keep (R.tab q hq) (upd_ne fun z => R.tnot hq (z ▸ ha)), fun q hq z => R.sd q hq (P.kp q z), R.ap, fun q hq => (R.lam q hq).upd (fun z => R.tnot hq (z ▸ ha)) fun _ e => by rcases R.mut ha with ⟨_, y⟩ | ⟨_, y⟩ | ⟨_, y⟩ <;> (rw [y] at e; cases e)⟩
  by_cases hk : k = n
  · subst hk
    rw [h] at e2; cases e2
    rw [List.getElem?_set_self (by rw [← R.len]; exact hn)] at e1
    cases e1; exact q
  · rw [List.getElem?_set_ne (Ne.symm hk)] at e1
    refine (R.obj k mo' b e1 e2).mono P R (upd_ne fun z => hk ?_)
    obtain ⟨hk2, ek⟩ := List.getElem?_eq_some_iff.mp e2
    exact (List.getElem_inj R.nd).mp (ek.trans (z.trans en.symm))
theorem Rel.wrL {a : Addr} {n : Nat} {ds : List D} {vs : List V} (R : Rel K tb φ ψ H m) (h : φ[n]? = some a) (r : Reps K φ ψ H ds vs) : Rel K tb φ ψ (upd H a (.lst vs)) (m.set n (.lst ds)) :=
  R.wr h ⟨vs, upd_same, r.mono (Post.wr (List.mem_of_getElem? h) (R.trk (List.mem_of_getElem? h))) R⟩
theorem Post.sdw {p : Addr} {o : HO} (h : p ∈ ψ) (hp : p ∉ φ) (hs : H p ≠ none) : ∀ {φ0 ψ0 : List Addr} {H0 : Hp}, Post φ0 ψ0 H0 φ ψ H → H0 p = none → Post φ0 ψ0 H0 φ ψ (upd H p o) := fun {φ0 ψ0 H0} P h0 =>
  ⟨P.pre, P.new, P.side, fun b u hb e ht => by unfold Kp; rw [upd_ne (ne_of_none e h0)]; exact P.frm b u hb e ht, (fun b z => by
    by_cases hb : b = p
    · rw [hb, upd_same] at z; cases z
    · rw [upd_ne hb] at z; exact P.kp b z), P.sub⟩
theorem sd_sqT {p a : Addr} {vs xs : List V} {o : HO} (h : H p = some (.lst vs)) (q : SqT K H a xs) : SqT K (upd H p o) a xs := by
  rcases q with (q | ⟨o, q⟩) | q
  · exact .inl (.inl (by rw [upd_ne fun z => by rw [z, h] at q; cases q]; exact q))
  · exact .inl (.inr ⟨o, by rw [upd_ne fun z => by rw [z, h] at q; cases q]; exact q⟩)
  · exact .inr q
theorem sd_sqN {p a : Addr} {vs xs : List V} {o : HO} (h : H p = some (.lst vs)) (q : SqN K H a xs) : SqN K (upd H p o) a xs := ⟨sd_sqT h q.1, fun z => by rw [upd_ne fun y => by have := q.2 z; rw [y, h] at this; cases this]; exact q.2 z⟩
theorem sd_tz {p a : Addr} {vs xs : List V} {o : HO} (h : H p = some (.lst vs)) (q : Tz H a xs) : Tz (upd H p o) a xs := by
  obtain ⟨u, q, d⟩ := q
  exact ⟨u, by rw [upd_ne fun z => by rw [z, h] at q; cases q]; exact q, d⟩
theorem sd_fz {p a : Addr} {vs xs : List V} {o : HO} (h : H p = some (.lst vs)) (q : Fz K H a xs) : Fz K (upd H p o) a xs := by
  rcases q with ⟨u, q⟩ | q
  · exact .inl ⟨u, by rw [upd_ne fun z => by rw [z, h] at q; cases q]; exact q⟩
  · exact .inr q
theorem Reps.sdw {p : Addr} {vs : List V} {o : HO} (hp : p ∈ ψ) (h : H p = some (.lst vs)) {ds : List D} {us : List V} (r : Reps K φ ψ H ds us) : Reps K φ ψ (upd H p o) ds us :=
  r.map (fun _ _ => sd_sqN h) (fun _ _ => sd_tz h) (fun _ _ => sd_fz h) (fun a xs h1 h2 q _ _ => ⟨h1, h2, by rw [upd_ne (fun z => h2 (by rw [z]; exact hp))]; exact q⟩) fun a xs h1 h2 q => ⟨h1, h2, by unfold Rd at q ⊢; rw [upd_ne (fun z => h2 (by rw [z]; exact hp))]; exact q⟩
theorem Rep.sdw {p : Addr} {vs : List V} {o : HO} (hp : p ∈ ψ) (h : H p = some (.lst vs)) {d : D} {u : V} (r : Rep K φ ψ H d u) : Rep K φ ψ (upd H p o) d u :=
  r.map (fun _ _ => sd_sqN h) (fun _ _ => sd_tz h) (fun _ _ => sd_fz h) (fun a xs h1 h2 q _ _ => ⟨h1, h2, by rw [upd_ne (fun z => h2 (by rw [z]; exact hp))]; exact q⟩) fun a xs h1 h2 q => ⟨h1, h2, by unfold Rd at q ⊢; rw [upd_ne (fun z => h2 (by rw [z]; exact hp))]; exact q⟩
theorem Rel.sdw {p : Addr} {vs : List V} {o : HO} (R : Rel K tb φ ψ H m) (hp : p ∈ ψ) (h : H p = some (.lst vs)) : Rel K tb φ ψ (upd H p o) m := by
  refine ⟨R.len, R.nd, fun n mo a e1 e2 => ?_, fun q hq => TabG.keep (R.tab q hq) (upd_ne fun z => by
    obtain ⟨ps, e, _⟩ := R.tab q hq
    rw [z, h] at e; cases e), fun q hq z => ?_, R.ap, fun q hq => (R.lam q hq).upd (fun z => by
    obtain ⟨ps, e, _⟩ := R.tab q hq
    rw [z, h] at e; cases e) fun _ e => by rw [h] at e; cases e⟩
  · have ne : a ≠ p := fun z => R.ap p hp (z ▸ List.mem_of_getElem? e2)
    have q := R.obj n mo a e1 e2
    cases mo with
    | lst ds => obtain ⟨vs', q1, q2⟩ := q; exact ⟨vs', by rw [upd_ne ne]; exact q1, q2.sdw hp h⟩
    | dk kvs => obtain ⟨vs', q1, q2, q3⟩ := q; exact ⟨vs', by rw [upd_ne ne]; exact q1, q2, q3.sdw hp h⟩
    | dt kvs => obtain ⟨vs', q1, q2, q3⟩ := q; exact ⟨vs', by rw [upd_ne ne]; exact q1, q2, q3.sdw hp h⟩
    | rl b k => exact ⟨by rw [upd_ne ne]; exact q.1, q.2⟩
  · by_cases hb : q = p
    · rw [hb, upd_same] at z; cases z
    · rw [upd_ne hb] at z; exact R.sd q hq z
end
def stl : W → W
  | .f d => .v d
  | w => w
def RepS (K : FRG) (φ ψ : List Addr) (H : Hp) : W → V → Prop
  | .v d, v => Rep K φ ψ H d v
  | .f d, v => Rep K φ ψ H d v
  | .r n, v => ∃ a, φ[n]? = some a ∧ v = .ref a
def moD : MO → D
  | .lst ds => .lst ds
  | .dk kvs => .dk kvs
  | .dt kvs => .dt kvs
  | .rl b k => .rl b k
def dMO : D → Option MO
  | .lst ds => some (.lst ds)
  | .dk kvs => some (.dk kvs)
  | .dt kvs => some (.dt kvs)
  | _ => none
def RepW (K : FRG) (φ ψ ψ' : List Addr) (H : Hp) : W → V → Prop
  | .v d, v => ψ' = ψ ∧ Rep K φ ψ H d v
  | .r n, v => ψ' = ψ ∧ ∃ a, φ[n]? = some a ∧ v = .ref a
  | .f d, v => ∃ p mo, v = .ref p ∧ ψ' = p :: ψ ∧ p ∉ ψ ∧ d = moD mo ∧ ObjR K φ (p :: ψ) H p mo
section
variable {K : FRG} {tb φ φ1 φ2 φ' ψ ψ1 ψ2 ψ' : List Addr} {H H1 H2 H' : Hp} {m : Mem} {w : W} {v : V}
theorem ObjR.rep {p : Addr} {mo : MO} (h1 : p ∉ φ) (h2 : p ∉ ψ) (q : ObjR K φ ψ H p mo) : Rep K φ ψ H (moD mo) (.ref p) := by
  cases mo with
  | lst ds => obtain ⟨vs, q1, q2⟩ := q; exact .lst h1 h2 q1 q2
  | dk kvs => obtain ⟨vs, q1, q2, q3⟩ := q; exact .dk h1 h2 (.inl q1) q2 q3
  | dt kvs => obtain ⟨vs, q1, q2, q3⟩ := q; exact .dt h1 h2 q1 q2 q3
  | rl b k => exact absurd (List.mem_of_getElem? q.2) h1
theorem RepW.rel (h : RepW K φ ψ ψ' H w v) (R : Rel K tb φ ψ' H m) : Rel K tb φ ψ H m := by
  cases w with
  | v d => obtain ⟨rfl, _⟩ := h; exact R
  | r n => obtain ⟨rfl, _⟩ := h; exact R
  | f d => obtain ⟨p, mo, _, rfl, _⟩ := h; exact R.weak
theorem RepW.post {φ0 : List Addr} {H0 : Hp} (h : RepW K φ ψ ψ' H w v) (P : Post φ0 ψ H0 φ ψ' H) : Post φ0 ψ H0 φ ψ H := by
  cases w with
  | v d => obtain ⟨rfl, _⟩ := h; exact P
  | r n => obtain ⟨rfl, _⟩ := h; exact P
  | f d => obtain ⟨p, mo, _, rfl, np, _⟩ := h; exact P.weak np
theorem RepW.s (h : RepW K φ ψ ψ' H w v) (R : Rel K tb φ ψ' H m) : RepS K φ ψ H w v := by
  cases w with
  | v d => exact h.2
  | r n => exact h.2
  | f d =>
    obtain ⟨p, mo, rfl, rfl, np, rfl, q⟩ := h
    exact (q.fewer fun b h1 h2 => ⟨h1, fun z => h2 (List.mem_cons_of_mem _ z)⟩).rep (R.ap p List.mem_cons_self) np
theorem RepS.stl (h : RepS K φ ψ H w v) : RepS K φ ψ H (Pw.stl w) v := by cases w <;> exact h
theorem RepS.mono (p : Post φ ψ H φ' ψ' H') (R : Rel K tb φ ψ H m) (h : RepS K φ ψ H w v) : RepS K φ' ψ' H' w v := by
  cases w with
  | v d => exact Rep.mono p R h
  | f d => exact Rep.mono p R h
  | r n => obtain ⟨a, e, q⟩ := h; exact ⟨a, pre_get p.pre e, q⟩
theorem RepS.fewer (h : ∀ a, a ∉ φ → a ∉ ψ → a ∉ φ ∧ a ∉ ψ') (q : RepS K φ ψ H w v) : RepS K φ ψ' H w v := by
  cases w with
  | v d => exact Rep.fewer h q
  | f d => exact Rep.fewer h q
  | r n => exact q
end
inductive RepSs (K : FRG) (φ ψ : List Addr) (H : Hp) : List W → List V → Prop
  | nil : RepSs K φ ψ H [] []
  | cons {w : W} {v : V} {ws : List W} {vs : List V} : RepS K φ ψ H w v → RepSs K φ ψ H ws vs → RepSs K φ ψ H (w :: ws) (v :: vs)
theorem RepSs.mono {K : FRG} {tb φ φ' ψ ψ' : List Addr} {H H' : Hp} {m : Mem} (p : Post φ ψ H φ' ψ' H') (R : Rel K tb φ ψ H m) {ws : List W} {vs : List V} (h : RepSs K φ ψ H ws vs) : RepSs K φ' ψ' H' ws vs := by
  induction h with
  | nil => exact .nil
  | cons h r ih => exact .cons (h.mono p R) ih
theorem RepSs.length {K : FRG} {φ ψ : List Addr} {H : Hp} {ws : List W} {vs : List V} (h : RepSs K φ ψ H ws vs) : ws.length = vs.length := by
  induction h with
  | nil => rfl
  | cons h r ih => simp [ih]
theorem RepSs.get {K : FRG} {φ ψ : List Addr} {H : Hp} {ws : List W} {vs : List V} (h : RepSs K φ ψ H ws vs) : ∀ {i : Nat} {w : W}, ws[i]? = some w → ∃ v, vs[i]? = some v ∧ RepS K φ ψ H w v := by
  induction h with
  | nil => intro i w e; simp at e
  | cons h r ih =>
    intro i w e
    cases i with
    | zero => simp at e; subst e; exact ⟨_, rfl, h⟩
    | succ i => obtain ⟨v, h1, h2⟩ := ih (i := i) (w := w) (by simpa using e); exact ⟨v, by simpa using h1, h2⟩
def gt : W → Mem → Option D
  | .v d, _ => some d
  | .f d, _ => some d
  | .r n, m => (m[n]?).map moD
def RepC (K : FRG) (φ ψ : List Addr) (H : Hp) (d : D) (v : V) : Prop := Rep K φ ψ H d v ∨ ∃ a mo, v = .ref a ∧ d = moD mo ∧ ObjR K φ ψ H a mo
section
variable {K : FRG} {tb φ ψ : List Addr} {H : Hp} {m : Mem} {w : W} {v : V} {d : D}
theorem gt_c (R : Rel K tb φ ψ H m) (h : RepS K φ ψ H w v) (e : gt w m = some d) : RepC K φ ψ H d v := by
  cases w with
  | v d' => cases e; exact .inl h
  | f d' => cases e; exact .inl h
  | r n =>
    obtain ⟨a, e1, rfl⟩ := h
    obtain ⟨mo, e2, rfl⟩ := Option.map_eq_some_iff.mp e
    exact .inr ⟨a, mo, rfl, rfl, R.obj n mo a e2 e1⟩
theorem RepC.lst {ds : List D} (h : RepC K φ ψ H (.lst ds) v) : ∃ a vs, v = .ref a ∧ H a = some (.lst vs) ∧ Reps K φ ψ H ds vs := by
  rcases h with h | ⟨a, mo, rfl, e, q⟩
  · cases h with
    | lst h1 h2 h3 r => exact ⟨_, _, rfl, h3, r⟩
  · cases mo with
    | lst es => cases e; obtain ⟨vs, q1, q2⟩ := q; exact ⟨_, _, rfl, q1, q2⟩
    | dk es => cases e
    | dt es => cases e
    | rl b k => cases e
theorem RepC.fl {ds : List D} (h : RepC K φ ψ H (.fl ds) v) : ∃ a vs, v = .ref a ∧ SqL K H a vs ∧ Reps K φ ψ H ds vs := by
  rcases h with h | ⟨a, mo, rfl, e, q⟩
  · cases h with
    | fl h r => exact ⟨_, _, rfl, h.sq, r⟩
  · cases mo <;> cases e
theorem RepC.tup {ds : List D} (h : RepC K φ ψ H (.tup ds) v) : ∃ a vs, v = .ref a ∧ SqT K H a vs ∧ Reps K φ ψ H ds vs := by
  rcases h with h | ⟨a, mo, rfl, e, q⟩
  · cases h with
    | tup h r => exact ⟨_, _, rfl, h.1, r⟩
  · cases mo <;> cases e
theorem RepC.tupN {ds : List D} (h : RepC K φ ψ H (.tup ds) v) : ∃ a vs, v = .ref a ∧ SqN K H a vs ∧ Reps K φ ψ H ds vs := by
  rcases h with h | ⟨a, mo, rfl, e, q⟩
  · cases h with
    | tup h r => exact ⟨_, _, rfl, h, r⟩
  · cases mo <;> cases e
theorem RepC.dk {kvs : List (Key × D)} (h : RepC K φ ψ H (.dk kvs) v) : ∃ (a : Addr) (vs : List (Key × V)), v = .ref a ∧ Rd H a (.dK vs) ∧ kvs.map (·.1) = vs.map (·.1) ∧ Reps K φ ψ H (kvs.map (·.2)) (vs.map (·.2)) := by
  rcases h with h | ⟨a, mo, rfl, e, q⟩
  · cases h with
    | dk h1 h2 h3 h4 r => exact ⟨_, _, rfl, h3, h4, r⟩
  · cases mo with
    | lst es => cases e
    | dk es => cases e; obtain ⟨vs, q1, q2, q3⟩ := q; exact ⟨_, _, rfl, .inl q1, q2, q3⟩
    | dt es => cases e
    | rl b k => cases e
theorem RepC.dt {kvs : List (List Key × D)} (h : RepC K φ ψ H (.dt kvs) v) : ∃ (a : Addr) (vs : List (List Key × V)), v = .ref a ∧ H a = some (.dT vs) ∧ kvs.map (·.1) = vs.map (·.1) ∧ Reps K φ ψ H (kvs.map (·.2)) (vs.map (·.2)) := by
  rcases h with h | ⟨a, mo, rfl, e, q⟩
  · cases h with
    | dt h1 h2 h3 h4 r => exact ⟨_, _, rfl, h3, h4, r⟩
  · cases mo with
    | lst es => cases e
    | dk es => cases e
    | dt es => cases e; obtain ⟨vs, q1, q2, q3⟩ := q; exact ⟨_, _, rfl, q1, q2, q3⟩
    | rl b k => cases e
theorem RepC.int {i : Int} (h : RepC K φ ψ H (.int i) v) : v = .int i := by
  rcases h with h | ⟨a, mo, rfl, e, q⟩
  · cases h; rfl
  · cases mo <;> cases e
theorem RepC.bl {i : Bool} (h : RepC K φ ψ H (.bl i) v) : v = .bl i := by
  rcases h with h | ⟨a, mo, rfl, e, q⟩
  · cases h; rfl
  · cases mo <;> cases e
theorem RepC.str {i : Str} (h : RepC K φ ψ H (.str i) v) : v = .str i := by
  rcases h with h | ⟨a, mo, rfl, e, q⟩
  · cases h; rfl
  · cases mo <;> cases e
theorem RepC.non (h : RepC K φ ψ H .non v) : v = .non := by
  rcases h with h | ⟨a, mo, rfl, e, q⟩
  · cases h; rfl
  · cases mo <;> cases e
end
abbrev Ex := Env → Mem → Option (W × Mem)
abbrev Tx := Env → Mem → Option (Bool × Mem)
abbrev Ax := Env → Mem → Option (List W × Mem)
inductive Out where
  | nx | ret (w : W) | bk | ct
abbrev Sx := Env → Mem → Option (Out × Env × Mem)
structure RE (K : FRG) (φ ψ : List Addr) (H : Hp) (ρ : Env) (σ : L2.St) : Prop where
  val : ∀ (i : Nat) (w : W), ρ[i]? = some (some w) → ∃ v, σ[i]? = some (some v) ∧ RepS K φ ψ H w v
  len : ρ.length = σ.length
theorem RE.mono {K : FRG} {tb φ φ' ψ ψ' : List Addr} {H H' : Hp} {m : Mem} {ρ : Env} {σ : L2.St} (p : Post φ ψ H φ' ψ' H') (R : Rel K tb φ ψ H m) (e : RE K φ ψ H ρ σ) : RE K φ' ψ' H' ρ σ :=
  ⟨fun i d h => let ⟨v, h1, h2⟩ := e.val i d h; ⟨v, h1, h2.mono p R⟩, e.len⟩
theorem RE.set {K : FRG} {φ ψ : List Addr} {H : Hp} {ρ : Env} {σ : L2.St} {d : W} {v : V} (e : RE K φ ψ H ρ σ) (i : Nat) (h : RepS K φ ψ H d v) : RE K φ ψ H (ρ.set i (some d)) (σ.set i (some v)) := by
  refine ⟨fun j x hj => ?_, by simp [e.len]⟩
  by_cases hij : i = j
  · subst hij
    have hl : i < (ρ.set i (some d)).length := (List.getElem?_eq_some_iff.mp hj).1
    rw [List.length_set] at hl
    rw [List.getElem?_set_self hl] at hj
    cases hj
    exact ⟨v, by rw [List.getElem?_set_self (by rw [← e.len]; exact hl)], h⟩
  · rw [List.getElem?_set_ne hij] at hj
    rw [List.getElem?_set_ne hij]
    exact e.val j x hj
theorem RE.wipe1 {K : FRG} {φ ψ : List Addr} {H : Hp} {ρ : Env} {σ : L2.St} (e : RE K φ ψ H ρ σ) (i : Nat) : RE K φ ψ H (ρ.set i none) (σ.set i none) := by
  refine ⟨fun j x hj => ?_, by simp [e.len]⟩
  by_cases hij : i = j
  · subst hij
    have hl : i < (ρ.set i none).length := (List.getElem?_eq_some_iff.mp hj).1
    rw [List.length_set] at hl
    rw [List.getElem?_set_self hl] at hj
    cases hj
  · rw [List.getElem?_set_ne hij] at hj
    rw [List.getElem?_set_ne hij]
    exact e.val j x hj
theorem RE.fog1 {K : FRG} {φ ψ : List Addr} {H : Hp} {ρ : Env} {σ : L2.St} (e : RE K φ ψ H ρ σ) (i : Nat) : RE K φ ψ H (ρ.set i none) σ := by
  refine ⟨fun j x hj => ?_, by simp [e.len]⟩
  by_cases hij : i = j
  · subst hij
    have hl : i < (ρ.set i none).length := (List.getElem?_eq_some_iff.mp hj).1
    rw [List.length_set] at hl
    rw [List.getElem?_set_self hl] at hj
    cases hj
  · rw [List.getElem?_set_ne hij] at hj
    exact e.val j x hj
def wipeD (ρ : Env) : List Nat → Env
  | [] => ρ
  | v :: vs => (wipeD ρ vs).set v none
theorem RE.wipe {K : FRG} {φ ψ : List Addr} {H : Hp} {ρ : Env} {σ : L2.St} (e : RE K φ ψ H ρ σ) : ∀ vs : List Nat, RE K φ ψ H (wipeD ρ vs) (L2.wipe σ vs)
  | [] => e
  | v :: vs => (RE.wipe e vs).wipe1 v
theorem RE.fog {K : FRG} {φ ψ : List Addr} {H : Hp} {ρ : Env} {σ : L2.St} (e : RE K φ ψ H ρ σ) : ∀ vs : List Nat, RE K φ ψ H (wipeD ρ vs) σ
  | [] => e
  | v :: vs => (RE.fog e vs).fog1 v
section
variable (K : FRG) (tb : List Addr)
abbrev Go (φ ψ : List Addr) (H : Hp) (m' : Mem) (w : W) (Q : VK) : Prop := ∀ φ' ψ' H' v, Post φ ψ H φ' ψ' H' → Rel K tb φ' ψ' H' m' → RepW K φ' ψ ψ' H' w v → Q v H'
abbrev GoT (φ ψ : List Addr) (H : Hp) (m' : Mem) (b : Bool) (Q : Bool → Hp → Prop) : Prop := ∀ φ' H', Post φ ψ H φ' ψ H' → Rel K tb φ' ψ H' m' → Q b H'
abbrev GoA (φ ψ : List Addr) (H : Hp) (m' : Mem) (ds : List W) (Q : List V → Hp → Prop) : Prop := ∀ φ' H' vs, Post φ ψ H φ' ψ H' → Rel K tb φ' ψ H' m' → RepSs K φ' ψ H' ds vs → Q vs H'
def T (f : Ex) : TE := fun σ H Q => ∃ φ ψ ρ m w m', Rel K tb φ ψ H m ∧ RE K φ ψ H ρ σ ∧ f ρ m = some (w, m') ∧ Go K tb φ ψ H m' w Q
def Tt (f : Tx) : TT := fun σ H Q => ∃ φ ψ ρ m b m', Rel K tb φ ψ H m ∧ RE K φ ψ H ρ σ ∧ f ρ m = some (b, m') ∧ GoT K tb φ ψ H m' b Q
def Ta (f : Ax) : TA := fun σ H Q => ∃ φ ψ ρ m ds m', Rel K tb φ ψ H m ∧ RE K φ ψ H ρ σ ∧ f ρ m = some (ds, m') ∧ GoA K tb φ ψ H m' ds Q
def OutK (φ' ψ ψ' : List Addr) (H' : Hp) (E : Ends) (ρ' : Env) : Out → Prop
  | .nx => ψ' = ψ → ∀ σ', RE K φ' ψ H' ρ' σ' → E.nx σ' H'
  | .bk => ψ' = ψ → ∀ σ', RE K φ' ψ H' ρ' σ' → E.bk σ' H'
  | .ct => ψ' = ψ → ∀ σ', RE K φ' ψ H' ρ' σ' → E.ct σ' H'
  | .ret w => ∀ v, RepW K φ' ψ ψ' H' w v → E.rt v H'
def Ts (g : Sx) : TS := fun E σ H => ∃ φ ψ ρ m o ρ' m', Rel K tb φ ψ H m ∧ RE K φ ψ H ρ σ ∧ g ρ m = some (o, ρ', m') ∧ ∀ φ' ψ' H', Post φ ψ H φ' ψ' H' → Rel K tb φ' ψ' H' m' → OutK K φ' ψ ψ' H' E ρ' o
end
theorem pe_mono {X : Cx} {e : Expr} {t t' : TE} (h : PE X e t) (i : ∀ σ H Q, t' σ H Q → t σ H Q) : PE X e t' := ⟨fun pins s σ H Q I q => h.run pins s σ H Q I (i σ H Q q)⟩
theorem pt_mono {X : Cx} {e : Expr} {t t' : TT} (h : PT X e t) (i : ∀ σ H Q, t' σ H Q → t σ H Q) : PT X e t' := ⟨fun pins s σ H Q I q => h.run pins s σ H Q I (i σ H Q q)⟩
theorem pa_mono {X : Cx} {e : List Expr} {t t' : TA} (h : PA X e t) (i : ∀ σ H Q, t' σ H Q → t σ H Q) : PA X e t' := ⟨fun pos pins s σ H Q I q => h.run pos pins s σ H Q I (i σ H Q q)⟩
theorem ps_mono {X : Cx} {e : Stmt} {t t' : TS} (h : PS X e t) (i : ∀ D σ H, t' D σ H → t D σ H) : PS X e t' := ⟨fun pins s σ H D I q => h.run pins s σ H D I (i D σ H q)⟩
theorem pss_mono {X : Cx} {e : List Stmt} {t t' : TS} (h : PSs X e t) (i : ∀ D σ H, t' D σ H → t D σ H) : PSs X e t' := ⟨fun pins s σ H D I q => h.run pins s σ H D I (i D σ H q)⟩
end Pw
end
section
set_option Elab.async false
set_option linter.all false
set_option maxRecDepth 100000
set_option maxHeartbeats 1000000
namespace Pw
open PySem PySem.Spec PyProof.Rows L2
theorem small {n : Nat} (h : n ≤ 1000000) : n ≤ sizeLine := Nat.le_trans h (by rw [sizeLine_eq]; decide)
theorem smallT {n : Nat} (h : n < 1000000) : n < sizeLine := Nat.lt_of_lt_of_le h (by rw [sizeLine_eq]; decide)
theorem bnd {α β : Type} {o : Option α} {f : α → Option β} {b : β} (h : o.bind f = some b) : ∃ a, o = some a ∧ f a = some b := Option.bind_eq_some_iff.mp h
inductive RepCs (K : FRG) (φ ψ : List Addr) (H : Hp) : List D → List V → Prop
  | nil : RepCs K φ ψ H [] []
  | cons {d : D} {v : V} {ds : List D} {vs : List V} : RepC K φ ψ H d v → RepCs K φ ψ H ds vs → RepCs K φ ψ H (d :: ds) (v :: vs)
def gts : List W → Mem → Option (List D)
  | [], _ => some []
  | w :: ws, m => (gt w m).bind fun d => (gts ws m).bind fun ds => some (d :: ds)
def vls : List W → Option (List D)
  | [] => some []
  | .v d :: ws => (vls ws).bind fun ds => some (d :: ds)
  | .f d :: ws => (vls ws).bind fun ds => some (d :: ds)
  | .r _ :: _ => none
section
variable {K : FRG} {tb φ ψ : List Addr} {H : Hp} {m : Mem}
theorem gts_c (R : Rel K tb φ ψ H m) {ws : List W} {vs : List V} (h : RepSs K φ ψ H ws vs) : ∀ {ds : List D}, gts ws m = some ds → RepCs K φ ψ H ds vs := by
  induction h with
  | nil => intro ds e; cases e; exact .nil
  | cons h r ih =>
    intro ds e
    obtain ⟨d, e1, e⟩ := bnd e
    obtain ⟨es, e2, e⟩ := bnd e
    cases e
    exact .cons (gt_c R h e1) (ih e2)
theorem vls_c {ws : List W} {vs : List V} (h : RepSs K φ ψ H ws vs) : ∀ {ds : List D}, vls ws = some ds → Reps K φ ψ H ds vs := by
  induction h with
  | nil => intro ds e; cases e; exact .nil
  | @cons w v ws vs h r ih =>
    intro ds e
    cases w with
    | v d => obtain ⟨es, e2, e⟩ := bnd (show (vls ws).bind _ = _ from e); cases e; exact .cons h (ih e2)
    | f d => obtain ⟨es, e2, e⟩ := bnd (show (vls ws).bind _ = _ from e); cases e; exact .cons h (ih e2)
    | r n => cases e
end
section
variable (K : FRG) (tb : List Addr)
def OpS (r : R2) (g : D → D → Option W) : Prop := ∀ φ ψ H m x y dx dy w Q, Rel K tb φ ψ H m → RepC K φ ψ H dx x → RepC K φ ψ H dy y → g dx dy = some w → Go K tb φ ψ H m w Q → r x y H Q
def UnS (r : V → Hp → VK → Prop) (g : D → Option W) : Prop := ∀ φ ψ H m x dx w Q, Rel K tb φ ψ H m → RepC K φ ψ H dx x → g dx = some w → Go K tb φ ψ H m w Q → r x H Q
def CallS (r : List V → Hp → VK → Prop) (g : List D → Option W) : Prop := ∀ φ ψ H m vs ds w Q, Rel K tb φ ψ H m → RepCs K φ ψ H ds vs → g ds = some w → Go K tb φ ψ H m w Q → r vs H Q
def MtS (r : V → List V → Hp → VK → Prop) (g : W → List W → Mem → Option (W × Mem)) : Prop := ∀ φ ψ H m x vs w ws w' m' Q, Rel K tb φ ψ H m → RepS K φ ψ H w x → RepSs K φ ψ H ws vs → g w ws m = some (w', m') → Go K tb φ ψ H m' w' Q → r x vs H Q
end
section
variable {K : FRG} {tb φ ψ : List Addr} {H : Hp} {m : Mem} {Q : VK}
theorem Go.val {d : D} {v : V} (k : Go K tb φ ψ H m (.v d) Q) (R : Rel K tb φ ψ H m) (h : Rep K φ ψ H d v) : Q v H := k φ ψ H v .refl R ⟨rfl, h⟩
theorem Go.tup {ds : List D} {vs : List V} {p : Addr} (k : Go K tb φ ψ H m (.v (.tup ds)) Q) (R : Rel K tb φ ψ H m) (h : Reps K φ ψ H ds vs) (hp : H p = none) : Q (.ref p) (upd H p (.tup vs)) :=
  k φ ψ _ _ (Post.lay hp) (R.lay hp) ⟨rfl, .tup (SqN.of upd_same) (h.mono (Post.lay hp) R)⟩
theorem Go.lst {ds : List D} {vs : List V} {p : Addr} (k : Go K tb φ ψ H m (.f (.lst ds)) Q) (R : Rel K tb φ ψ H m) (h : Reps K φ ψ H ds vs) (hp : H p = none) : Q (.ref p) (upd H p (.lst vs)) :=
  k φ (p :: ψ) _ _ (Post.nw hp) (R.nw hp) ⟨p, .lst ds, rfl, rfl, R.freshS hp, rfl, vs, upd_same, h.mono (Post.nw hp) R⟩
theorem Go.dt {kvs : List (List Key × D)} {vs : List (List Key × V)} {p : Addr} (k : Go K tb φ ψ H m (.f (.dt kvs)) Q) (R : Rel K tb φ ψ H m) (hk : kvs.map (·.1) = vs.map (·.1)) (h : Reps K φ ψ H (kvs.map (·.2)) (vs.map (·.2))) (hp : H p = none) : Q (.ref p) (upd H p (.dT vs)) :=
  k φ (p :: ψ) _ _ (Post.nw hp) (R.nw hp) ⟨p, .dt kvs, rfl, rfl, R.freshS hp, rfl, vs, upd_same, hk, h.mono (Post.nw hp) R⟩
theorem Go.dk {kvs : List (Key × D)} {vs : List (Key × V)} {p : Addr} (k : Go K tb φ ψ H m (.f (.dk kvs)) Q) (R : Rel K tb φ ψ H m) (hk : kvs.map (·.1) = vs.map (·.1)) (h : Reps K φ ψ H (kvs.map (·.2)) (vs.map (·.2))) (hp : H p = none) : Q (.ref p) (upd H p (.dK vs)) :=
  k φ (p :: ψ) _ _ (Post.nw hp) (R.nw hp) ⟨p, .dk kvs, rfl, rfl, R.freshS hp, rfl, vs, upd_same, hk, h.mono (Post.nw hp) R⟩
end
def eVar (i : Nat) : Ex := fun ρ m => match ρ[i]? with
  | some (some w) => some (stl w, m)
  | _ => none
def eC (d : D) : Ex := fun _ m => some (.v d, m)
def eOp (g : D → D → Option W) (a b : Ex) : Ex := fun ρ m => (a ρ m).bind fun p => (b ρ p.2).bind fun q => (gt p.1 q.2).bind fun x => (gt q.1 q.2).bind fun y => (g x y).bind fun w => some (w, q.2)
def eUn (g : D → Option W) (a : Ex) : Ex := fun ρ m => (a ρ m).bind fun p => (gt p.1 p.2).bind fun x => (g x).bind fun w => some (w, p.2)
def aNil : Ax := fun _ m => some ([], m)
def aCons (a : Ex) (b : Ax) : Ax := fun ρ m => (a ρ m).bind fun p => (b ρ p.2).bind fun q => some (stl p.1 :: q.1, q.2)
def eCB (g : List D → Option W) (a : Ax) : Ex := fun ρ m => (a ρ m).bind fun p => (gts p.1 p.2).bind fun ds => (g ds).bind fun w => some (w, p.2)
def eMt (ck : W → Mem → Bool) (g : W → List W → Mem → Option (W × Mem)) (o : Ex) (a : Ax) : Ex := fun ρ m => (o ρ m).bind fun p => if ck p.1 p.2 = true then (a ρ p.2).bind fun q => g p.1 q.1 q.2 else none
def eTup (a : Ax) : Ex := fun ρ m => (a ρ m).bind fun p => (vls p.1).bind fun ds => if ds.length ≤ 1000000 then some (.v (.tup ds), p.2) else none
def eLst (a : Ax) : Ex := fun ρ m => (a ρ m).bind fun p => (vls p.1).bind fun ds => if ds.length ≤ 1000000 then some (.f (.lst ds), p.2) else none
def blD : D → Option Bool
  | .bl b => some b
  | _ => none
def tVal (a : Ex) : Tx := fun ρ m => (a ρ m).bind fun p => (gt p.1 p.2).bind fun d => (blD d).bind fun b => some (b, p.2)
def truD : D → Option Bool
  | .non => some false
  | .bl b => some b
  | .int i => some (i != 0)
  | .tup ds => some (!ds.isEmpty)
  | .fl ds => some (!ds.isEmpty)
  | .lst ds => some (!ds.isEmpty)
  | .dk kvs => some (!kvs.isEmpty)
  | _ => none
def tTru (a : Ex) : Tx := fun ρ m => (a ρ m).bind fun p => (gt p.1 p.2).bind fun d => (truD d).bind fun b => some (b, p.2)
def tAnd' (a b : Tx) : Tx := fun ρ m => (a ρ m).bind fun p => if p.1 = true then b ρ p.2 else some (false, p.2)
def tNot' (a : Tx) : Tx := fun ρ m => (a ρ m).bind fun p => some (!p.1, p.2)
def eIf (t : Tx) (a b : Ex) : Ex := fun ρ m => (t ρ m).bind fun p => if p.1 = true then a ρ p.2 else b ρ p.2
def eAnd (a b : Ex) : Ex := fun ρ m => (tVal a ρ m).bind fun p => if p.1 = true then b ρ p.2 else some (.v (.bl false), p.2)
def eOr (a b : Ex) : Ex := fun ρ m => (tVal a ρ m).bind fun p => if p.1 = true then some (.v (.bl true), p.2) else b ρ p.2
def eNot (a : Ex) : Ex := fun ρ m => (tVal a ρ m).bind fun p => some (.v (.bl (!p.1)), p.2)
section
variable {X : Cx} {tb : List Addr} {a b c : Expr} {fa fb fc : Ex} {ta : Tx} {tb' : Tx} {pos : Pos}
theorem RepS.w {K : FRG} {φ ψ : List Addr} {H : Hp} {w : W} {v : V} (h : RepS K φ ψ H w v) : RepW K φ ψ ψ H (Pw.stl w) v := by
  cases w with
  | v d => exact ⟨rfl, h⟩
  | f d => exact ⟨rfl, h⟩
  | r n => exact ⟨rfl, h⟩
theorem ex_var (i : Nat) {x : Str} (hN : X.N[i]? = some x := by rfl) (hv : Vis X.env.scope x := by first | exact Or.inl rfl | exact Or.inr (Or.inl rfl) | exact Or.inr (Or.inr rfl)) (hd : (x == ("__debug__" : Str)) = false := by decide)
    (hcd : (x == ("__classdict__" : Str)) = false := by decide) : PE X (.Name x pos) (T X.K tb (eVar i)) := by
  refine pe_mono (pe_var hN hv hd hcd) fun σ H Q h => ?_
  obtain ⟨φ, ψ, ρ, m, w, m', R, E, e, k⟩ := h
  unfold eVar at e
  split at e
  · rename_i w' hw
    cases e
    obtain ⟨v, h1, h2⟩ := E.val i _ hw
    exact ⟨v, h1, k φ ψ H v .refl R h2.w⟩
  · cases e
theorem ex_int {i : Int} {j : Nat} : PE X (.Constant (.int i) j pos) (T X.K tb (eC (.int i))) := pe_mono pe_int fun σ H Q ⟨φ, ψ, ρ, m, w, m', R, E, e, k⟩ => by
  cases e; exact Go.val k R (.int i)
theorem ex_bl {i : Bool} {j : Nat} : PE X (.Constant (.bool i) j pos) (T X.K tb (eC (.bl i))) := pe_mono pe_bl fun σ H Q ⟨φ, ψ, ρ, m, w, m', R, E, e, k⟩ => by
  cases e; exact Go.val k R (.bl i)
theorem ex_str {i : Str} {j : Nat} : PE X (.Constant (.str i) j pos) (T X.K tb (eC (.str i))) := pe_mono pe_str fun σ H Q ⟨φ, ψ, ρ, m, w, m', R, E, e, k⟩ => by
  cases e; exact Go.val k R (.str i)
theorem op_go {r : R2} {g : D → D → Option W} (hs : OpS X.K tb r g) {σ : L2.St} {H : Hp} {Q : VK} (h : T X.K tb (eOp g fa fb) σ H Q) : tOp r (T X.K tb fa) (T X.K tb fb) σ H Q := by
  obtain ⟨φ, ψ, ρ, m, w, m', R, E, e, k⟩ := h
  obtain ⟨⟨w1, m1⟩, e1, e⟩ := bnd e
  obtain ⟨⟨w2, m2⟩, e2, e⟩ := bnd e
  obtain ⟨x, ex, e⟩ := bnd e
  obtain ⟨y, ey, e⟩ := bnd e
  obtain ⟨w3, eg, e⟩ := bnd e
  cases e
  refine ⟨φ, ψ, ρ, m, w1, m1, R, E, e1, fun φ1 ψ1 H1 xv P1 R1 V1 => ⟨φ1, ψ, ρ, m1, w2, m2, V1.rel R1, E.mono (V1.post P1) R, e2, fun φ2 ψ2 H2 yv P2 R2 V2 => ?_⟩⟩
  have R2' := V2.rel R2
  have P2' := V2.post P2
  exact hs φ2 ψ H2 m2 xv yv x y w Q R2' (gt_c R2' ((V1.s R1).mono P2' (V1.rel R1)) ex) (gt_c R2' (V2.s R2) ey) eg fun φ3 ψ3 H3 v P3 R3 V3 => k φ3 ψ3 H3 v ((V1.post P1).trans (P2'.trans P3)) R3 V3
theorem ex_op {op : Operator} {r : R2} {g : D → D → Option W} (ho : OpR X (binaryOp op) r) (hs : OpS X.K tb r g) (ha : PE X a (T X.K tb fa)) (hb : PE X b (T X.K tb fb)) : PE X (.BinOp a op b pos) (T X.K tb (eOp g fa fb)) :=
  pe_mono (pe_op ho ha hb) fun _ _ _ h => op_go hs h
theorem ex_cmp {op : CmpOp} {r : R2} {g : D → D → Option W} (ho : OpR X (compareOp op) r) (hs : OpS X.K tb r g) (ha : PE X a (T X.K tb fa)) (hb : PE X b (T X.K tb fb)) (hm : behindInMarks op b = false) : PE X (.Compare a [op] [b] pos) (T X.K tb (eOp g fa fb)) :=
  pe_mono (pe_cmpR ho ha hb hm) fun _ _ _ h => op_go hs h
theorem blD_v {K : FRG} {φ ψ : List Addr} {H : Hp} {d : D} {v : V} {b : Bool} (h : RepC K φ ψ H d v) (e : blD d = some b) : v = .bl b := by
  unfold blD at e
  split at e
  · cases e; exact h.bl
  · cases e
theorem val_go {f : Ex} {σ : L2.St} {H : Hp} {Q : Bool → Hp → Prop} (h : Tt X.K tb (tVal f) σ H Q) : T X.K tb f σ H fun x H' => ∃ k, x = .bl k ∧ Q k H' := by
  obtain ⟨φ, ψ, ρ, m, w, m', R, E, e, k⟩ := h
  obtain ⟨⟨w1, m1⟩, e1, e⟩ := bnd e
  obtain ⟨d, ed, e⟩ := bnd e
  obtain ⟨b, eb, e⟩ := bnd e
  cases e
  exact ⟨φ, ψ, ρ, m, w1, _, R, E, e1, fun φ1 ψ1 H1 x P1 R1 V1 => ⟨_, blD_v (gt_c (V1.rel R1) (V1.s R1) ed) eb, k φ1 H1 (V1.post P1) (V1.rel R1)⟩⟩
theorem tx_cmp {op : CmpOp} {r : R2} {g : D → D → Option W} (ho : OpR X (compareOp op) r) (hs : OpS X.K tb r g) (ha : PE X a (T X.K tb fa)) (hb : PE X b (T X.K tb fb)) (hm : behindInMarks op b = false) : PT X (.Compare a [op] [b] pos) (Tt X.K tb (tVal (eOp g fa fb))) :=
  pt_mono (pt_cmpR ho ha hb hm) fun _ _ _ h => op_go hs (val_go h)
theorem un_go {r : V → Hp → VK → Prop} {g : D → Option W} (hs : UnS X.K tb r g) {σ : L2.St} {H : Hp} {Q : VK} (h : T X.K tb (eUn g fa) σ H Q) : tUn r (T X.K tb fa) σ H Q := by
  obtain ⟨φ, ψ, ρ, m, w, m', R, E, e, k⟩ := h
  obtain ⟨⟨w1, m1⟩, e1, e⟩ := bnd e
  obtain ⟨x, ex, e⟩ := bnd e
  obtain ⟨w2, eg, e⟩ := bnd e
  cases e
  exact ⟨φ, ψ, ρ, m, w1, _, R, E, e1, fun φ1 ψ1 H1 xv P1 R1 V1 => hs φ1 ψ H1 _ xv x w Q (V1.rel R1) (gt_c (V1.rel R1) (V1.s R1) ex) eg fun φ3 ψ3 H3 v P3 R3 V3 => k φ3 ψ3 H3 v ((V1.post P1).trans P3) R3 V3⟩
theorem ex_un {op : UnaryOp} {r : V → Hp → VK → Prop} {g : D → Option W} (ho : UnR X (unaryOp op) r) (hs : UnS X.K tb r g) (ha : PE X a (T X.K tb fa)) : PE X (.UnaryOp op a pos) (T X.K tb (eUn g fa)) := pe_mono (pe_un ho ha) fun _ _ _ h => un_go hs h
theorem ax_nil : PA X [] (Ta X.K tb aNil) := pa_mono pa_nil fun σ H Q ⟨φ, ψ, ρ, m, ds, m', R, E, e, k⟩ => by
  cases e; exact k φ H [] .refl R .nil
theorem ax_cons {es : List Expr} {f : Ax} (ha : PE X a (T X.K tb fa)) (hr : PA X es (Ta X.K tb f)) (hs : starEach (a :: es) X.env = (false, eval a X.env) :: starEach es X.env := by rfl) : PA X (a :: es) (Ta X.K tb (aCons fa f)) := by
  refine pa_mono (pa_cons ha hr hs) fun σ H Q ⟨φ, ψ, ρ, m, ds, m', R, E, e, k⟩ => ?_
  obtain ⟨⟨w1, m1⟩, e1, e⟩ := bnd e
  obtain ⟨⟨w2, m2⟩, e2, e⟩ := bnd e
  cases e
  exact ⟨φ, ψ, ρ, m, w1, m1, R, E, e1, fun φ1 ψ1 H1 x P1 R1 V1 => ⟨φ1, ψ, ρ, m1, w2, _, V1.rel R1, E.mono (V1.post P1) R, e2, fun φ2 H2 y P2 R2 V2 => k φ2 H2 _ ((V1.post P1).trans P2) R2 (.cons ((V1.s R1).mono P2 (V1.rel R1)).stl V2)⟩⟩
theorem cb_go {f : Ax} {r : List V → Hp → VK → Prop} {g : List D → Option W} (hs : CallS X.K tb r g) {σ : L2.St} {H : Hp} {Q : VK} (h : T X.K tb (eCB g f) σ H Q) : tCB r (Ta X.K tb f) σ H Q := by
  obtain ⟨φ, ψ, ρ, m, w, m', R, E, e, k⟩ := h
  obtain ⟨⟨ws, m1⟩, e1, e⟩ := bnd e
  obtain ⟨ds, ed, e⟩ := bnd e
  obtain ⟨w2, eg, e⟩ := bnd e
  cases e
  exact ⟨φ, ψ, ρ, m, ws, _, R, E, e1, fun φ1 H1 vs P1 R1 V1 => hs φ1 ψ H1 _ vs ds w Q R1 (gts_c R1 V1 ed) eg fun φ3 ψ3 H3 v P3 R3 V3 => k φ3 ψ3 H3 v (P1.trans P3) R3 V3⟩
theorem ex_callB {x : Str} {p : Pos} {es : List Expr} {id : String} {f : Ax} {r : List V → Hp → VK → Prop} {g : List D → Option W} (hs : CallS X.K tb r g) (hc : CallR X (.builtin id) r) (hg : Gl X x) (hm : X.mg x = none) (hv : bootBuiltins x = some (.builtin id)) (ha : PA X (a :: es) (Ta X.K tb f))
    (hn : x ≠ "__name__" := by decide) (hdb : (x == ("__debug__" : Str)) = false := by decide) (he : starEach (a :: es) X.env = (false, eval a X.env) :: starEach es X.env := by rfl) (hpl : (backTo pos (starEach es X.env)).any (·.1) = false := by rfl) :
    PE X (.Call (.Name x p) (a :: es) [] pos) (T X.K tb (eCB g f)) := pe_mono (pe_callB hc hg hm hv ha hn hdb he hpl) fun _ _ _ h => cb_go hs h
theorem ex_callTy {x : Str} {p : Pos} {es : List Expr} {id : String} {f : Ax} {r : List V → Hp → VK → Prop} {g : List D → Option W} (hs : CallS X.K tb r g) (hc : CallR X (.type id) r) (hg : Gl X x) (hm : X.mg x = none) (hv : bootBuiltins x = some (.type id)) (ha : PA X (a :: es) (Ta X.K tb f))
    (hn : x ≠ "__name__" := by decide) (hdb : (x == ("__debug__" : Str)) = false := by decide) (he : starEach (a :: es) X.env = (false, eval a X.env) :: starEach es X.env := by rfl) (hpl : (backTo pos (starEach es X.env)).any (·.1) = false := by rfl) :
    PE X (.Call (.Name x p) (a :: es) [] pos) (T X.K tb (eCB g f)) := pe_mono (pe_callTy hc hg hm hv ha hn hdb he hpl) fun _ _ _ h => cb_go hs h
theorem ex_tup {es : List Expr} {f : Ax} {x1} (h : PA X es (Ta X.K tb f)) : PE X (.Tuple es x1 pos) (T X.K tb (eTup f)) := by
  refine pe_mono (pe_tup h) fun σ H Q ⟨φ, ψ, ρ, m, w, m', R, E, e, k⟩ => ?_
  obtain ⟨⟨ws, m1⟩, e1, e⟩ := bnd e
  obtain ⟨ds, ed, e⟩ := bnd e
  refine ⟨φ, ψ, ρ, m, ws, m1, R, E, e1, fun φ1 H1 vs P1 R1 V1 => ?_⟩
  split at e
  · rename_i hl
    cases e
    have r := vls_c V1 ed
    exact ⟨small (by rw [← r.length]; exact hl), fun p hp => Go.tup (fun φ3 ψ3 H3 v P3 R3 V3 => k φ3 ψ3 H3 v (P1.trans P3) R3 V3) R1 r hp⟩
  · cases e
theorem ex_lst {es : List Expr} {f : Ax} (h : PA X es (Ta X.K tb f)) : PE X (.List es pos) (T X.K tb (eLst f)) := by
  refine pe_mono (pe_lst h) fun σ H Q ⟨φ, ψ, ρ, m, w, m', R, E, e, k⟩ => ?_
  obtain ⟨⟨ws, m1⟩, e1, e⟩ := bnd e
  obtain ⟨ds, ed, e⟩ := bnd e
  refine ⟨φ, ψ, ρ, m, ws, m1, R, E, e1, fun φ1 H1 vs P1 R1 V1 => ?_⟩
  split at e
  · rename_i hl
    cases e
    have r := vls_c V1 ed
    exact ⟨small (by rw [← r.length]; exact hl), fun p hp => Go.lst (fun φ3 ψ3 H3 v P3 R3 V3 => k φ3 ψ3 H3 v (P1.trans P3) R3 V3) R1 r hp⟩
  · cases e
theorem ex_mt {T' id : String} {name : Str} {apos cpos : Pos} {es : List Expr} {fo : Ex} {f : Ax} {r : V → List V → Hp → VK → Prop} {g : W → List W → Mem → Option (W × Mem)} {ck : W → Mem → Bool} {o : Expr}
    (hck : ∀ φ ψ H m d v, Rel X.K tb φ ψ H m → RepS X.K φ ψ H d v → ck d m = true → tyV X.K T' v H) (hs : MtS X.K tb r g)
    (pa : PlainAttrs T') (slot : Slot T' name id) (hty : typeOf (.builtin id) = pure (.type "method_descriptor")) (hm : MtR X id r) (ho : PE X o (T X.K tb fo)) (ha : PA X (a :: es) (Ta X.K tb f))
    (hbase : attributeBase o name X.env (eval o X.env) = eval o X.env := by rfl)
    (hfew : ((backTo cpos (starEach (a :: es) X.env)).all (fun x => !x.1) && (backToKw cpos (keywordEach [] X.env)).all (fun x => x.1.isSome)
      && decide ((a :: es).length + ([] : List Keyword).length + (if ([] : List Keyword).isEmpty then 0 else 1) < 30)) = true := by rfl)
    (hline : (apos.endLine == cpos.line) = true := by rfl) (hst : starEach (a :: es) X.env = (false, eval a X.env) :: starEach es X.env := by rfl) (hplain : (backTo cpos (starEach es X.env)).any (·.1) = false := by rfl) :
    PE X (.Call (.Attribute o name apos) (a :: es) [] cpos) (T X.K tb (eMt ck g fo f)) := by
  refine pe_mono (pe_bm pa slot hty hm ho ha hbase hfew hline hst hplain) fun σ H Q ⟨φ, ψ, ρ, m, w, m', R, E, e, k⟩ => ?_
  obtain ⟨⟨w1, m1⟩, e1, e⟩ := bnd e
  split at e
  · rename_i hc
    obtain ⟨⟨ws, m2⟩, e2, e⟩ := bnd e
    refine ⟨φ, ψ, ρ, m, w1, m1, R, E, e1, fun φ1 ψ1 H1 x P1 R1 V1 => ⟨hck φ1 ψ H1 m1 w1 x (V1.rel R1) (V1.s R1) hc, φ1, ψ, ρ, m1, ws, m2, V1.rel R1, E.mono (V1.post P1) R, e2, fun φ2 H2 vs P2 R2 V2 => ?_⟩⟩
    exact hs φ2 ψ H2 m2 x vs w1 ws w m' Q R2 ((V1.s R1).mono P2 (V1.rel R1)) V2 e fun φ3 ψ3 H3 v P3 R3 V3 => k φ3 ψ3 H3 v ((V1.post P1).trans (P2.trans P3)) R3 V3
  · cases e
theorem pt_or {X : Cx} {e : Expr} {t t' : TT} (h : PT X e t) (h' : PT X e t') : PT X e (fun σ H Q => t σ H Q ∨ t' σ H Q) := ⟨fun pins s σ H Q I q => q.elim (h.run pins s σ H Q I) (h'.run pins s σ H Q I)⟩
theorem tru_rd {X : Cx} : TruR X (fun x H Q => ∃ a kvs, x = V.ref a ∧ Rd H a (.dK kvs) ∧ Q (!kvs.isEmpty) H) := by
  intro pins s σ H x v Q I rx h
  obtain ⟨a, kvs, rfl, e, q⟩ := h
  cases rx
  exact d_truth I e fun s' I' => ⟨H, I', q⟩
theorem tx_tru {e : Expr} {f : Ex} (h : PE X e (T X.K tb f)) (he : ∀ whole, isTrue e X.env whole = (do let v ← whole; standAt e.pos; holding [v] (truthy v)) := by intro _; rfl) : PT X e (Tt X.K tb (tTru f)) := by
  refine pt_mono (pt_or (pt_truth h he) (pt_truthR h tru_rd he)) fun σ H Q ⟨φ, ψ, ρ, m, b, m', R, E, e, k⟩ => ?_
  obtain ⟨⟨w1, m1⟩, e1, e⟩ := bnd e
  obtain ⟨d, ed, e⟩ := bnd e
  obtain ⟨b1, e2, e⟩ := bnd e
  cases e
  by_cases hdk : ∃ kvs, d = .dk kvs
  · right
    obtain ⟨kvs, rfl⟩ := hdk
    cases e2
    refine ⟨φ, ψ, ρ, m, w1, m1, R, E, e1, fun φ1 ψ1 H1 x P1 R1 V1 => ?_⟩
    obtain ⟨a, vs, rfl, h, r1, r2⟩ := (gt_c (V1.rel R1) (V1.s R1) ed).dk
    refine ⟨a, vs, rfl, h, ?_⟩
    have : kvs.length = vs.length := by simpa using congrArg List.length r1
    have eb : (!kvs.isEmpty) = !vs.isEmpty := by cases kvs <;> cases vs <;> simp_all
    rw [← eb]
    exact k φ1 H1 (V1.post P1) (V1.rel R1)
  left
  refine ⟨φ, ψ, ρ, m, w1, m1, R, E, e1, fun φ1 ψ1 H1 x P1 R1 V1 => ⟨b, ?_, k φ1 H1 (V1.post P1) (V1.rel R1)⟩⟩
  have C := gt_c (V1.rel R1) (V1.s R1) ed
  cases d with
  | non => cases e2; rw [C.non]; rfl
  | bl b => cases e2; rw [C.bl]; rfl
  | int i => cases e2; rw [C.int]; rfl
  | str x => cases e2
  | tup ds => cases e2; obtain ⟨a, vs, rfl, h, r⟩ := C.tup; exact .inr (.inl ⟨_, h, by cases r <;> rfl⟩)
  | tx ds => cases e2
  | fl ds => cases e2; obtain ⟨a, vs, rfl, h, r⟩ := C.fl; exact .inl ⟨_, h, by cases r <;> rfl⟩
  | lst ds => cases e2; obtain ⟨a, vs, rfl, h, r⟩ := C.lst; exact .inl ⟨_, SqL.of h, by cases r <;> rfl⟩
  | dk kvs => exact absurd ⟨kvs, rfl⟩ hdk
  | dt kvs => cases e2
  | rl b k => cases e2
def pwt {e : Expr} {t : TT} (h : PW X e t) : PT X e t := h.pt
theorem tw_and1 (ha : PT X a (Tt X.K tb ta)) : PW X (.BoolOp .And [a] pos) (Tt X.K tb ta) := pw_and1 ha
theorem pw_mono {e : Expr} {t t' : TT} (h : PW X e t) (i : ∀ σ H Q, t' σ H Q → t σ H Q) : PW X e t' := ⟨fun w pins s σ H Q I q => h.run w pins s σ H Q I (i σ H Q q)⟩
theorem tw_and {rest : List Expr} (ha : PT X a (Tt X.K tb ta)) (hb : PW X (.BoolOp .And (b :: rest) pos) (Tt X.K tb tb')) : PW X (.BoolOp .And (a :: b :: rest) pos) (Tt X.K tb (tAnd' ta tb')) := by
  refine pw_mono (pw_and ha hb) fun σ H Q ⟨φ, ψ, ρ, m, d, m', R, E, e, k⟩ => ?_
  obtain ⟨⟨b1, m1⟩, e1, e⟩ := bnd e
  refine ⟨φ, ψ, ρ, m, b1, m1, R, E, e1, fun φ1 H1 P1 R1 => ?_⟩
  cases b1 with
  | true => exact iteT ⟨φ1, ψ, ρ, m1, d, m', R1, E.mono P1 R, e, fun φ2 H2 P2 R2 => k φ2 H2 (P1.trans P2) R2⟩
  | false => cases e; exact iteF (k φ1 H1 P1 R1)
theorem tx_not (ha : PT X a (Tt X.K tb ta)) : PT X (.UnaryOp .Not a pos) (Tt X.K tb (tNot' ta)) := by
  refine pt_mono (pt_not ha) fun σ H Q ⟨φ, ψ, ρ, m, d, m', R, E, e, k⟩ => ?_
  obtain ⟨⟨b1, m1⟩, e1, e⟩ := bnd e
  cases e
  exact ⟨φ, ψ, ρ, m, b1, _, R, E, e1, fun φ1 H1 P1 R1 => k φ1 H1 P1 R1⟩
theorem ex_if (hc : PT X c (Tt X.K tb ta)) (ha : PE X a (T X.K tb fa)) (hb : PE X b (T X.K tb fb)) : PE X (.IfExp c a b pos) (T X.K tb (eIf ta fa fb)) := by
  refine pe_mono (pe_ifExp hc ha hb) fun σ H Q ⟨φ, ψ, ρ, m, d, m', R, E, e, k⟩ => ?_
  obtain ⟨⟨b1, m1⟩, e1, e⟩ := bnd e
  refine ⟨φ, ψ, ρ, m, b1, m1, R, E, e1, fun φ1 H1 P1 R1 => ?_⟩
  cases b1 with
  | true => exact iteT ⟨φ1, ψ, ρ, m1, d, m', R1, E.mono P1 R, e, fun φ2 ψ2 H2 v P2 R2 => k φ2 ψ2 H2 v (P1.trans P2) R2⟩
  | false => exact iteF ⟨φ1, ψ, ρ, m1, d, m', R1, E.mono P1 R, e, fun φ2 ψ2 H2 v P2 R2 => k φ2 ψ2 H2 v (P1.trans P2) R2⟩
theorem ex_one {op} {f : Ex} (h : PE X a (T X.K tb f)) : PE X (.BoolOp op [a] pos) (T X.K tb f) := pe_one h
theorem ex_and {rest : List Expr} (ha : PE X a (T X.K tb fa)) (hb : PE X (.BoolOp .And (b :: rest) pos) (T X.K tb fb)) : PE X (.BoolOp .And (a :: b :: rest) pos) (T X.K tb (eAnd fa fb)) := by
  refine pe_mono (pe_and ha hb) fun σ H Q ⟨φ, ψ, ρ, m, d, m', R, E, e, k⟩ => ?_
  obtain ⟨⟨b1, m1⟩, e1, e⟩ := bnd e
  refine val_go (X := X) (Q := fun c H1 => if c = true then T X.K tb fb σ H1 Q else Q (.bl false) H1) ⟨φ, ψ, ρ, m, b1, m1, R, E, e1, fun φ1 H1 P1 R1 => ?_⟩
  cases b1 with
  | true => exact iteT ⟨φ1, ψ, ρ, m1, d, m', R1, E.mono P1 R, e, fun φ2 ψ2 H2 v P2 R2 => k φ2 ψ2 H2 v (P1.trans P2) R2⟩
  | false => cases e; exact iteF (k φ1 ψ H1 _ P1 R1 ⟨rfl, .bl false⟩)
theorem ex_or {rest : List Expr} (ha : PE X a (T X.K tb fa)) (hb : PE X (.BoolOp .Or (b :: rest) pos) (T X.K tb fb)) : PE X (.BoolOp .Or (a :: b :: rest) pos) (T X.K tb (eOr fa fb)) := by
  refine pe_mono (pe_or ha hb) fun σ H Q ⟨φ, ψ, ρ, m, d, m', R, E, e, k⟩ => ?_
  obtain ⟨⟨b1, m1⟩, e1, e⟩ := bnd e
  refine val_go (X := X) (Q := fun c H1 => if c = true then Q (.bl true) H1 else T X.K tb fb σ H1 Q) ⟨φ, ψ, ρ, m, b1, m1, R, E, e1, fun φ1 H1 P1 R1 => ?_⟩
  cases b1 with
  | false => exact iteF ⟨φ1, ψ, ρ, m1, d, m', R1, E.mono P1 R, e, fun φ2 ψ2 H2 v P2 R2 => k φ2 ψ2 H2 v (P1.trans P2) R2⟩
  | true => cases e; exact iteT (k φ1 ψ H1 _ P1 R1 ⟨rfl, .bl true⟩)
theorem ex_not (ha : PE X a (T X.K tb fa)) : PE X (.UnaryOp .Not a pos) (T X.K tb (eNot fa)) := by
  refine pe_mono (pe_not ha) fun σ H Q ⟨φ, ψ, ρ, m, d, m', R, E, e, k⟩ => ?_
  obtain ⟨⟨b1, m1⟩, e1, e⟩ := bnd e
  cases e
  exact val_go (X := X) (Q := fun c H1 => Q (.bl (!c)) H1) ⟨φ, ψ, ρ, m, b1, _, R, E, e1, fun φ1 H1 P1 R1 => k φ1 ψ H1 _ P1 R1 ⟨rfl, .bl _⟩⟩
end
end Pw
end
section
set_option Elab.async false
set_option linter.all false
set_option maxRecDepth 100000
set_option maxHeartbeats 1000000
namespace Pw
open PySem PySem.Spec PyProof.Rows L2
def subD : D → D → Option W
  | .int i, .int j => some (.v (.int (i - j)))
  | _, _ => none
def cmpD (p : Int → Int → Bool) : D → D → Option W
  | .int i, .int j => some (.v (.bl (p i j)))
  | _, _ => none
def ltI (i j : Int) : Bool := decide (i < j)
def leI (i j : Int) : Bool := decide (i ≤ j)
def gtI (i j : Int) : Bool := decide (j < i)
def geI (i j : Int) : Bool := decide (j ≤ i)
open Classical in
noncomputable def intC (C : Int → Int → Prop) (g : Int → Int → Int) : D → D → Option W
  | .int i, .int j => if C i j then some (.v (.int (g i j))) else none
  | _, _ => none
def negD : D → Option W
  | .int i => some (.v (.int (-i)))
  | _ => none
def addD : D → D → Option W
  | .int i, .int j => some (.v (.int (i + j)))
  | .str i, .str j => if i.length + j.length ≤ 1000000 then some (.v (.str (i ++ j))) else none
  | .tup a, .tup b => if a.length + b.length ≤ 1000000 then some (.v (.tup (a ++ b))) else none
  | .lst a, .lst b => if a.length + b.length ≤ 1000000 then some (.f (.lst (a ++ b))) else none
  | _, _ => none
open Classical in
noncomputable def mulD : D → D → Option W
  | .int i, .int j => if CMul i j then some (.v (.int (i * j))) else none
  | .lst a, .int k => if -(2 ^ 63) ≤ k ∧ k < 2 ^ 63 ∧ a.length * k.toNat ≤ 1000000 then some (.f (.lst (List.replicate k.toNat a).flatten)) else none
  | _, _ => none
noncomputable def divD : D → D → Option W := intC CDiv fun i j => i / j
noncomputable def modD : D → D → Option W := intC (fun _ j => 0 < j) fun i j => i % j
noncomputable def powD : D → D → Option W := intC CPow fun i j => i ^ j.toNat
section
variable {K : FRG} {tb : List Addr}
theorem cmp_s {p : Int → Int → Bool} : OpS K tb (rI0 fun i j => .bl (p i j)) (cmpD p) := fun φ ψ H m x y dx dy w Q R hx hy e k => by
  unfold cmpD at e
  split at e
  · cases e; rw [hx.int, hy.int]
    exact ⟨_, _, rfl, rfl, Go.val k R (.bl _)⟩
  · cases e
theorem intC_s {C : Int → Int → Prop} {g : Int → Int → Int} : OpS K tb (rI C fun i j => .int (g i j)) (intC C g) := fun φ ψ H m x y dx dy w Q R hx hy e k => by
  unfold intC at e
  split at e
  · split at e
    · rename_i hc
      cases e; rw [hx.int, hy.int]
      exact ⟨_, _, rfl, rfl, hc, Go.val k R (.int _)⟩
    · cases e
  · cases e
theorem neg_s : UnS K tb (rU fun i => .int (-i)) negD := fun φ ψ H m x dx w Q R hx e k => by
  unfold negD at e
  split at e
  · cases e; rw [hx.int]
    exact ⟨_, rfl, Go.val k R (.int _)⟩
  · cases e
abbrev rAdd (K : FRG) : R2 := fun x y H Q => (rI0 (fun i j => .int (i + j)) x y H Q) ∨ ((∃ i j, x = .str i ∧ y = .str j ∧ i.length + j.length ≤ sizeLine ∧ Q (.str (i ++ j)) H) ∨ (rCatA K x y H Q ∨ rCat x y H Q))
theorem op_addA {X : Cx} : OpR X (binaryOp .Add) (rAdd X.K) := op_add.or (op_add_str.or (op_catA.or op_cat))
theorem add_s : OpS K tb (rAdd K) addD := fun φ ψ H m x y dx dy w Q R hx hy e k => by
  unfold addD at e
  split at e
  · cases e; rw [hx.int, hy.int]
    exact .inl ⟨_, _, rfl, rfl, Go.val k R (.int _)⟩
  · split at e
    · rename_i hl
      cases e; rw [hx.str, hy.str]
      exact .inr (.inl ⟨_, _, rfl, rfl, small hl, Go.val k R (.str _)⟩)
    · cases e
  · split at e
    · rename_i hl
      cases e
      obtain ⟨a1, v1, rfl, h1, r1⟩ := hx.tupN
      obtain ⟨a2, v2, rfl, h2, r2⟩ := hy.tupN
      refine .inr (.inr (.inl ⟨_, _, _, _, rfl, rfl, h1.1, h2.1, small (by rw [← r1.length, ← r2.length]; exact hl), fun z => ?_, fun z1 z2 => ?_, fun z1 z2 p hp => Go.tup k R (r1.app r2) hp⟩))
      · subst z; cases r1; exact Go.val k R (.tup h2 r2)
      · subst z2; cases r2; rw [List.append_nil] at k; exact Go.val k R (.tup h1 r1)
    · cases e
  · split at e
    · rename_i hl
      cases e
      obtain ⟨a1, v1, rfl, h1, r1⟩ := hx.lst
      obtain ⟨a2, v2, rfl, h2, r2⟩ := hy.lst
      exact .inr (.inr (.inr ⟨_, _, _, _, rfl, rfl, h1, h2, small (by rw [← r1.length, ← r2.length]; exact hl), fun p hp => Go.lst k R (r1.app r2) hp⟩))
    · cases e
  · cases e
theorem Reps.rep : ∀ (n : Nat) {φ ψ : List Addr} {H : Hp} {ds : List D} {vs : List V}, Reps K φ ψ H ds vs → Reps K φ ψ H (List.replicate n ds).flatten (List.replicate n vs).flatten
  | 0, _, _, _, _, _, _ => .nil
  | n + 1, _, _, _, _, _, r => by
    rw [List.replicate_succ, List.replicate_succ, List.flatten_cons, List.flatten_cons]
    exact r.app (Reps.rep n r)
abbrev rMul : R2 := fun x y H Q => (rI CMul (fun i j => .int (i * j)) x y H Q) ∨ rRep x y H Q
theorem op_mulA {X : Cx} : OpR X (binaryOp .Mult) rMul := op_mul.or op_rep
theorem mul_s : OpS K tb rMul mulD := fun φ ψ H m x y dx dy w Q R hx hy e k => by
  unfold mulD at e
  split at e
  · split at e
    · rename_i hc
      cases e; rw [hx.int, hy.int]
      exact .inl ⟨_, _, rfl, rfl, hc, Go.val k R (.int _)⟩
    · cases e
  · split at e
    · rename_i hl
      cases e
      obtain ⟨a1, v1, rfl, h1, r1⟩ := hx.lst
      rw [hy.int]
      exact .inr ⟨_, _, _, rfl, rfl, h1, hl.1, hl.2.1, small (by rw [← r1.length]; exact hl.2.2), fun p hp => Go.lst k R (Reps.rep _ r1) hp⟩
    · cases e
  · cases e
theorem div_s : OpS K tb (rI CDiv fun i j => .int (i / j)) divD := intC_s
theorem mod_s : OpS K tb (rI (fun _ j => 0 < j) fun i j => .int (i % j)) modD := intC_s
theorem pow_s : OpS K tb (rI CPow fun i j => .int (i ^ j.toNat)) powD := intC_s
theorem lt_s : OpS K tb (rI0 fun i j => .bl (decide (i < j))) (cmpD ltI) := cmp_s
theorem gt_s : OpS K tb (rI0 fun i j => .bl (decide (j < i))) (cmpD gtI) := cmp_s
theorem ge_s : OpS K tb (rI0 fun i j => .bl (decide (j ≤ i))) (cmpD geI) := cmp_s
end
mutual
def pyD : D → Option PyData
  | .non => some .none
  | .bl b => some (.bool b)
  | .int i => some (.int i)
  | .str x => some (.str x)
  | .tup ds => (pyDs ds).bind fun ps => some (.tuple ps)
  | .fl ds => (pyDs ds).bind fun ps => some (.list ps)
  | .lst ds => (pyDs ds).bind fun ps => some (.list ps)
  | .tx _ => none
  | .dk _ => none
  | .dt _ => none
  | .rl _ _ => none
def pyDs : List D → Option (List PyData)
  | [] => some []
  | d :: ds => (pyD d).bind fun x => (pyDs ds).bind fun xs => some (x :: xs)
end
section
variable {K : FRG} {tb : List Addr}
mutual
theorem pyD_dp {φ ψ : List Addr} {H : Hp} : ∀ {d : D} {v : V} {p : PyData}, Rep K φ ψ H d v → pyD d = some p → Dp K H v p
  | .non, v, p, h, e => by cases h; rw [pyD] at e; cases e; exact .non
  | .bl b, v, p, h, e => by cases h; rw [pyD] at e; cases e; exact .bl b
  | .int i, v, p, h, e => by cases h; rw [pyD] at e; cases e; exact .int i
  | .str x, v, p, h, e => by cases h; rw [pyD] at e; cases e; exact .str x
  | .tup ds, v, p, h, e => by
    rw [pyD] at e
    obtain ⟨ps, e1, e⟩ := bnd e
    cases e
    cases h with
    | tup h r => exact .tup h.1 (pyDs_dp r e1)
  | .fl ds, v, p, h, e => by
    rw [pyD] at e
    obtain ⟨ps, e1, e⟩ := bnd e
    cases e
    cases h with
    | fl h r => exact .lst h.sq (pyDs_dp r e1)
  | .lst ds, v, p, h, e => by
    rw [pyD] at e
    obtain ⟨ps, e1, e⟩ := bnd e
    cases e
    cases h with
    | lst h1 h2 h r => exact .lst (SqL.of h) (pyDs_dp r e1)
  | .tx _, v, p, h, e => by rw [pyD] at e; cases e
  | .dk _, v, p, h, e => by rw [pyD] at e; cases e
  | .dt _, v, p, h, e => by rw [pyD] at e; cases e
  | .rl _ _, v, p, h, e => by rw [pyD] at e; cases e
theorem pyDs_dp {φ ψ : List Addr} {H : Hp} : ∀ {ds : List D} {vs : List V} {ps : List PyData}, Reps K φ ψ H ds vs → pyDs ds = some ps → DpAll K H vs ps
  | [], vs, ps, h, e => by cases h; rw [pyDs] at e; cases e; exact .nil
  | d :: ds, vs, ps, h, e => by
    rw [pyDs] at e
    obtain ⟨p, e1, e⟩ := bnd e
    obtain ⟨qs, e2, e⟩ := bnd e
    cases e
    cases h with
    | cons h r => exact .cons (pyD_dp h e1) (pyDs_dp r e2)
end
theorem RepC.dp {φ ψ : List Addr} {H : Hp} {d : D} {v : V} {p : PyData} (h : RepC K φ ψ H d v) (e : pyD d = some p) : Dp K H v p := by
  rcases h with h | ⟨a, mo, rfl, rfl, q⟩
  · exact pyD_dp h e
  · cases mo with
    | lst ds =>
      rw [moD, pyD] at e
      obtain ⟨ps, e1, e⟩ := bnd e
      cases e
      obtain ⟨vs, q1, q2⟩ := q
      exact .lst (SqL.of q1) (pyDs_dp q2 e1)
    | dk kvs => rw [moD, pyD] at e; cases e
    | dt kvs => rw [moD, pyD] at e; cases e
    | rl b k => rw [moD, pyD] at e; cases e
def sc : D → Option V
  | .non => some .non
  | .bl b => some (.bl b)
  | .int i => some (.int i)
  | .str x => some (.str x)
  | _ => none
theorem sc_rep {φ ψ : List Addr} {H : Hp} {d : D} {v w : V} (h : RepC K φ ψ H d v) (e : sc d = some w) : v = w := by
  cases d <;> first | (cases e; first | exact h.non | exact h.bl | exact h.int | exact h.str) | (cases e)
def eqB (neg : Bool) (dx dy : D) : Option Bool := match sc dx, sc dy with
  | some x, some y => if scal x y = true then some (decide (x = y) != neg) else none
  | _, _ => match pyD dx, pyD dy with
    | some p, some q => if SeqAt.shaped p = true ∧ SeqAt.shaped q = true then some (PyData.eqv p q != neg) else none
    | _, _ => none
def eqD (neg : Bool) : D → D → Option W := fun dx dy => (eqB neg dx dy).bind fun b => some (.v (.bl b))
abbrev rEqA (K : FRG) : R2 := fun x y H Q => rEq x y H Q ∨ rEqD K x y H Q
abbrev rNeA (K : FRG) : R2 := fun x y H Q => rNe x y H Q ∨ rNeD K x y H Q
theorem op_eqA {X : Cx} (hu : X.A.units + 64 < cLine) : OpR X (compareOp .Eq) (rEqA X.K) := op_eq.or (op_eqD hu)
theorem op_neA {X : Cx} (hu : X.A.units + 64 < cLine) : OpR X (compareOp .NotEq) (rNeA X.K) := op_ne.or (op_neD hu)
theorem eq_s : OpS K tb (rEqA K) (eqD false) := fun φ ψ H m x y dx dy w Q R hx hy e k => by
  obtain ⟨b, e1, e2⟩ := bnd e
  cases e2
  unfold eqB at e1
  split at e1
  · rename_i a c h1 h2
    split at e1
    · rename_i hs
      cases e1
      rw [sc_rep hx h1, sc_rep hy h2]
      exact .inl ⟨hs, Go.val k R (by rw [Bool.bne_false]; exact .bl _)⟩
    · cases e1
  · split at e1
    · rename_i p q h1 h2
      split at e1
      · rename_i hs
        cases e1
        exact .inr ⟨p, q, hx.dp h1, hy.dp h2, hs.1, hs.2, Go.val k R (by rw [Bool.bne_false]; exact .bl _)⟩
      · cases e1
    · cases e1
theorem ne_s : OpS K tb (rNeA K) (eqD true) := fun φ ψ H m x y dx dy w Q R hx hy e k => by
  obtain ⟨b, e1, e2⟩ := bnd e
  cases e2
  unfold eqB at e1
  split at e1
  · rename_i a c h1 h2
    split at e1
    · rename_i hs
      cases e1
      rw [sc_rep hx h1, sc_rep hy h2]
      exact .inl ⟨hs, Go.val k R (by rw [Bool.bne_true]; exact .bl _)⟩
    · cases e1
  · split at e1
    · rename_i p q h1 h2
      split at e1
      · rename_i hs
        cases e1
        exact .inr ⟨p, q, hx.dp h1, hy.dp h2, hs.1, hs.2, Go.val k R (by rw [Bool.bne_true]; exact .bl _)⟩
      · cases e1
    · cases e1
def ixD : D → D → Option W
  | .tup ds, .int i => (atI ds i).bind fun d => some (.v d)
  | .fl ds, .int i => (atI ds i).bind fun d => some (.v d)
  | .lst ds, .int i => (atI ds i).bind fun d => some (.v d)
  | _, _ => none
theorem Reps.at {φ ψ : List Addr} {H : Hp} {ds : List D} {vs : List V} {i : Int} {d : D} (r : Reps K φ ψ H ds vs) (e : atI ds i = some d) : ∃ v, atI vs i = some v ∧ Rep K φ ψ H d v := by
  unfold atI at e ⊢
  obtain ⟨j, e1, e2⟩ := bnd e
  obtain ⟨v, h1, h2⟩ := r.get e2
  exact ⟨v, by rw [← r.length, e1]; exact h1, h2⟩
abbrev rIxLT (K : FRG) : R2 := fun x y H Q => rIxL K x y H Q ∨ rIxT K x y H Q
theorem ix_lt {X : Cx} : IxR X (rIxLT X.K) := ix_list.or ix_tup
theorem ix_s : OpS K tb (rIxLT K) ixD := fun φ ψ H m x y dx dy w Q R hx hy e k => by
  unfold ixD at e
  split at e
  · obtain ⟨z, e1, e2⟩ := bnd e
    cases e2
    obtain ⟨a, vs, rfl, h, r⟩ := hx.tup
    rw [hy.int]
    obtain ⟨v, h1, h2⟩ := r.at e1
    exact .inr ⟨_, _, _, v, rfl, rfl, h, h1, Go.val k R h2⟩
  · obtain ⟨z, e1, e2⟩ := bnd e
    cases e2
    obtain ⟨a, vs, rfl, h, r⟩ := hx.fl
    rw [hy.int]
    obtain ⟨v, h1, h2⟩ := r.at e1
    exact .inl ⟨_, _, _, v, rfl, rfl, h, h1, Go.val k R h2⟩
  · obtain ⟨z, e1, e2⟩ := bnd e
    cases e2
    obtain ⟨a, vs, rfl, h, r⟩ := hx.lst
    rw [hy.int]
    obtain ⟨v, h1, h2⟩ := r.at e1
    exact .inl ⟨_, _, _, v, rfl, rfl, SqL.of h, h1, Go.val k R h2⟩
  · cases e
theorem ex_ix {X : Cx} {tb : List Addr} {a b : Expr} {fa fb : Ex} {pos : Pos} (ha : PE X a (T X.K tb fa)) (hb : PE X b (T X.K tb fb)) (hs : PlainIx b := by exact fun _ _ => rfl) : PE X (.Subscript a b pos) (T X.K tb (eOp ixD fa fb)) :=
  pe_mono (pe_ix ix_lt ha hb hs) fun _ _ _ h => op_go ix_s h
abbrev Ox := Env → Mem → Option (Option Int × Mem)
def To (K : FRG) (tb : List Addr) (f : Ox) : TO := fun σ H Q => ∃ φ ψ ρ m o m', Rel K tb φ ψ H m ∧ RE K φ ψ H ρ σ ∧ f ρ m = some (o, m') ∧ ∀ φ' H', Post φ ψ H φ' ψ H' → Rel K tb φ' ψ H' m' → Q o H'
def oNone : Ox := fun _ m => some (none, m)
def inD' : D → Option Int
  | .int i => some i
  | _ => none
def oSome (a : Ex) : Ox := fun ρ m => (a ρ m).bind fun p => (gt p.1 p.2).bind fun d => (inD' d).bind fun i => some (some i, p.2)
theorem inD_v {φ ψ : List Addr} {H : Hp} {d : D} {v : V} {i : Int} (h : RepC K φ ψ H d v) (e : inD' d = some i) : v = .int i := by
  unfold inD' at e
  split at e
  · cases e; exact h.int
  · cases e
theorem po_mono {X : Cx} {e : Option Expr} {t t' : TO} (h : PO X e t) (i : ∀ σ H Q, t' σ H Q → t σ H Q) : PO X e t' := ⟨fun pins s σ H Q I q => h.run pins s σ H Q I (i σ H Q q)⟩
theorem ox_none {X : Cx} {tb : List Addr} : PO X none (To X.K tb oNone) := po_mono po_none fun σ H Q ⟨φ, ψ, ρ, m, d, m', R, E, e, k⟩ => by
  cases e; exact k φ H .refl R
theorem ox_some {X : Cx} {tb : List Addr} {a : Expr} {fa : Ex} (ha : PE X a (T X.K tb fa)) : PO X (some a) (To X.K tb (oSome fa)) := by
  refine po_mono (po_some ha) fun σ H Q ⟨φ, ψ, ρ, m, d, m', R, E, e, k⟩ => ?_
  obtain ⟨⟨w1, m1⟩, e1, e⟩ := bnd e
  obtain ⟨d1, e2, e⟩ := bnd e
  obtain ⟨i, e3, e⟩ := bnd e
  cases e
  exact ⟨φ, ψ, ρ, m, w1, _, R, E, e1, fun φ1 ψ1 H1 x P1 R1 V1 => ⟨_, inD_v (gt_c (V1.rel R1) (V1.s R1) e2) e3, k φ1 H1 (V1.post P1) (V1.rel R1)⟩⟩
def cutD (ds : List D) (lo hi : Option Int) : List D := (ds.drop (HT.sIx ds.length 0 lo)).take (HT.sIx ds.length ds.length hi - HT.sIx ds.length 0 lo)
theorem Reps.cut {φ ψ : List Addr} {H : Hp} {ds : List D} {vs : List V} (r : Reps K φ ψ H ds vs) (lo hi : Option Int) : Reps K φ ψ H (cutD ds lo hi) (cutV vs lo hi) := by
  unfold cutD cutV
  rw [r.length]
  exact (r.drop _).take _
def slcD : D → Option Int → Option Int → Option W
  | .lst ds, lo, hi => some (.f (.lst (cutD ds lo hi)))
  | .fl ds, lo, hi => some (.f (.lst (cutD ds lo hi)))
  | .tup ds, lo, hi => some (.v (.tup (cutD ds lo hi)))
  | _, _, _ => none
def eSlc (a : Ex) (lo hi : Ox) : Ex := fun ρ m => (a ρ m).bind fun p => (lo ρ p.2).bind fun l => (hi ρ l.2).bind fun h => (gt p.1 h.2).bind fun d => (slcD d l.1 h.1).bind fun w => some (w, h.2)
abbrev rSlLT (K : FRG) : V → Option Int → Option Int → Hp → VK → Prop := fun x lo hi H Q => rSlL K x lo hi H Q ∨ rSlA K x lo hi H Q
theorem sl_lt {X : Cx} : SlR X (rSlLT X.K) := sl_list.or sl_tupA
theorem cut_whole {ds : List D} {lo hi : Option Int} (h : HT.sIx ds.length 0 lo = 0 ∧ HT.sIx ds.length ds.length hi = ds.length) : cutD ds lo hi = ds := by
  unfold cutD
  rw [h.1, h.2]
  simp
theorem ex_sl {X : Cx} {tb : List Addr} {a : Expr} {lo hi : Option Expr} {fa : Ex} {fl fh : Ox} {pos p2 : Pos} (ha : PE X a (T X.K tb fa)) (hl : PO X lo (To X.K tb fl)) (hh : PO X hi (To X.K tb fh)) : PE X (.Subscript a (.Slice lo hi none p2) pos) (T X.K tb (eSlc fa fl fh)) := by
  refine pe_mono (pe_slice sl_lt ha hl hh) fun σ H Q ⟨φ, ψ, ρ, m, w, m', R, E, e, k⟩ => ?_
  obtain ⟨⟨w1, m1⟩, e1, e⟩ := bnd e
  obtain ⟨⟨o2, m2⟩, e2, e⟩ := bnd e
  obtain ⟨⟨o3, m3⟩, e3, e⟩ := bnd e
  obtain ⟨d, ed, e⟩ := bnd e
  obtain ⟨w2, eg, e⟩ := bnd e
  cases e
  refine ⟨φ, ψ, ρ, m, w1, m1, R, E, e1, fun φ1 ψ1 H1 x P1 R1 V1 => ⟨φ1, ψ, ρ, m1, o2, m2, V1.rel R1, E.mono (V1.post P1) R, e2, fun φ2 H2 P2 R2 => ⟨φ2, ψ, ρ, m2, o3, _, R2, E.mono ((V1.post P1).trans P2) R, e3, fun φ3 H3 P3 R3 => ?_⟩⟩⟩
  have P := (V1.post P1).trans (P2.trans P3)
  have C := gt_c R3 ((V1.s R1).mono (P2.trans P3) (V1.rel R1)) ed
  have k' : Go X.K tb φ3 ψ H3 _ w Q := fun φ4 ψ4 H4 v P4 R4 V4 => k φ4 ψ4 H4 v (P.trans P4) R4 V4
  have e' : slcD d o2 o3 = some w := eg
  unfold slcD at e'
  split at e'
  · cases e'
    obtain ⟨q, vs, rfl, hq, r⟩ := C.lst
    exact .inl ⟨q, vs, rfl, SqL.of hq, fun p hp => Go.lst k' R3 (r.cut _ _) hp⟩
  · cases e'
    obtain ⟨q, vs, rfl, hq, r⟩ := C.fl
    exact .inl ⟨q, vs, rfl, hq, fun p hp => Go.lst k' R3 (r.cut _ _) hp⟩
  · cases e'
    obtain ⟨q, vs, rfl, hq, r⟩ := C.tupN
    refine .inr ⟨_, _, rfl, hq.1, fun z => ?_, fun z p hp => Go.tup k' R3 (r.cut _ _) hp⟩
    rw [← r.length] at z
    rw [cut_whole z] at k'
    exact Go.val k' R3 (.tup hq r)
  · cases e'
end
end Pw
end
section
set_option Elab.async false
set_option linter.all false
set_option maxRecDepth 100000
set_option maxHeartbeats 1000000
namespace Pw
open PySem PySem.Spec PyProof.Rows L2
def ownW : W → Mem → Option (W × Mem)
  | .f d, m => (dMO d).bind fun mo => some (.r m.length, m ++ [mo])
  | .r n, m => some (.r n, m)
  | .v _, _ => none
def eOwn (a : Ex) : Ex := fun ρ m => (a ρ m).bind fun p => ownW p.1 p.2
theorem own_go {K : FRG} {tb : List Addr} {f : Ex} {σ : L2.St} {H : Hp} {Q : VK} (h : T K tb (eOwn f) σ H Q) : T K tb f σ H Q := by
  obtain ⟨φ, ψ, ρ, m, w, m', R, E, e, k⟩ := h
  obtain ⟨⟨w1, m1⟩, e1, e⟩ := bnd e
  refine ⟨φ, ψ, ρ, m, w1, m1, R, E, e1, fun φ1 ψ1 H1 v P1 R1 V1 => ?_⟩
  cases w1 with
  | v d => cases e
  | r n => cases e; exact k φ1 ψ1 H1 v P1 R1 V1
  | f d =>
    obtain ⟨mo, e2, e⟩ := bnd (show (dMO d).bind _ = _ from e)
    cases e
    obtain ⟨p, mo', rfl, rfl, np, rfl, q⟩ := V1
    have : mo' = mo := by cases mo' <;> cases e2 <;> rfl
    subst this
    exact k (φ1 ++ [p]) ψ H1 _ (P1.own np) (R1.own np q) ⟨rfl, p, by rw [← R1.len]; simp, rfl⟩
theorem ex_own {X : Cx} {tb : List Addr} {a : Expr} {fa : Ex} (h : PE X a (T X.K tb fa)) : PE X a (T X.K tb (eOwn fa)) := pe_mono h fun _ _ _ => own_go
def sNil : Sx := fun ρ m => some (.nx, ρ, m)
def sSeq (a b : Sx) : Sx := fun ρ m => (a ρ m).bind fun r => match r.1 with
  | .nx => b r.2.1 r.2.2
  | o => some (o, r.2.1, r.2.2)
def sRet (a : Ex) : Sx := fun ρ m => (a ρ m).bind fun p => some (.ret p.1, ρ, p.2)
def sDrop (a : Ex) : Sx := fun ρ m => (a ρ m).bind fun p => some (.nx, ρ, p.2)
def sIf (t : Tx) (a b : Sx) : Sx := fun ρ m => (t ρ m).bind fun p => if p.1 = true then a ρ p.2 else b ρ p.2
def sSet (i : Nat) (a : Ex) : Sx := fun ρ m => (a ρ m).bind fun p => some (.nx, ρ.set i (some (stl p.1)), p.2)
def sFog (vs : List Nat) (a : Sx) : Sx := fun ρ m => (a ρ m).bind fun r => some (r.1, wipeD r.2.1 vs, r.2.2)
def vl : W → Option D
  | .v d => some d
  | .f d => some d
  | .r _ => none
theorem vl_rep {K : FRG} {φ ψ : List Addr} {H : Hp} {w : W} {v : V} {d : D} (h : RepS K φ ψ H w v) (e : vl w = some d) : Rep K φ ψ H d v := by
  cases w <;> first | (cases e; exact h) | (cases e)
def putD : W → D → D → Mem → Option Mem
  | .r n, .int i, d, m => match m[n]? with
    | some (.lst ds) => (ixN ds.length i).map fun j => m.set n (.lst (ds.set j d))
    | _ => none
  | _, _, _, _ => none
def sPut (o i a : Ex) : Sx := fun ρ m => (a ρ m).bind fun p => (o ρ p.2).bind fun q => (i ρ q.2).bind fun r => (vl p.1).bind fun d => (gt r.1 r.2).bind fun i => (putD q.1 i d r.2).bind fun m' => some (.nx, ρ, m')
section
variable {X : Cx} {tb : List Addr} {a b c : Expr} {fa fb fc : Ex} {ft : Tx} {st : Stmt} {rest rest' : List Stmt} {g h : Sx} {pos : Pos}
theorem bs_nil : PSs X [] (Ts X.K tb sNil) := pss_mono pss_nil fun D σ H ⟨φ, ψ, ρ, m, o, ρ', m', R, E, e, k⟩ => by
  cases e; exact k φ ψ H .refl R rfl σ E
theorem bs_cons (h1 : PS X st (Ts X.K tb g)) (h2 : PSs X rest (Ts X.K tb h)) : PSs X (st :: rest) (Ts X.K tb (sSeq g h)) := by
  refine pss_mono (pss_cons h1 h2) fun D σ H ⟨φ, ψ, ρ, m, o, ρ', m', R, E, e, k⟩ => ?_
  obtain ⟨⟨o1, ρ1, m1⟩, e1, e⟩ := bnd e
  refine ⟨φ, ψ, ρ, m, o1, ρ1, m1, R, E, e1, fun φ1 ψ1 H1 P1 R1 => ?_⟩
  cases o1 with
  | nx =>
    intro z σ1 E1
    subst z
    exact ⟨φ1, _, ρ1, m1, o, ρ', m', R1, E1, e, fun φ2 ψ2 H2 P2 R2 => k φ2 ψ2 H2 (P1.trans P2) R2⟩
  | bk => cases e; exact k φ1 ψ1 H1 P1 R1
  | ct => cases e; exact k φ1 ψ1 H1 P1 R1
  | ret d => cases e; exact k φ1 ψ1 H1 P1 R1
theorem bs_one (h1 : PS X st (Ts X.K tb g)) : PSs X [st] (Ts X.K tb g) := pss_one h1
theorem bs_fog (vs : List Nat) (h1 : PS X st (Ts X.K tb g)) : PS X st (Ts X.K tb (sFog vs g)) := by
  refine ps_mono h1 fun D σ H ⟨φ, ψ, ρ, m, o, ρ', m', R, E, e, k⟩ => ?_
  obtain ⟨⟨o1, ρ1, m1⟩, e1, e⟩ := bnd e
  cases e
  refine ⟨φ, ψ, ρ, m, o1, ρ1, _, R, E, e1, fun φ1 ψ1 H1 P1 R1 => ?_⟩
  have q := k φ1 ψ1 H1 P1 R1
  cases o1 with
  | nx => exact fun z σ1 E1 => q z σ1 (E1.fog vs)
  | bk => exact fun z σ1 E1 => q z σ1 (E1.fog vs)
  | ct => exact fun z σ1 E1 => q z σ1 (E1.fog vs)
  | ret d => exact q
theorem bs_ret (ha : PE X a (T X.K tb fa)) : PS X (.Return (some a) pos) (Ts X.K tb (sRet fa)) := by
  refine ps_mono (ps_ret ha) fun D σ H ⟨φ, ψ, ρ, m, o, ρ', m', R, E, e, k⟩ => ?_
  obtain ⟨⟨d1, m1⟩, e1, e⟩ := bnd e
  cases e
  exact ⟨φ, ψ, ρ, m, d1, _, R, E, e1, fun φ1 ψ1 H1 v P1 R1 V1 => k φ1 ψ1 H1 P1 R1 v V1⟩
theorem bs_drop (ha : PE X a (T X.K tb fa)) (hs : swapsWith a none pos.line X.env = pure false := by rfl) : PS X (.Expr a pos) (Ts X.K tb (sDrop fa)) := by
  refine ps_mono (ps_expr ha hs) fun D σ H ⟨φ, ψ, ρ, m, o, ρ', m', R, E, e, k⟩ => ?_
  obtain ⟨⟨d1, m1⟩, e1, e⟩ := bnd e
  cases e
  exact ⟨φ, ψ, ρ, m, d1, _, R, E, e1, fun φ1 ψ1 H1 v P1 R1 V1 => k φ1 ψ H1 (V1.post P1) (V1.rel R1) rfl σ (E.mono (V1.post P1) R)⟩
theorem bs_if (hc : PT X c (Tt X.K tb ft)) (h1 : PSs X rest (Ts X.K tb g)) (h2 : PSs X rest' (Ts X.K tb h)) : PS X (.If c rest rest' pos) (Ts X.K tb (sIf ft g h)) := by
  refine ps_mono (ps_if hc h1 h2) fun D σ H ⟨φ, ψ, ρ, m, o, ρ', m', R, E, e, k⟩ => ?_
  obtain ⟨⟨b1, m1⟩, e1, e⟩ := bnd e
  refine ⟨φ, ψ, ρ, m, b1, m1, R, E, e1, fun φ1 H1 P1 R1 => ?_⟩
  cases b1 with
  | true => exact iteT ⟨φ1, ψ, ρ, m1, o, ρ', m', R1, E.mono P1 R, e, fun φ2 ψ2 H2 P2 R2 => k φ2 ψ2 H2 (P1.trans P2) R2⟩
  | false => exact iteF ⟨φ1, ψ, ρ, m1, o, ρ', m', R1, E.mono P1 R, e, fun φ2 ψ2 H2 P2 R2 => k φ2 ψ2 H2 (P1.trans P2) R2⟩
theorem set_go {i : Nat} {D : Ends} {σ : L2.St} {H : Hp} (h : Ts X.K tb (sSet i fa) D σ H) : tAsg (T X.K tb fa) (gName i) D σ H := by
  obtain ⟨φ, ψ, ρ, m, o, ρ', m', R, E, e, k⟩ := h
  obtain ⟨⟨d1, m1⟩, e1, e⟩ := bnd e
  cases e
  exact ⟨φ, ψ, ρ, m, d1, _, R, E, e1, fun φ1 ψ1 H1 v P1 R1 V1 => k φ1 ψ H1 (V1.post P1) (V1.rel R1) rfl _ ((E.mono (V1.post P1) R).set i (V1.s R1).stl)⟩
theorem bs_set (i : Nat) {x : Str} {pos' : Pos} (hN : X.N.Nodup) (ha : PE X a (T X.K tb fa)) (hi : X.N[i]? = some x := by rfl) (hx : Loc X.env.scope x := by first | exact Or.inl rfl | exact Or.inr rfl) (hs : swapsWith a (some (.Name x pos')) pos.line X.env = pure false := by rfl)
    (hf : X.fn x = true ∨ X.env.scope.names.lookup x = some .local := by first | exact .inl rfl | exact .inr rfl | assumption) : PS X (.Assign [.Name x pos'] a pos) (Ts X.K tb (sSet i fa)) :=
  ps_mono (ps_set hN hi hx ha hs hf) fun _ _ _ h => set_go h
theorem bs_put {o i : Expr} {fo fi : Ex} {tpos : Pos} (ho : PE X o (T X.K tb fo)) (hi : PE X i (T X.K tb fi)) (ha : PE X a (T X.K tb fa))
    (hss : ∀ v, assign (.Subscript o i tpos) X.env v = (do
      let ov ← holding [v] (eval o X.env)
      let iv ← holding [v, ov] (eval i X.env)
      standAt tpos
      holding [v, ov, iv] (setItem ov iv v)
      release [v, ov, iv] []) := by intro _; rfl)
    (hs : swapsWithSole [.Subscript o i tpos] a pos.line X.env = pure false := by rfl) (hw : swappedStores [.Subscript o i tpos] a X.env = pure none := by rfl)
    (h1 : (assignEach [.Subscript o i tpos] X.env).map (·.2) = [assign (.Subscript o i tpos) X.env] := by rfl) : PS X (.Assign [.Subscript o i tpos] a pos) (Ts X.K tb (sPut fo fi fa)) := by
  refine ps_mono (ps_asg ha (pg_sub ho hi set_list hss) hs hw h1) fun D σ H ⟨φ, ψ, ρ, m, o', ρ', m', R, E, e, k⟩ => ?_
  obtain ⟨⟨w1, m1⟩, e1, e⟩ := bnd e
  obtain ⟨⟨w2, m2⟩, e2, e⟩ := bnd e
  obtain ⟨⟨w3, m3⟩, e3, e⟩ := bnd e
  obtain ⟨d1, ev, e⟩ := bnd e
  obtain ⟨d3, eg, e⟩ := bnd e
  obtain ⟨m4, e4, e⟩ := bnd e
  cases e
  refine ⟨φ, ψ, ρ, m, w1, m1, R, E, e1, fun φ1 ψ1 H1 v P1 R1 V1 => ⟨φ1, ψ, ρ, m1, w2, m2, V1.rel R1, E.mono (V1.post P1) R, e2, fun φ2 ψ2 H2 x P2 R2 V2 => ⟨φ2, ψ, ρ, m2, w3, m3, V2.rel R2, E.mono ((V1.post P1).trans (V2.post P2)) R, e3, fun φ3 ψ3 H3 y P3 R3 V3 => ?_⟩⟩⟩
  have R3' := V3.rel R3
  have P3' := V3.post P3
  have e4' : putD w2 d3 d1 m3 = some m' := e4
  have P123 := (V1.post P1).trans ((V2.post P2).trans P3')
  unfold putD at e4'
  split at e4'
  · rename_i n i _ _
    split at e4'
    · rename_i hm
      obtain ⟨j, hj, rfl⟩ := Option.map_eq_some_iff.mp e4'
      have hy := (gt_c R3' (V3.s R3) eg).int
      subst hy
      obtain ⟨q, h1, rfl⟩ := (V2.s R2).mono P3' (V2.rel R2)
      obtain ⟨vs, hq, r⟩ := R3'.obj _ _ q hm h1
      have V1' := (vl_rep (V1.s R1) ev).mono ((V2.post P2).trans P3') (V1.rel R1)
      have hmem := List.mem_of_getElem? h1
      have Pw : Post φ3 ψ H3 φ3 ψ _ := Post.wr (o := .lst (vs.set j v)) hmem (R3'.trk hmem)
      refine ⟨q, vs, _, j, rfl, rfl, hq, by rw [← r.length]; exact hj, ?_⟩
      have P := P123.trans Pw
      exact k φ3 ψ _ P (R3'.wrL h1 (r.set V1' j)) rfl σ (E.mono P R)
    · cases e4'
  · cases e4'
end
inductive Itm where
  | seq (ds : List D)
  | lst (n : Nat)
  | zip (a b : Itm)
def itemsAt : Itm → Mem → Option (List D)
  | .seq ds, _ => some ds
  | .lst n, m => match m[n]? with
    | some (.lst ds) => some ds
    | _ => none
  | .zip a b, m => (itemsAt a m).bind fun xs => (itemsAt b m).bind fun ys => some (List.zipWith (fun x y => D.tup [x, y]) xs ys)
abbrev Ix := Env → Mem → Option (Itm × Mem)
def ItR (K : FRG) (tb : List Addr) (φ' ψ : List Addr) (H' : Hp) (J : It) (it : Itm) : Prop := ∀ φ2 ψ2 H2 m2 xs, Post φ' ψ H' φ2 ψ2 H2 → Rel K tb φ2 ψ2 H2 m2 → itemsAt it m2 = some xs →
  (∀ (i : Nat) (d : D), xs[i]? = some d → J.go i H2 ∧ ∀ x H3, J.yld i H2 x H3 → Post φ2 ψ2 H2 φ2 ψ2 H3 ∧ Rel K tb φ2 ψ2 H3 m2 ∧ Rep K φ2 ψ2 H3 d x ∧ (∀ b o, H2 b = some o → H3 b = some o)) ∧ ∀ i, xs.length ≤ i → J.stop i H2
def Ti (K : FRG) (tb : List Addr) (f : Ix) : TI := fun σ H Q => ∃ φ ψ ρ m it m', Rel K tb φ ψ H m ∧ RE K φ ψ H ρ σ ∧ f ρ m = some (it, m') ∧ ∀ φ' H' J, Post φ ψ H φ' ψ H' → Rel K tb φ' ψ H' m' → ItR K tb φ' ψ H' J it → Q J H'
theorem pi_mono {X : Cx} {tg e : Expr} {t t' : TI} (h : PI X tg e t) (i : ∀ σ H Q, t' σ H Q → t σ H Q) : PI X tg e t' := ⟨fun pins s σ H Q I q => h.run pins s σ H Q I (i σ H Q q)⟩
theorem pi_or {X : Cx} {tg e : Expr} {t t' : TI} (h : PI X tg e t) (h' : PI X tg e t') : PI X tg e (fun σ H Q => t σ H Q ∨ t' σ H Q) := ⟨fun pins s σ H Q I q => q.elim (h.run pins s σ H Q I) (h'.run pins s σ H Q I)⟩
def srcV : D → Option Itm
  | .tup ds => some (.seq ds)
  | .fl ds => some (.seq ds)
  | .lst ds => some (.seq ds)
  | _ => none
def srcW : W → Mem → Option Itm
  | .v d, _ => srcV d
  | .f d, _ => srcV d
  | .r n, m => match m[n]? with
    | some (.lst _) => some (.lst n)
    | _ => none
def iSeq (a : Ex) : Ix := fun ρ m => (a ρ m).bind fun p => (srcW p.1 p.2).bind fun it => some (it, p.2)
theorem Rep.is {K : FRG} {φ ψ : List Addr} {H : Hp} {d : D} {v w : V} (h : Rep K φ ψ H d v) (e : v = w) : Rep K φ ψ H d w := e ▸ h
theorem ix_seq' {X : Cx} {tb : List Addr} {tg a : Expr} {fa : Ex} (ha : PE X a (T X.K tb fa)) : PI X tg a (Ti X.K tb (iSeq fa)) := by
  refine pi_mono (pi_or (pi_list ha) (pi_tup ha)) fun σ H Q ⟨φ, ψ, ρ, m, it, m', R, E, e, k⟩ => ?_
  obtain ⟨⟨w1, m1⟩, e1, e⟩ := bnd e
  obtain ⟨it', e2, e⟩ := bnd e
  obtain ⟨rfl, rfl⟩ : it' = it ∧ m1 = m' := by cases e; exact ⟨rfl, rfl⟩
  have e2' : srcW w1 m1 = some it' := e2
  have val : ∀ d, vl w1 = some d → srcV d = some it' → iList X.K (T X.K tb fa) σ H Q ∨ iTup X.K (T X.K tb fa) σ H Q := fun d hv hs => by
    unfold srcV at hs
    split at hs
    · cases hs
      refine .inr ⟨φ, ψ, ρ, m, _, m1, R, E, e1, fun φ1 ψ1 H1 v P1 R1 V1 => ?_⟩
      have R1' := V1.rel R1
      cases vl_rep (V1.s R1) hv with
      | tup h r =>
        refine ⟨_, rfl, ⟨_, h.1⟩, k φ1 H1 _ (V1.post P1) R1' fun φ2 ψ2 H2 m2 xs P2 R2 ex => ?_⟩
        cases ex
        have h2 := P2.sqT R1' h.1
        have r2 := r.mono P2 R1'
        refine ⟨fun i d hd => ?_, fun i hi => ⟨_, h2, by rw [← r2.length]; exact hi⟩⟩
        obtain ⟨w, hw, rw⟩ := r2.get hd
        refine ⟨⟨_, w, h2, hw⟩, fun x H3 hy => ?_⟩
        obtain ⟨rfl, hy⟩ := hy
        exact ⟨.refl, R2, rw.is (Option.some.inj (hw.symm.trans (hy _ h2))), fun _ _ z => z⟩
    · cases hs
      refine .inl ⟨φ, ψ, ρ, m, _, m1, R, E, e1, fun φ1 ψ1 H1 v P1 R1 V1 => ?_⟩
      have R1' := V1.rel R1
      cases vl_rep (V1.s R1) hv with
      | fl h r =>
        refine ⟨_, rfl, ⟨_, h.sq⟩, k φ1 H1 _ (V1.post P1) R1' fun φ2 ψ2 H2 m2 xs P2 R2 ex => ?_⟩
        cases ex
        have h2 := (P2.fz R1' h).sq
        have r2 := r.mono P2 R1'
        refine ⟨fun i d hd => ?_, fun i hi => ⟨_, h2, by rw [← r2.length]; exact hi⟩⟩
        obtain ⟨w, hw, rw⟩ := r2.get hd
        refine ⟨⟨_, w, h2, hw⟩, fun x H3 hy => ?_⟩
        obtain ⟨rfl, hy⟩ := hy
        exact ⟨.refl, R2, rw.is (Option.some.inj (hw.symm.trans (hy _ h2))), fun _ _ z => z⟩
    · cases hs
      refine .inl ⟨φ, ψ, ρ, m, _, m1, R, E, e1, fun φ1 ψ1 H1 v P1 R1 V1 => ?_⟩
      have R1' := V1.rel R1
      cases vl_rep (V1.s R1) hv with
      | lst g1 g2 h r =>
        refine ⟨_, rfl, ⟨_, SqL.of h⟩, k φ1 H1 _ (V1.post P1) R1' fun φ2 ψ2 H2 m2 xs P2 R2 ex => ?_⟩
        cases ex
        have h2 : SqL X.K H2 _ _ := SqL.of (P2.off g1 g2 h (fun _ z => nomatch z) fun _ z => nomatch z).2.2
        have r2 := r.mono P2 R1'
        refine ⟨fun i d hd => ?_, fun i hi => ⟨_, h2, by rw [← r2.length]; exact hi⟩⟩
        obtain ⟨w, hw, rw⟩ := r2.get hd
        refine ⟨⟨_, w, h2, hw⟩, fun x H3 hy => ?_⟩
        obtain ⟨rfl, hy⟩ := hy
        exact ⟨.refl, R2, rw.is (Option.some.inj (hw.symm.trans (hy _ h2))), fun _ _ z => z⟩
    · cases hs
  cases w1 with
  | v d => exact val d rfl e2'
  | f d => exact val d rfl e2'
  | r n =>
    unfold srcW at e2'
    simp only at e2'
    split at e2'
    · rename_i ds0 hm
      cases e2'
      refine .inl ⟨φ, ψ, ρ, m, _, m1, R, E, e1, fun φ1 ψ1 H1 v P1 R1 V1 => ?_⟩
      have R1' := V1.rel R1
      obtain ⟨q, h1, rfl⟩ := V1.s R1
      obtain ⟨vs, hq, r⟩ := R1'.obj n _ q hm h1
      refine ⟨q, rfl, ⟨_, SqL.of hq⟩, k φ1 H1 _ (V1.post P1) R1' fun φ2 ψ2 H2 m2 xs P2 R2 ex => ?_⟩
      have hm2 : m2[n]? = some (.lst xs) := by
        unfold itemsAt at ex
        split at ex
        · rename_i h9
          cases ex
          exact h9
        · cases ex
      obtain ⟨vs2, hq2, r2⟩ := R2.obj n _ q hm2 (pre_get P2.pre h1)
      have h2 : SqL X.K H2 q vs2 := SqL.of hq2
      refine ⟨fun i d hd => ?_, fun i hi => ⟨_, h2, by rw [← r2.length]; exact hi⟩⟩
      obtain ⟨w, hw, rw⟩ := r2.get hd
      refine ⟨⟨_, w, h2, hw⟩, fun x H3 hy => ?_⟩
      obtain ⟨rfl, hy⟩ := hy
      exact ⟨.refl, R2, rw.is (Option.some.inj (hw.symm.trans (hy _ h2))), fun _ _ z => z⟩
    · cases e2'
def rngD (lo : Int) (n : Nat) : List D := (List.range n).map fun (i : Nat) => D.int (lo + (i : Int))
def rngA : List D → Option (List D)
  | [.int j] => if -1000000000 ≤ j ∧ j ≤ 1000000000 then some (rngD 0 j.toNat) else none
  | _ => none
def iRngA (a : Ax) : Ix := fun ρ m => (a ρ m).bind fun p => (gts p.1 p.2).bind fun ds => (rngA ds).bind fun xs => some (.seq xs, p.2)
theorem itr_r {K : FRG} {tb φ ψ : List Addr} {H : Hp} {lo : Int} {n : Nat} : ItR K tb φ ψ H (Itr lo n) (.seq (rngD lo n)) := fun φ2 ψ2 H2 m2 xs P2 R2 ex => by
  cases ex
  have hl : (rngD lo n).length = n := by simp [rngD]
  refine ⟨fun i d hd => ?_, fun i hi => by rw [hl] at hi; exact hi⟩
  have hi : i < n := by rw [← hl]; exact (List.getElem?_eq_some_iff.mp hd).1
  refine ⟨hi, fun x H3 hy => ?_⟩
  obtain ⟨rfl, rfl⟩ := hy
  have e : (rngD lo n)[i]? = some (.int (lo + i)) := by simp [rngD, hi]
  rw [e] at hd
  cases hd
  exact ⟨.refl, R2, .int _, fun _ _ z => z⟩
theorem ix_rng1 {X : Cx} {tb : List Addr} {tg a : Expr} {f : Ax} {p pos : Pos} (hg : Gl X "range") (hm : X.mg "range" = none) (ha : PA X [a] (Ta X.K tb f)) (hs : starEach [a] X.env = [(false, eval a X.env)] := by rfl) : PI X tg (.Call (.Name "range" p) [a] [] pos) (Ti X.K tb (iRngA f)) := by
  refine pi_mono (pi_range1 hg hm ha hs) fun σ H Q ⟨φ, ψ, ρ, m, it, m', R, E, e, k⟩ => ?_
  obtain ⟨⟨ws, m1⟩, e1, e⟩ := bnd e
  obtain ⟨ds, e2, e⟩ := bnd e
  obtain ⟨xs, e3, e⟩ := bnd e
  cases e
  refine ⟨φ, ψ, ρ, m, ws, _, R, E, e1, fun φ1 H1 vs P1 R1 V1 => ?_⟩
  have C := gts_c R1 V1 e2
  have e3' : rngA ds = some xs := e3
  unfold rngA at e3'
  split at e3'
  · rename_i j
    split at e3'
    · rename_i hb
      cases e3'
      cases C with
      | cons h1 r1 =>
        cases r1
        rw [h1.int]
        exact ⟨j, rfl, by omega, by omega, k φ1 H1 _ P1 R1 itr_r⟩
    · cases e3'
  · cases e3'
abbrev Gx := D → Env → Option Env
def gN (i : Nat) : Gx := fun d ρ => some (ρ.set i (some (.v d)))
def gL : List Gx → List D → Env → Option Env
  | [], [], ρ => some ρ
  | g :: gs, d :: ds, ρ => (g d ρ).bind fun ρ1 => gL gs ds ρ1
  | _, _, _ => none
def gT (gs : List Gx) : Gx := fun d ρ => match d with
  | .tup ds => gL gs ds ρ
  | _ => none
def TgS (K : FRG) (tb : List Addr) (g : TG) (t : Gx) : Prop := ∀ φ ψ H m ρ σ d v ρ' (Q : L2.St → Hp → Prop), Rel K tb φ ψ H m → RE K φ ψ H ρ σ → Rep K φ ψ H d v → t d ρ = some ρ' → (∀ σ', RE K φ ψ H ρ' σ' → Q σ' H) → g v σ H Q
def TgsS (K : FRG) (tb : List Addr) (g : TGs) (t : List Gx) : Prop := ∀ φ ψ H m ρ σ ds vs ρ' (Q : L2.St → Hp → Prop), Rel K tb φ ψ H m → RE K φ ψ H ρ σ → Reps K φ ψ H ds vs → gL t ds ρ = some ρ' → (∀ σ', RE K φ ψ H ρ' σ' → Q σ' H) → g vs σ H Q
def TgW (g : TG) (vs : List Nat) : Prop := ∀ v σ H (Q : L2.St → Hp → Prop), g v σ H Q → g v σ H fun σ2 H2 => wipe σ2 vs = wipe σ vs ∧ Q σ2 H2
def TgsW (g : TGs) (vs : List Nat) : Prop := ∀ v σ H (Q : L2.St → Hp → Prop), g v σ H Q → g v σ H fun σ2 H2 => wipe σ2 vs = wipe σ vs ∧ Q σ2 H2
theorem wipe_set {σ : L2.St} {x : Option V} : ∀ {vs : List Nat} {i : Nat}, i ∈ vs → wipe (σ.set i x) vs = wipe σ vs
  | [], i, h => by simp at h
  | w :: ws, i, h => by
    unfold wipe
    by_cases hi : i ∈ ws
    · rw [wipe_set hi]
    · have e : i = w := by
        rcases List.mem_cons.mp h with z | z
        · exact z
        · exact absurd z hi
      subst e
      have comm : ∀ (ws : List Nat) (τ : L2.St), i ∉ ws → wipe (τ.set i x) ws = (wipe τ ws).set i x := by
        intro ws
        induction ws with
        | nil => intro τ _; rfl
        | cons u us ih =>
          intro τ hn
          unfold wipe
          rw [ih τ fun z => hn (List.mem_cons_of_mem _ z), List.set_comm _ _ fun z => hn (by rw [z]; exact List.mem_cons_self)]
      rw [comm ws σ hi]
      simp
theorem wipe_wipe {σ : L2.St} (vs : List Nat) : wipe (wipe σ vs) vs = wipe σ vs := by
  have gen : ∀ (ws : List Nat), (∀ i ∈ ws, i ∈ vs) → wipe (wipe σ ws) vs = wipe σ vs := by
    intro ws
    induction ws with
    | nil => intro _; rfl
    | cons u us ih =>
      intro h
      show wipe ((wipe σ us).set u none) vs = _
      rw [wipe_set (h u List.mem_cons_self)]
      exact ih fun i hi => h i (List.mem_cons_of_mem _ hi)
  exact gen vs fun _ h => h
theorem tg_name {K : FRG} {tb : List Addr} (i : Nat) : TgS K tb (gName i) (gN i) := fun φ ψ H m ρ σ d v ρ' Q R E V e k => by
  cases e; exact k _ (E.set i V)
theorem tw_name (i : Nat) {vs : List Nat} (h : i ∈ vs) : TgW (gName i) vs := fun v σ H Q q => ⟨wipe_set h, q⟩
theorem tgs_nil {K : FRG} {tb : List Addr} : TgsS K tb gNil [] := fun φ ψ H m ρ σ ds vs ρ' Q R E V e k => by
  cases V with
  | nil => cases e; exact ⟨rfl, k _ E⟩
  | cons h r => cases e
theorem tgs_cons {K : FRG} {tb : List Addr} {g : TG} {gs : TGs} {t : Gx} {ts : List Gx} (h1 : TgS K tb g t) (h2 : TgsS K tb gs ts) : TgsS K tb (gCons g gs) (t :: ts) := fun φ ψ H m ρ σ ds vs ρ' Q R E V e k => by
  cases V with
  | nil => cases e
  | cons h r =>
    obtain ⟨ρ1, e1, e2⟩ := bnd (show (t _ ρ).bind (fun ρ1 => gL ts _ ρ1) = some ρ' from e)
    refine ⟨_, _, rfl, h1 φ ψ H m ρ σ _ _ ρ1 _ R E h e1 fun σ1 E1 => ?_⟩
    exact h2 φ ψ H m ρ1 σ1 _ _ ρ' Q R E1 r e2 k
theorem tws_nil {vs : List Nat} : TgsW gNil vs := fun v σ H Q q => ⟨q.1, rfl, q.2⟩
theorem tws_cons {i : Nat} {gs : TGs} {vs : List Nat} (h : i ∈ vs) (h2 : TgsW gs vs) : TgsW (gCons (gName i) gs) vs := fun v σ H Q q => by
  obtain ⟨x, r, rfl, q⟩ := q
  refine ⟨x, r, rfl, ?_⟩
  have q2 := h2 r _ H Q q
  show gs r (σ.set i (some x)) H _
  rw [wipe_set h] at q2
  exact q2
theorem gL_len : ∀ {ts : List Gx} {ds : List D} {ρ ρ' : Env}, gL ts ds ρ = some ρ' → ds.length = ts.length
  | [], [], _, _, _ => rfl
  | [], _ :: _, _, _, h => by cases h
  | _ :: _, [], _, _, h => by cases h
  | t :: ts, d :: ds, ρ, ρ', h => by
    obtain ⟨ρ1, e1, e2⟩ := bnd (show (t d ρ).bind (fun ρ1 => gL ts ds ρ1) = some ρ' from h)
    simp [gL_len e2]
theorem tg_tup {K : FRG} {tb : List Addr} {gs : TGs} {ts : List Gx} {n : Nat} (hn : ts.length = n) (h : TgsS K tb gs ts) : TgS K tb (gTup K n gs) (gT ts) := fun φ ψ H m ρ σ d v ρ' Q R E V e k => by
  cases V with
  | tup hq r => exact ⟨_, _, rfl, hq.1, by rw [← r.length, gL_len e]; exact hn, h φ ψ H m ρ σ _ _ ρ' Q R E r e k⟩
  | _ => cases e
theorem tw_tup {K : FRG} {gs : TGs} {n : Nat} {vs : List Nat} (h : TgsW gs vs) : TgW (gTup K n gs) vs := fun v σ H Q q => by
  obtain ⟨a, xs, e1, e2, e3, q⟩ := q
  exact ⟨a, xs, e1, e2, e3, h xs σ H Q q⟩
def sAsg (t : Gx) (a : Ex) : Sx := fun ρ m => (a ρ m).bind fun p => (vl p.1).bind fun d => (t d ρ).bind fun ρ' => some (.nx, ρ', p.2)
theorem bs_asg {X : Cx} {tb : List Addr} {tg a : Expr} {fa : Ex} {g : TG} {t : Gx} {pos : Pos} (ht : TgS X.K tb g t) (ha : PE X a (T X.K tb fa)) (hg : PG X tg g) (hs : swapsWithSole [tg] a pos.line X.env = pure false := by rfl) (hw : swappedStores [tg] a X.env = pure none := by rfl)
    (h1 : (assignEach [tg] X.env).map (·.2) = [assign tg X.env] := by rfl) : PS X (.Assign [tg] a pos) (Ts X.K tb (sAsg t fa)) := by
  refine ps_mono (ps_asg ha hg hs hw h1) fun D σ H ⟨φ, ψ, ρ, m, o, ρ', m', R, E, e, k⟩ => ?_
  obtain ⟨⟨d1, m1⟩, e1, e⟩ := bnd e
  obtain ⟨d, ev, e⟩ := bnd e
  obtain ⟨ρ1, e2, e⟩ := bnd e
  cases e
  exact ⟨φ, ψ, ρ, m, d1, _, R, E, e1, fun φ1 ψ1 H1 v P1 R1 V1 => ht φ1 ψ H1 _ ρ σ d v _ _ (V1.rel R1) (E.mono (V1.post P1) R) (vl_rep (V1.s R1) ev) e2 fun σ' E' => k φ1 ψ H1 (V1.post P1) (V1.rel R1) rfl σ' E'⟩
open Classical in
noncomputable def forL (it : Itm) (xs : List D) (t : Gx) (b : Sx) (dd : List Nat) : List D → Sx
  | [], ρ, m => if itemsAt it m = some xs then some (.nx, ρ, m) else none
  | d :: ds, ρ, m => if itemsAt it m = some xs then (t d ρ).bind fun ρ1 => (b ρ1 m).bind fun r => match r.1 with
      | .nx => forL it xs t b dd ds (wipeD r.2.1 dd) r.2.2
      | .ct => forL it xs t b dd ds (wipeD r.2.1 dd) r.2.2
      | .bk => some (.nx, wipeD r.2.1 dd, r.2.2)
      | .ret d => some (.ret d, r.2.1, r.2.2)
    else none
noncomputable def sFor (src : Ix) (t : Gx) (b : Sx) (dd : List Nat) : Sx := fun ρ m => (src ρ m).bind fun p => (itemsAt p.1 p.2).bind fun xs => forL p.1 xs t b dd xs ρ p.2
theorem bs_for {X : Cx} {tb : List Addr} {tg iter : Expr} {body : List Stmt} {src : Ix} {g : TG} {t : Gx} {b : Sx} {dd : List Nat} {pos : Pos} (hc : X.calm = true) (ht : TgS X.K tb g t) (hp : PassesOwn (model X.prog X.w) X.A X.env X.xe) (hi : PI X tg iter (Ti X.K tb src)) (hg : PG X tg g) (hb : PSs X body (Ts X.K tb b))
    (hs : ∀ x, foldedSetIterable iter X.env x = pure x := by intro _; rfl) : PS X (.For tg iter body [] pos) (Ts X.K tb (sFor src t b dd)) := by
  refine ps_mono (ps_for hp hc hi hg hb hs) fun D σ H ⟨φ, ψ, ρ, m, o, ρF, mF, R, E, e, k⟩ => ?_
  obtain ⟨⟨it, m1⟩, e1, e⟩ := bnd e
  obtain ⟨xs, e2, e⟩ := bnd e
  refine ⟨φ, ψ, ρ, m, it, m1, R, E, e1, fun φ1 H1 J P1 R1 IR => ?_⟩
  refine ⟨fun i n σ2 H2 => n = xs.length - i ∧ i ≤ xs.length ∧ ∃ φ2 ρ2 m2, Post φ1 ψ H1 φ2 ψ H2 ∧ Rel X.K tb φ2 ψ H2 m2 ∧ RE X.K φ2 ψ H2 ρ2 σ2 ∧ forL it xs t b dd (xs.drop i) ρ2 m2 = some (o, ρF, mF),
    ⟨xs.length, by simp, Nat.zero_le _, φ1, ρ, m1, .refl, R1, E.mono P1 R, by simpa using e⟩, ?_⟩
  rintro i n σ2 H2 ⟨rfl, hi2, φ2, ρ2, m2, P2, R2, E2, ef⟩
  by_cases hlt : i < xs.length
  · rw [List.drop_eq_getElem_cons hlt] at ef
    unfold forL at ef
    split at ef
    · rename_i hx
      obtain ⟨ρ3, e3, ef⟩ := bnd ef
      obtain ⟨⟨o4, ρ4, m4⟩, e4, ef⟩ := bnd ef
      obtain ⟨hgo, hy⟩ := (IR φ2 ψ H2 m2 xs P2 R2 hx).1 i xs[i] (List.getElem?_eq_getElem hlt)
      refine .inr ⟨hgo, fun σ' H' => i + 1 ≤ xs.length ∧ ∃ φ2 ρ2 m2, Post φ1 ψ H1 φ2 ψ H' ∧ Rel X.K tb φ2 ψ H' m2 ∧ RE X.K φ2 ψ H' ρ2 σ' ∧ forL it xs t b dd (xs.drop (i + 1)) ρ2 m2 = some (o, ρF, mF), fun σ' H' q => ⟨xs.length - (i + 1), by omega, rfl, q⟩, fun x H3 y => ?_⟩
      obtain ⟨P3, R3, V3, _⟩ := hy x H3 y
      refine ht φ2 ψ H3 m2 ρ2 σ2 _ x ρ3 _ R3 (E2.mono P3 R2) V3 e3 fun σ3 E3 => ?_
      refine ⟨φ2, ψ, ρ3, m2, o4, ρ4, m4, R3, E3, e4, fun φ5 ψ5 H5 P5 R5 => ?_⟩
      have P15 : Post φ1 ψ H1 φ5 ψ5 H5 := P2.trans (P3.trans P5)
      cases o4 with
      | nx => exact fun z σ5 E5 => by subst z; exact ⟨hlt, φ5, _, m4, P15, R5, E5.fog dd, ef⟩
      | ct => exact fun z σ5 E5 => by subst z; exact ⟨hlt, φ5, _, m4, P15, R5, E5.fog dd, ef⟩
      | bk => cases ef; exact fun z σ5 E5 => by subst z; exact k φ5 _ H5 (P1.trans P15) R5 rfl σ5 (E5.fog dd)
      | ret d => cases ef; exact k φ5 ψ5 H5 (P1.trans P15) R5
    · cases ef
  · rw [List.drop_of_length_le (by omega)] at ef
    unfold forL at ef
    split at ef
    · rename_i hx
      cases ef
      exact .inl ⟨(IR φ2 ψ H2 _ xs P2 R2 hx).2 i (by omega), k φ2 ψ H2 (P1.trans P2) R2 rfl σ2 E2⟩
    · cases ef
def whileN (t : Tx) (b : Sx) (dd : List Nat) : Nat → Sx
  | 0, _, _ => none
  | n + 1, ρ, m => (t ρ m).bind fun p => if p.1 = true then (b ρ p.2).bind fun r => match r.1 with
      | .nx => whileN t b dd n (wipeD r.2.1 dd) r.2.2
      | .ct => whileN t b dd n (wipeD r.2.1 dd) r.2.2
      | .bk => some (.nx, wipeD r.2.1 dd, r.2.2)
      | .ret d => some (.ret d, r.2.1, r.2.2)
    else some (.nx, ρ, p.2)
open Classical in
noncomputable def sWhile (t : Tx) (b : Sx) (dd : List Nat) : Sx := fun ρ m => if h : ∃ n r, whileN t b dd n ρ m = some r then some (Classical.choose (Classical.choose_spec h)) else none
theorem while_up {t : Tx} {b : Sx} {dd : List Nat} : ∀ {n : Nat} {ρ : Env} {m : Mem} {r : Out × Env × Mem}, whileN t b dd n ρ m = some r → ∀ k, whileN t b dd (n + k) ρ m = some r
  | 0, _, _, _, h, _ => by cases h
  | n + 1, ρ, m, r, h, k => by
    rw [show n + 1 + k = (n + k) + 1 by omega]
    unfold whileN at h ⊢
    obtain ⟨⟨c, m1⟩, e1, h⟩ := bnd h
    rw [e1]
    simp only [Option.bind_some]
    cases c with
    | false => exact h
    | true =>
      simp only [if_true] at h ⊢
      obtain ⟨⟨o, ρ2, m2⟩, e2, h⟩ := bnd h
      rw [e2]
      simp only [Option.bind_some]
      cases o with
      | nx => exact while_up h k
      | ct => exact while_up h k
      | bk => exact h
      | ret d => exact h
theorem while_is {t : Tx} {b : Sx} {dd : List Nat} {n : Nat} {ρ : Env} {m : Mem} {r : Out × Env × Mem} (h : whileN t b dd n ρ m = some r) : sWhile t b dd ρ m = some r := by
  have ex : ∃ n r, whileN t b dd n ρ m = some r := ⟨n, r, h⟩
  unfold sWhile
  rw [dif_pos ex]
  have q := Classical.choose_spec (Classical.choose_spec ex)
  have a1 := while_up q n
  have a2 := while_up h (Classical.choose ex)
  rw [Nat.add_comm] at a1
  rw [a2] at a1
  exact a1.symm
theorem bs_while {X : Cx} {tb : List Addr} {c : Expr} {body : List Stmt} {ft : Tx} {b : Sx} {dd : List Nat} {pos : Pos} (hp : PassesOwn (model X.prog X.w) X.A X.env X.xe) (hc : PT X c (Tt X.K tb ft)) (hb : PSs X body (Ts X.K tb b)) : PS X (.While c body [] pos) (Ts X.K tb (sWhile ft b dd)) := by
  refine ps_mono (ps_while hp hc hb) fun D σ H ⟨φ, ψ, ρ, m, o, ρF, mF, R, E, e, k⟩ => ?_
  unfold sWhile at e
  split at e
  · rename_i ex
    have e := Option.some.inj e
    have q := Classical.choose_spec (Classical.choose_spec ex)
    rw [e] at q
    refine ⟨fun n σ2 H2 => ∃ φ2 ρ2 m2, Post φ ψ H φ2 ψ H2 ∧ Rel X.K tb φ2 ψ H2 m2 ∧ RE X.K φ2 ψ H2 ρ2 σ2 ∧ whileN ft b dd n ρ2 m2 = some (o, ρF, mF), ⟨_, φ, ρ, m, .refl, R, E, q⟩, ?_⟩
    rintro n σ2 H2 ⟨φ2, ρ2, m2, P2, R2, E2, ef⟩
    cases n with
    | zero => cases ef
    | succ n =>
      unfold whileN at ef
      obtain ⟨⟨c1, m3⟩, e3, ef⟩ := bnd ef
      refine ⟨φ2, ψ, ρ2, m2, c1, m3, R2, E2, e3, fun φ3 H3 P3 R3 => ?_⟩
      cases c1 with
      | false => cases ef; exact iteF (k φ3 ψ H3 (P2.trans P3) R3 rfl σ2 (E2.mono P3 R2))
      | true =>
        obtain ⟨⟨o4, ρ4, m4⟩, e4, ef⟩ := bnd ef
        refine iteT ⟨fun σ' H' => ∃ φ2 ρ2 m2, Post φ ψ H φ2 ψ H' ∧ Rel X.K tb φ2 ψ H' m2 ∧ RE X.K φ2 ψ H' ρ2 σ' ∧ whileN ft b dd n ρ2 m2 = some (o, ρF, mF), fun σ' H' q => ⟨n, Nat.lt_succ_self _, q⟩, φ3, ψ, ρ2, m3, o4, ρ4, m4, R3, E2.mono P3 R2, e4, fun φ5 ψ5 H5 P5 R5 => ?_⟩
        have P15 : Post φ ψ H φ5 ψ5 H5 := P2.trans (P3.trans P5)
        cases o4 with
        | nx => exact fun z σ5 E5 => by subst z; exact ⟨φ5, _, m4, P15, R5, E5.fog dd, ef⟩
        | ct => exact fun z σ5 E5 => by subst z; exact ⟨φ5, _, m4, P15, R5, E5.fog dd, ef⟩
        | bk => cases ef; exact fun z σ5 E5 => by subst z; exact k φ5 _ H5 P15 R5 rfl σ5 (E5.fog dd)
        | ret d => cases ef; exact k φ5 ψ5 H5 P15 R5
  · cases e
open Classical in
noncomputable def lcL (it : Itm) (xs : List D) (t : Gx) (c : Tx) (f : Ex) (ρ : Env) : List D → List D → Mem → Option (List D × Mem)
  | [], acc, m => if itemsAt it m = some xs then some (acc, m) else none
  | d :: ds, acc, m => if itemsAt it m = some xs then (t d ρ).bind fun ρ1 => (c ρ1 m).bind fun p => if p.1 = true then (f ρ1 p.2).bind fun q => (vl q.1).bind fun y => if acc.length < 1000000 then lcL it xs t c f ρ ds (acc ++ [y]) q.2 else none else lcL it xs t c f ρ ds acc p.2
    else none
noncomputable def eLc (src : Ix) (t : Gx) (c : Tx) (f : Ex) (vs : List Nat) : Ex := fun ρ m => (src ρ m).bind fun p => (itemsAt p.1 p.2).bind fun xs => (lcL p.1 xs t c f (wipeD ρ vs) xs [] p.2).bind fun q => some (.f (.lst q.1), q.2)
theorem lc_go {K : FRG} {tb : List Addr} {src : Ix} {g : TG} {t : Gx} {c : Tx} {f : Ex} {vs : List Nat} {σ : L2.St} {H : Hp} {Q : VK} (ht : TgS K tb g t) (hw : TgW g vs) (h : T K tb (eLc src t c f vs) σ H Q) :
    tLc (Ti K tb src) g (Tt K tb c) (T K tb f) vs σ H Q := by
  obtain ⟨φ, ψ, ρ, m, d, mF, R, E, e, k⟩ := h
  obtain ⟨⟨it, m1⟩, e1, e⟩ := bnd e
  obtain ⟨xs, e2, e⟩ := bnd e
  obtain ⟨⟨accF, m9⟩, e3, e⟩ := bnd e
  cases e
  refine ⟨φ, ψ, ρ, m, it, m1, R, E, e1, fun φ1 H1 J P1 R1 IR A hA => ?_⟩
  have nAS : A ∉ ψ := R1.freshS hA
  let Z : Nat → Hp → Prop := fun i H2 => ∃ φ2 m2 acc accV, Post φ1 ψ H1 φ2 (A :: ψ) H2 ∧ Rel K tb φ2 (A :: ψ) H2 m2 ∧ H2 A = some (.lst accV) ∧ Reps K φ2 (A :: ψ) H2 acc accV ∧ lcL it xs t c f (wipeD ρ vs) (xs.drop i) acc m2 = some (accF, m9)
  refine ⟨fun i n H2 => n = xs.length - i ∧ i ≤ xs.length ∧ Z i H2, ⟨xs.length, by simp, Nat.zero_le _, φ1, m1, [], [], Post.nw hA, R1.nw hA, upd_same, .nil, by simpa using e3⟩, ?_⟩
  rintro i n H2 ⟨rfl, hi2, φ2, m2, acc, accV, P2, R2, hA2, rA, ef⟩
  by_cases hlt : i < xs.length
  · rw [List.drop_eq_getElem_cons hlt] at ef
    unfold lcL at ef
    split at ef
    · rename_i hx
      obtain ⟨ρ3, e3', ef⟩ := bnd ef
      obtain ⟨⟨b4, m4⟩, e4, ef⟩ := bnd ef
      obtain ⟨hgo, hy⟩ := (IR φ2 (A :: ψ) H2 m2 xs P2 R2 hx).1 i xs[i] (List.getElem?_eq_getElem hlt)
      refine .inr ⟨hgo, fun H' => i + 1 ≤ xs.length ∧ Z (i + 1) H', fun H' q => ⟨xs.length - (i + 1), by omega, rfl, q⟩, fun x H3 y => ?_⟩
      obtain ⟨P3, R3, V3, same⟩ := hy x H3 y
      have hA3 : H3 A = some (.lst accV) := same A _ hA2
      have rA3 := rA.mono P3 R2
      have E3 : RE K φ2 (A :: ψ) H3 (wipeD ρ vs) (wipe σ vs) := (E.mono (P1.trans (P2.trans P3)) R).wipe vs
      have st := ht φ2 (A :: ψ) H3 m2 (wipeD ρ vs) (wipe σ vs) _ x ρ3 (fun σ3 H3' => Tt K tb c σ3 H3' fun b H4 => if b = true then T K tb f σ3 H4 fun y H5 => ∃ acc, H5 A = some (.lst acc) ∧ acc.length < sizeLine ∧ (fun H' => i + 1 ≤ xs.length ∧ Z (i + 1) H') (upd H5 A (.lst (acc ++ [y]))) else (fun H' => i + 1 ≤ xs.length ∧ Z (i + 1) H') H4) R3 E3 V3 e3' fun σ3 E3' => ?_
      · have st2 := hw _ _ _ _ st
        simp only [wipe_wipe] at st2
        exact st2
      · refine ⟨φ2, A :: ψ, ρ3, m2, b4, m4, R3, E3', e4, fun φ4 H4 P4 R4 => ?_⟩
        have hA4 : H4 A = some (.lst accV) := (P4.frm A _ (R3.ap A List.mem_cons_self) hA3 fun _ z => nomatch z).ex fun _ z => nomatch z
        have rA4 := rA3.mono P4 R3
        have P14 := P2.trans (P3.trans P4)
        cases b4 with
        | false => exact iteF ⟨hlt, φ4, m4, acc, accV, P14, R4, hA4, rA4, ef⟩
        | true =>
          obtain ⟨⟨w5, m5⟩, e5, ef⟩ := bnd ef
          obtain ⟨y5, ev, ef⟩ := bnd ef
          split at ef
          · rename_i hl
            refine iteT ⟨φ4, A :: ψ, ρ3, m4, w5, m5, R4, E3'.mono P4 R3, e5, fun φ5 ψ5 H5 v P5 R5 V5 => ?_⟩
            have R5' := V5.rel R5
            have P5' := V5.post P5
            have hA5 : H5 A = some (.lst accV) := (P5'.frm A _ (R4.ap A List.mem_cons_self) hA4 fun _ z => nomatch z).ex fun _ z => nomatch z
            have rA5 := rA4.mono P5' R4
            have y5' := vl_rep (V5.s R5) ev
            exact ⟨accV, hA5, smallT (by rw [← rA5.length]; exact hl), hlt, φ5, m5, acc ++ [y5], accV ++ [v], Post.sdw List.mem_cons_self (R5'.ap A List.mem_cons_self) (R5'.sd A List.mem_cons_self) (P14.trans P5') hA, R5'.sdw List.mem_cons_self hA5, upd_same, (rA5.snoc y5').sdw List.mem_cons_self hA5, ef⟩
          · cases ef
    · cases ef
  · rw [List.drop_of_length_le (by omega)] at ef
    unfold lcL at ef
    split at ef
    · rename_i hx
      cases ef
      refine .inl ⟨(IR φ2 (A :: ψ) H2 _ xs P2 R2 hx).2 i (by omega), ?_⟩
      exact k φ2 (A :: ψ) H2 _ (P1.trans P2) R2 ⟨A, .lst accF, rfl, rfl, nAS, rfl, accV, hA2, rA⟩
    · cases ef
def tYes' : Tx := fun _ m => some (true, m)
theorem pts_mono {X : Cx} {e : List Expr} {t t' : TT} (h : PTs X e t) (i : ∀ σ H Q, t' σ H Q → t σ H Q) : PTs X e t' := ⟨fun pins s σ H Q I q => h.run pins s σ H Q I (i σ H Q q)⟩
theorem ts_nil {X : Cx} {tb : List Addr} : PTs X [] (Tt X.K tb tYes') := pts_mono pts_nil fun σ H Q ⟨φ, ψ, ρ, m, b, m', R, E, e, k⟩ => by
  cases e; exact k φ H .refl R
theorem ts_one {X : Cx} {tb : List Addr} {c : Expr} {ft : Tx} (h : PT X c (Tt X.K tb ft)) : PTs X [c] (Tt X.K tb ft) := pts_one h
end Pw
end
section
set_option Elab.async false
set_option linter.all false
set_option maxRecDepth 100000
set_option maxHeartbeats 1000000
namespace Pw
open PySem PySem.Spec PyProof.Rows L2
theorem ex_lc {X : Cx} {tb : List Addr} {elt tg iter : Expr} {ifs : List Expr} {scope : Scope} {own : List (Str × Nat)} {pos : Pos} {src : Ix} {g : TG} {t : Gx} {c : Tx} {f : Ex} (hc : X.calm = true) (hN : X.N.Nodup) (htg : TgS X.K tb g t) (hw : TgW g (own.map (·.2)))
    (hi : PI X tg iter (Ti X.K tb src)) (ok : BlkOk X.N X.env.scope scope own)
    (hg : ∀ (s : Shared) (H : Hp) (C : Addr) (cl : List (Str × Addr)) (fp : List Addr), PG (X.blk s H scope (compEnvC scope cl C X.env) fp) tg g) (ht : ∀ (s : Shared) (H : Hp) (C : Addr) (cl : List (Str × Addr)) (fp : List Addr), PTs (X.blk s H scope (compEnvC scope cl C X.env) fp) ifs (Tt X.K tb c))
    (he : ∀ (s : Shared) (H : Hp) (C : Addr) (cl : List (Str × Addr)) (fp : List Addr), PE (X.blk s H scope (compEnvC scope cl C X.env) fp) elt (T X.K tb f)) (hs : ∀ x, foldedSetIterable iter X.env x = pure x := by intro _; rfl) :
    PE X (.ListComp elt [⟨tg, iter, ifs, 0⟩] scope pos) (T X.K tb (eLc src t c f (own.map (·.2)))) :=
  pe_mono (pe_lc hc hN hi ok hg ht he hs) fun _ _ _ h => lc_go htg hw h
theorem bs_setLc {X : Cx} {tb : List Addr} (i : Nat) {y : Str} {py : Pos} {elt tg iter : Expr} {ifs : List Expr} {scope : Scope} {own : List (Str × Nat)} {pos spos : Pos} {src : Ix} {g : TG} {t : Gx} {c : Tx} {f : Ex} (hc : X.calm = true) (hN : X.N.Nodup) (htg : TgS X.K tb g t) (hw : TgW g (own.map (·.2)))
    (hi : PI X tg iter (Ti X.K tb src)) (ok : BlkOk X.N X.env.scope scope own)
    (hg : ∀ (s : Shared) (H : Hp) (C : Addr) (cl : List (Str × Addr)) (fp : List Addr), PG (X.blk s H scope (compEnvC scope cl C X.env) fp) tg g) (ht : ∀ (s : Shared) (H : Hp) (C : Addr) (cl : List (Str × Addr)) (fp : List Addr), PTs (X.blk s H scope (compEnvC scope cl C X.env) fp) ifs (Tt X.K tb c))
    (he : ∀ (s : Shared) (H : Hp) (C : Addr) (cl : List (Str × Addr)) (fp : List Addr), PE (X.blk s H scope (compEnvC scope cl C X.env) fp) elt (T X.K tb f))
    (hsw : swapsWith (.ListComp elt [⟨tg, iter, ifs, 0⟩] scope pos) (some (.Name y py)) spos.line X.env = pure true) (hy : X.N[i]? = some y := by rfl) (hyl : X.env.scope.names.lookup y = some .local := by rfl)
    (hs : ∀ x, foldedSetIterable iter X.env x = pure x := by intro _; rfl) :
    PS X (.Assign [.Name y py] (.ListComp elt [⟨tg, iter, ifs, 0⟩] scope pos) spos) (Ts X.K tb (sSet i (eLc src t c f (own.map (·.2))))) :=
  ps_mono (ps_setLc hc hN hy hyl hsw hi ok hg ht he hs) fun D σ H h => lc_go htg hw (set_go (X := X) h)
abbrev Fx := List W → Mem → Option (W × Mem)
def startD (n : Nat) (ws : List W) : Env := ws.map some ++ List.replicate (n - ws.length) none
def inner (m : Mem) (b : Nat) : Nat → Option (List D)
  | 0 => some []
  | c + 1 => (inner m b c).bind fun ds => match m[b + c]? with
    | some (.lst es) => some (ds ++ [.lst es])
    | _ => none
def outW (k : Nat) : W → Mem → Option (W × Mem)
  | .v d, m => some (.v d, m.take k)
  | .f d, m => some (.f d, m.take k)
  | .r n, m => if n < k then some (.r n, m.take k) else match m[n]? with
    | some (.rl b c) => if k ≤ b then (inner m b c).bind fun ds => some (.v (.lst ds), m.take k) else none
    | some mo => some (.f (moD mo), m.take k)
    | none => none
def runF (np n : Nat) (b : Sx) : Fx := fun ws m => if ws.length = np then (b (startD n ws) m).bind fun r => match r.1 with
  | .nx => some (.v .non, r.2.2.take m.length)
  | .ret w => outW m.length w r.2.2
  | _ => none
  else none
def spF (K : FRG) (tb : List Addr) (np : Nat) (F : Fx) : Sp := fun vs H Q _ => ∃ φ ψ ws m w m', Rel K tb φ ψ H m ∧ RepSs K φ ψ H ws vs ∧ ws.length = np ∧ F ws m = some (w, m') ∧ Go K tb φ ψ H m' w Q
theorem re_start {K : FRG} {φ ψ : List Addr} {H : Hp} {N : List Str} {ws : List W} {vs : List V} (r : RepSs K φ ψ H ws vs) : RE K φ ψ H (startD N.length ws) (start N vs) := by
  refine ⟨fun i d h => ?_, by simp [startD, L2.start, r.length]⟩
  unfold startD at h
  by_cases hi : i < ws.length
  · rw [List.getElem?_append_left (by simpa using hi), List.getElem?_map] at h
    cases e : ws[i]? with
    | none => rw [e] at h; cases h
    | some x =>
      rw [e] at h
      cases h
      obtain ⟨v, h1, h2⟩ := r.get e
      refine ⟨v, ?_, h2⟩
      unfold L2.start
      rw [List.getElem?_append_left (by rw [List.length_map, ← r.length]; exact hi), List.getElem?_map, h1]
      rfl
  · rw [List.getElem?_append_right (by simpa using hi), List.getElem?_replicate] at h
    split at h <;> cases h
section
variable {K : FRG} {tb φ φ1 ψ ψ1 : List Addr} {H H1 : Hp} {m m1 : Mem}
theorem Rel.cut (R : Rel K tb φ1 ψ1 H m1) (hp : φ <+: φ1) (hs : ∀ a ∈ ψ, a ∈ ψ1 ∨ (a ∈ φ1 ∧ a ∉ φ)) : Rel K tb φ ψ H (m1.take φ.length) := by
  obtain ⟨t, rfl⟩ := hp
  have hl := R.len
  rw [List.length_append] at hl
  have few : ∀ a, a ∉ φ ++ t → a ∉ ψ1 → a ∉ φ ∧ a ∉ ψ := fun a h1 h2 => ⟨fun z => h1 (List.mem_append_left _ z), fun z => (hs a z).elim h2 fun y => h1 y.1⟩
  refine ⟨by rw [List.length_take]; omega, (List.nodup_append.mp R.nd).1, fun n mo a e1 e2 => ?_, R.tab, fun p hp => ?_, fun p hp => ?_, R.lam⟩
  · have hn : n < φ.length := (List.getElem?_eq_some_iff.mp e2).1
    rw [List.getElem?_take_of_lt hn] at e1
    exact (R.obj n mo a e1 (by rw [List.getElem?_append_left hn]; exact e2)).fewer few fun _ k hk i hi => by
      have e2' : (φ ++ t)[n]? = some a := by rw [List.getElem?_append_left hn]; exact e2
      obtain ⟨h1, h2⟩ := List.getElem?_eq_some_iff.mp e2'
      obtain ⟨h3, h4⟩ := List.getElem?_eq_some_iff.mp hk
      have : k = n := (List.getElem_inj R.nd).mp (h4.trans h2.symm)
      exact (List.getElem?_append_left (by omega)).symm
  · rcases hs p hp with z | z
    · exact R.sd p z
    · exact R.trk z.1
  · rcases hs p hp with z | z
    · exact fun y => R.ap p z (List.mem_append_left _ y)
    · exact z.2
theorem out_go {w w' : W} {m' : Mem} {v : V} {Q : VK} (hl : φ.length = m.length) (P : Post φ ψ H φ1 ψ1 H1) (R : Rel K tb φ1 ψ1 H1 m1) (h : RepW K φ1 ψ ψ1 H1 w v) (e : outW m.length w m1 = some (w', m')) (k : Go K tb φ ψ H m' w' Q) : Q v H1 := by
  have few : ∀ (a : Addr), a ∉ φ1 → ∀ (ψ' : List Addr), a ∉ ψ' → a ∉ φ ∧ a ∉ ψ' := fun a h1 ψ' h2 => ⟨fun z => h1 (P.pre.subset z), h2⟩
  have post : ∀ (ψ' : List Addr), (∀ a ∈ ψ', a ∈ ψ ∨ H a = none) → (∀ a ∈ ψ, a ∈ ψ') → Post φ ψ H φ ψ' H1 := fun ψ' hs hb => ⟨List.prefix_refl _, fun _ z => .inl z, hs, P.frm, P.kp, hb⟩
  cases w with
  | v d =>
    cases e
    obtain ⟨rfl, h⟩ := h
    rw [← hl] at k
    exact k φ _ H1 v (post _ P.side P.sub) (R.cut P.pre fun _ z => .inl z) ⟨rfl, h.fewer fun a h1 h2 => few a h1 _ h2⟩
  | f d =>
    cases e
    obtain ⟨p, mo, rfl, rfl, np, rfl, q⟩ := h
    rw [← hl] at k
    exact k φ _ H1 _ (post _ P.side P.sub) (R.cut P.pre fun _ z => .inl z) ⟨p, mo, rfl, rfl, np, rfl, q.fewer (fun a h1 h2 => few a h1 _ h2) fun _ k hk => absurd (List.mem_of_getElem? hk) (R.ap p List.mem_cons_self)⟩
  | r n =>
    obtain ⟨rfl, a, ha, rfl⟩ := h
    unfold outW at e
    simp only at e
    split at e
    · rename_i hn
      cases e
      rw [← hl] at k
      refine k φ _ H1 _ (post _ P.side P.sub) (R.cut P.pre fun _ z => .inl z) ⟨rfl, a, ?_, rfl⟩
      obtain ⟨t, rfl⟩ := P.pre
      rw [List.getElem?_append_left (by rw [hl]; exact hn)] at ha
      exact ha
    · rename_i hn
      have mem : a ∈ φ1 := List.mem_of_getElem? ha
      have nA : a ∉ φ := fun z => by
        obtain ⟨t, rfl⟩ := P.pre
        rw [List.getElem?_append_right (by rw [hl]; omega)] at ha
        exact (List.nodup_append.mp R.nd).2.2 a z a (List.mem_of_getElem? ha) rfl
      have h0 : H a = none := (P.new a mem).resolve_left nA
      have nP : a ∉ ψ1 := fun z => R.ap a z mem
      have hk : ∀ j, m.length ≤ j → ∀ c, φ1[j]? = some c → c ∉ φ := fun j hj c hc z => by
        obtain ⟨t, rfl⟩ := P.pre
        rw [List.getElem?_append_right (by rw [hl]; exact hj)] at hc
        exact (List.nodup_append.mp R.nd).2.2 c z c (List.mem_of_getElem? hc) rfl
      have isRl : ∀ b c, m1[n]? = some (.rl b c) → outW m.length (.r n) m1 = some (w', m') → Q (.ref a) H1 := fun b c e1 e => by
        unfold outW at e
        simp only [e1, if_neg hn] at e
        split at e
        · rename_i hb
          obtain ⟨ds, ed, e⟩ := bnd e
          cases e
          obtain ⟨o1, o2⟩ := R.obj n _ a e1 ha
          have hlen := (List.getElem?_eq_some_iff.mp o2).1
          have rs : ∀ c', c' ≤ c → ∀ ds, inner m1 b c' = some ds → Reps K φ ψ1 H1 ds ((List.range c').map fun i => V.ref (φ1.getD (b + i) 0)) := by
            intro c'
            induction c' with
            | zero => intro _ ds e; cases e; exact .nil
            | succ c' ih =>
              intro hc ds e
              obtain ⟨ds', e3, e⟩ := bnd e
              split at e
              · rename_i es e4
                cases e
                rw [List.range_succ, List.map_append]
                have hj : b + c' < φ1.length := by omega
                have e5 : φ1[b + c']? = some φ1[b + c'] := List.getElem?_eq_getElem hj
                obtain ⟨us, u1, u2⟩ := R.obj _ _ _ e4 e5
                have e6 : φ1.getD (b + c') 0 = φ1[b + c'] := by rw [List.getD_eq_getElem?_getD, e5]; rfl
                refine (ih (by omega) ds' e3).snoc ?_
                show Rep K φ ψ1 H1 (D.lst es) (V.ref (φ1.getD (b + c') 0))
                rw [e6]
                exact .lst (hk _ (by omega) _ e5) (fun z => R.ap _ z (List.mem_of_getElem? e5)) u1 (u2.fewer fun x h1 h2 => few x h1 _ h2)
              · cases e
          rw [← hl] at k
          exact k φ ψ1 H1 _ (post _ P.side P.sub) (R.cut P.pre fun _ z => .inl z) ⟨rfl, .lst nA nP o1 (rs c (Nat.le_refl _) ds ed)⟩
        · cases e
      by_cases hr : ∃ b c, m1[n]? = some (.rl b c)
      · obtain ⟨b, c, e1⟩ := hr
        refine isRl b c e1 ?_
        unfold outW
        simp only [if_neg hn]
        exact e
      have e' : ∃ mo, m1[n]? = some mo ∧ some (W.f (moD mo), m1.take m.length) = some (w', m') := by
        split at e
        · rename_i b c e1; exact absurd ⟨b, c, e1⟩ hr
        · rename_i mo e1 _; exact ⟨mo, by assumption, e⟩
        · cases e
      obtain ⟨mo, e1, e⟩ := e'
      cases e
      rw [← hl] at k
      refine k φ (a :: ψ1) H1 _ (post _ (fun b hb => ?_) fun b hb => List.mem_cons_of_mem _ hb) (R.cut P.pre fun b hb => ?_) ⟨a, mo, rfl, rfl, nP, rfl, (R.obj n mo a e1 ha).fewer (fun b h1 h2 => few b h1 _ fun z => ?_) fun ⟨b, c, z⟩ => absurd ⟨b, c, by rw [← z]; exact e1⟩ hr⟩
      · rcases List.mem_cons.mp hb with z | z
        · rw [z]; exact .inr h0
        · exact .inl z
      · rcases List.mem_cons.mp hb with z | z
        · rw [z]; exact .inr ⟨mem, nA⟩
        · exact .inl z
      · rcases List.mem_cons.mp z with y | y
        · rw [y] at h1; exact h1 mem
        · exact h2 y
end
theorem body_go {K : FRG} {tb : List Addr} {np : Nat} {N : List Str} {b : Sx} {vs : List V} {H : Hp} {Q : VK} {E : XK} (h : spF K tb np (runF np N.length b) vs H Q E) : Ts K tb b { nx := fun _ H' => Q .non H', rt := Q } (start N vs) H := by
  obtain ⟨φ, ψ, ws, m, w, m', R, r, hl, e, k⟩ := h
  unfold runF at e
  rw [if_pos hl] at e
  obtain ⟨⟨o, ρ', m1⟩, e1, e⟩ := bnd e
  refine ⟨φ, ψ, _, m, o, ρ', m1, R, re_start r, e1, fun φ1 ψ1 H1 P1 R1 => ?_⟩
  cases o with
  | nx =>
    intro z σ1 E1
    subst z
    exact out_go (w := .v .non) R.len P1 R1 ⟨rfl, .non⟩ e k
  | ret x => exact fun v V => out_go R.len P1 R1 V e k
  | bk => cases e
  | ct => cases e
def eCall (F : Fx) (a : Ax) : Ex := fun ρ m => (a ρ m).bind fun p => F p.1 p.2
theorem call_s {X : Cx} {tb : List Addr} {np : Nat} {F : Fx} {f : Ax} {σ : L2.St} {H : Hp} {Q : VK} (hn : ∀ ds m r, F ds m = some r → ds.length = np) (h : T X.K tb (eCall F f) σ H Q) : tCall (spF X.K tb np F) [] E0 (Ta X.K tb f) σ H Q := by
  obtain ⟨φ, ψ, ρ, m, w, m', R, E, e, k⟩ := h
  obtain ⟨⟨ws, m1⟩, e1, e⟩ := bnd e
  refine ⟨φ, ψ, ρ, m, ws, m1, R, E, e1, fun φ1 H1 vs P1 R1 V1 => ?_⟩
  show spF X.K tb np F (vs ++ []) H1 Q E0
  rw [List.append_nil]
  exact ⟨φ1, ψ, ws, m1, w, m', R1, V1, hn _ _ _ e, e, fun φ3 ψ3 H3 v P3 R3 V3 => k φ3 ψ3 H3 v (P1.trans P3) R3 V3⟩
theorem runF_len {np n : Nat} {b : Sx} {ws : List W} {m : Mem} {r : W × Mem} (h : runF np n b ws m = some r) : ws.length = np := by
  unfold runF at h
  split at h
  · assumption
  · cases h
structure FnG (P : Program) (w : World) (K : FRG) (mg : Str → Option Value) (base : Heap) (k : Nat) (f : Addr) (fd : FuncData) (ps : List Str) (sp : Sp) : Prop where
  len : ∀ vs H Q E, sp vs H Q E → vs.length = ps.length
  run : ∀ (A : Around) (outer : List PySem.Env) (s : Shared) (H : Hp) (args : Args) (us : List Value) (vs : List V) (Q : VK) (E : XK), A.guards = some [] → Room k A → Env0 P w K mg base A outer s H → BindsTo s fd args (ps.zip us) → Vals vs us → sp vs H Q E →
    codeAny (model P w) A (.call (.ref f) args) (CR CX0 outer P w H s Q E) s
structure FunC (K : FRG) (x qual : Str) (st : Stmt) (f : Addr) (fd : FuncData) (cdv : Value) : Prop where
  ex : ∃ (oc : Value) (od : Option Addr) (kV doc pm : Value) (an : Option Addr) (ct : Value) (osl : Array (Option Value)),
    fd = PySem.W.fnOf x qual (defArgs st) (defBody st) (defScope st) .none kV doc pm an cdv ct ∧ K.lookup f = some ⟨oc, od, .func fd, osl⟩ ∧ PySem.W.codeIn K cdv qual = true
  kp : PySem.W.keepIn K (.ref f) = true
theorem okG {P : Program} {w : World} {K : FRG} {mg : Str → Option Value} {base : Heap} {tb : List Addr} {x qual : Str} {st : Stmt} {f : Addr} {fd : FuncData} {cdv : Value} {N ps : List Str} {k : Nat} {b : Sx} (F : FunC K x qual st f fd cdv) (S : FnScope N ps (defScope st))
    (hb : ∀ (A : Around) (outer : List PySem.Env) (s : Shared) (H : Hp) (E : XK), A.guards = some [] → Room k (A.deeper (envOfC qual (defScope st) s.heap.objs.size f cdv)) → PSs (cxOf CX0 P w K mg base N qual (defScope st) f cdv A outer s H E).nox (defBody st) (Ts K tb b)) :
    FnG P w K mg base (k + 1) f fd ps (spF K tb ps.length (runF ps.length N.length b)) := by
  obtain ⟨oc, od, kV, doc, pm, an, ct, osl, rfl, known, isCode⟩ := F.ex
  have many : ∀ vs H Q E, spF K tb ps.length (runF ps.length N.length b) vs H Q E → vs.length = ps.length := fun vs H Q E q => by
    obtain ⟨φ, ψ, ws, m, d, m', R, r, hl, e, go⟩ := q
    rw [← r.length]; exact hl
  refine ⟨many, fun A outer s H args us vs Q E noG room entry bound rel want => ?_⟩
  have inK : K.In s.heap := entry.mod.kin.keeps fun c o e => (entry.bs c o e).1
  have free : s.heap.NoLimit := entry.mod.nolimit.keeps fun c o e => (entry.bs c o e).1
  have kinds : ∀ y ∈ ps.zip us, (defScope st).names.lookup y.1 = some .local ∨ ((defScope st).names.lookup y.1 = some .cell ∧ ((cellsFrom (s.heap.objs.size + 1) (defScope st).names []).lookup y.1).isSome = true) := by
    rintro ⟨nm, val⟩ mem
    rcases S.par nm (List.of_mem_zip mem).1 with z | z
    · exact Or.inl z
    · exact Or.inr ⟨z, PySem.W.cellsFrom_some _ _ _ (Or.inl z)⟩
  refine codeAny_call_function room.depth (inK _ _ known) rfl S.co S.gen rfl (PySem.W.codeRec_of inK isCode) (bound _ _ _ _ ?_)
  refine wpAny_newFunctionEnv_cells S.kind kinds fun here isHere t inCall => ?_
  subst isHere
  refine ⟨free.keeps inCall.toInCall.keep, codeAny_func ?_⟩
  have J : Inv (cxOf CX0 P w K mg base N qual (defScope st) f cdv A outer s H E) [] (L2.start N vs) H t := inv_start S room.hd entry (many _ _ _ _ want) rel inCall
  have body := (hb A outer s H E noG (room.deeper _)).nox
  refine wpAny_mono (body.run [] t (L2.start N vs) H _ J (body_go want)) (fun flow t' ends => ?_) fun _ _ z => z
  cases flow with
  | ret u =>
    obtain ⟨v, τ, H', J', rv, q⟩ := ends
    exact ⟨v, H', J'.os, J'.bare, J'.base, J'.hok, rv, q⟩
  | next =>
    obtain ⟨τ, H', J', q⟩ := ends
    exact ⟨.non, H', J'.os, J'.bare, J'.base, J'.hok, rfl, q⟩
  | brk => obtain ⟨_, _, _, z⟩ := ends; exact z.elim
  | cont => obtain ⟨_, _, _, z⟩ := ends; exact z.elim
theorem runG {X : Cx} {k : Nat} {f : Addr} {fd : FuncData} {ps : List Str} {sp : Sp} {pins : List (Addr × Obj)} {σ : L2.St} {H : Hp} {s : Shared} {Q : VK} {us : List Value} {vs : List V} (F : FnG X.prog X.w X.K X.mg X.base k f fd ps sp) (hg : X.A.guards = some []) (hr : Room k X.A) (hb : Binds X.K fd ps [])
    (I : Inv X pins σ H s) (r : Vals vs us) (h : sp vs H Q E0) : wpAny (model X.prog X.w) X.A (call (.ref f) us) (EP X pins σ Q) X.xe s := by
  have hl : us.length = ps.length := r.length.symm.trans (F.len _ _ _ _ h)
  have bound := hb s us I.kIn (by rw [List.append_nil]; exact hl)
  rw [List.append_nil] at bound
  refine wpAny_call (codeAny_mono (F.run X.A X.stack s H ⟨us, []⟩ us vs Q E0 hg hr I.env0 bound r h) fun res t ends => ?_)
  match res, ends with
  | .ok (.ret u), z => exact I.after z
theorem ex_callG {X : Cx} {tb : List Addr} {k : Nat} {f : Addr} {fd : FuncData} {ps : List Str} {x : Str} {p pos : Pos} {e : Expr} {es : List Expr} {fa : Ax} {F : Fx} (hn : ∀ ds m r, F ds m = some r → ds.length = ps.length) (G : FnG X.prog X.w X.K X.mg X.base k f fd ps (spF X.K tb ps.length F)) (hgd : X.A.guards = some []) (hr : Room k X.A) (hg : Gl X x) (hm : X.mg x = some (.ref f)) (hk : PySem.W.keepIn X.K (.ref f) = true) (hb : Binds X.K fd ps [])
    (ha : PA X (e :: es) (Ta X.K tb fa)) (hdb : (x == ("__debug__" : Str)) = false := by decide) (he : starEach (e :: es) X.env = (false, eval e X.env) :: starEach es X.env := by rfl) (hpl : (backTo pos (starEach es X.env)).any (·.1) = false := by rfl) :
    PE X (.Call (.Name x p) (e :: es) [] pos) (T X.K tb (eCall F fa)) := by
  constructor
  intro pins s σ H Q I want
  have h := call_s hn want
  refine wpAny_Call_Name_kw (ld_glob I hg hm ?_ hdb)
  refine PySem.W.callWith_K (h₀ := X.base) I.ok.mod.kin hk (thn (ha.run pos pins s σ H _ I h) fun us t ⟨vs, H1, I1, r, q⟩ => ⟨I1.kIn, ?_⟩) he hpl
  have q' : spF X.K tb ps.length F (vs ++ []) H1 Q E0 := q
  rw [List.append_nil] at q'
  exact runG G hgd hr hb I1 r q'
theorem FunC.binds {K : FRG} {x qual : Str} {st : Stmt} {f : Addr} {fd : FuncData} {cdv : Value} {ps : List Str} (F : FunC K x qual st f fd cdv)
    (h : ∀ (kV doc pm : Value) (an : Option Addr) (ct : Value) (us : List Value), us.length = ps.length → bindArgs (PySem.W.fnOf x qual (defArgs st) (defBody st) (defScope st) .none kV doc pm an cdv ct) ⟨us, []⟩ = pure (ps.zip us)) : Binds K fd ps [] := by
  obtain ⟨oc, od, kV, doc, pm, an, ct, osl, rfl, lk, hcd⟩ := F.ex
  exact .all (h kV doc pm an ct)
end Pw
end
section
set_option Elab.async false
set_option linter.all false
set_option maxRecDepth 100000
set_option maxHeartbeats 1000000
namespace Pv
open PySem PySem.Spec PyProof.Rows L2
def bst_max (b : Option Int) (x : Int) : Option Int := match b with
  | none => some x
  | some y => if x > y then some x else some y
def cell2 (b : Option (Int × Tok)) : Array Value := match b with
  | none => #[]
  | some (y, t) => #[.int y t, .int y t]
section
variable {prog : Program} {w : World} {A : Around} {E : Value → Shared → Prop} {R : Result → Shared → Prop} {I : Addr} {fp wr : List Addr} {n : Nat} {P : Nat → Value → Prop} {St : Nat → Heap → Prop}
theorem max_turns (W : Walks prog w A.in1 I fp wr n P St) (f : Nat → Int) (hP : ∀ i v, P i v → ∃ t, v = .int (f i) t) (B : Addr) (hB : B ∉ fp) (dv : Value) : ∀ (k i : Nat) (s : Shared) (b : Option (Int × Tok)) (c : Nat), n - i = k → i ≤ n → St i s.heap →
    s.heap.get? B = some { cls := .type "list", dict := none, data := .seq (cell2 b) c, slots := #[] } →
    (∀ v h' tk, (match ((List.range' i k).map f).foldl bst_max (b.map (·.1)) with | none => v = dv | some y => ∃ t, v = .int y t) → (∀ a o, a ∉ wr → a ≠ B → s.heap.get? a = some o → h'.get? a = some o) → R (.ok (.ret v)) { s with heap := h', toks := tk }) →
    codeAny (model prog w) A (.builtin "max.loop" ⟨[.ref I, .none, .ref B], [(Str.ofString "default", dv)]⟩) R s := by
  have hw : B ∉ wr := fun z => hB (W.sub _ z)
  have nm : (toString "max" ++ toString ".loop" : String) = "max.loop" := by decide
  intro k
  induction k with
  | zero =>
    intro i s b c hk hi st at0 fin
    obtain rfl : i = n := by omega
    refine codeAny_builtin F.entry_max_loop ?_
    rw [Around.under_plainId F.plain_max_loop _]
    show wpAny _ A.in1 (seqItems? (.ref B) >>= _) _ _ _
    refine wpAny_bind (wpAny_seqItems at0 rfl ?_)
    show wpAny _ A.in1 (tryCatch (pyNext (.ref I)) _ >>= _) _ _ _
    refine wpAny_bind (wpAny_tryCatch (W.done s _ _ st fun h' tk kp => ?_))
    cases b with
    | none =>
      refine wpAny_bind (wpAny_rule ?_)
      exact wpAny_pure (fin dv h' tk (by exact rfl) fun a o q1 _ q3 => kp a o q1 q3)
    | some p =>
      obtain ⟨y, t⟩ := p
      show wpAny _ A.in1 (updateSeq B (fun _ => #[]) >>= _) _ _ _
      have at1 : h'.get? B = some { cls := .type "list", dict := none, data := .seq #[.int y t, .int y t] c, slots := #[] } := kp B _ hw at0
      refine wpAny_bind (wpAny_updateSeq at1 rfl (wpAny_bind (wpAny_letGo (wpAny_pure ?_))))
      exact fin (.int y t) _ tk ⟨t, rfl⟩ fun a o q1 q2 q3 => (Heap.get?_update_other _ _ (Ne.symm q2)).trans (kp a o q1 q3)
  | succ k ih =>
    intro i s b c hk hi st at0 fin
    have lt : i < n := by omega
    refine codeAny_builtin F.entry_max_loop ?_
    rw [Around.under_plainId F.plain_max_loop _]
    show wpAny _ A.in1 (seqItems? (.ref B) >>= _) _ _ _
    refine wpAny_bind (wpAny_seqItems at0 rfl ?_)
    show wpAny _ A.in1 (tryCatch (pyNext (.ref I)) _ >>= _) _ _ _
    refine wpAny_bind (wpAny_tryCatch (W.item i s _ _ lt st fun v h' tk pv st' kp => ?_))
    have at1 := kp B _ hw at0
    obtain ⟨tv, rfl⟩ := hP i v pv
    cases b with
    | none =>
      have at1 : h'.get? B = some { cls := .type "list", dict := none, data := .seq #[] c, slots := #[] } := kp B _ hw at0
      refine wpAny_bind (m := pure (Value.int (f i) tv)) (wpAny_pure ?_)
      show wpAny _ A.in1 (updateSeq B (fun _ => #[.int (f i) tv, .int (f i) tv]) >>= _) _ _ _
      refine wpAny_bind (wpAny_updateSeq at1 rfl ?_)
      rw [nm]
      refine wpAny_pure ⟨plainId_quiet F.plain_max_loop _, ih (i + 1) _ (some (f i, tv)) _ (by omega) lt (W.frame _ _ _ st' fun a ha o e => ?_) (Heap.get?_update_self _ at1 rfl) fun v h2 tk2 q hk2 => ?_⟩
      · exact (Heap.get?_update_other _ _ (fun z : B = a => hB (by rw [z]; exact ha))).trans e
      · exact fin v h2 tk2 (by simpa [List.range'_succ, bst_max] using q) fun a o q1 q2 q3 => hk2 a o q1 q2 ((Heap.get?_update_other _ _ (Ne.symm q2)).trans (kp a o q1 q3))
    | some p =>
      obtain ⟨y, t⟩ := p
      have at1 : h'.get? B = some { cls := .type "list", dict := none, data := .seq #[.int y t, .int y t] c, slots := #[] } := kp B _ hw at0
      refine wpAny_bind (m := pure (Value.int (f i) tv)) (wpAny_pure ?_)
      show wpAny _ A.in1 (tryCatch (holding [Value.int (f i) tv, Value.int (f i) tv] (richCompare .Gt (Value.int (f i) tv) (Value.int y t) >>= _)) _ >>= _) _ _ _
      refine wpAny_bind (wpAny_tryCatch (wpAny_holding (wpAny_bind ?_)))
      refine CmpOf.ints_gt (P := fun j v => ∃ t, v = .int (if j = 0 then f i else y) t) (fun j => if j = 0 then f i else y) (fun _ _ h => h) 0 1 _ _ _ _ _ ⟨tv, rfl⟩ ⟨t, rfl⟩ ?_
      refine wpAny_bind (wpAny_holding (wpAny_truthy_bool ?_))
      refine wpAny_bind (wpAny_letGo (wpAny_pure ?_))
      by_cases hb : f i > y
      · refine wp_if_pos (by simpa using hb) ?_
        show wpAny _ A.in1 (updateSeq B (fun _ => #[.int (f i) tv, .int (f i) tv]) >>= _) _ _ _
        refine wpAny_bind (wpAny_updateSeq at1 rfl (wpAny_bind (wpAny_letGo ?_)))
        rw [nm]
        refine wpAny_pure ⟨plainId_quiet F.plain_max_loop _, ih (i + 1) _ (some (f i, tv)) _ (by omega) lt (W.frame _ _ _ st' fun a ha o e => ?_) (Heap.get?_update_self _ at1 rfl) fun v h2 tk2 q hk2 => ?_⟩
        · exact (Heap.get?_update_other _ _ (fun z : B = a => hB (by rw [z]; exact ha))).trans e
        · exact fin v h2 tk2 (by simpa [List.range'_succ, bst_max, hb] using q) fun a o q1 q2 q3 => hk2 a o q1 q2 ((Heap.get?_update_other _ _ (Ne.symm q2)).trans (kp a o q1 q3))
      · refine wp_if_neg (by simpa using hb) ?_
        refine wpAny_bind (wpAny_letGo ?_)
        rw [nm]
        refine wpAny_pure ⟨plainId_quiet F.plain_max_loop _, ih (i + 1) _ (some (y, t)) _ (by omega) lt st' at1 fun v h2 tk2 q hk2 => ?_⟩
        exact fin v h2 tk2 (by simpa [List.range'_succ, bst_max, hb] using q) fun a o q1 q2 q3 => hk2 a o q1 q2 (kp a o q1 q3)
theorem args_maxd (a d : Value) : argsOk "max" ⟨[a], [(Str.ofString "default", d)]⟩ := by unfold argsOk; kernel_rfl
theorem max_def {s : Shared} {l : Addr} {its : List Value} {ns : List Int} {dv : Value} {Q : Value → Shared → Prop} (hh : A.handled = none) (hl : s.heap.IsList l its.toArray) (hi : IntsAre its ns)
    (h : ∀ v h' tk, (match ns.foldl bst_max none with | none => v = dv | some y => ∃ t, v = .int y t) → (∀ b o, s.heap.get? b = some o → h'.get? b = some o) → Q v { s with heap := h', toks := tk }) :
    wpAny (model prog w) A (call (.builtin "max") [.ref l] [(Str.ofString "default", dv)]) Q E s := by
  have nm : (toString "max" ++ toString ".loop" : String) = "max.loop" := by decide
  obtain ⟨ol, hol, hcl⟩ := id hl
  have lt : l < s.heap.objs.size := Heap.lt_size hol
  refine PyProof.Rows.kmk_tree F.kind_max F.plain_max F.entry_max (args_maxd _ _) ?_
  refine wpAny_bind (m := Builtin.Builtins.bindParams "max" ["key", "default"] 0 ⟨[], [(Str.ofString "default", dv)]⟩) (wpAny_of_eq (t := Builtin.Builtins.bindParams "max" ["key", "default"] 0 ⟨[], [(Str.ofString "default", dv)]⟩) (a := [none, some dv]) rfl ?_)
  refine wpAny_bind (m := pure (Value.ref l)) (wpAny_pure ?_)
  refine wpAny_bind (wpAny_pyIter_list hl ?_)
  refine wpAny_bind (wpAny_newList ?_ (Nat.zero_le _))
  rw [nm]
  let it : Obj := { cls := .type "list_iterator", data := .fields #[.ref l, .int 0 0] }
  have sz : (s.heap.push it).objs.size = s.heap.objs.size + 1 := PyProof.Rows.size_push' ..
  have Wk := Walks.list (prog := prog) (w := w) (A := A.in1) hh s.heap.objs.size l (Nat.ne_of_lt lt) its.toArray
  have hlen : its.toArray.size = ns.length := by rw [List.size_toArray]; exact hi.length
  have hB : (s.heap.push it).objs.size ∉ [s.heap.objs.size, l] := by
    rw [sz]
    intro z
    rcases List.mem_cons.mp z with z | z
    · omega
    · exact Nat.ne_of_gt (Nat.lt_succ_of_lt lt) (List.mem_singleton.mp z)
  refine wpAny_pure ⟨plainId_quiet F.plain_max_loop _, max_turns Wk (fun i => ns.getD i 0) (fun i v hv => ?_) _ hB dv its.toArray.size 0 _ none 0 (Nat.sub_zero _) (Nat.zero_le _) ⟨⟨_, Heap.get?_push_of_some _ (Heap.get?_push_size _ rfl), rfl, rfl⟩, (hl.push _).push _⟩ (Heap.get?_push_size _ rfl) fun v h' tk q kp => ?_⟩
  · exact PyProof.Rows.IntsAre.int_at hi i v (by simpa using hv)
  · refine h v h' tk ?_ fun b o e => ?_
    · have e : (List.range' 0 its.toArray.size).map (fun i => ns.getD i 0) = ns := by
        rw [hlen]
        refine List.ext_getElem (by simp) fun i h1 h2 => ?_
        simp [List.getElem_range', h2]
      rw [e] at q
      exact q
    · have lb := Heap.lt_size e
      refine kp b o (fun z => ?_) (fun z => ?_) (Heap.get?_push_of_some _ (Heap.get?_push_of_some _ e))
      · exact Nat.ne_of_lt lb (List.mem_singleton.mp z)
      · have z' : b = (s.heap.push it).objs.size := z
        rw [sz] at z'; exact Nat.ne_of_lt (Nat.lt_succ_of_lt lb) z'
end
def bst_min (b : Option Int) (x : Int) : Option Int := match b with
  | none => some x
  | some y => if x < y then some x else some y
section
variable {prog : Program} {w : World} {A : Around} {E : Value → Shared → Prop} {R : Result → Shared → Prop} {I : Addr} {fp wr : List Addr} {n : Nat} {P : Nat → Value → Prop} {St : Nat → Heap → Prop}
theorem min_turns (W : Walks prog w A.in1 I fp wr n P St) (f : Nat → Int) (hP : ∀ i v, P i v → ∃ t, v = .int (f i) t) (B : Addr) (hB : B ∉ fp) (dv : Value) : ∀ (k i : Nat) (s : Shared) (b : Option (Int × Tok)) (c : Nat), n - i = k → i ≤ n → St i s.heap →
    s.heap.get? B = some { cls := .type "list", dict := none, data := .seq (cell2 b) c, slots := #[] } →
    (∀ v h' tk, (match ((List.range' i k).map f).foldl bst_min (b.map (·.1)) with | none => v = dv | some y => ∃ t, v = .int y t) → (∀ a o, a ∉ wr → a ≠ B → s.heap.get? a = some o → h'.get? a = some o) → R (.ok (.ret v)) { s with heap := h', toks := tk }) →
    codeAny (model prog w) A (.builtin "min.loop" ⟨[.ref I, .none, .ref B], [(Str.ofString "default", dv)]⟩) R s := by
  have hw : B ∉ wr := fun z => hB (W.sub _ z)
  have nm : (toString "min" ++ toString ".loop" : String) = "min.loop" := by decide
  intro k
  induction k with
  | zero =>
    intro i s b c hk hi st at0 fin
    obtain rfl : i = n := by omega
    refine codeAny_builtin F.entry_min_loop ?_
    rw [Around.under_plainId F.plain_min_loop _]
    show wpAny _ A.in1 (seqItems? (.ref B) >>= _) _ _ _
    refine wpAny_bind (wpAny_seqItems at0 rfl ?_)
    show wpAny _ A.in1 (tryCatch (pyNext (.ref I)) _ >>= _) _ _ _
    refine wpAny_bind (wpAny_tryCatch (W.done s _ _ st fun h' tk kp => ?_))
    cases b with
    | none =>
      refine wpAny_bind (wpAny_rule ?_)
      exact wpAny_pure (fin dv h' tk (by exact rfl) fun a o q1 _ q3 => kp a o q1 q3)
    | some p =>
      obtain ⟨y, t⟩ := p
      show wpAny _ A.in1 (updateSeq B (fun _ => #[]) >>= _) _ _ _
      have at1 : h'.get? B = some { cls := .type "list", dict := none, data := .seq #[.int y t, .int y t] c, slots := #[] } := kp B _ hw at0
      refine wpAny_bind (wpAny_updateSeq at1 rfl (wpAny_bind (wpAny_letGo (wpAny_pure ?_))))
      exact fin (.int y t) _ tk ⟨t, rfl⟩ fun a o q1 q2 q3 => (Heap.get?_update_other _ _ (Ne.symm q2)).trans (kp a o q1 q3)
  | succ k ih =>
    intro i s b c hk hi st at0 fin
    have lt : i < n := by omega
    refine codeAny_builtin F.entry_min_loop ?_
    rw [Around.under_plainId F.plain_min_loop _]
    show wpAny _ A.in1 (seqItems? (.ref B) >>= _) _ _ _
    refine wpAny_bind (wpAny_seqItems at0 rfl ?_)
    show wpAny _ A.in1 (tryCatch (pyNext (.ref I)) _ >>= _) _ _ _
    refine wpAny_bind (wpAny_tryCatch (W.item i s _ _ lt st fun v h' tk pv st' kp => ?_))
    have at1 := kp B _ hw at0
    obtain ⟨tv, rfl⟩ := hP i v pv
    cases b with
    | none =>
      have at1 : h'.get? B = some { cls := .type "list", dict := none, data := .seq #[] c, slots := #[] } := kp B _ hw at0
      refine wpAny_bind (m := pure (Value.int (f i) tv)) (wpAny_pure ?_)
      show wpAny _ A.in1 (updateSeq B (fun _ => #[.int (f i) tv, .int (f i) tv]) >>= _) _ _ _
      refine wpAny_bind (wpAny_updateSeq at1 rfl ?_)
      rw [nm]
      refine wpAny_pure ⟨plainId_quiet F.plain_min_loop _, ih (i + 1) _ (some (f i, tv)) _ (by omega) lt (W.frame _ _ _ st' fun a ha o e => ?_) (Heap.get?_update_self _ at1 rfl) fun v h2 tk2 q hk2 => ?_⟩
      · exact (Heap.get?_update_other _ _ (fun z : B = a => hB (by rw [z]; exact ha))).trans e
      · exact fin v h2 tk2 (by simpa [List.range'_succ, bst_min] using q) fun a o q1 q2 q3 => hk2 a o q1 q2 ((Heap.get?_update_other _ _ (Ne.symm q2)).trans (kp a o q1 q3))
    | some p =>
      obtain ⟨y, t⟩ := p
      have at1 : h'.get? B = some { cls := .type "list", dict := none, data := .seq #[.int y t, .int y t] c, slots := #[] } := kp B _ hw at0
      refine wpAny_bind (m := pure (Value.int (f i) tv)) (wpAny_pure ?_)
      show wpAny _ A.in1 (tryCatch (holding [Value.int (f i) tv, Value.int (f i) tv] (richCompare .Lt (Value.int (f i) tv) (Value.int y t) >>= _)) _ >>= _) _ _ _
      refine wpAny_bind (wpAny_tryCatch (wpAny_holding (wpAny_bind ?_)))
      refine CmpOf.ints_lt (P := fun j v => ∃ t, v = .int (if j = 0 then f i else y) t) (fun j => if j = 0 then f i else y) (fun _ _ h => h) 0 1 _ _ _ _ _ ⟨tv, rfl⟩ ⟨t, rfl⟩ ?_
      refine wpAny_bind (wpAny_holding (wpAny_truthy_bool ?_))
      refine wpAny_bind (wpAny_letGo (wpAny_pure ?_))
      by_cases hb : f i < y
      · refine wp_if_pos (by simpa using hb) ?_
        show wpAny _ A.in1 (updateSeq B (fun _ => #[.int (f i) tv, .int (f i) tv]) >>= _) _ _ _
        refine wpAny_bind (wpAny_updateSeq at1 rfl (wpAny_bind (wpAny_letGo ?_)))
        rw [nm]
        refine wpAny_pure ⟨plainId_quiet F.plain_min_loop _, ih (i + 1) _ (some (f i, tv)) _ (by omega) lt (W.frame _ _ _ st' fun a ha o e => ?_) (Heap.get?_update_self _ at1 rfl) fun v h2 tk2 q hk2 => ?_⟩
        · exact (Heap.get?_update_other _ _ (fun z : B = a => hB (by rw [z]; exact ha))).trans e
        · exact fin v h2 tk2 (by simpa [List.range'_succ, bst_min, hb] using q) fun a o q1 q2 q3 => hk2 a o q1 q2 ((Heap.get?_update_other _ _ (Ne.symm q2)).trans (kp a o q1 q3))
      · refine wp_if_neg (by simpa using hb) ?_
        refine wpAny_bind (wpAny_letGo ?_)
        rw [nm]
        refine wpAny_pure ⟨plainId_quiet F.plain_min_loop _, ih (i + 1) _ (some (y, t)) _ (by omega) lt st' at1 fun v h2 tk2 q hk2 => ?_⟩
        exact fin v h2 tk2 (by simpa [List.range'_succ, bst_min, hb] using q) fun a o q1 q2 q3 => hk2 a o q1 q2 (kp a o q1 q3)
theorem args_mind (a d : Value) : argsOk "min" ⟨[a], [(Str.ofString "default", d)]⟩ := by unfold argsOk; kernel_rfl
theorem min_def {s : Shared} {l : Addr} {its : List Value} {ns : List Int} {dv : Value} {Q : Value → Shared → Prop} (hh : A.handled = none) (hl : s.heap.IsList l its.toArray) (hi : IntsAre its ns)
    (h : ∀ v h' tk, (match ns.foldl bst_min none with | none => v = dv | some y => ∃ t, v = .int y t) → (∀ b o, s.heap.get? b = some o → h'.get? b = some o) → Q v { s with heap := h', toks := tk }) :
    wpAny (model prog w) A (call (.builtin "min") [.ref l] [(Str.ofString "default", dv)]) Q E s := by
  have nm : (toString "min" ++ toString ".loop" : String) = "min.loop" := by decide
  obtain ⟨ol, hol, hcl⟩ := id hl
  have lt : l < s.heap.objs.size := Heap.lt_size hol
  refine PyProof.Rows.kmk_tree F.kind_min F.plain_min F.entry_min (args_mind _ _) ?_
  refine wpAny_bind (m := Builtin.Builtins.bindParams "min" ["key", "default"] 0 ⟨[], [(Str.ofString "default", dv)]⟩) (wpAny_of_eq (t := Builtin.Builtins.bindParams "min" ["key", "default"] 0 ⟨[], [(Str.ofString "default", dv)]⟩) (a := [none, some dv]) rfl ?_)
  refine wpAny_bind (m := pure (Value.ref l)) (wpAny_pure ?_)
  refine wpAny_bind (wpAny_pyIter_list hl ?_)
  refine wpAny_bind (wpAny_newList ?_ (Nat.zero_le _))
  rw [nm]
  let it : Obj := { cls := .type "list_iterator", data := .fields #[.ref l, .int 0 0] }
  have sz : (s.heap.push it).objs.size = s.heap.objs.size + 1 := PyProof.Rows.size_push' ..
  have Wk := Walks.list (prog := prog) (w := w) (A := A.in1) hh s.heap.objs.size l (Nat.ne_of_lt lt) its.toArray
  have hlen : its.toArray.size = ns.length := by rw [List.size_toArray]; exact hi.length
  have hB : (s.heap.push it).objs.size ∉ [s.heap.objs.size, l] := by
    rw [sz]
    intro z
    rcases List.mem_cons.mp z with z | z
    · omega
    · exact Nat.ne_of_gt (Nat.lt_succ_of_lt lt) (List.mem_singleton.mp z)
  refine wpAny_pure ⟨plainId_quiet F.plain_min_loop _, min_turns Wk (fun i => ns.getD i 0) (fun i v hv => ?_) _ hB dv its.toArray.size 0 _ none 0 (Nat.sub_zero _) (Nat.zero_le _) ⟨⟨_, Heap.get?_push_of_some _ (Heap.get?_push_size _ rfl), rfl, rfl⟩, (hl.push _).push _⟩ (Heap.get?_push_size _ rfl) fun v h' tk q kp => ?_⟩
  · exact PyProof.Rows.IntsAre.int_at hi i v (by simpa using hv)
  · refine h v h' tk ?_ fun b o e => ?_
    · have e : (List.range' 0 its.toArray.size).map (fun i => ns.getD i 0) = ns := by
        rw [hlen]
        refine List.ext_getElem (by simp) fun i h1 h2 => ?_
        simp [List.getElem_range', h2]
      rw [e] at q
      exact q
    · have lb := Heap.lt_size e
      refine kp b o (fun z => ?_) (fun z => ?_) (Heap.get?_push_of_some _ (Heap.get?_push_of_some _ e))
      · exact Nat.ne_of_lt lb (List.mem_singleton.mp z)
      · have z' : b = (s.heap.push it).objs.size := z
        rw [sz] at z'; exact Nat.ne_of_lt (Nat.lt_succ_of_lt lb) z'
end
end Pv
end
section
set_option Elab.async false
set_option linter.all false
set_option maxRecDepth 100000
set_option maxHeartbeats 3200000
namespace Pv
open PySem PySem.Spec PyProof.Rows L2
abbrev Kps (h h' : Heap) : Prop := ∀ b o, h.get? b = some o → h'.get? b = some o
end Pv
end
section
set_option Elab.async false
set_option linter.all false
set_option maxRecDepth 100000
set_option maxHeartbeats 1000000
namespace Pv
open PySem PySem.Spec PyProof.Rows L2
section
variable {α : Type} [DecidableEq α] {lt : α → α → Bool}
structure Lin (lt : α → α → Bool) : Prop where
  irr : ∀ x, lt x x = false
  tr : ∀ x y z, lt x y = true → lt y z = true → lt x z = true
  tot : ∀ x y, lt x y = false → lt y x = false → x = y
end
def iLt (a b : Int) : Bool := decide (a < b)
theorem lin_i : Lin iLt := by
  refine ⟨fun x => ?_, fun x y z h1 h2 => ?_, fun x y h1 h2 => ?_⟩
  · simp [iLt]
  · simp only [iLt, decide_eq_true_eq] at h1 h2 ⊢; omega
  · simp only [iLt, decide_eq_false_iff_not] at h1 h2; omega
end Pv
end
section
set_option Elab.async false
set_option linter.all false
set_option maxRecDepth 100000
set_option maxHeartbeats 1000000
namespace Pv
open PySem PySem.Spec PyProof.Rows L2
abbrev KT' := List L2.Key
abbrev Ent := Addr × KT'
abbrev IsM (P : Program) (w : World) (h : Heap) (k : KT') (b : Addr) : Prop := IsTupleKey (mixKind P w) h k b
section
variable {P : Program} {w : World} {A : Around} {E : Value → Shared → Prop} {s : Shared}
variable {a : Addr} {L : List Ent} {es : Array (Int × Value)} {ep : Nat} {t : SetTable}
abbrev stp (t : SetTable) (h : Int) (c : Nat) : SetTable.Probe := nth t.mask (runAt t.mask (SetTable.bits h % (t.mask + 1)) (SetTable.bits h)) c
end
end Pv
end
section
set_option Elab.async false
set_option linter.all false
set_option maxRecDepth 100000
set_option maxHeartbeats 1000000
namespace Pv
open PySem PySem.Spec PyProof.Rows L2
section
variable {P : Program} {w : World} {A : Around} {E : Value → Shared → Prop} {s : Shared} {a : Addr} {L : List Ent} {es : Array (Int × Value)} {ep : Nat} {t : SetTable}
theorem mix_keep {h h' : Heap} {k : KT'} {b : Addr} (x : IsM P w h k b) (hk : Kps h h') : IsM P w h' k b := by
  obtain ⟨o, its, n, e, r⟩ := x
  exact ⟨o, its, n, hk b o e, r⟩
end
end Pv
end
section
set_option Elab.async false
set_option linter.all false
set_option maxRecDepth 100000
set_option maxHeartbeats 1000000
namespace Pv
open PySem PySem.Spec PyProof.Rows L2
def ck : L2.Key → Int ⊕ List Nat
  | .inl i => .inl i
  | .inr x => .inr x.cps.toList
theorem ck_inj : ∀ {a b : L2.Key}, ck a = ck b → a = b
  | .inl _, .inl _, h => by simpa [ck] using h
  | .inl _, .inr _, h => by simp [ck] at h
  | .inr _, .inl _, h => by simp [ck] at h
  | .inr _, .inr _, h => by
    have : _ = _ := Sum.inr.inj h
    rw [PySem.W.str_of_cps this]
theorem cks_inj : ∀ {a b : KT'}, a.map ck = b.map ck → a = b
  | [], [], _ => rfl
  | [], _ :: _, h => by simp at h
  | _ :: _, [], h => by simp at h
  | x :: a, y :: b, h => by
    simp only [List.map_cons, List.cons.injEq] at h
    rw [ck_inj h.1, cks_inj h.2]
def kLt (a b : KT') : Bool := PyProof.Rows.lexLt itemOrd (a.map ck) (b.map ck)
theorem lin_k : Lin kLt := ⟨fun _ => lex_irrefl _, fun _ _ _ => lex_trans _ _ _, fun _ _ h1 h2 => cks_inj (lex_total _ _ h1 h2)⟩
abbrev refE (e : Ent) : Value := Value.ref e.1
abbrev shp (sh : List Bool) : Nat → Bool := fun i => sh.getD i false
theorem perm_lift {α β : Type} (f : α → β) : ∀ {l : List β} {L : List α}, l.Perm (L.map f) → ∃ L' : List α, l = L'.map f ∧ L'.Perm L
  | [], L, h => ⟨[], rfl, by
      have := h.length_eq
      simp at this
      rw [List.eq_nil_of_length_eq_zero this.symm]⟩
  | x :: l, L, h => by
    obtain ⟨e, he, rfl⟩ := List.mem_map.mp (h.mem_iff.mp List.mem_cons_self)
    obtain ⟨A, B, rfl⟩ := List.append_of_mem he
    have h2 : l.Perm ((A ++ B).map f) := by
      refine List.Perm.cons_inv (h.trans ?_)
      rw [List.map_append, List.map_cons, List.map_append]
      exact List.perm_middle
    obtain ⟨L', rfl, p⟩ := perm_lift f h2
    exact ⟨e :: L', rfl, (p.cons e).trans List.perm_middle.symm⟩
section
variable {P : Program} {w : World} {A : Around} {E : Value → Shared → Prop} {s : Shared} {a : Addr} {L : List Ent} {sh : List Bool}
theorem tupItems_mix : ∀ {k : KT'} {vs : List Value} (f : Nat → Bool) (i : Nat), ItemsAre (mixKind P w) k vs → (∀ j b, (k.map Sum.isRight)[j]? = some b → f (i + j) = b) → tupItems f i vs = some (k.map ck)
  | _, _, _, _, .nil, _ => rfl
  | _, _, f, i, .cons (k := k0) (ks := ks) (vs := vs) h1 h2, hf => by
    have f0 := hf 0 _ rfl
    have ih := tupItems_mix f (i + 1) h2 fun j b hb => by
      have := hf (j + 1) b (by simpa using hb)
      rw [← this]; congr 1; omega
    rcases keyIs_shape (k := k0) h1 with ⟨n, t, rfl, rfl⟩ | ⟨x, t, rfl, rfl⟩
    · unfold tupItems
      have f1 : f i = false := f0
      rw [f1, ih]; rfl
    · unfold tupItems
      have f1 : f i = true := f0
      rw [f1, ih]; rfl
theorem key_mix {h : Heap} {k : KT'} {b : Addr} (x : IsM P w h k b) (e : k.map Sum.isRight = sh) : G.tupKeyC h (shp sh) (.ref b) = some (k.map ck) := by
  obtain ⟨o, its, n, ho, hc, hd, hi⟩ := x
  refine G.tupKeyC_of ho hc hd (tupItems_mix _ 0 hi fun j b hb => ?_)
  rw [e] at hb
  simp [shp, List.getD_eq_getElem?_getD, hb]
theorem tups_mix {h : Heap} (hne : sh ≠ []) : ∀ {L : List Ent}, (∀ e ∈ L, IsM P w h e.2 e.1) → (∀ e ∈ L, e.2.map Sum.isRight = sh) → ∃ fs, TupsOf h (shp sh) (L.map refE) fs
  | [], _, _ => ⟨[], .nil⟩
  | e :: L, ht, hs => by
    obtain ⟨fs, r⟩ := tups_mix hne (L := L) (fun x hx => ht x (List.mem_cons_of_mem _ hx)) fun x hx => hs x (List.mem_cons_of_mem _ hx)
    obtain ⟨o, its, n, ho, hc, hd, hi⟩ := ht e List.mem_cons_self
    have hse := hs e List.mem_cons_self
    cases hk : e.2 with
    | nil => rw [hk] at hse; exact absurd hse.symm hne
    | cons k0 ks =>
      rw [hk] at hi hse
      cases hv : its.toList with
      | nil => rw [hv] at hi; cases hi
      | cons v vs =>
        rw [hv] at hi
        cases hi with
        | cons h1 h2 =>
          have at0 : its[0]? = some v := by rw [← Array.getElem?_toList, hv]; rfl
          have s0 : shp sh 0 = k0.isRight := by rw [← hse]; rfl
          refine ⟨v :: fs, .cons ⟨e.1, o, its, n, rfl, ho, hc, hd, at0, fun z => ?_, fun z => ?_⟩ r⟩
          · rcases keyIs_shape (k := k0) h1 with ⟨i, t, rfl, rfl⟩ | ⟨x, t, rfl, rfl⟩
            · exact ⟨i, t, rfl⟩
            · rw [s0] at z; cases z
          · rcases keyIs_shape (k := k0) h1 with ⟨i, t, rfl, rfl⟩ | ⟨x, t, rfl, rfl⟩
            · rw [s0] at z; cases z
            · exact ⟨x, t, rfl⟩
theorem zip_two : ∀ L : List Ent, (L.map refE).zip (L.map refE) = L.map fun e => (refE e, refE e)
  | [] => rfl
  | e :: L => by rw [List.map_cons, List.zip_cons_cons, zip_two L]; rfl
theorem sort_mix {n : Nat} {R : PySem.Fin → Shared → Prop} (ho : s.heap.get? a = some (seqObj "list" (L.map refE).toArray n)) (ht : ∀ e ∈ L, IsM P w s.heap e.2 e.1) (hs : ∀ e ∈ L, e.2.map Sum.isRight = sh) (hne : sh ≠ [])
    (hz : L.length ≤ sizeLine) (fin : ∀ L' : List Ent, L'.Perm L → L'.Pairwise (fun e f => kLt f.2 e.2 = false) → R (.done (.ret .none)) { s with heap := sortedHeap s.heap a (L.map refE) (L'.map refE).toArray }) :
    wpAny (model P w) A (Builtin.«list.sort» ⟨[.ref a], []⟩) R E s := by
  obtain ⟨fs, tf⟩ := tups_mix hne ht hs
  refine G.list_sort_tups ho tf (fun v hv => ?_) (by rw [List.length_map]; exact hz) fun st h1 h2 h3 => ?_
  · obtain ⟨e, he, rfl⟩ := List.mem_map.mp hv
    exact ⟨_, key_mix (ht e he) (hs e he)⟩
  · have hl : (arrOf st).toList.Perm ((L.map refE).zip (L.map refE)) := by rw [← pairsOf_toList]; exact Array.perm_iff_toList_perm.mp h1
    have hz2 : (L.map refE).zip (L.map refE) = L.map fun e => (refE e, refE e) := zip_two L
    rw [hz2] at hl
    obtain ⟨L', e1, p1⟩ := perm_lift _ hl
    have e2 : ((arrOf st).map (·.2)) = (L'.map refE).toArray := by
      refine Array.ext' ?_
      rw [Array.toList_map, e1, List.map_map]; rfl
    rw [e2]
    refine fin L' p1 (List.pairwise_iff_getElem.mpr fun i j hi hj hij => ?_)
    have hsz : (pairsOf (L.map refE)).size = L'.length := by rw [pairsOf_size, List.length_map, p1.length_eq]
    have q := h2 i j (Nat.le_of_lt hij) (by rw [hsz]; exact hj)
    have kk : ∀ (m : Nat) (hm : m < L'.length), KK (G.tupKindC s.heap (shp sh)) (arrOf st) m = (L'[m]).2.map ck := fun m hm => by
      have at1 : (arrOf st)[m]? = some (refE L'[m], refE L'[m]) := by
        rw [← Array.getElem?_toList, e1, List.getElem?_map, List.getElem?_eq_getElem hm]; rfl
      have me : L'[m] ∈ L := p1.mem_iff.mp (List.getElem_mem hm)
      unfold KK
      rw [at1]
      show (G.tupKeyC s.heap (shp sh) (.ref (L'[m]).1)).getD [] = _
      rw [key_mix (ht _ me) (hs _ me)]; rfl
    rw [kk i hi, kk j hj] at q
    exact q
end
end Pv
end
section
set_option Elab.async false
set_option linter.all false
set_option maxRecDepth 100000
set_option maxHeartbeats 1000000
namespace Pv
open PySem PySem.Spec PyProof.Rows L2
section
variable {P : Program} {w : World} {A : Around} {E : Value → Shared → Prop} {s : Shared}
theorem items_mix : ∀ {k : KT'} {us : List Value}, Vals (k.map kV) us → ItemsAre (mixKind P w) k us
  | [], _, .nil => .nil
  | .inl i :: k, _, .cons r t => by
    obtain ⟨tk, rfl⟩ := r
    exact .cons (k := Sum.inl i) (by show keyIs (Sum.inl i) (Value.int i tk) = true; simp [keyIs, Value.isInt]) (items_mix t)
  | .inr x :: k, _, .cons r t => by
    obtain ⟨tk, rfl⟩ := r
    exact .cons (k := Sum.inr x) (by show keyIs (Sum.inr x) (Value.str x tk) = true; simp [keyIs, Value.isStrOf]) (items_mix t)
theorem refs_mix : ∀ {ks : List Ent} {us : List Value}, Vals (ks.map fun e => V.ref e.1) us → us = ks.map refE
  | [], _, .nil => rfl
  | e :: ks, _, .cons r t => by
    cases r
    rw [refs_mix t]; rfl
theorem vals_mix : ∀ (ks : List Ent), Vals (ks.map fun e => V.ref e.1) (ks.map refE)
  | [] => .nil
  | e :: ks => .cons rfl (vals_mix ks)
end
section
variable {X : Cx}
theorem inv_mix {pins : List (Addr × Obj)} {σ : L2.St} {H : Hp} {s : Shared} {b : Addr} {k : KT'} (I : Inv X pins σ H s) (h : SqT X.K H b (k.map kV)) : IsM X.prog X.w s.heap k b := by
  obtain ⟨its, r, ⟨o, ho, hc, n, hd⟩, _⟩ := I.tuple h
  exact ⟨o, its.toArray, n, ho, hc, hd, by simpa using items_mix r⟩
def Sq (K : PySem.W.Frag) (H : Hp) (l : Addr) (vs : List V) : Prop := SqL K H l vs ∨ SqT K H l vs
end
end Pv
end
section
set_option Elab.async false
set_option linter.all false
set_option maxRecDepth 100000
set_option maxHeartbeats 2000000
namespace Pv
open PySem PySem.Spec PyProof.Rows L2
section
variable {α : Type} {lt : α → α → Bool}
def insM (lt : α → α → Bool) (x : α) : List α → List α
  | [] => [x]
  | y :: ys => if lt y x = true then y :: insM lt x ys else x :: y :: ys
def sortM (lt : α → α → Bool) (xs : List α) : List α := xs.foldr (insM lt) []
theorem insM_perm {x : α} : ∀ {l : List α}, (insM lt x l).Perm (x :: l)
  | [] => List.Perm.refl _
  | y :: l => by
    unfold insM
    split
    · exact ((insM_perm (l := l)).cons y).trans (List.Perm.swap x y l)
    · exact List.Perm.refl _
theorem sortM_perm : ∀ (xs : List α), (sortM lt xs).Perm xs
  | [] => List.Perm.refl _
  | x :: xs => insM_perm.trans ((sortM_perm xs).cons x)
end
section
variable {α : Type} [DecidableEq α] {lt : α → α → Bool}
theorem Lin.le_tr (L : Lin lt) {x y z : α} (h1 : lt y x = false) (h2 : lt z y = false) : lt z x = false := by
  cases q : lt z x with
  | false => rfl
  | true =>
    cases q1 : lt x y with
    | true => exact absurd (L.tr _ _ _ q q1) (by rw [h2]; decide)
    | false => rw [L.tot _ _ h1 q1] at h2; rw [q] at h2; cases h2
theorem insM_sorted (L : Lin lt) {x : α} : ∀ {l : List α}, l.Pairwise (fun a b => lt b a = false) → (insM lt x l).Pairwise (fun a b => lt b a = false)
  | [], _ => by simp [insM]
  | y :: l, h => by
    obtain ⟨h1, h2⟩ := List.pairwise_cons.mp h
    unfold insM
    split
    · rename_i hl
      refine List.pairwise_cons.mpr ⟨fun z hz => ?_, insM_sorted L h2⟩
      rcases List.mem_cons.mp (insM_perm.mem_iff.mp hz) with rfl | hz
      · cases q : lt z y with
        | false => rfl
        | true => exact absurd (L.tr _ _ _ hl q) (by rw [L.irr]; decide)
      · exact h1 z hz
    · rename_i hl
      have hl' : lt y x = false := by simpa using hl
      refine List.pairwise_cons.mpr ⟨fun z hz => ?_, h⟩
      rcases List.mem_cons.mp hz with rfl | hz
      · exact hl'
      · exact L.le_tr hl' (h1 z hz)
theorem sortM_sorted (L : Lin lt) : ∀ (xs : List α), (sortM lt xs).Pairwise (fun a b => lt b a = false)
  | [] => List.Pairwise.nil
  | x :: xs => insM_sorted L (sortM_sorted L xs)
theorem sortedM_uniq (L : Lin lt) : ∀ {a b : List α}, a.Pairwise (fun x y => lt y x = false) → b.Pairwise (fun x y => lt y x = false) → a.Perm b → a = b
  | [], b, _, _, h => by
    have := h.length_eq
    exact (List.eq_nil_of_length_eq_zero (by simpa using this.symm)).symm
  | x :: a, [], _, _, h => absurd h.length_eq (by simp)
  | x :: a, y :: b, ha, hb, h => by
    obtain ⟨a1, a2⟩ := List.pairwise_cons.mp ha
    obtain ⟨b1, b2⟩ := List.pairwise_cons.mp hb
    have e : x = y := by
      rcases List.mem_cons.mp (h.mem_iff.mp List.mem_cons_self) with e | hx
      · exact e
      · rcases List.mem_cons.mp (h.mem_iff.mpr List.mem_cons_self) with e | hy
        · exact e.symm
        · exact L.tot _ _ (b1 x hx) (a1 y hy)
    subst e
    rw [sortedM_uniq L a2 b2 (List.Perm.cons_inv h)]
end
section
variable {X : Cx}
def rSortLM (K : PySem.W.Frag) : List V → Hp → VK → Prop := fun vs H Q => ∃ (a : Addr) (L : List Ent) (sh : List Bool), vs = [V.ref a] ∧ SqL K H a (L.map fun e => V.ref e.1) ∧ (∀ e ∈ L, SqT K H e.1 (e.2.map kV)) ∧ sh ≠ [] ∧ (∀ e ∈ L, e.2.map Sum.isRight = sh) ∧
  ∀ (L' : List Ent) (p : Addr), L'.Perm L → L'.Pairwise (fun e f => kLt f.2 e.2 = false) → H p = none → Q (.ref p) (upd H p (.lst (L'.map fun e => V.ref e.1)))
theorem cr_sortLM : CallR X (.builtin "sorted") (rSortLM X.K) := by
  intro pins s σ H vs us Q I r h
  obtain ⟨a, L, sh, rfl, hl, hk, hne, hs, q⟩ := h
  rw [Vals.ref1 r]
  obtain ⟨its, rv, pl, hz⟩ := I.list hl
  obtain rfl := refs_mix rv
  rw [List.length_map] at hz
  refine Calls.call_function_entry kind_sorted plain_sorted entry_sorted (args_sorted1 _) ?_
  unfold Builtin.«sorted»
  refine wpAny_bind (m := checkCount "sorted" 1 1 _) (wpAny_pure ?_)
  refine wpAny_bind (collect_list pl.isList ?_ (by rw [List.length_map]; exact hz))
  refine wpAny_bind (wpAny_newList ?_ (by rw [List.length_map]; exact hz))
  let h1 : Heap := (s.heap.push (seqObj "list" #[] 0)).update s.heap.objs.size (Obj.mapSeq (· ++ (L.map refE).toArray))
  have hsz : h1.objs.size = s.heap.objs.size + 1 := by
    show ((s.heap.push (seqObj "list" #[] 0)).update s.heap.objs.size _).objs.size = _
    rw [Heap.size_update, size_push']
  have at1 : (h1.push (seqObj "list" (L.map refE).toArray 0)).get? (s.heap.objs.size + 1) = some (seqObj "list" (L.map refE).toArray 0) := by rw [← hsz]; exact Heap.get?_push_size _ rfl
  have kp0 : Kps s.heap (h1.push (seqObj "list" (L.map refE).toArray 0)) := fun b u e => by
    have lt : b < s.heap.objs.size := Heap.lt_size e
    refine Heap.get?_push_of_some _ ?_
    show ((s.heap.push (seqObj "list" #[] 0)).update s.heap.objs.size _).get? b = some u
    rw [Heap.get?_update_ne _ _ _ _ (Nat.ne_of_lt lt)]
    exact Heap.get?_push_of_some _ e
  show wpAny _ _ _ _ _ { s with heap := h1.push (seqObj "list" (L.map refE).toArray 0) }
  rw [hsz]
  refine wpAny_bind (wpAny_holding (wpAny_call_entry slot_list_sort ⟨_, at1, rfl⟩ entry_list_sort
    (sort_mix (P := X.prog) (w := X.w) (s := { s with heap := h1.push (seqObj "list" (L.map refE).toArray 0) }) at1 (fun e he => mix_keep (inv_mix I (hk e he)) kp0) hs hne hz fun L' p2 pw => ⟨.none, rfl, ?_⟩) (args_list_sort _)))
  obtain ⟨c, hc'⟩ := sortedHeap_at (vs := L.map refE) (out := (L'.map refE).toArray) at1
  have kp : Kps s.heap (sortedHeap (h1.push (seqObj "list" (L.map refE).toArray 0)) (s.heap.objs.size + 1) (L.map refE) (L'.map refE).toArray) := fun b u e => by
    have lt : b < s.heap.objs.size := Heap.lt_size e
    rw [sortedHeap_old (Nat.ne_of_lt (Nat.lt_succ_of_lt lt)) (by rw [size_push', hsz]; exact Nat.lt_succ_of_lt (Nat.lt_succ_of_lt lt))]
    exact kp0 b u e
  exact wpAny_pure ⟨_, rfl, .ref _, upd H (s.heap.objs.size + 1) (.lst (L'.map fun e => V.ref e.1)), I.laid (t' := s.toks) kp (Nat.le_succ _) ⟨by rw [List.length_map, p2.length_eq]; exact hz, L'.map refE, c, vals_mix L', hc'⟩, rfl, q L' _ p2 pw (I.hok.fresh (Nat.le_succ _))⟩
theorem cr_sortA : CallR X (.builtin "sorted") (fun vs H Q => rSortedI X.K vs H Q ∨ rSortLM X.K vs H Q) := fun pins s σ H vs us Q I r h => h.elim (fun h => cr_sortedI pins s σ H vs us Q I r h) fun h => cr_sortLM pins s σ H vs us Q I r h
end
theorem roomU {k : Nat} {A : Around} (r : Room k A) : A.units + 100 < cLine := by have := r.un; omega
def FolkRaw (h : Heap) (ah : Addr) (ps : List (Int × Int)) : Prop := ∃ its : Array Value, IsTup h ah its ∧ its.size = ps.length ∧
  ∀ (i : Nat) (p : Int × Int), ps[i]? = some p → ∃ ai itsi t u, its[i]? = some (.ref ai) ∧ IsTup h ai itsi ∧ 3 ≤ itsi.size ∧ itsi[1]? = some (.int p.1 t) ∧ itsi[2]? = some (.int p.2 u)
theorem FolkRaw.keeps {h h' : Heap} {ah : Addr} {ps : List (Int × Int)} (x : FolkRaw h ah ps) (k : ∀ b o, h.get? b = some o → h'.get? b = some o) : FolkRaw h' ah ps := by
  obtain ⟨its, a, b, c⟩ := x
  refine ⟨its, a.keeps k, b, fun i p e => ?_⟩
  obtain ⟨ai, itsi, t, u, e1, e2, e3⟩ := c i p e
  exact ⟨ai, itsi, t, u, e1, e2.keeps k, e3⟩
end Pv
end
section
set_option Elab.async false
set_option linter.all false
set_option maxRecDepth 100000
set_option maxHeartbeats 1000000
namespace Pw
open PySem PySem.Spec PyProof.Rows L2 Pv
section
variable {X : Cx} {K : FRG} {tb : List Addr}
def lenD : List D → Option W
  | [.tup ds] => some (.v (.int ds.length))
  | [.fl ds] => some (.v (.int ds.length))
  | [.lst ds] => some (.v (.int ds.length))
  | [.dk kvs] => some (.v (.int kvs.length))
  | _ => none
abbrev rLenA (K : FRG) : List V → Hp → VK → Prop := fun xs H Q => (∃ p ys, xs = [.ref p] ∧ (SqL K H p ys ∨ SqT K H p ys) ∧ Q (.int (ys.length : Nat)) H) ∨ ∃ a kvs, xs = [V.ref a] ∧ Rd H a (.dK kvs) ∧ Q (.int (kvs.length : Nat)) H
theorem call_lenRd : CallR X (.builtin "len") (fun xs H Q => ∃ a kvs, xs = [V.ref a] ∧ Rd H a (.dK kvs) ∧ Q (.int (kvs.length : Nat)) H) := by
  intro pins s σ H xs us Q I r h
  obtain ⟨a, kvs, rfl, ha, q⟩ := h
  rw [Vals.ref1 r]
  exact d_len I ha fun t s' I' => ⟨.int kvs.length, H, I', ⟨t, rfl⟩, q⟩
theorem cr_lenA : CallR X (.builtin "len") (rLenA X.K) := call_len_seq.or call_lenRd
theorem len_s : CallS K tb (rLenA K) lenD := fun φ ψ H m vs ds w Q R r e k => by
  unfold lenD at e
  split at e
  · cases e
    cases r with
    | cons h r => cases r; obtain ⟨a, vs, rfl, hq, q⟩ := h.tup; exact .inl ⟨_, _, rfl, .inr hq, Go.val k R (by rw [q.length]; exact .int _)⟩
  · cases e
    cases r with
    | cons h r => cases r; obtain ⟨a, vs, rfl, hq, q⟩ := h.fl; exact .inl ⟨_, _, rfl, .inl hq, Go.val k R (by rw [q.length]; exact .int _)⟩
  · cases e
    cases r with
    | cons h r => cases r; obtain ⟨a, vs, rfl, hq, q⟩ := h.lst; exact .inl ⟨_, _, rfl, .inl (SqL.of hq), Go.val k R (by rw [q.length]; exact .int _)⟩
  · cases e
    cases r with
    | cons h r =>
      cases r
      obtain ⟨a, vs, rfl, hq, q1, q2⟩ := h.dk
      refine .inr ⟨_, _, rfl, hq, Go.val k R ?_⟩
      have e9 := congrArg List.length q1
      rw [List.length_map, List.length_map] at e9
      rw [e9]; exact .int _
  · cases e
def maxI (i j : Int) : Int := if j > i then j else i
def minI (i j : Int) : Int := if j < i then j else i
def two (g : Int → Int → Int) : List D → Option W
  | [.int i, .int j] => some (.v (.int (g i j)))
  | _ => none
theorem two_s {g : Int → Int → Int} : CallS K tb (fun xs H Q => ∃ i j, xs = [.int i, .int j] ∧ Q (.int (g i j)) H) (two g) := fun φ ψ H m vs ds w Q R r e k => by
  unfold two at e
  split at e
  · cases e
    cases r with
    | cons h1 r => cases r with
      | cons h2 r => cases r; rw [h1.int, h2.int]; exact ⟨_, _, rfl, Go.val k R (.int _)⟩
  · cases e
theorem cr_min (hc : X.calm = true) : CallR X (.builtin "min") (fun xs H Q => ∃ i j, xs = [.int i, .int j] ∧ Q (.int (minI i j)) H) := call_min2 hc
def intD : List D → Option W
  | [.int i] => some (.v (.int i))
  | [.bl b] => some (.v (.int (if b then 1 else 0)))
  | _ => none
def tupleD : List D → Option W
  | [.tup ds] => some (.v (.tup ds))
  | [.fl ds] => some (.v (.tup ds))
  | [.lst ds] => some (.v (.tup ds))
  | _ => none
theorem tuple_s : CallS K tb (fun xs H Q => ∃ p ys, xs = [.ref p] ∧ ((SqL K H p ys ∧ ∀ l, H l = none → Q (.ref l) (upd H l (.tup ys))) ∨ (SqT K H p ys ∧ Q (.ref p) H))) tupleD := fun φ ψ H m vs ds w Q R r e k => by
  unfold tupleD at e
  split at e
  · cases e
    cases r with
    | cons h r => cases r; obtain ⟨a, vs, rfl, hq, q⟩ := h.tupN; exact ⟨_, _, rfl, .inr ⟨hq.1, Go.val k R (.tup hq q)⟩⟩
  · cases e
    cases r with
    | cons h r => cases r; obtain ⟨a, vs, rfl, hq, q⟩ := h.fl; exact ⟨_, _, rfl, .inl ⟨hq, fun p hp => Go.tup k R q hp⟩⟩
  · cases e
    cases r with
    | cons h r => cases r; obtain ⟨a, vs, rfl, hq, q⟩ := h.lst; exact ⟨_, _, rfl, .inl ⟨SqL.of hq, fun p hp => Go.tup k R q hp⟩⟩
  · cases e
def listD : List D → Option W
  | [.tup ds] => some (.f (.lst ds))
  | [.fl ds] => some (.f (.lst ds))
  | [.lst ds] => some (.f (.lst ds))
  | _ => none
theorem list_s : CallS K tb (fun xs H Q => ∃ p ys, xs = [.ref p] ∧ (SqL K H p ys ∨ SqT K H p ys) ∧ ∀ l, H l = none → Q (.ref l) (upd H l (.lst ys))) listD := fun φ ψ H m vs ds w Q R r e k => by
  unfold listD at e
  split at e
  · cases e
    cases r with
    | cons h r => cases r; obtain ⟨a, vs, rfl, hq, q⟩ := h.tup; exact ⟨_, _, rfl, .inr hq, fun p hp => Go.lst k R q hp⟩
  · cases e
    cases r with
    | cons h r => cases r; obtain ⟨a, vs, rfl, hq, q⟩ := h.fl; exact ⟨_, _, rfl, .inl hq, fun p hp => Go.lst k R q hp⟩
  · cases e
    cases r with
    | cons h r => cases r; obtain ⟨a, vs, rfl, hq, q⟩ := h.lst; exact ⟨_, _, rfl, .inl (SqL.of hq), fun p hp => Go.lst k R q hp⟩
  · cases e
def allI : List D → Option (List Int)
  | [] => some []
  | .int i :: ds => (allI ds).bind fun is => some (i :: is)
  | _ => none
def kD : L2.Key → D
  | .inl i => .int i
  | .inr x => .str x
abbrev tD (k : KT') : D := .tup (k.map kD)
def allK : List D → Option KT'
  | [] => some []
  | .int i :: ds => (allK ds).bind fun k => some (Sum.inl i :: k)
  | .str x :: ds => (allK ds).bind fun k => some (Sum.inr x :: k)
  | _ => none
def allT : List D → Option (List KT')
  | [] => some []
  | .tup d :: ds => (allK d).bind fun k => (allT ds).bind fun ks => some (k :: ks)
  | _ => none
def itmD : D → Option (List D)
  | .tup ds => some ds
  | .fl ds => some ds
  | .lst ds => some ds
  | _ => none
def itmL : D → Option (List D)
  | .fl ds => some ds
  | .lst ds => some ds
  | _ => none
def oneSh (ks : List KT') : Bool := ks.all fun k => k.map Sum.isRight == (ks.headD []).map Sum.isRight && !k.isEmpty
end
section
variable {K : FRG} {tb φ ψ : List Addr} {H : Hp} {m : Mem}
theorem allI_rep : ∀ {ds : List D} {vs : List V} {is : List Int}, Reps K φ ψ H ds vs → allI ds = some is → vs = is.map V.int
  | [], _, _, .nil, e => by cases e; rfl
  | .int i :: ds, _, _, .cons h r, e => by
    rw [allI] at e
    obtain ⟨js, e1, e⟩ := bnd e
    cases e
    cases h
    rw [allI_rep r e1]; rfl
  | .non :: _, _, _, _, e => by simp [allI] at e
  | .bl _ :: _, _, _, _, e => by simp [allI] at e
  | .str _ :: _, _, _, _, e => by simp [allI] at e
  | .tup _ :: _, _, _, _, e => by simp [allI] at e
  | .fl _ :: _, _, _, _, e => by simp [allI] at e
  | .lst _ :: _, _, _, _, e => by simp [allI] at e
  | .dk _ :: _, _, _, _, e => by simp [allI] at e
  | .dt _ :: _, _, _, _, e => by simp [allI] at e
  | .rl _ _ :: _, _, _, _, e => by simp [allI] at e
theorem allK_rep : ∀ {ds : List D} {vs : List V} {k : KT'}, Reps K φ ψ H ds vs → allK ds = some k → vs = k.map kV
  | [], _, _, .nil, e => by cases e; rfl
  | .int i :: ds, _, _, .cons h r, e => by
    rw [allK] at e
    obtain ⟨js, e1, e⟩ := bnd e
    cases e
    cases h
    rw [allK_rep r e1]; rfl
  | .str i :: ds, _, _, .cons h r, e => by
    rw [allK] at e
    obtain ⟨js, e1, e⟩ := bnd e
    cases e
    cases h
    rw [allK_rep r e1]; rfl
  | .non :: _, _, _, _, e => by simp [allK] at e
  | .bl _ :: _, _, _, _, e => by simp [allK] at e
  | .tup _ :: _, _, _, _, e => by simp [allK] at e
  | .fl _ :: _, _, _, _, e => by simp [allK] at e
  | .lst _ :: _, _, _, _, e => by simp [allK] at e
  | .dk _ :: _, _, _, _, e => by simp [allK] at e
  | .dt _ :: _, _, _, _, e => by simp [allK] at e
  | .rl _ _ :: _, _, _, _, e => by simp [allK] at e
theorem allT_rep : ∀ {ds : List D} {vs : List V} {ks : List KT'}, Reps K φ ψ H ds vs → allT ds = some ks → ∃ es : List Ent, vs = es.map (fun e => V.ref e.1) ∧ es.map (·.2) = ks ∧ ∀ e ∈ es, SqN K H e.1 (e.2.map kV)
  | [], _, _, .nil, e => by cases e; exact ⟨[], rfl, rfl, fun e he => by cases he⟩
  | .tup d :: ds, _, _, .cons h r, e => by
    rw [allT] at e
    obtain ⟨k, e1, e⟩ := bnd e
    obtain ⟨js, e2, e⟩ := bnd e
    cases e
    obtain ⟨es, rfl, rfl, hs⟩ := allT_rep r e2
    cases h with
    | tup hq q =>
      rename_i a vs
      refine ⟨(a, k) :: es, rfl, rfl, fun e he => ?_⟩
      rcases List.mem_cons.mp he with rfl | he
      · rw [← allK_rep q e1]; exact hq
      · exact hs e he
  | .non :: _, _, _, _, e => by simp [allT] at e
  | .bl _ :: _, _, _, _, e => by simp [allT] at e
  | .int _ :: _, _, _, _, e => by simp [allT] at e
  | .str _ :: _, _, _, _, e => by simp [allT] at e
  | .fl _ :: _, _, _, _, e => by simp [allT] at e
  | .lst _ :: _, _, _, _, e => by simp [allT] at e
  | .dk _ :: _, _, _, _, e => by simp [allT] at e
  | .dt _ :: _, _, _, _, e => by simp [allT] at e
  | .rl _ _ :: _, _, _, _, e => by simp [allT] at e
theorem reps_ints : ∀ is : List Int, Reps K φ ψ H (is.map D.int) (is.map V.int)
  | [] => .nil
  | i :: is => .cons (.int i) (reps_ints is)
theorem reps_keys : ∀ k : KT', Reps K φ ψ H (k.map kD) (k.map kV)
  | [] => .nil
  | .inl i :: k => .cons (.int i) (reps_keys k)
  | .inr x :: k => .cons (.str x) (reps_keys k)
theorem reps_ents : ∀ es : List Ent, (∀ e ∈ es, SqN K H e.1 (e.2.map kV)) → Reps K φ ψ H (es.map fun e => tD e.2) (es.map fun e => V.ref e.1)
  | [], _ => .nil
  | e :: es, h => .cons (.tup (h e List.mem_cons_self) (reps_keys e.2)) (reps_ents es fun x hx => h x (List.mem_cons_of_mem _ hx))
theorem itm_sq {x : D} {v : V} {ds : List D} (hx : RepC K φ ψ H x v) (e : itmD x = some ds) : ∃ l vs, v = .ref l ∧ Sq K H l vs ∧ Reps K φ ψ H ds vs := by
  unfold itmD at e
  split at e
  · cases e; obtain ⟨a, vs, rfl, hq, q⟩ := hx.tup; exact ⟨_, _, rfl, .inr hq, q⟩
  · cases e; obtain ⟨a, vs, rfl, hq, q⟩ := hx.fl; exact ⟨_, _, rfl, .inl hq, q⟩
  · cases e; obtain ⟨a, vs, rfl, hq, q⟩ := hx.lst; exact ⟨_, _, rfl, .inl (SqL.of hq), q⟩
  · cases e
theorem itmL_sq {x : D} {v : V} {ds : List D} (hx : RepC K φ ψ H x v) (e : itmL x = some ds) : ∃ l vs, v = .ref l ∧ SqL K H l vs ∧ Reps K φ ψ H ds vs := by
  unfold itmL at e
  split at e
  · cases e; obtain ⟨a, vs, rfl, hq, q⟩ := hx.fl; exact ⟨_, _, rfl, hq, q⟩
  · cases e; obtain ⟨a, vs, rfl, hq, q⟩ := hx.lst; exact ⟨_, _, rfl, SqL.of hq, q⟩
  · cases e
end
section
variable {X : Cx} {K : FRG} {tb : List Addr} {pos : Pos}
def isLst : W → Mem → Bool
  | .r n, m => match m[n]? with
    | some (.lst _) => true
    | _ => false
  | _, _ => false
theorem isLst_ty {φ ψ : List Addr} {H : Hp} {m : Mem} {w : W} {v : V} (R : Rel K tb φ ψ H m) (h : RepS K φ ψ H w v) (e : isLst w m = true) : tyV K "list" v H := by
  unfold isLst at e
  split at e
  · split at e
    · rename_i hm
      obtain ⟨a, h1, rfl⟩ := h
      obtain ⟨vs, q, r⟩ := R.obj _ _ a hm h1
      exact .inl ⟨rfl, _, SqL.of q⟩
    · cases e
  · cases e
def appD : W → List W → Mem → Option (W × Mem)
  | .r n, [w], m => match m[n]? with
    | some (.lst ds) => (vl w).bind fun d => if ds.length < 1000000 then some (.v .non, m.set n (.lst (ds ++ [d]))) else none
    | _ => none
  | _, _, _ => none
theorem app_s : MtS K tb rAppend appD := fun φ ψ H m x vs w ws w' m' Q R hx r e k => by
  unfold appD at e
  split at e
  · split at e
    · rename_i hm
      obtain ⟨d, ev, e⟩ := bnd e
      split at e
      · rename_i hl
        cases e
        cases r with
        | cons h r =>
          cases r
          obtain ⟨q, h1, rfl⟩ := hx
          obtain ⟨vs, hq, rl⟩ := R.obj _ _ q hm h1
          have hmem := List.mem_of_getElem? h1
          exact ⟨q, vs, _, rfl, rfl, hq, smallT (by rw [← rl.length]; exact hl), k φ ψ _ _ (Post.wr hmem (R.trk hmem)) (R.wrL h1 (rl.snoc (vl_rep h ev))) ⟨rfl, .non⟩⟩
      · cases e
    · cases e
  · cases e
theorem ex_append {o a : Expr} {fo : Ex} {f : Ax} {apos cpos : Pos} {es : List Expr} (ho : PE X o (T X.K tb fo)) (ha : PA X (a :: es) (Ta X.K tb f))
    (hbase : attributeBase o "append" X.env (eval o X.env) = eval o X.env := by rfl)
    (hfew : ((backTo cpos (starEach (a :: es) X.env)).all (fun x => !x.1) && (backToKw cpos (keywordEach [] X.env)).all (fun x => x.1.isSome)
      && decide ((a :: es).length + ([] : List Keyword).length + (if ([] : List Keyword).isEmpty then 0 else 1) < 30)) = true := by rfl)
    (hline : (apos.endLine == cpos.line) = true := by rfl) (hst : starEach (a :: es) X.env = (false, eval a X.env) :: starEach es X.env := by rfl) (hplain : (backTo cpos (starEach es X.env)).any (·.1) = false := by rfl) :
    PE X (.Call (.Attribute o "append" apos) (a :: es) [] cpos) (T X.K tb (eMt isLst appD fo f)) :=
  ex_mt (fun φ ψ H m d v R h e => isLst_ty R h e) app_s PySem.F.plainAttrs_list PySem.F.slot_list_append PySem.F.type_list_append mt_append ho ha hbase hfew hline hst hplain
def inB (neg : Bool) (dx : D) (ds : List D) : Option Bool := (sc dx).bind fun x => (ds.mapM sc).bind fun ys => some (inV x ys != neg)
def inD (neg : Bool) : D → D → Option W := fun x y => (itmD y).bind fun ds => (inB neg x ds).bind fun b => some (.v (.bl b))
theorem sc_flat {d : D} {v : V} (h : sc d = some v) : flatV v = true := by
  cases d <;> first | (cases h; rfl) | (cases h)
theorem scs_rep {φ ψ : List Addr} {H : Hp} : ∀ {ds : List D} {vs ws : List V}, Reps K φ ψ H ds vs → ds.mapM sc = some ws → vs = ws ∧ ws.all flatV = true
  | [], _, _, .nil, e => by cases e; exact ⟨rfl, rfl⟩
  | d :: ds, _, _, .cons h r, e => by
    simp only [List.mapM_cons, Option.bind_eq_bind, Option.pure_def] at e
    obtain ⟨v, e1, e⟩ := bnd e
    obtain ⟨ws, e2, e⟩ := bnd e
    cases e
    obtain ⟨rfl, hf⟩ := scs_rep r e2
    have hv := sc_rep (.inl h) e1
    subst hv
    exact ⟨rfl, by rw [List.all_cons, sc_flat e1, hf]; rfl⟩
theorem in_s {neg : Bool} : OpS K tb (rIn K neg) (inD neg) := fun φ ψ H m x y dx dy w Q R hx hy e k => by
  obtain ⟨ds, e1, e⟩ := bnd e
  obtain ⟨b, e2, e⟩ := bnd e
  cases e
  obtain ⟨l, vs, rfl, hq, r⟩ := itm_sq hy e1
  unfold inB at e2
  obtain ⟨x', h1, e2⟩ := bnd e2
  obtain ⟨ys, h2, e2⟩ := bnd e2
  cases e2
  obtain ⟨rfl, hf⟩ := scs_rep r h2
  have := sc_rep hx h1
  subst this
  refine ⟨l, vs, rfl, hq, sc_flat h1, hf, Go.val k R ?_⟩
  cases neg with
  | true => rw [Bool.bne_true]; exact .bl _
  | false => rw [Bool.bne_false]; exact .bl _
def bestD (f : Option Int → Int → Option Int) : D → D → Option W := fun x y => (itmL x).bind fun ds => (allI ds).bind fun is => match is.foldl f none with
  | none => some (.v y)
  | some i => some (.v (.int i))
def eBest (f : Option Int → Int → Option Int) (a b : Ex) : Ex := fun ρ m => (a ρ m).bind fun p => (b ρ p.2).bind fun q => (gt p.1 q.2).bind fun x => (vl q.1).bind fun y => (bestD f x y).bind fun w => some (w, q.2)
def sortedD : List D → Option W
  | [x] => (itmL x).bind fun ds => match allI ds with
    | some is => if is.length ≤ 1000000 then some (.f (.lst ((sortM iLt is).map .int))) else none
    | none => (allT ds).bind fun ks => if ks.length ≤ 1000000 ∧ oneSh ks = true then some (.f (.lst ((sortM kLt ks).map tD))) else none
  | _ => none
theorem shape {es L : List Ent} (ho : oneSh (es.map (·.2)) = true) (hL : ∀ e ∈ L, e ∈ es) : ∃ sh : List Bool, sh ≠ [] ∧ ∀ e ∈ L, e.2.map Sum.isRight = sh := by
  have sh : ∀ e ∈ L, e.2.map Sum.isRight = ((es.map (·.2)).headD []).map Sum.isRight ∧ e.2 ≠ [] := fun e he => by
    have z := List.all_eq_true.mp ho e.2 (List.mem_map.mpr ⟨e, hL e he, rfl⟩)
    simp only [Bool.and_eq_true, beq_iff_eq, Bool.not_eq_true', List.isEmpty_eq_false_iff] at z
    exact z
  cases L with
  | nil => exact ⟨[true], by simp, fun e he => by cases he⟩
  | cons e L =>
    obtain ⟨z1, z2⟩ := sh e List.mem_cons_self
    refine ⟨_, ?_, fun f hf => (sh f hf).1⟩
    rw [← z1]
    simpa using z2
theorem sorted_s : CallS K tb (fun vs H Q => rSortedI K vs H Q ∨ rSortLM K vs H Q) sortedD := fun φ ψ H m vs ds w Q R r e k => by
  unfold sortedD at e
  split at e
  · cases r with
    | cons hx r =>
      cases r
      obtain ⟨xs, e1, e⟩ := bnd e
      obtain ⟨l, us, rfl, hq, rs⟩ := itmL_sq hx e1
      cases hI : allI xs with
      | some is =>
        rw [hI] at e
        dsimp only at e
        split at e
        · cases e
          obtain rfl := allI_rep rs hI
          left
          refine ⟨l, is, rfl, hq, fun ns p h1 h2 hp => ?_⟩
          have en : ns = sortM iLt is := sortedM_uniq lin_i (h2.imp fun {x y} h => by simp only [iLt, decide_eq_false_iff_not]; omega) (sortM_sorted lin_i is) (h1.trans (sortM_perm is).symm)
          rw [en]
          exact Go.lst k R (reps_ints _) hp
        · cases e
      | none =>
        rw [hI] at e
        dsimp only at e
        obtain ⟨ks, e7, e⟩ := bnd e
        split at e
        · rename_i hb
          obtain ⟨hb, ho⟩ := hb
          cases e
          obtain ⟨es, rfl, rfl, hs⟩ := allT_rep rs e7
          right
          obtain ⟨sh', hne, hsh⟩ := shape ho (fun e he => he)
          refine ⟨l, es, sh', rfl, hq, fun e he => (hs e he).1, hne, hsh, fun L' p p1 pw hp => ?_⟩
          have en : L'.map (·.2) = sortM kLt (es.map (·.2)) := sortedM_uniq lin_k (List.pairwise_map.mpr pw) (sortM_sorted lin_k _) ((p1.map (·.2)).trans (sortM_perm _).symm)
          have ed : (sortM kLt (es.map (·.2))).map tD = L'.map fun e => tD e.2 := by rw [← en, List.map_map]; rfl
          rw [ed] at k
          exact Go.lst k R (reps_ents L' fun e he => hs e (p1.mem_iff.mp he)) hp
        · cases e
  · cases e
end
end Pw
end
section
set_option Elab.async false
set_option linter.all false
set_option maxRecDepth 100000
set_option maxHeartbeats 4000000
namespace Pw
open PySem PySem.Spec PyProof.Rows L2 Pv
def entryH (K : FRG) (tabs : List Addr) (a : Addr) (o : Obj) (vs : List V) : Hp := fun b =>
  if b ∈ tabs then some (.tbl #[]) else if b = a ∧ K.lookup a = none then some (.frz o (.lst vs)) else none
theorem entryH_cases {K : FRG} {tabs : List Addr} {a b : Addr} {o : Obj} {vs : List V} {u : HO} (h : entryH K tabs a o vs b = some u) :
    (b ∈ tabs ∧ u = .tbl #[]) ∨ (b ∉ tabs ∧ b = a ∧ K.lookup a = none ∧ u = .frz o (.lst vs)) := by
  unfold entryH at h
  by_cases hb : b ∈ tabs
  · rw [if_pos hb] at h; cases h; exact .inl ⟨hb, rfl⟩
  · rw [if_neg hb] at h
    by_cases hc : b = a ∧ K.lookup a = none
    · rw [if_pos hc] at h; cases h; exact .inr ⟨hb, hc.1, hc.2, rfl⟩
    · rw [if_neg hc] at h; cases h
theorem entryH_tab {K : FRG} {tabs : List Addr} {a b : Addr} {o : Obj} {vs : List V} (hb : b ∈ tabs) : entryH K tabs a o vs b = some (.tbl #[]) := if_pos hb
theorem law_callG {P : Program} {w : World} {K : FRG} {mg mb : Str → Option Value} {k : Nat} {fa a : Addr} {cs : List (Addr × Addr)} {fd : FuncData} {x : Str} {F : Fx} {t0 : Shared} {us : List Value} {ns : List Int}
    (inK : K.In t0.heap) (glob : t0.heap.Ns mainGlobals mg) (blt : t0.heap.Ns builtinsNs mb) (bltIs : ∀ x : Str, x ≠ "__name__" → mb x = bootBuiltins x) (lim : t0.heap.NoLimit) (gens : t0.gens = #[])
    (tabs : ∀ p ∈ cs, t0.heap.get? p.2 = some { cls := .none, data := .fields #[] }) (notK : ∀ p ∈ cs, K.lookup p.2 = none) (codes : ∀ p ∈ cs, PySem.W.CodeHd t0.heap p.1 p.2)
    (bmod : ∃ (bm : Addr) (ob : Obj), mg "__builtins__" = some (.ref bm) ∧ bm ≠ builtinsNs ∧ t0.heap.get? bm = some ob ∧ ob.cls = .type "module" ∧ ob.dict = some builtinsNs ∧ ob.data = .plain)
    (obj : t0.heap.get? a = some { cls := .type "list", data := .seq us.toArray }) (isI : IntsAre us ns) (few : ns.length ≤ sizeLine) (room : Room k callerA)
    (G : ∀ base : Heap, K.In base → base.Ns mainGlobals mg → (∀ p ∈ cs, GxR.TabB base mg p.1 p.2) → FnG P w K mg base k fa fd [x] (spF K (cs.map (·.2)) 1 F)) (binds : ∀ (s : Shared) (u : Value), BindsTo s fd ⟨[u], []⟩ [(x, u)])
    (holds : ∃ m', F [.v (.fl (ns.map .int))] [] = some (.v (.bl true), m')) :
    codeAny (model P w) callerA (.call (.ref fa) ⟨[.ref a], []⟩) (fun r s' => r = .ok (.ret (.bool true)) ∧ OldK t0.heap s'.heap ∧ s'.os = t0.os ∧ AllBare s'.gens) t0 := by
  obtain ⟨m', holds⟩ := holds
  have rel := vals_ints isI
  have lens := isI.length
  let ob : Obj := { cls := .type "list", data := .seq us.toArray }
  let TB := cs.map (·.2)
  let H := entryH K TB a ob (ns.map V.int)
  have tabAt : ∀ b, b ∈ TB → t0.heap.get? b = some { cls := .none, data := .fields #[] } := fun b hb => by
    obtain ⟨p, hp, rfl⟩ := List.mem_map.mp hb
    exact tabs p hp
  have ok : HOk P w H t0.heap := fun b u e => by
    rcases entryH_cases e with ⟨hb, rfl⟩ | ⟨_, rfl, _, rfl⟩
    · exact tabAt b hb
    · exact ⟨obj, by rw [List.length_map]; exact few, us, _, rel, obj⟩
  have offData : ∀ {b : Addr} {o : Obj}, t0.heap.get? b = some o → (∀ vs n, o.data ≠ .seq vs n) → o.data ≠ .fields #[] → H b = none := fun {b o} e h1 h2 => by
    cases q : H b with
    | none => rfl
    | some u =>
      exfalso
      rcases entryH_cases q with ⟨hb, _⟩ | ⟨_, rfl, _, _⟩
      · rw [tabAt b hb] at e; cases e; exact h2 rfl
      · rw [obj] at e; cases e; exact h1 _ _ rfl
  have down : ∀ {b : Addr} {o : Obj}, t0.heap.get? b = some o → H b = none → (hidT t0.heap H).get? b = some o := fun e n => hidT_get e n
  have nsDown : ∀ {b : Addr} {f : Str → Option Value}, t0.heap.Ns b f → (hidT t0.heap H).Ns b f := by
    rintro b f ⟨o, es, ep, e, d, r⟩
    exact ⟨o, es, ep, down e (offData e (fun vs n z => by rw [d] at z; cases z) fun z => by rw [d] at z; cases z), d, r⟩
  have kDown : K.In (hidT t0.heap H) := fun b o e => down (inK b o e) (by
    cases q : H b with
    | none => rfl
    | some u =>
      exfalso
      rcases entryH_cases q with ⟨hb, _⟩ | ⟨_, rfl, hk, _⟩
      · obtain ⟨p, hp, rfl⟩ := List.mem_map.mp hb
        rw [notK p hp] at e; cases e
      · rw [hk] at e; cases e)
  have modOk : L2.Mod K mg (hidT t0.heap H) := by
    obtain ⟨mc, l1, l2⟩ := lim
    exact ⟨kDown, nsDown glob, ⟨mb, nsDown blt, bltIs⟩, ⟨mc, nsDown l1, l2⟩⟩
  have tabsOk : ∀ p ∈ cs, GxR.TabB (hidT t0.heap H) mg p.1 p.2 := fun p hp => by
    constructor
    · obtain ⟨o, vs, file, tf, flags, tg, inF, text, tt, e1, rest⟩ := codes p hp
      refine ⟨o, vs, file, tf, flags, tg, inF, text, tt, down e1 (offData e1 (fun vs' n z => ?_) fun z => ?_), rest⟩
      · rw [rest.2.1] at z; cases z
      · rw [rest.2.1] at z
        have z' := Data.fields.inj z
        have h11 := rest.2.2.1
        rw [z'] at h11
        simp at h11
    · obtain ⟨bm, o, b1, b2, b3, b4, b5, b6⟩ := bmod
      refine ⟨bm, o, b1, b2, fun z => ?_, fun z => ?_, down b3 (offData b3 (fun vs n z => ?_) fun z => ?_), b4, b5, b6⟩
      · obtain ⟨o', es, ep, e, d, _⟩ := glob
        rw [z, e] at b3; cases b3
        rw [d] at b6; cases b6
      · rw [z, tabs p hp] at b3; cases b3; cases b6
      · rw [b6] at z; cases z
      · rw [b6] at z; cases z
    · intro z
      obtain ⟨o', es, ep, e, d, _⟩ := glob
      rw [z, tabs p hp] at e; cases e; cases d
  have entry : Env0 P w K mg (hidT t0.heap H) callerA [] t0 H := ⟨rfl, modOk, fun b o e => of_hidT e, Nat.le_of_eq (hidT_size _ _), trivial, fun b hb => absurd (show b ∈ ([] : List Addr) from hb) (by simp), ok, AllBare.of_eq gens⟩
  have RL : Rel K TB [] [] H [] := ⟨rfl, List.nodup_nil, fun n mo b e1 _ => by simp at e1, fun p hp => ⟨#[], entryH_tab hp, by trivial⟩, (fun p hp => nomatch hp), (fun p hp => nomatch hp), fun p hp _ _ _ _ => LamX.TabS.nil (entryH_tab hp)⟩
  have rInts : ∀ l : List Int, Reps K [] [] H (l.map .int) (l.map V.int) := fun l => by
    induction l with
    | nil => exact .nil
    | cons i l ih => exact .cons (.int i) ih
  have nT : a ∉ TB := fun z => by
    have e := tabAt a z
    rw [obj] at e
    have e' := congrArg Obj.data (Option.some.inj e)
    cases e'
  have script : Rep K [] [] H (.fl (ns.map .int)) (.ref a) := by
    refine .fl ?_ (rInts ns)
    cases hk : K.lookup a with
    | none =>
      refine .inl ⟨ob, ?_⟩
      show entryH K TB a ob _ a = _
      unfold entryH
      rw [if_neg nT, if_pos ⟨rfl, hk⟩]
    | some o =>
      have e := inK a o hk
      rw [obj] at e
      cases e
      exact .inr ⟨_, us.toArray, _, hk, rfl, rfl, rfl, by rw [List.size_toArray, lens]; exact few, by simpa using rel⟩
  have want : spF K TB 1 F [.ref a] H (fun v _ => v = .bl true) E0 := ⟨[], [], [.v (.fl (ns.map .int))], [], .v (.bl true), m', RL, .cons script .nil, rfl, holds, fun φ' ψ' H' v _ _ r => by obtain ⟨_, r⟩ := r; cases r; rfl⟩
  refine codeAny_mono ((G _ kDown (nsDown glob) tabsOk).run callerA [] t0 H ⟨[.ref a], []⟩ [.ref a] [.ref a] _ _ rfl room entry (binds t0 (.ref a)) (.cons rfl .nil) want) fun res t1 ends => ?_
  match res, ends with
  | .ok (.ret u), ⟨v, H', os, bare, un, ok', rv, isT⟩ =>
    have isT' : v = .bl true := isT
    subst isT'
    obtain rfl : u = Value.bool true := rv
    have kept : ∀ b o, b ∉ TB → t0.heap.get? b = some o → t1.heap.get? b = some o := fun b o nb e => by
      cases q : H b with
      | none => exact un.keep b o e q (fun z => absurd (show b ∈ ([] : List Addr) from z) (by simp)) (by simp)
      | some y =>
        rcases entryH_cases q with ⟨hb, _⟩ | ⟨_, rfl, _, rfl⟩
        · exact absurd hb nb
        · have q2 := un.frzs _ _ _ q
          obtain ⟨e1, _⟩ := ok' _ _ q2
          rw [obj] at e; cases e
          exact e1
    have grown : ∀ p ∈ cs, ∃ more : Array Value, t1.heap.get? p.2 = some { cls := .none, data := .fields more } := fun p hp => by
      obtain ⟨more, z⟩ := un.tbls p.2 #[] (entryH_tab (List.mem_map.mpr ⟨p, hp, rfl⟩))
      exact ⟨_, ok' p.2 _ z⟩
    refine ⟨rfl, ⟨fun b o e => ?_, fun b o e => ?_⟩, os, bare⟩
    · by_cases hb : b ∈ TB
      · obtain ⟨p, hp, rfl⟩ := List.mem_map.mp hb
        obtain ⟨more, hm⟩ := grown p hp
        rw [tabs p hp] at e
        cases e
        exact .inr (.inl ⟨((codes p hp).tab (tabs p hp)).isCodeTable, rfl, #[], more, rfl, by rw [Array.empty_append]; exact hm⟩)
      · exact .inl (kept b o hb e)
    · by_cases hb : b ∈ TB
      · obtain ⟨p, hp, rfl⟩ := List.mem_map.mp hb
        obtain ⟨more, hm⟩ := grown p hp
        exact ⟨_, hm⟩
      · exact ⟨o, kept b o hb e⟩
theorem walkG {l : PySem.W.OpenLaw} {n k : Nat} {q : Program} {loose : List Str} {XP : (Str → Option Value) → Heap → Prop} {YP : World → Heap → Prop} {d : DefRec} {K : Params → FRG} {x : Str} {F : Fx}
    (hn : l.most = some n) (hn2 : n ≤ sizeLine) (hdf : d.params.defaults = []) (room : Room k callerA) (hY : ∀ (w : World) (h : Heap), YP w h → (K w.params).In h)
    (G : ∀ (w : World) (mg : Str → Option Value) (fa : Addr) (h : Heap), (K w.params).In h → h.Ns mainGlobals mg → mg d.name = some (.ref fa) →
      (∀ (x : Str) (d : DefRec) (c P : Addr), (recsOf q).find? (fun e => e.name == x) = some d → PySem.W.tabIn (K w.params) x = some (c, P) → PySem.W.CodeHd h c P ∧ h.get? P = some { cls := .none, data := .fields #[] }) →
      ∃ (fd : FuncData) (cs : List (Addr × Addr)), (∀ p ∈ cs, h.get? p.2 = some { cls := .none, data := .fields #[] }) ∧ (∀ p ∈ cs, (K w.params).lookup p.2 = none) ∧ (∀ p ∈ cs, PySem.W.CodeHd h p.1 p.2) ∧ (∀ (s : Shared) (u : Value), BindsTo s fd ⟨[u], []⟩ [(x, u)]) ∧
        ∀ base : Heap, (K w.params).In base → base.Ns mainGlobals mg → (∀ p ∈ cs, GxR.TabB base mg p.1 p.2) → FnG l.prog w (K w.params) mg base k fa fd [x] (spF (K w.params) (cs.map (·.2)) 1 F))
    (holds : ∀ ns : List Int, ns.length ≤ n → ∃ m', F [.v (.fl (ns.map .int))] [] = some (.v (.bl true), m')) :
    PySem.W.WalkO q loose XP YP l.row.toRowW d [] (fun f vs => PySem.call f vs) := by
  refine Att.attach_callB hn hdf fun w s₀ t0 mg mb fa o pm cd doc a us ns Gr Y ho hd hcd hmg hobj hints hlen hbits hg => ?_
  have inK := hY w _ Y
  obtain ⟨fd, cs, tabs, notK, codes, binds, hG⟩ := G w mg fa _ inK Gr.T.g hmg fun x d c P h1 h2 => PySem.W.tab_of Gr.T inK h1 h2
  exact law_callG inK Gr.T.g Gr.T.b Gr.T.builtins Gr.T.nolimit hg tabs notK codes Gr.T.bmain hobj hints (Nat.le_trans hlen hn2) room hG binds (holds ns hlen)
theorem Post.tbl {φ ψ : List Addr} {H : Hp} {p : Addr} {ps ps' : Array Value} (h : H p = some (.tbl ps)) : Post φ ψ H φ ψ (upd H p (.tbl ps')) :=
  ⟨List.prefix_refl _, fun _ z => .inl z, fun _ z => .inl z, fun b u _ e ht => .inl (by rw [upd_ne (fun z => by rw [z, h] at e; cases e; exact ht _ rfl)]; exact e), (fun b z => by
    by_cases hb : b = p
    · rw [hb, upd_same] at z; cases z
    · rw [upd_ne hb] at z; exact z), fun _ z => z⟩
theorem Rel.tbl {K : FRG} {tb φ ψ : List Addr} {H : Hp} {m : Mem} {p : Addr} {ps ps' : Array Value} (R : Rel K tb φ ψ H m) (h : H p = some (.tbl ps)) (ht : TriplesOk ps'.toList) (hn : NotL K p) : Rel K tb φ ψ (upd H p (.tbl ps')) m := by
  refine ⟨R.len, R.nd, fun n mo a e1 e2 => ?_, fun q hq => ?_, fun q hq z => R.sd q hq ((Post.tbl (φ := φ) (ψ := ψ) h).kp q z), R.ap, fun q hq => ?_⟩
  · exact (R.obj n mo a e1 e2).mono (Post.tbl h) R (upd_ne fun z => R.ntbl h (z ▸ List.mem_of_getElem? e2))
  · by_cases hb : q = p
    · rw [hb]; exact ⟨ps', upd_same, ht⟩
    · exact TabG.keep (R.tab q hq) (upd_ne hb)
  · by_cases hb : q = p
    · exact fun x hx c hc => absurd (hb ▸ hc) (hn x hx c)
    · exact (R.lam q hq).upd hb fun _ e => by rw [h] at e; cases e
end Pw
end
section
set_option Elab.async false
set_option linter.all false
set_option maxRecDepth 100000
set_option maxHeartbeats 2000000
namespace Pv
open PySem PySem.Spec PyProof.Rows L2
end Pv
end
section
set_option Elab.async false
set_option linter.all false
set_option maxRecDepth 100000
set_option maxHeartbeats 2000000
namespace Pw
open PySem PySem.Spec PyProof.Rows L2 Pv
section
variable {κ : Type} [DecidableEq κ]
def valX (kvs : List (κ × D)) (k : κ) : Option D := (kvs.find? fun kv => decide (kv.1 = k)).map (·.2)
def putX (kvs : List (κ × D)) (k : κ) (d : D) : List (κ × D) :=
  if (kvs.any fun kv => decide (kv.1 = k)) = true then kvs.map (fun kv => if kv.1 = k then (kv.1, d) else kv) else kvs ++ [(k, d)]
def PR (K : FRG) (φ ψ : List Addr) (H : Hp) (kvs : List (κ × D)) (vs : List (κ × V)) : Prop := kvs.map (·.1) = vs.map (·.1) ∧ Reps K φ ψ H (kvs.map (·.2)) (vs.map (·.2))
variable {K : FRG} {φ ψ : List Addr} {H : Hp}
theorem PR.len {kvs : List (κ × D)} {vs : List (κ × V)} (h : PR K φ ψ H kvs vs) : kvs.length = vs.length := by
  have := congrArg List.length h.1
  simpa using this
theorem PR.uncons {p : κ × D} {q : κ × V} {kvs : List (κ × D)} {vs : List (κ × V)} (h : PR K φ ψ H (p :: kvs) (q :: vs)) : p.1 = q.1 ∧ Rep K φ ψ H p.2 q.2 ∧ PR K φ ψ H kvs vs := by
  obtain ⟨h1, h2⟩ := h
  rw [List.map_cons, List.map_cons] at h1 h2
  cases h2 with
  | cons a b => exact ⟨(List.cons.inj h1).1, a, (List.cons.inj h1).2, b⟩
theorem PR.cons {p : κ × D} {q : κ × V} {kvs : List (κ × D)} {vs : List (κ × V)} (h1 : p.1 = q.1) (h2 : Rep K φ ψ H p.2 q.2) (h : PR K φ ψ H kvs vs) : PR K φ ψ H (p :: kvs) (q :: vs) :=
  ⟨by rw [List.map_cons, List.map_cons, h1, h.1], .cons h2 h.2⟩
theorem PR.val {k : κ} : ∀ {kvs : List (κ × D)} {vs : List (κ × V)}, PR K φ ψ H kvs vs → (∀ d, valX kvs k = some d → ∃ v, valV vs k = some v ∧ Rep K φ ψ H d v) ∧ (valX kvs k = none → valV vs k = none)
  | [], [], _ => ⟨(fun d e => by cases e), fun _ => rfl⟩
  | [], _ :: _, h => by have := h.len; simp at this
  | _ :: _, [], h => by have := h.len; simp at this
  | p :: kvs, q :: vs, h => by
    obtain ⟨e1, e2, e3⟩ := h.uncons
    obtain ⟨i1, i2⟩ := PR.val (k := k) e3
    by_cases hk : p.1 = k
    · refine ⟨fun d e => ⟨q.2, valV_pos (e1 ▸ hk), ?_⟩, fun e => ?_⟩
      · simp [valX, List.find?_cons, hk] at e
        rw [← e]; exact e2
      · simp [valX, List.find?_cons, hk] at e
    · have hq : ¬ q.1 = k := fun z => hk (e1.trans z)
      have ev : valX (p :: kvs) k = valX kvs k := by simp [valX, List.find?_cons, hk]
      rw [ev, valV_neg hq]
      exact ⟨i1, i2⟩
theorem PR.any {k : κ} {kvs : List (κ × D)} {vs : List (κ × V)} (h : PR K φ ψ H kvs vs) : (kvs.any fun kv => decide (kv.1 = k)) = vs.any fun kv => decide (kv.1 = k) := by
  have a : ∀ (l : List (κ × D)), (l.any fun kv => decide (kv.1 = k)) = (l.map (·.1)).any fun x => decide (x = k) := fun l => by rw [List.any_map]; rfl
  have b : ∀ (l : List (κ × V)), (l.any fun kv => decide (kv.1 = k)) = (l.map (·.1)).any fun x => decide (x = k) := fun l => by rw [List.any_map]; rfl
  rw [a, b, h.1]
theorem PR.repl {k : κ} {d : D} {v : V} (r : Rep K φ ψ H d v) : ∀ {kvs : List (κ × D)} {vs : List (κ × V)}, PR K φ ψ H kvs vs → PR K φ ψ H (kvs.map (fun kv => if kv.1 = k then (kv.1, d) else kv)) (vs.map (fun kv => if kv.1 = k then (kv.1, v) else kv))
  | [], [], h => h
  | [], _ :: _, h => by have := h.len; simp at this
  | _ :: _, [], h => by have := h.len; simp at this
  | p :: kvs, q :: vs, h => by
    obtain ⟨e1, e2, e3⟩ := h.uncons
    rw [List.map_cons, List.map_cons]
    by_cases hk : p.1 = k
    · rw [if_pos hk, if_pos (e1 ▸ hk)]
      exact .cons e1 r (PR.repl r e3)
    · rw [if_neg hk, if_neg (fun z => hk (e1.trans z))]
      exact .cons e1 e2 (PR.repl r e3)
theorem PR.put {k : κ} {d : D} {v : V} {kvs : List (κ × D)} {vs : List (κ × V)} (h : PR K φ ψ H kvs vs) (r : Rep K φ ψ H d v) : PR K φ ψ H (putX kvs k d) (putK vs k v) := by
  unfold putX putK
  rw [h.any]
  split
  · exact h.repl r
  · exact ⟨by rw [List.map_append, List.map_append, h.1]; rfl, by rw [List.map_append, List.map_append]; exact h.2.app (.cons r .nil)⟩
end
theorem lt1 {n : Nat} (h : n + 100 < cLine) : n + 1 < cLine := by omega
end Pw
end
section
set_option Elab.async false
set_option linter.all false
set_option maxRecDepth 100000
set_option maxHeartbeats 2000000
namespace Pw
open PySem PySem.Spec PyProof.Rows L2 Pv
section
variable {X : Cx} {K : FRG} {tb : List Addr} {pos : Pos}
theorem Reps.dropLast {φ ψ : List Addr} {H : Hp} {ds : List D} {vs : List V} (r : Reps K φ ψ H ds vs) : Reps K φ ψ H ds.dropLast vs.dropLast := by
  rw [List.dropLast_eq_take, List.dropLast_eq_take, ← r.length]
  exact r.take _
def lrgD : D → Option W
  | .int n => if 0 ≤ n ∧ n ≤ 1000000 then some (.f (.lst ((List.range n.toNat).map fun i => .int (i : Nat)))) else none
  | _ => none
theorem ex_lrg {a : Expr} {fa : Ex} {p p2 q : Pos} (hc : X.calm = true) (hg : Gl X "list") (hm : X.mg "list" = none) (hg2 : Gl X "range") (hm2 : X.mg "range" = none) (ha : PE X a (T X.K tb fa))
    (h1 : starEach [a] X.env = (false, eval a X.env) :: starEach [] X.env := by rfl) (h2 : starEach [.Call (.Name "range" p2) [a] [] q] X.env = (false, eval (.Call (.Name "range" p2) [a] [] q) X.env) :: starEach [] X.env := by rfl) :
    PE X (.Call (.Name "list" p) [.Call (.Name "range" p2) [a] [] q] [] pos) (T X.K tb (eUn lrgD fa)) := by
  refine pe_mono (pe_listRg hc hg hm (prg_1 hg2 hm2 ha h1) h2) fun σ H Q ⟨φ, ψ, ρ, m, w, m', R, E, e, k⟩ => ?_
  obtain ⟨⟨w1, m1⟩, e1, e⟩ := bnd e
  obtain ⟨d, ed, e⟩ := bnd e
  obtain ⟨w2, e2, e⟩ := bnd e
  cases e
  refine ⟨φ, ψ, ρ, m, w1, m1, R, E, e1, fun φ1 ψ1 H1 x P1 R1 V1 => ?_⟩
  have C := gt_c (V1.rel R1) (V1.s R1) ed
  have kk : Go X.K tb φ1 ψ H1 m1 w Q := fun φ3 ψ3 H3 v P3 R3 V3 => k φ3 ψ3 H3 v ((V1.post P1).trans P3) R3 V3
  have e2 : lrgD d = some w := e2
  unfold lrgD at e2
  split at e2
  · split at e2
    · rename_i n _ hn
      cases e2
      refine ⟨n, C.int, RgOk.of_le (by omega) (by omega) (by omega) hn.1, fun p hp => ?_⟩
      refine Go.lst kk (V1.rel R1) ?_ hp
      have : rgV 0 n = ((List.range n.toNat).map fun i : Nat => (i : Int)).map V.int := by
        unfold rgV
        rw [List.map_map]
        simp
      rw [this, show (List.range n.toNat).map (fun i : Nat => D.int (i : Nat)) = ((List.range n.toNat).map fun i : Nat => (i : Int)).map D.int by rw [List.map_map]; rfl]
      exact reps_ints _
    · cases e2
  · cases e2
theorem get_list : PGet X (rIxL X.K) := by
  intro pins s σ H x y v u Q I rx ry h
  obtain ⟨p, xs, i, z, rfl, rfl, hq, he, q⟩ := h
  cases rx
  obtain ⟨t, rfl⟩ := ry
  obtain ⟨its, r, pl, hz⟩ := I.list hq
  obtain ⟨j, h1, h2, h3, h4, h5⟩ := atI_get he
  obtain ⟨w, ew, rw'⟩ := r.get h2
  have hl := r.length
  have hn := line63
  have fin : EP X pins σ Q w s := ⟨z, H, I, rw', q⟩
  by_cases h0 : 0 ≤ i
  · have hj : i.toNat = j := by
      rw [seqIndex_of h0 h5] at h1
      exact Option.some.inj h1
    exact wpAny_getItem_list pl.isList h0 (by omega) (by rw [hj]; simpa using ew) fin
  · have hj : (i + (its.toArray.size : Int)).toNat = j := by
      rw [seqIndex_neg (by omega) h4] at h1
      rw [List.size_toArray, ← hl]
      exact Option.some.inj h1
    exact wpAny_getItem_list_neg pl.isList (by omega) (by rw [List.size_toArray] <;> omega) (by omega) (by rw [hj]; simpa using ew) fin
def augD (g : Int → Int → Int) : W → D → D → Mem → Mem → Option Mem
  | .r n, .int i, .int y, m, m' => match m[n]?, m'[n]? with
    | some (.lst ds), some (.lst ds') => match atI ds i, ixN ds'.length i with
      | some (.int x), some j => some (m'.set n (.lst (ds'.set j (.int (g x y)))))
      | _, _ => none
    | _, _ => none
  | _, _, _, _, _ => none
def sAug (g : Int → Int → Int) (o i a : Ex) : Sx := fun ρ m => (o ρ m).bind fun p => (i ρ p.2).bind fun q => (gt q.1 q.2).bind fun i => (a ρ q.2).bind fun r => (gt r.1 r.2).bind fun y => (augD g p.1 i y q.2 r.2).bind fun m' => some (.nx, ρ, m')
theorem bs_aug {g : Int → Int → Int} {op : Operator} {o i a : Expr} {fo fi fa : Ex} {tpos : Pos} (hp : PIp X op (ipI g)) (ho : PE X o (T X.K tb fo)) (hi : PE X i (T X.K tb fi)) (ha : PE X a (T X.K tb fa))
    (hs : ∀ ov iv new, augStore i ov iv new = (do holding [new, ov, iv] (setItem ov iv new); release [new, ov, iv] []; pure .next) := by intros; rfl) :
    PS X (.AugAssign (.Subscript o i tpos) op a pos) (Ts X.K tb (sAug g fo fi fa)) := by
  refine ps_mono (ps_augS ho hi get_list ha hp set_list hs) fun D σ H ⟨φ, ψ, ρ, m, o', ρ', m', R, E, e, k⟩ => ?_
  obtain ⟨⟨w1, m1⟩, e1, e⟩ := bnd e
  obtain ⟨⟨w2, m2⟩, e2, e⟩ := bnd e
  obtain ⟨d2, eg, e⟩ := bnd e
  obtain ⟨⟨w3, m3⟩, e3, e⟩ := bnd e
  obtain ⟨d3, ey, e⟩ := bnd e
  obtain ⟨m4, e4, e⟩ := bnd e
  cases e
  have e4 : augD g w1 d2 d3 m2 m3 = some m' := e4
  unfold augD at e4
  split at e4
  · rename_i n i y _ _ _ _ _
    split at e4
    · rename_i ds ds' hm hm'
      split at e4
      · rename_i x j hx hj
        cases e4
        refine ⟨φ, ψ, ρ, m, _, m1, R, E, e1, fun φ1 ψ1 H1 v1 P1 R1 V1 => ⟨φ1, ψ, ρ, m1, w2, m2, V1.rel R1, E.mono (V1.post P1) R, e2, fun φ2 ψ2 H2 v2 P2 R2 V2 => ?_⟩⟩
        have R2' := V2.rel R2
        have P2' := V2.post P2
        have P12 := (V1.post P1).trans P2'
        have h2 := (gt_c R2' (V2.s R2) eg).int
        subst h2
        have V1' := (V1.s R1).mono P2' (V1.rel R1)
        obtain ⟨q, h1, rfl⟩ := V1'
        obtain ⟨vs, hq, r⟩ := R2'.obj _ _ q hm h1
        obtain ⟨xv, hxv, hrep⟩ := r.at hx
        refine ⟨q, vs, i, xv, rfl, rfl, SqL.of hq, hxv, ?_⟩
        cases hrep
        refine ⟨φ2, ψ, ρ, m2, w3, m3, R2', E.mono P12 R, e3, fun φ3 ψ3 H3 v3 P3 R3 V3 => ?_⟩
        have R3' := V3.rel R3
        have P3' := V3.post P3
        have P := P12.trans P3'
        have h3 := (gt_c R3' (V3.s R3) ey).int
        subst h3
        refine ⟨x, y, rfl, rfl, ?_⟩
        have h1' : φ3[n]? = some q := pre_get P3'.pre h1
        obtain ⟨vs', hq', r'⟩ := R3'.obj _ _ q hm' h1'
        have hmem := List.mem_of_getElem? h1'
        have Pw : Post φ3 ψ H3 φ3 ψ _ := Post.wr (o := .lst (vs'.set j (.int (g x y)))) hmem (R3'.trk hmem)
        refine ⟨q, vs', i, j, rfl, rfl, hq', by rw [← r'.length]; exact hj, ?_⟩
        exact k φ3 ψ _ (P.trans Pw) (R3'.wrL h1' (r'.set (.int _) j)) rfl σ (E.mono (P.trans Pw) R)
      · cases e4
    · cases e4
  · cases e4
end
end Pw
end
section
set_option Elab.async false
set_option linter.all false
set_option maxRecDepth 100000
set_option maxHeartbeats 2000000
namespace Pw
open PySem PySem.Spec PyProof.Rows L2 Pv
section
variable {X : Cx} {K : FRG} {tb : List Addr}
end
end Pw
end
section
set_option Elab.async false
set_option linter.all false
set_option maxRecDepth 100000
set_option maxHeartbeats 2000000
namespace Pw
open PySem PySem.Spec PyProof.Rows L2 Pv
def keyOf : D → Option Key
  | .int i => some (.inl i)
  | .str x => some (.inr x)
  | _ => none
theorem keyOf_v {K : FRG} {φ ψ : List Addr} {H : Hp} {d : D} {v : V} {k : Key} (h : RepC K φ ψ H d v) (e : keyOf d = some k) : v = kV k := by
  unfold keyOf at e
  split at e
  · cases e; exact h.int
  · cases e; exact h.str
  · cases e
section
variable {X : Cx} {K : FRG} {tb : List Addr} {pos : Pos}
theorem pe_or {e : Expr} {t t' : TE} (h : PE X e t) (h' : PE X e t') : PE X e (fun σ H Q => t σ H Q ∨ t' σ H Q) := ⟨fun pins s σ H Q I q => q.elim (h.run pins s σ H Q I) (h'.run pins s σ H Q I)⟩
theorem DGet.rk {H : Hp} {a : Addr} {kvs : List (Key × V)} {k : Key} (h : Rd H a (.dK kvs)) : DGet H a (kV k) (valV kvs k) := .inl ⟨kvs, k, h, rfl, rfl⟩
def eGet (o i x : Ex) : Ex := fun ρ m => (o ρ m).bind fun p => (gt p.1 p.2).bind fun d0 => match d0 with
  | .dk _ => (i ρ p.2).bind fun q => (x ρ q.2).bind fun r => (gt p.1 r.2).bind fun d => match d with
    | .dk kvs => (gt q.1 r.2).bind fun y => (keyOf y).bind fun k => (vl r.1).bind fun z => some (.v ((valX kvs k).getD z), r.2)
    | _ => none
  | _ => none
theorem ex_get {o a b : Expr} {fo fa fb : Ex} {apos cpos : Pos} (hu : X.A.units + 1 < cLine) (ho : PE X o (T X.K tb fo)) (ha : PE X a (T X.K tb fa)) (hb : PE X b (T X.K tb fb)) (mm : M2 X o "get" apos a b cpos) :
    PE X (.Call (.Attribute o "get" apos) [a, b] [] cpos) (T X.K tb (eGet fo fa fb)) := by
  refine pe_mono (pe_dget2 hu ho ha hb mm) fun σ H Q ⟨φ, ψ, ρ, m, w, m', R, E, e, k⟩ => ?_
  obtain ⟨⟨w1, m1⟩, e1, e⟩ := bnd e
  obtain ⟨d0, e0, e⟩ := bnd e
  split at e
  · obtain ⟨⟨w2, m2⟩, e2, e⟩ := bnd e
    obtain ⟨⟨w3, m3⟩, e3, e⟩ := bnd e
    obtain ⟨d, ed, e⟩ := bnd e
    split at e
    · rename_i kvs0 _ _ kvs
      obtain ⟨y, ey, e⟩ := bnd e
      obtain ⟨ky, ek, e⟩ := bnd e
      obtain ⟨z, ez, e⟩ := bnd e
      cases e
      refine ⟨φ, ψ, ρ, m, w1, m1, R, E, e1, fun φ1 ψ1 H1 xv P1 R1 V1 => ?_⟩
      have R1' := V1.rel R1
      obtain ⟨a, vs0, rfl, hq0, _, _⟩ := (gt_c R1' (V1.s R1) e0).dk
      refine ⟨a, rfl, .inl ⟨vs0, hq0⟩, φ1, ψ, ρ, m1, w2, m2, R1', E.mono (V1.post P1) R, e2, fun φ2 ψ2 H2 yv P2 R2 V2 => ⟨φ2, ψ, ρ, m2, w3, _, V2.rel R2, E.mono ((V1.post P1).trans (V2.post P2)) R, e3, fun φ3 ψ3 H3 zv P3 R3 V3 => ?_⟩⟩
      have R3' := V3.rel R3
      have P3' := V3.post P3
      have P23 := (V2.post P2).trans P3'
      obtain ⟨a', vs, ea, hq, q1, q2⟩ := (gt_c R3' ((V1.s R1).mono P23 R1') ed).dk
      cases ea
      have := keyOf_v (gt_c R3' ((V2.s R2).mono P3' (V2.rel R2)) ey) ek
      subst this
      refine ⟨_, DGet.rk hq, ?_⟩
      have hz := vl_rep (V3.s R3) ez
      have pv := PR.val (k := ky) (show PR X.K φ3 ψ H3 kvs vs from ⟨q1, q2⟩)
      refine Go.val (fun φ4 ψ4 H4 v P4 R4 V4 => k φ4 ψ4 H4 v (((V1.post P1).trans P23).trans P4) R4 V4) R3' ?_
      cases e4 : valX kvs ky with
      | none => rw [pv.2 e4]; exact hz
      | some d => obtain ⟨v, e5, hv⟩ := pv.1 d e4; rw [e5]; exact hv
    · cases e
  · cases e
end
open Classical in
noncomputable def dcL (it : Itm) (xs : List D) (t : Gx) (c : Tx) (fk fv : Ex) (ρ : Env) : List D → List (Key × D) → Mem → Option (List (Key × D) × Mem)
  | [], acc, m => if itemsAt it m = some xs then some (acc, m) else none
  | d :: ds, acc, m => if itemsAt it m = some xs then (t d ρ).bind fun ρ1 => (c ρ1 m).bind fun p => if p.1 = true then (fk ρ1 p.2).bind fun q => (vl q.1).bind fun y => (keyOf y).bind fun k => (fv ρ1 q.2).bind fun r => (vl r.1).bind fun z =>
      if acc.length < 1000000 then dcL it xs t c fk fv ρ ds (putX acc k z) r.2 else none else dcL it xs t c fk fv ρ ds acc p.2
    else none
noncomputable def eDc (src : Ix) (t : Gx) (c : Tx) (fk fv : Ex) (vs : List Nat) : Ex := fun ρ m => (src ρ m).bind fun p => (itemsAt p.1 p.2).bind fun xs => (dcL p.1 xs t c fk fv (wipeD ρ vs) xs [] p.2).bind fun q => some (.f (.dk q.1), q.2)
theorem sd_sqT' {K : FRG} {H : Hp} {p a : Addr} {vs : List (Key × V)} {xs : List V} {o : HO} (h : H p = some (.dK vs)) (q : SqT K H a xs) : SqT K (upd H p o) a xs := by
  rcases q with (q | ⟨o, q⟩) | q
  · exact .inl (.inl (by rw [upd_ne fun z => by rw [z, h] at q; cases q]; exact q))
  · exact .inl (.inr ⟨o, by rw [upd_ne fun z => by rw [z, h] at q; cases q]; exact q⟩)
  · exact .inr q
theorem sd_sqN' {K : FRG} {H : Hp} {p a : Addr} {vs : List (Key × V)} {xs : List V} {o : HO} (h : H p = some (.dK vs)) (q : SqN K H a xs) : SqN K (upd H p o) a xs := ⟨sd_sqT' h q.1, fun z => by rw [upd_ne fun y => by have := q.2 z; rw [y, h] at this; cases this]; exact q.2 z⟩
theorem sd_tz' {H : Hp} {p a : Addr} {vs : List (Key × V)} {xs : List V} {o : HO} (h : H p = some (.dK vs)) (q : Tz H a xs) : Tz (upd H p o) a xs := by
  obtain ⟨u, q, d⟩ := q
  exact ⟨u, by rw [upd_ne fun z => by rw [z, h] at q; cases q]; exact q, d⟩
theorem sd_fz' {K : FRG} {H : Hp} {p a : Addr} {vs : List (Key × V)} {xs : List V} {o : HO} (h : H p = some (.dK vs)) (q : Fz K H a xs) : Fz K (upd H p o) a xs := by
  rcases q with ⟨u, q⟩ | q
  · exact .inl ⟨u, by rw [upd_ne fun z => by rw [z, h] at q; cases q]; exact q⟩
  · exact .inr q
section
variable {K : FRG} {tb φ ψ : List Addr} {H : Hp} {m : Mem}
theorem Reps.sdk {p : Addr} {vs : List (Key × V)} {o : HO} (hp : p ∈ ψ) (h : H p = some (.dK vs)) {ds : List D} {us : List V} (r : Reps K φ ψ H ds us) : Reps K φ ψ (upd H p o) ds us :=
  r.map (fun _ _ => sd_sqN' h) (fun _ _ => sd_tz' h) (fun _ _ => sd_fz' h) (fun a xs h1 h2 q _ _ => ⟨h1, h2, by rw [upd_ne (fun z => h2 (by rw [z]; exact hp))]; exact q⟩) fun a xs h1 h2 q => ⟨h1, h2, by unfold Rd at q ⊢; rw [upd_ne (fun z => h2 (by rw [z]; exact hp))]; exact q⟩
theorem Rep.sdk {p : Addr} {vs : List (Key × V)} {o : HO} (hp : p ∈ ψ) (h : H p = some (.dK vs)) {d : D} {u : V} (r : Rep K φ ψ H d u) : Rep K φ ψ (upd H p o) d u :=
  r.map (fun _ _ => sd_sqN' h) (fun _ _ => sd_tz' h) (fun _ _ => sd_fz' h) (fun a xs h1 h2 q _ _ => ⟨h1, h2, by rw [upd_ne (fun z => h2 (by rw [z]; exact hp))]; exact q⟩) fun a xs h1 h2 q => ⟨h1, h2, by unfold Rd at q ⊢; rw [upd_ne (fun z => h2 (by rw [z]; exact hp))]; exact q⟩
theorem Rel.sdk {p : Addr} {vs : List (Key × V)} {o : HO} (R : Rel K tb φ ψ H m) (hp : p ∈ ψ) (h : H p = some (.dK vs)) : Rel K tb φ ψ (upd H p o) m := by
  refine ⟨R.len, R.nd, fun n mo a e1 e2 => ?_, fun q hq => TabG.keep (R.tab q hq) (upd_ne fun z => by
    obtain ⟨ps, e, _⟩ := R.tab q hq
    rw [z, h] at e; cases e), fun q hq z => ?_, R.ap, fun q hq => (R.lam q hq).upd (fun z => by
    obtain ⟨ps, e, _⟩ := R.tab q hq
    rw [z, h] at e; cases e) fun _ e => by rw [h] at e; cases e⟩
  · have ne : a ≠ p := fun z => R.ap p hp (z ▸ List.mem_of_getElem? e2)
    have q := R.obj n mo a e1 e2
    cases mo with
    | lst ds => obtain ⟨vs', q1, q2⟩ := q; exact ⟨vs', by rw [upd_ne ne]; exact q1, q2.sdk hp h⟩
    | dk kvs => obtain ⟨vs', q1, q2, q3⟩ := q; exact ⟨vs', by rw [upd_ne ne]; exact q1, q2, q3.sdk hp h⟩
    | dt kvs => obtain ⟨vs', q1, q2, q3⟩ := q; exact ⟨vs', by rw [upd_ne ne]; exact q1, q2, q3.sdk hp h⟩
    | rl b k => exact ⟨by rw [upd_ne ne]; exact q.1, q.2⟩
  · by_cases hb : q = p
    · rw [hb, upd_same] at z; cases z
    · rw [upd_ne hb] at z; exact R.sd q hq z
end
theorem dc_go {K : FRG} {tb : List Addr} {src : Ix} {g : TG} {t : Gx} {c : Tx} {fk fv : Ex} {vs : List Nat} {σ : L2.St} {H : Hp} {Q : VK} (ht : TgS K tb g t) (hw : TgW g vs) (h : T K tb (eDc src t c fk fv vs) σ H Q) :
    tDc (Ti K tb src) g (Tt K tb c) (T K tb fk) (T K tb fv) vs σ H Q := by
  obtain ⟨φ, ψ, ρ, m, d, mF, R, E, e, k⟩ := h
  obtain ⟨⟨it, m1⟩, e1, e⟩ := bnd e
  obtain ⟨xs, e2, e⟩ := bnd e
  obtain ⟨⟨accF, m9⟩, e3, e⟩ := bnd e
  cases e
  refine ⟨φ, ψ, ρ, m, it, m1, R, E, e1, fun φ1 H1 J P1 R1 IR A hA => ?_⟩
  have nAS : A ∉ ψ := R1.freshS hA
  let Z : Nat → Hp → Prop := fun i H2 => ∃ φ2 m2 acc accV, Post φ1 ψ H1 φ2 (A :: ψ) H2 ∧ Rel K tb φ2 (A :: ψ) H2 m2 ∧ H2 A = some (.dK accV) ∧ PR K φ2 (A :: ψ) H2 acc accV ∧ dcL it xs t c fk fv (wipeD ρ vs) (xs.drop i) acc m2 = some (accF, m9)
  refine ⟨fun i n H2 => n = xs.length - i ∧ i ≤ xs.length ∧ Z i H2, ⟨xs.length, by simp, Nat.zero_le _, φ1, m1, [], [], Post.nw hA, R1.nw hA, upd_same, ⟨rfl, .nil⟩, by simpa using e3⟩, ?_⟩
  rintro i n H2 ⟨rfl, hi2, φ2, m2, acc, accV, P2, R2, hA2, rA, ef⟩
  by_cases hlt : i < xs.length
  · rw [List.drop_eq_getElem_cons hlt] at ef
    unfold dcL at ef
    split at ef
    · rename_i hx
      obtain ⟨ρ3, e3', ef⟩ := bnd ef
      obtain ⟨⟨b4, m4⟩, e4, ef⟩ := bnd ef
      obtain ⟨hgo, hy⟩ := (IR φ2 (A :: ψ) H2 m2 xs P2 R2 hx).1 i xs[i] (List.getElem?_eq_getElem hlt)
      refine .inr ⟨hgo, fun H' => i + 1 ≤ xs.length ∧ Z (i + 1) H', fun H' q => ⟨xs.length - (i + 1), by omega, rfl, q⟩, fun x H3 y => ?_⟩
      obtain ⟨P3, R3, V3, same⟩ := hy x H3 y
      have hA3 : H3 A = some (.dK accV) := same A _ hA2
      have rA3 : PR K φ2 (A :: ψ) H3 acc accV := ⟨rA.1, rA.2.mono P3 R2⟩
      have E3 : RE K φ2 (A :: ψ) H3 (wipeD ρ vs) (wipe σ vs) := (E.mono (P1.trans (P2.trans P3)) R).wipe vs
      have st := ht φ2 (A :: ψ) H3 m2 (wipeD ρ vs) (wipe σ vs) _ x ρ3 (fun σ3 H3' => Tt K tb c σ3 H3' fun b H4 => if b = true then T K tb fk σ3 H4 fun y H5 => T K tb fv σ3 H5 fun z H6 => ∃ kvs k, y = kV k ∧ H6 A = some (.dK kvs) ∧ kvs.length < sizeLine ∧ (fun H' => i + 1 ≤ xs.length ∧ Z (i + 1) H') (upd H6 A (.dK (putK kvs k z))) else (fun H' => i + 1 ≤ xs.length ∧ Z (i + 1) H') H4) R3 E3 V3 e3' fun σ3 E3' => ?_
      · have st2 := hw _ _ _ _ st
        simp only [wipe_wipe] at st2
        exact st2
      · refine ⟨φ2, A :: ψ, ρ3, m2, b4, m4, R3, E3', e4, fun φ4 H4 P4 R4 => ?_⟩
        have hA4 : H4 A = some (.dK accV) := (P4.frm A _ (R3.ap A List.mem_cons_self) hA3 fun _ z => nomatch z).own List.mem_cons_self
        have rA4 : PR K φ4 (A :: ψ) H4 acc accV := ⟨rA3.1, rA3.2.mono P4 R3⟩
        have P14 := P2.trans (P3.trans P4)
        cases b4 with
        | false => exact iteF ⟨hlt, φ4, m4, acc, accV, P14, R4, hA4, rA4, ef⟩
        | true =>
          obtain ⟨⟨w5, m5⟩, e5, ef⟩ := bnd ef
          obtain ⟨y5, ev, ef⟩ := bnd ef
          obtain ⟨ky, ek, ef⟩ := bnd ef
          obtain ⟨⟨w6, m6⟩, e6, ef⟩ := bnd ef
          obtain ⟨z6, ez, ef⟩ := bnd ef
          split at ef
          · rename_i hl
            refine iteT ⟨φ4, A :: ψ, ρ3, m4, w5, m5, R4, E3'.mono P4 R3, e5, fun φ5 ψ5 H5 v P5 R5 V5 => ?_⟩
            have R5' := V5.rel R5
            have P5' := V5.post P5
            have hA5 : H5 A = some (.dK accV) := (P5'.frm A _ (R4.ap A List.mem_cons_self) hA4 fun _ z => nomatch z).own List.mem_cons_self
            have rA5 : PR K φ5 (A :: ψ) H5 acc accV := ⟨rA4.1, rA4.2.mono P5' R4⟩
            have y5' := vl_rep (V5.s R5) ev
            refine ⟨φ5, A :: ψ, ρ3, m5, w6, m6, R5', E3'.mono (P4.trans P5') R3, e6, fun φ6 ψ6 H6 u P6 R6 V6 => ?_⟩
            have R6' := V6.rel R6
            have P6' := V6.post P6
            have hA6 : H6 A = some (.dK accV) := (P6'.frm A _ (R5'.ap A List.mem_cons_self) hA5 fun _ z => nomatch z).own List.mem_cons_self
            have rA6 : PR K φ6 (A :: ψ) H6 acc accV := ⟨rA5.1, rA5.2.mono P6' R5'⟩
            have z6' := vl_rep (V6.s R6) ez
            have pp := rA6.put (k := ky) z6'
            exact ⟨accV, ky, keyOf_v (.inl y5') ek, hA6, smallT (by rw [← rA6.len]; exact hl), hlt, φ6, m6, putX acc ky z6, putK accV ky u, Post.sdw List.mem_cons_self (R6'.ap A List.mem_cons_self) (R6'.sd A List.mem_cons_self) (P14.trans (P5'.trans P6')) hA, R6'.sdk List.mem_cons_self hA6, upd_same, ⟨pp.1, pp.2.sdk List.mem_cons_self hA6⟩, ef⟩
          · cases ef
    · cases ef
  · rw [List.drop_of_length_le (by omega)] at ef
    unfold dcL at ef
    split at ef
    · rename_i hx
      cases ef
      refine .inl ⟨(IR φ2 (A :: ψ) H2 _ xs P2 R2 hx).2 i (by omega), ?_⟩
      exact k φ2 (A :: ψ) H2 _ (P1.trans P2) R2 ⟨A, .dk accF, rfl, rfl, nAS, rfl, accV, hA2, rA.1, rA.2⟩
    · cases ef
section
variable {K : FRG} {tb φ φ' ψ ψ' : List Addr} {H H' : Hp} {m : Mem}
theorem Rel.perm (h : ∀ a, a ∈ ψ' ↔ a ∈ ψ) (R : Rel K tb φ ψ H m) : Rel K tb φ ψ' H m :=
  ⟨R.len, R.nd, fun n mo a e1 e2 => (R.obj n mo a e1 e2).fewer fun b h1 h2 => ⟨h1, fun z => h2 ((h b).mp z)⟩, R.tab, fun q hq => R.sd q ((h q).mp hq), fun q hq => R.ap q ((h q).mp hq), R.lam⟩
theorem Post.perm (h : ∀ a, a ∈ ψ' → a ∈ ψ) (h' : ∀ a, a ∈ ψ → a ∈ ψ') {φ0 ψ0 : List Addr} {H0 : Hp} (P : Post φ0 ψ0 H0 φ ψ H) : Post φ0 ψ0 H0 φ ψ' H := ⟨P.pre, P.new, fun a z => P.side a (h a z), P.frm, P.kp, fun a z => h' a (P.sub a z)⟩
theorem Rel.own' {p : Addr} {mo : MO} (R : Rel K tb φ (p :: ψ) H m) (hp : p ∉ ψ) (q : ObjR K (φ ++ [p]) ψ H p mo) : Rel K tb (φ ++ [p]) ψ H (m ++ [mo]) := by
  have np := R.ap p List.mem_cons_self
  refine ⟨by simp [R.len], nodup_snoc R.nd np, fun n mo' a e1 e2 => ?_, R.tab, fun q hq => R.sd q (List.mem_cons_of_mem _ hq), fun q hq z => ?_, R.lam⟩
  · rcases Nat.lt_trichotomy n m.length with hn | hn | hn
    · rw [List.getElem?_append_left hn] at e1
      rw [List.getElem?_append_left (by rw [R.len]; exact hn)] at e2
      exact (R.obj n mo' a e1 e2).fewer own_off fun _ k hk i hi => List.getElem?_append_left (by have := (List.getElem?_eq_some_iff.mp hk).1; omega)
    · subst hn
      rw [List.getElem?_append_right (Nat.le_refl _), Nat.sub_self] at e1
      rw [← R.len, List.getElem?_append_right (Nat.le_refl _), Nat.sub_self] at e2
      have e1' : mo = mo' := Option.some.inj e1
      have e2' : p = a := Option.some.inj e2
      rw [← e1', ← e2']; exact q
    · rw [List.getElem?_eq_none (by simp; omega)] at e1; cases e1
  · rcases List.mem_append.mp z with z | z
    · exact R.ap q (List.mem_cons_of_mem _ hq) z
    · rw [List.mem_singleton.mp z] at hq; exact hp hq
end
def eIxR (a b : Ex) : Ex := fun ρ m => (a ρ m).bind fun p => (b ρ p.2).bind fun q => (gt q.1 q.2).bind fun y => match p.1, y with
  | .r n, .int i => match q.2[n]? with
    | some (.rl b k) => (ixN k i).bind fun j => some (.r (b + j), q.2)
    | _ => none
  | _, _ => none
theorem ex_ixR {X : Cx} {tb : List Addr} {pos : Pos} {a b : Expr} {fa fb : Ex} (ha : PE X a (T X.K tb fa)) (hb : PE X b (T X.K tb fb)) (hs : PlainIx b := by exact fun _ _ => rfl) : PE X (.Subscript a b pos) (T X.K tb (eIxR fa fb)) := by
  refine pe_mono (pe_ix ix_list ha hb hs) fun σ H Q ⟨φ, ψ, ρ, m, w, m', R, E, e, k⟩ => ?_
  obtain ⟨⟨w1, m1⟩, e1, e⟩ := bnd e
  obtain ⟨⟨w2, m2⟩, e2, e⟩ := bnd e
  obtain ⟨y, ey, e⟩ := bnd e
  split at e
  · rename_i n i hn
    split at e
    · rename_i b k' hm
      obtain ⟨j, ej, e⟩ := bnd e
      cases e
      refine ⟨φ, ψ, ρ, m, w1, m1, R, E, e1, fun φ1 ψ1 H1 xv P1 R1 V1 => ⟨φ1, ψ, ρ, m1, w2, _, V1.rel R1, E.mono (V1.post P1) R, e2, fun φ2 ψ2 H2 yv P2 R2 V2 => ?_⟩⟩
      have R2' := V2.rel R2
      have P2' := V2.post P2
      have S1 := (V1.s R1).mono P2' (V1.rel R1)
      have hn' : w1 = .r n := hn
      subst hn'
      obtain ⟨c, hc, rfl⟩ := S1
      have hy := (gt_c R2' (V2.s R2) ey).int
      subst hy
      obtain ⟨o1, o2⟩ := R2'.obj n _ c hm hc
      have hlen := (List.getElem?_eq_some_iff.mp o2).1
      have hj : j < k' := by
        unfold ixN at ej
        split at ej
        · split at ej
          · cases ej; omega
          · cases ej
        · split at ej
          · cases ej; omega
          · cases ej
      have hjl : b + j < φ2.length := by omega
      have eg : φ2[b + j]? = some φ2[b + j] := List.getElem?_eq_getElem hjl
      refine ⟨c, _, i, .ref φ2[b + j], rfl, rfl, SqL.of o1, ?_, k φ2 ψ H2 _ ((V1.post P1).trans P2') R2' ⟨rfl, _, eg, rfl⟩⟩
      unfold atI
      rw [List.length_map, List.length_range, ej]
      simp only [Option.bind_some]
      rw [List.getElem?_map, List.getElem?_range hj]
      simp only [Option.map_some]
      rw [List.getD_eq_getElem?_getD, eg]; rfl
    · cases e
  · cases e
end Pw
end
section
set_option Elab.async false
set_option linter.all false
set_option maxRecDepth 100000
set_option maxHeartbeats 2000000
namespace Pw
open PySem PySem.Spec PyProof.Rows L2 Pv
section
variable {X : Cx} {tb : List Addr}
theorem ex_dc {kx vx tg iter : Expr} {ifs : List Expr} {scope : Scope} {own : List (Str × Nat)} {pos : Pos} {src : Ix} {g : TG} {t : Gx} {c : Tx} {fk fv : Ex} (hc : X.calm = true) (hN : X.N.Nodup) (htg : TgS X.K tb g t) (hw : TgW g (own.map (·.2)))
    (hi : PI X tg iter (Ti X.K tb src)) (ok : BlkOk X.N X.env.scope scope own)
    (hg : ∀ (s : Shared) (H : Hp) (C : Addr) (cl : List (Str × Addr)) (fp : List Addr), PG (X.blk s H scope (compEnvC scope cl C X.env) fp) tg g) (ht : ∀ (s : Shared) (H : Hp) (C : Addr) (cl : List (Str × Addr)) (fp : List Addr), PTs (X.blk s H scope (compEnvC scope cl C X.env) fp) ifs (Tt X.K tb c))
    (hk : ∀ (s : Shared) (H : Hp) (C : Addr) (cl : List (Str × Addr)) (fp : List Addr), PE (X.blk s H scope (compEnvC scope cl C X.env) fp) kx (T X.K tb fk))
    (he : ∀ (s : Shared) (H : Hp) (C : Addr) (cl : List (Str × Addr)) (fp : List Addr), PE (X.blk s H scope (compEnvC scope cl C X.env) fp) vx (T X.K tb fv)) (hs : ∀ x, foldedSetIterable iter X.env x = pure x := by intro _; rfl) :
    PE X (.DictComp kx vx [⟨tg, iter, ifs, 0⟩] scope pos) (T X.K tb (eDc src t c fk fv (own.map (·.2)))) :=
  pe_mono (pe_dc hc hN hi ok hg ht hk he hs) fun _ _ _ h => dc_go htg hw h
end
end Pw
end
section
set_option Elab.async false
set_option linter.all false
set_option maxRecDepth 100000
set_option maxHeartbeats 2000000
namespace Pw
open PySem PySem.Spec PyProof.Rows L2 Pv
theorem RepCs.len {K : FRG} {φ ψ : List Addr} {H : Hp} : ∀ {ds : List D} {vs : List V}, RepCs K φ ψ H ds vs → ds.length = vs.length
  | _, _, .nil => rfl
  | _, _, .cons _ r => by simp [RepCs.len r]
end Pw
end
section
set_option Elab.async false
set_option linter.all false
set_option maxRecDepth 100000
set_option maxHeartbeats 1000000
namespace Gn
open PySem PySem.Spec PyProof.Rows L2
structure Ar (X : Cx) (A1 : Around) : Prop where
  hd : A1.handled = X.A.handled
  fr : A1.frames = X.A.frames
  gd : A1.guards = X.A.guards
  dp : A1.depth = X.A.depth
  un : A1.units ≤ X.A.units + 4
theorem Ar.guards {X : Cx} {A1 : Around} {G1 : Expr} {cl : List Comprehension} {sc : Scope} {gpos : Pos} {it : Value} {cenv : PySem.Env} (h : Ar X A1) (r : X.A.guards = some []) : (A1.over (.compLoop (.GeneratorExp G1 cl sc gpos) 0 it .none cenv) []).guards = some [] := by
  have e : (A1.over (.compLoop (.GeneratorExp G1 cl sc gpos) 0 it .none cenv) []).guards = A1.guards := rfl
  rw [e, h.gd, r]
end Gn
end
section
set_option Elab.async false
set_option linter.all false
set_option maxRecDepth 100000
set_option maxHeartbeats 1000000
namespace Gn
open PySem PySem.Spec PyProof.Rows L2
theorem Inv.same {X : Cx} {pins : List (Addr × Obj)} {σ : L2.St} {H : Hp} {s s' : Shared} (I : Inv X pins σ H s) (ho : s'.os = s.os) (hb : AllBare s'.gens) (hh : s'.heap = s.heap) : Inv X pins σ H s' :=
  ⟨I.ok, ho.trans I.os, hb, by rw [hh]; exact I.base, by rw [hh]; exact I.loc, by rw [hh]; exact I.cell, I.free, I.freeC, by rw [hh]; exact I.pin, by rw [hh]; exact I.hok, I.len⟩
end Gn
end
section
set_option Elab.async false
set_option linter.all false
set_option maxRecDepth 100000
set_option maxHeartbeats 2000000
namespace Pw
open PySem PySem.Spec PyProof.Rows L2
end Pw
end
section
set_option Elab.async false
set_option linter.all false
set_option maxRecDepth 100000
set_option maxHeartbeats 2000000
namespace Pw
open PySem PySem.Spec PyProof.Rows L2 Pv
end Pw
end
section
set_option Elab.async false
set_option linter.all false
set_option maxRecDepth 100000
set_option maxHeartbeats 2000000
namespace Pv
open PySem PySem.Spec PyProof.Rows L2
end Pv
end
section
set_option Elab.async false
set_option linter.all false
set_option maxRecDepth 100000
set_option maxHeartbeats 2000000
namespace Pw
open PySem PySem.Spec PyProof.Rows L2 Pv
section
variable {X : Cx} {tb : List Addr}
end
end Pw
end
section
set_option Elab.async false
set_option linter.all false
set_option maxRecDepth 100000
set_option maxHeartbeats 2000000
namespace Pw
open PySem PySem.Spec PyProof.Rows L2 Pv
def tyS : D → Option String
  | .non => some "NoneType"
  | .bl _ => some "bool"
  | .int _ => some "int"
  | .str _ => some "str"
  | .tup _ => some "tuple"
  | .tx _ => some "tuple"
  | .fl _ => some "list"
  | .lst _ => some "list"
  | .dk _ => some "dict"
  | .dt _ => some "dict"
  | .rl _ _ => some "list"
inductive Ty where
  | int | bool | str | tuple | list | dict
def Ty.name : Ty → String
  | .int => "int"
  | .bool => "bool"
  | .str => "str"
  | .tuple => "tuple"
  | .list => "list"
  | .dict => "dict"
def isD : Ty → D → Bool
  | .int, .bl _ => true
  | .int, .int _ => true
  | .bool, .bl _ => true
  | .str, .str _ => true
  | .tuple, .tup _ => true
  | .tuple, .tx _ => true
  | .list, .fl _ => true
  | .list, .lst _ => true
  | .list, .rl _ _ => true
  | .dict, .dk _ => true
  | .dict, .dt _ => true
  | _, _ => false
theorem kit_is (t : Ty) (d : D) {a : String} (h : tyS d = some a) : kitB a t.name = some (isD t d) := by
  cases t <;> cases d <;> (cases h; first | (refine (?_ : kitB _ _ = some true); decide +kernel) | (refine (?_ : kitB _ _ = some false); decide +kernel))
section
variable {X : Cx} {tb : List Addr}
theorem tyx_tup {K : FRG} {H : Hp} {a : Addr} {vs : List V} (h : SqT K H a vs) : TyX K H (.ref a) (.type "tuple") := by
  rcases h with (h | ⟨o, h⟩) | ⟨o, its, n, h1, h2, _⟩
  · exact .base (.tup h)
  · exact .fTuple h
  · exact .kTuple h1 h2
theorem tyx_fz {K : FRG} {H : Hp} {a : Addr} {vs : List V} (h : Fz K H a vs) : TyX K H (.ref a) (.type "list") := by
  rcases h with ⟨o, h⟩ | ⟨o, its, n, h1, h2, _⟩
  · exact .base (.frz h)
  · exact .kList h1 h2
theorem tyx_rep {K : FRG} {φ ψ : List Addr} {H : Hp} {d : D} {v : V} (h : Rep K φ ψ H d v) : ∃ a, tyS d = some a ∧ TyX K H v (.type a) := by
  cases h with
  | non => exact ⟨_, rfl, .base .non⟩
  | bl b => exact ⟨_, rfl, .base (.bl b)⟩
  | int i => exact ⟨_, rfl, .base (.int i)⟩
  | str x => exact ⟨_, rfl, .base (.str x)⟩
  | tup h _ => exact ⟨_, rfl, tyx_tup h.1⟩
  | tx h _ => exact ⟨_, rfl, tyx_tup h.sq⟩
  | fl h _ => exact ⟨_, rfl, tyx_fz h⟩
  | lst _ _ h _ => exact ⟨_, rfl, .base (.lst h)⟩
  | dk _ _ h _ _ => exact ⟨_, rfl, by rcases h with h | ⟨o, h⟩ <;> first | exact .base (.dK h) | exact .fDict h⟩
  | dt _ _ h _ _ => exact ⟨_, rfl, .base (.dT h)⟩
theorem tyx_c {K : FRG} {φ ψ : List Addr} {H : Hp} {d : D} {v : V} (h : RepC K φ ψ H d v) : ∃ a, tyS d = some a ∧ TyX K H v (.type a) := by
  rcases h with h | ⟨a, mo, rfl, rfl, q⟩
  · exact tyx_rep h
  · cases mo with
    | lst ds => obtain ⟨vs, q1, _⟩ := q; exact ⟨_, rfl, .base (.lst q1)⟩
    | dk kvs => obtain ⟨vs, q1, _⟩ := q; exact ⟨_, rfl, .base (.dK q1)⟩
    | dt kvs => obtain ⟨vs, q1, _⟩ := q; exact ⟨_, rfl, .base (.dT q1)⟩
    | rl b k => exact ⟨_, rfl, .base (.lst q.1)⟩
def eIs (t : Ty) (a : Ex) : Ex := fun ρ m => (a ρ m).bind fun p => (gt p.1 p.2).bind fun d => some (.v (.bl (isD t d)), p.2)
theorem ex_isi (t : Ty) {e : Expr} {fa : Ex} {x : Str} {p q pos : Pos} (hg : Gl X "isinstance") (hm : X.mg "isinstance" = none) (hgT : Gl X x) (hmT : X.mg x = none) (hvT : bootBuiltins x = some (.type t.name)) (ha : PE X e (T X.K tb fa)) (hn : x ≠ "__name__" := by decide) (hd : (x == ("__debug__" : Str)) = false := by decide)
    (h1 : starEach [e, .Name x q] X.env = (false, eval e X.env) :: starEach [.Name x q] X.env := by rfl) (h2 : starEach [.Name x q] X.env = (false, eval (.Name x q) X.env) :: starEach [] X.env := by rfl) (hpl : (backTo pos (starEach [.Name x q] X.env)).any (·.1) = false := by rfl) :
    PE X (.Call (.Name "isinstance" p) [e, .Name x q] [] pos) (T X.K tb (eIs t fa)) := by
  refine pe_mono (pe_callB call_isi hg hm PyProof.Rows.boot_isinstance (pa_cons ha (pa_cons (pe_bltn (v := .ty t.name) hgT hmT hvT rfl hn hd) pa_nil h2) h1) (by decide) (by decide) h1 hpl) fun σ H Q ⟨φ, ψ, ρ, m, w, m', R, E, e, k⟩ => ?_
  obtain ⟨⟨w1, m1⟩, e1, e⟩ := bnd e
  obtain ⟨d, eg, e⟩ := bnd e
  cases e
  refine ⟨φ, ψ, ρ, m, w1, _, R, E, e1, fun φ1 ψ1 H1 v P1 R1 V1 => ?_⟩
  have R1' := V1.rel R1
  obtain ⟨a, ea, ty⟩ := tyx_c (gt_c R1' (V1.s R1) eg)
  exact ⟨v, .ty t.name, .type a, .type t.name, _, rfl, .ty _, ty, kit_ty (kit_is t d ea), k φ1 ψ H1 _ (V1.post P1) R1' ⟨rfl, .bl _⟩⟩
end
end Pw
end
section
set_option Elab.async false
set_option linter.all false
set_option maxRecDepth 100000
set_option maxHeartbeats 2000000
namespace Pw
open PySem PySem.Spec PyProof.Rows L2 Pv
end Pw
end
section
set_option Elab.async false
set_option linter.all false
set_option maxRecDepth 100000
set_option maxHeartbeats 2000000
namespace Pw
open PySem PySem.Spec PyProof.Rows L2 Pv
section
variable {X : Cx} {tb : List Addr}
def isLA : W → Mem → Bool := fun w m => match gt w m with
  | some d => (itmL d).isSome
  | none => false
theorem isLA_ty {K : FRG} {φ ψ : List Addr} {H : Hp} {m : Mem} {w : W} {v : V} (R : Rel K tb φ ψ H m) (h : RepS K φ ψ H w v) (e : isLA w m = true) : tyV K "list" v H := by
  unfold isLA at e
  split at e
  · rename_i d hd
    obtain ⟨ds, hi⟩ := Option.isSome_iff_exists.mp e
    obtain ⟨l, vs, rfl, q, _⟩ := itmL_sq (gt_c R h hd) hi
    exact .inl ⟨rfl, _, q⟩
  · cases e
def idxD : W → List W → Mem → Option (W × Mem) := fun w ws m => match ws with
  | [a] => (gt w m).bind fun d => (itmL d).bind fun ds => (allI ds).bind fun is => (gt a m).bind fun x => match x with
    | .int i => (is.findIdx? fun j => j == i).bind fun k => some (.v (.int (k : Int)), m)
    | _ => none
  | _ => none
theorem idx_s : MtS X.K tb (rIndex X.K) idxD := fun φ ψ H m x vs w ws w' m' Q R h hs e k => by
  unfold idxD at e
  split at e
  · obtain ⟨d, e1, e⟩ := bnd e
    obtain ⟨ds, e2, e⟩ := bnd e
    obtain ⟨is, e3, e⟩ := bnd e
    obtain ⟨y, e4, e⟩ := bnd e
    split at e
    · rename_i i
      obtain ⟨j, e5, e⟩ := bnd e
      cases e
      cases hs with
      | cons ha r =>
        cases r
        obtain ⟨l, us, rfl, q, rs⟩ := itmL_sq (gt_c R h e1) e2
        obtain rfl := allI_rep rs e3
        have hv := (gt_c R ha e4).int
        subst hv
        obtain ⟨hj, hji, hjn⟩ := List.findIdx?_eq_some_iff_getElem.mp e5
        refine ⟨l, _, _, j, .int is[j], rfl, rfl, q, rfl, List.all_eq_true.mpr fun z hz => ?_, by rw [List.getElem?_map, List.getElem?_eq_getElem hj]; rfl, hji, fun n z hn hz => ?_, Go.val k R (.int _)⟩
        · obtain ⟨n, _, rfl⟩ := List.mem_map.mp hz; rfl
        · have hn' : n < is.length := by omega
          rw [List.getElem?_map, List.getElem?_eq_getElem hn'] at hz
          cases hz
          have := hjn n hn
          simpa [eqV] using this
    · cases e
  · cases e
theorem ex_index {o a : Expr} {fo : Ex} {f : Ax} {apos cpos : Pos} {es : List Expr} (ho : PE X o (T X.K tb fo)) (ha : PA X (a :: es) (Ta X.K tb f))
    (hbase : attributeBase o "index" X.env (eval o X.env) = eval o X.env := by rfl)
    (hfew : ((backTo cpos (starEach (a :: es) X.env)).all (fun x => !x.1) && (backToKw cpos (keywordEach [] X.env)).all (fun x => x.1.isSome)
      && decide ((a :: es).length + ([] : List Keyword).length + (if ([] : List Keyword).isEmpty then 0 else 1) < 30)) = true := by rfl)
    (hline : (apos.endLine == cpos.line) = true := by rfl) (hst : starEach (a :: es) X.env = (false, eval a X.env) :: starEach es X.env := by rfl) (hplain : (backTo cpos (starEach es X.env)).any (·.1) = false := by rfl) :
    PE X (.Call (.Attribute o "index" apos) (a :: es) [] cpos) (T X.K tb (eMt isLA idxD fo f)) :=
  ex_mt (fun φ ψ H m d v R h e => isLA_ty R h e) idx_s PySem.F.plainAttrs_list PySem.F.slot_list_index PySem.F.type_list_index mt_index ho ha hbase hfew hline hst hplain
end
end Pw
end
section
set_option Elab.async false
set_option linter.all false
set_option maxRecDepth 100000
set_option maxHeartbeats 2000000
namespace Pw
open PySem PySem.Spec PyProof.Rows L2 Pv
section
variable {X : Cx} {tb : List Addr}
end
end Pw
end
section
set_option Elab.async false
set_option linter.all false
set_option maxRecDepth 100000
set_option maxHeartbeats 2000000
namespace Pw
open PySem PySem.Spec PyProof.Rows L2 Pv
section
variable {X : Cx} {K : FRG} {tb : List Addr} {pos : Pos}
def popAtD : W → List W → Mem → Option (W × Mem)
  | .r n, [.v (.int i)], m => match m[n]? with
    | some (.lst ds) => if ds.length ≤ 1000000 then (ixN ds.length i).bind fun k => (ds[k]?).bind fun d => some (.v d, m.set n (.lst (ds.eraseIdx k))) else none
    | _ => none
  | _, _, _ => none
theorem Reps.erase {φ ψ : List Addr} {H : Hp} : ∀ {ds : List D} {vs : List V} (k : Nat), Reps K φ ψ H ds vs → Reps K φ ψ H (ds.eraseIdx k) (vs.eraseIdx k)
  | _, _, _, .nil => .nil
  | _, _, 0, .cons _ r => r
  | _, _, k + 1, .cons h r => .cons h (Reps.erase k r)
theorem popAt_s : MtS K tb rPopAt popAtD := fun φ ψ H m x vs w ws w' m' Q R hx r e k => by
  unfold popAtD at e
  split at e
  · split at e
    · rename_i ds hm
      split at e
      · rename_i hl
        obtain ⟨j, ej, e⟩ := bnd e
        obtain ⟨d, ed, e⟩ := bnd e
        cases e
        cases r with
        | cons h r =>
          cases r
          cases h
          obtain ⟨q, h1, rfl⟩ := hx
          obtain ⟨vs, hq, rl⟩ := R.obj _ _ q hm h1
          have hmem := List.mem_of_getElem? h1
          obtain ⟨v, ev, hv⟩ := rl.get ed
          obtain ⟨s1, s2, s3, s4⟩ := ixN_seq ej
          have P := Post.wr (ψ := ψ) (o := .lst (vs.eraseIdx j)) hmem (R.trk hmem)
          exact ⟨q, vs, _, j, v, rfl, rfl, hq, by omega, by omega, by rw [← rl.length]; exact s1, ev, k φ ψ _ _ P (R.wrL h1 (rl.erase j)) ⟨rfl, hv.mono P R⟩⟩
      · cases e
    · cases e
  · cases e
theorem ex_popAt {o a : Expr} {fo : Ex} {f : Ax} {apos cpos : Pos} {es : List Expr} (ho : PE X o (T X.K tb fo)) (ha : PA X (a :: es) (Ta X.K tb f))
    (hbase : attributeBase o "pop" X.env (eval o X.env) = eval o X.env := by rfl)
    (hfew : ((backTo cpos (starEach (a :: es) X.env)).all (fun x => !x.1) && (backToKw cpos (keywordEach [] X.env)).all (fun x => x.1.isSome)
      && decide ((a :: es).length + ([] : List Keyword).length + (if ([] : List Keyword).isEmpty then 0 else 1) < 30)) = true := by rfl)
    (hline : (apos.endLine == cpos.line) = true := by rfl) (hst : starEach (a :: es) X.env = (false, eval a X.env) :: starEach es X.env := by rfl) (hplain : (backTo cpos (starEach es X.env)).any (·.1) = false := by rfl) :
    PE X (.Call (.Attribute o "pop" apos) (a :: es) [] cpos) (T X.K tb (eMt isLst popAtD fo f)) :=
  ex_mt (fun φ ψ H m d v R h e => isLst_ty R h e) popAt_s PySem.F.plainAttrs_list PySem.F.slot_list_pop PySem.F.type_list_pop mt_popAt ho ha hbase hfew hline hst hplain
end
end Pw
end
section
set_option Elab.async false
set_option linter.all false
set_option maxRecDepth 100000
set_option maxHeartbeats 2000000
namespace Pv
open PySem PySem.Spec PyProof.Rows L2
section
variable {prog : Program} {w : World} {A : Around} {E : Value → Shared → Prop} {s : Shared}
abbrev gath (s : Shared) (vs : List Value) : Heap := Heap.update (s.heap.push (seqObj "list" #[] 0)) s.heap.objs.size (Obj.mapSeq (· ++ vs.toArray))
theorem collect_tup {l : Addr} {vs : List Value} {Q : List Value → Shared → Prop} (hl : IsTup s.heap l vs.toArray) (hsz : vs.length ≤ sizeLine) (h : Q vs { s with heap := gath s vs }) : wpAny (model prog w) A (collect (.ref l)) Q E s := by
  obtain ⟨o, ho, hc, n, hd⟩ := id hl
  have ho' : (s.heap.push (seqObj "list" #[] 0)).get? l = some o := Heap.get?_push_of_some _ ho
  unfold collect
  refine wpAny_bind (wpAny_runValue (codeAny_builtin entry_proto_collect' (?_ : wpAny _ _ (do again (.builtin "list.__iadd__" ⟨[← newList [], .ref l], []⟩)) _ _ s)))
  refine wpAny_bind (wpAny_newList (wpAny_pure ⟨Code.quiet_builtin _ (by decide +kernel), codeAny_builtin entry_list_iadd'
    (?_ : wpAny _ _ (Builtin.List.listExtendWith (.ref s.heap.objs.size) (.ref l) (.ref s.heap.objs.size)) _ _ { s with heap := s.heap.push (seqObj "list" #[] 0) })⟩))
  unfold Builtin.List.listExtendWith
  refine wpAny_bind (wpAny_typeOf (T := "tuple") ⟨o, ho', hc⟩ ?_)
  rw [if_pos (by simp)]
  refine wpAny_bind (listItems_at ho' hd (wpAny_bind (listItems_at (xs := #[]) (n := 0) (Heap.get?_push_size _ rfl) rfl ?_)))
  rw [if_neg (by simp)]
  refine wpAny_bind (listUpdate_at (n := 0) (xs := #[]) (Heap.get?_push_size _ rfl) rfl (wpAny_pure ?_) (Nat.zero_le _) (by
    show (#[] ++ vs.toArray).size ≤ sizeLine + 1
    rw [Array.size_append, List.size_toArray]
    simp
    omega))
  refine wpAny_bind (wpAny_load (get?_update_seq (Heap.get?_push_size _ rfl) _) ?_)
  show wpAny _ _ (pure ((#[] : Array Value) ++ vs.toArray).toList) Q E _
  have z : ((#[] : Array Value) ++ vs.toArray).toList = vs := by simp
  rw [z]
  exact wpAny_pure h
theorem gath_size (vs : List Value) : (gath s vs).objs.size = s.heap.objs.size + 1 := by
  show ((s.heap.push (seqObj "list" #[] 0)).update _ _).objs.size = _
  rw [Heap.size_update, size_push']
theorem gath_at (vs : List Value) : ((gath s vs).push (seqObj "list" vs.toArray 0)).get? (s.heap.objs.size + 1) = some (seqObj "list" vs.toArray 0) := by
  rw [← gath_size vs]; exact Heap.get?_push_size _ rfl
theorem gath_keep (vs : List Value) : Kps s.heap ((gath s vs).push (seqObj "list" vs.toArray 0)) := fun b u e => by
  have lt : b < s.heap.objs.size := Heap.lt_size e
  refine Heap.get?_push_of_some _ (?_ : ((s.heap.push (seqObj "list" #[] 0)).update _ _).get? b = some u)
  rw [Heap.get?_update_ne _ _ _ _ (Nat.ne_of_lt lt)]
  exact Heap.get?_push_of_some _ e
theorem gath_sorted (vs : List Value) (out : Array Value) : Kps s.heap (sortedHeap ((gath s vs).push (seqObj "list" vs.toArray 0)) (s.heap.objs.size + 1) vs out) := fun b u e => by
  have lt : b < s.heap.objs.size := Heap.lt_size e
  rw [sortedHeap_old (Nat.ne_of_lt (Nat.lt_succ_of_lt lt)) (by rw [size_push', gath_size]; exact Nat.lt_succ_of_lt (Nat.lt_succ_of_lt lt))]
  exact gath_keep vs b u e
end
section
variable {X : Cx}
def rSortTI (K : PySem.W.Frag) : List V → Hp → VK → Prop := fun vs H Q => ∃ (a : Addr) (is : List Int), vs = [V.ref a] ∧ SqT K H a (is.map V.int) ∧
  ∀ (js : List Int) (p : Addr), js.Perm is → js.Pairwise (· ≤ ·) → H p = none → Q (.ref p) (upd H p (.lst (js.map V.int)))
theorem cr_sortTI : CallR X (.builtin "sorted") (rSortTI X.K) := by
  intro pins s σ H vs us Q I r h
  obtain ⟨a, is, rfl, hs, q⟩ := h
  rw [Vals.ref1 r]
  obtain ⟨its, rv, pl, hz⟩ := I.tuple hs
  have hi := rv.ints
  have hl := rv.length
  rw [List.length_map] at hl hz
  refine Calls.call_function_entry kind_sorted plain_sorted entry_sorted (args_sorted1 _) ?_
  unfold Builtin.«sorted»
  refine wpAny_bind (m := checkCount "sorted" 1 1 _) (wpAny_pure (wpAny_bind (collect_tup pl (by omega) (wpAny_bind (wpAny_newList ?_ (by omega))))))
  show wpAny _ _ _ _ _ { s with heap := (gath s its).push (seqObj "list" its.toArray 0) }
  rw [gath_size]
  refine wpAny_bind (wpAny_holding (wpAny_call_entry slot_list_sort ⟨_, gath_at its, rfl⟩ entry_list_sort
    (SrtO.list_sort_ord (s := { s with heap := (gath s its).push (seqObj "list" its.toArray 0) }) SrtO.swo_int (gath_at its) (by omega) (fun h2 => SrtO.ints_sortable hi h2) fun out h1 h2 => ⟨.none, rfl, ?_⟩) (args_list_sort _)))
  obtain ⟨k1, k2, k3⟩ := SrtO.ints_out hi h1 h2
  obtain ⟨ep, he'⟩ := sortedHeap_at (vs := its) (out := out.toArray) (gath_at its)
  exact wpAny_pure ⟨_, rfl, .ref _, upd H (s.heap.objs.size + 1) (.lst ((out.map SrtO.iv).map V.int)), I.laid (t' := s.toks) (gath_sorted its out.toArray) (Nat.le_succ _) ⟨by rw [List.length_map, k2.length_eq]; omega, out, ep, vals_of_ints k1, he'⟩, rfl, q _ _ k2 k3 (I.hok.fresh (Nat.le_succ _))⟩
def rSortTM (K : PySem.W.Frag) : List V → Hp → VK → Prop := fun vs H Q => ∃ (a : Addr) (L : List Ent) (sh : List Bool), vs = [V.ref a] ∧ SqT K H a (L.map fun e => V.ref e.1) ∧ (∀ e ∈ L, SqT K H e.1 (e.2.map kV)) ∧ sh ≠ [] ∧ (∀ e ∈ L, e.2.map Sum.isRight = sh) ∧
  ∀ (L' : List Ent) (p : Addr), L'.Perm L → L'.Pairwise (fun e f => kLt f.2 e.2 = false) → H p = none → Q (.ref p) (upd H p (.lst (L'.map fun e => V.ref e.1)))
theorem cr_sortTM : CallR X (.builtin "sorted") (rSortTM X.K) := by
  intro pins s σ H vs us Q I r h
  obtain ⟨a, L, sh, rfl, hl, hk, hne, hs, q⟩ := h
  rw [Vals.ref1 r]
  obtain ⟨its, rv, pl, hz⟩ := I.tuple hl
  obtain rfl := refs_mix rv
  rw [List.length_map] at hz
  refine Calls.call_function_entry kind_sorted plain_sorted entry_sorted (args_sorted1 _) ?_
  unfold Builtin.«sorted»
  refine wpAny_bind (m := checkCount "sorted" 1 1 _) (wpAny_pure (wpAny_bind (collect_tup pl (by rw [List.length_map]; exact hz) (wpAny_bind (wpAny_newList ?_ (by rw [List.length_map]; exact hz))))))
  show wpAny _ _ _ _ _ { s with heap := (gath s (L.map refE)).push (seqObj "list" (L.map refE).toArray 0) }
  rw [gath_size]
  refine wpAny_bind (wpAny_holding (wpAny_call_entry slot_list_sort ⟨_, gath_at (L.map refE), rfl⟩ entry_list_sort
    (sort_mix (P := X.prog) (w := X.w) (s := { s with heap := (gath s (L.map refE)).push (seqObj "list" (L.map refE).toArray 0) }) (gath_at (L.map refE)) (fun e he => mix_keep (inv_mix I (hk e he)) (gath_keep (L.map refE))) hs hne hz fun L' p2 pw => ⟨.none, rfl, ?_⟩) (args_list_sort _)))
  obtain ⟨c, hc'⟩ := sortedHeap_at (vs := L.map refE) (out := (L'.map refE).toArray) (gath_at (L.map refE))
  exact wpAny_pure ⟨_, rfl, .ref _, upd H (s.heap.objs.size + 1) (.lst (L'.map fun e => V.ref e.1)), I.laid (t' := s.toks) (gath_sorted (L.map refE) (L'.map refE).toArray) (Nat.le_succ _) ⟨by rw [List.length_map, p2.length_eq]; exact hz, L'.map refE, c, vals_mix L', hc'⟩, rfl, q L' _ p2 pw (I.hok.fresh (Nat.le_succ _))⟩
theorem cr_sortB : CallR X (.builtin "sorted") (fun vs H Q => (rSortedI X.K vs H Q ∨ rSortLM X.K vs H Q) ∨ (rSortTI X.K vs H Q ∨ rSortTM X.K vs H Q)) := fun pins s σ H vs us Q I r h =>
  h.elim (fun h => cr_sortA pins s σ H vs us Q I r h) fun h => h.elim (fun h => cr_sortTI pins s σ H vs us Q I r h) fun h => cr_sortTM pins s σ H vs us Q I r h
end
end Pv
end
section
set_option Elab.async false
set_option linter.all false
set_option maxRecDepth 100000
set_option maxHeartbeats 2000000
namespace Pw
open PySem PySem.Spec PyProof.Rows L2 Pv
def sortBD : List D → Option W
  | [.tup ds] => match allI ds with
    | some is => if is.length ≤ 1000000 then some (.f (.lst ((sortM iLt is).map .int))) else none
    | none => (allT ds).bind fun ks => if ks.length ≤ 1000000 ∧ oneSh ks = true then some (.f (.lst ((sortM kLt ks).map tD))) else none
  | xs => sortedD xs
theorem sortB_s {K : FRG} {tb : List Addr} : CallS K tb (fun vs H Q => (rSortedI K vs H Q ∨ rSortLM K vs H Q) ∨ (rSortTI K vs H Q ∨ rSortTM K vs H Q)) sortBD := fun φ ψ H m vs ds w Q R r e k => by
  unfold sortBD at e
  split at e
  · rename_i xs
    right
    cases r with
    | cons hx r =>
      cases r
      obtain ⟨l, us, rfl, hq, rs⟩ := hx.tup
      cases hI : allI xs with
      | some is =>
        rw [hI] at e
        dsimp only at e
        split at e
        · cases e
          obtain rfl := allI_rep rs hI
          left
          refine ⟨l, is, rfl, hq, fun ns p h1 h2 hp => ?_⟩
          have en : ns = sortM iLt is := sortedM_uniq lin_i (h2.imp fun {x y} h => by simp only [iLt, decide_eq_false_iff_not]; omega) (sortM_sorted lin_i is) (h1.trans (sortM_perm is).symm)
          rw [en]
          exact Go.lst k R (reps_ints _) hp
        · cases e
      | none =>
        rw [hI] at e
        dsimp only at e
        obtain ⟨ks, e7, e⟩ := bnd e
        split at e
        · rename_i hb
          obtain ⟨hb, ho⟩ := hb
          cases e
          obtain ⟨es, rfl, rfl, hs⟩ := allT_rep rs e7
          right
          obtain ⟨sh', hne, hsh⟩ := shape ho (fun e he => he)
          refine ⟨l, es, sh', rfl, hq, fun e he => (hs e he).1, hne, hsh, fun L' p p1 pw hp => ?_⟩
          have en : L'.map (·.2) = sortM kLt (es.map (·.2)) := sortedM_uniq lin_k (List.pairwise_map.mpr pw) (sortM_sorted lin_k _) ((p1.map (·.2)).trans (sortM_perm _).symm)
          have ed : (sortM kLt (es.map (·.2))).map tD = L'.map fun e => tD e.2 := by rw [← en, List.map_map]; rfl
          rw [ed] at k
          exact Go.lst k R (reps_ents L' fun e he => hs e (p1.mem_iff.mp he)) hp
        · cases e
  · exact .inl (sorted_s φ ψ H m vs ds w Q R r e k)
end Pw
end
section
set_option Elab.async false
set_option linter.all false
set_option maxRecDepth 100000
set_option maxHeartbeats 2000000
namespace Pw
open PySem PySem.Spec PyProof.Rows L2 Pv
def gTL (gs : List Gx) : Gx := fun d ρ => match d with
  | .tup ds => gL gs ds ρ
  | .lst ds => gL gs ds ρ
  | .fl ds => gL gs ds ρ
  | _ => none
abbrev gTorL (K : FRG) (n : Nat) (gs : TGs) : TG := fun v σ H Q => gTup K n gs v σ H Q ∨ gUnl K n gs v σ H Q
theorem tg_tl {K : FRG} {tb : List Addr} {gs : TGs} {ts : List Gx} {n : Nat} (hn : ts.length = n) (h : TgsS K tb gs ts) : TgS K tb (gTorL K n gs) (gTL ts) := fun φ ψ H m ρ σ d v ρ' Q R E V e k => by
  cases V with
  | tup hq r => exact .inl ⟨_, _, rfl, hq.1, by rw [← r.length, gL_len e]; exact hn, h φ ψ H m ρ σ _ _ ρ' Q R E r e k⟩
  | fl hq r => exact .inr ⟨_, _, rfl, hq.sq, by rw [← r.length, gL_len e]; exact hn, h φ ψ H m ρ σ _ _ ρ' Q R E r e k⟩
  | lst h1 h2 hq r => exact .inr ⟨_, _, rfl, SqL.of hq, by rw [← r.length, gL_len e]; exact hn, h φ ψ H m ρ σ _ _ ρ' Q R E r e k⟩
  | _ => cases e
theorem pg_tl {X : Cx} {pos : Pos} {es : List Expr} {k : Nat} {t : TGs} {n : Nat} (hc : X.calm = true) (h : PGs X es t)
    (hn : (assignEach es X.env).length = n := by rfl) (hst : (assignEach es X.env).findIdx? (·.1) = none := by rfl) : PG X (.Tuple es k pos) (gTorL X.K n t) :=
  ⟨fun pins s σ H v u Q I r hw => hw.elim (fun hw => (pg_tup hc h hn hst).run pins s σ H v u Q I r hw) fun hw => (pg_unl hc h hn hst).run pins s σ H v u Q I r hw⟩
end Pw
end
section
set_option Elab.async false
set_option linter.all false
set_option maxRecDepth 100000
set_option maxHeartbeats 2000000
namespace Pw
open PySem PySem.Spec PyProof.Rows L2 Pv
section
variable {X : Cx} {K : FRG} {tb : List Addr} {pos : Pos}
end
end Pw
end
section
set_option Elab.async false
set_option linter.all false
set_option maxRecDepth 100000
set_option maxHeartbeats 2000000
namespace Pv
open PySem PySem.Spec PyProof.Rows L2
def iLex : List Int → List Int → Bool
  | [], [] => false
  | [], _ :: _ => true
  | _ :: _, [] => false
  | x :: xs, y :: ys => if x = y then iLex xs ys else decide (x < y)
end Pv
end
section
set_option Elab.async false
set_option linter.all false
set_option maxRecDepth 100000
set_option maxHeartbeats 400000
namespace Pv
open PySem PySem.Spec PyProof.Rows L2
abbrev PK := List Int × Int
theorem iLex_irr : ∀ xs : List Int, iLex xs xs = false
  | [] => rfl
  | x :: xs => by simp [iLex, iLex_irr xs]
theorem iLex_tot : ∀ xs ys : List Int, iLex xs ys = false → iLex ys xs = false → xs = ys
  | [], [], _, _ => rfl
  | [], y :: ys, h, _ => by simp [iLex] at h
  | x :: xs, [], _, h => by simp [iLex] at h
  | x :: xs, y :: ys, h1, h2 => by
    unfold iLex at h1 h2
    by_cases e : x = y
    · subst e
      rw [if_pos rfl] at h1 h2
      rw [iLex_tot xs ys h1 h2]
    · rw [if_neg e] at h1
      rw [if_neg (Ne.symm e)] at h2
      have := of_decide_eq_false h1
      have := of_decide_eq_false h2
      omega
theorem iLex_tr : ∀ xs ys zs : List Int, iLex xs ys = true → iLex ys zs = true → iLex xs zs = true
  | [], ys, [], _, h => by cases ys <;> simp [iLex] at h
  | [], ys, z :: zs, _, _ => rfl
  | x :: xs, [], zs, h, _ => by simp [iLex] at h
  | x :: xs, y :: ys, [], _, h => by simp [iLex] at h
  | x :: xs, y :: ys, z :: zs, h1, h2 => by
    unfold iLex at h1 h2 ⊢
    by_cases e1 : x = y
    · subst e1
      rw [if_pos rfl] at h1
      by_cases e2 : x = z
      · subst e2
        rw [if_pos rfl] at h2 ⊢
        exact iLex_tr xs ys zs h1 h2
      · rw [if_neg e2] at h2 ⊢
        exact h2
    · rw [if_neg e1] at h1
      have a := of_decide_eq_true h1
      by_cases e2 : y = z
      · subst e2
        rw [if_neg e1]
        exact h1
      · rw [if_neg e2] at h2
        have b := of_decide_eq_true h2
        rw [if_neg (by omega)]
        exact decide_eq_true (by omega)
theorem iLex_asym {a b : List Int} (h : iLex a b = true) : iLex b a = false := by
  cases z : iLex b a with
  | false => rfl
  | true => have := iLex_tr _ _ _ h z; rw [iLex_irr] at this; cases this
def PrAt (P : Program) (w : World) (h : Heap) (v : Value) (k : PK) : Prop := ∃ p c t its, v = .ref p ∧ IsTup h p #[.ref c, .int k.2 t] ∧ IsTup h c (List.toArray its) ∧ IntsAre its k.1 ∧ IsM P w h (k.1.map Sum.inl) c
section
variable {P : Program} {w : World}
theorem isM_at {h h' : Heap} {k : KT'} {b : Addr} (x : IsM P w h k b) (hk : ∀ o, h.get? b = some o → h'.get? b = some o) : IsM P w h' k b := by
  obtain ⟨o, its, n, e, r⟩ := x
  exact ⟨o, its, n, hk o e, r⟩
theorem PrAt.keep {h h' : Heap} {v : Value} {k : PK} (x : PrAt P w h v k) {a : Addr} {o : Obj} (ho : h.get? a = some o) (hc : o.cls = .type "list") (hk : ∀ b u, b ≠ a → h.get? b = some u → h'.get? b = some u) : PrAt P w h' v k := by
  obtain ⟨p, c, t, its, rfl, a1, a2, a3, a4⟩ := x
  have ne : ∀ {q : Addr} {y : Array Value}, IsTup h q y → q ≠ a := fun {q y} hq z => by
    obtain ⟨o', e, c', _⟩ := hq
    rw [z, ho] at e
    cases e
    rw [hc] at c'
    exact absurd c' (by decide)
  have kt : ∀ {q : Addr} {y : Array Value}, IsTup h q y → IsTup h' q y := fun {q y} hq => by
    have n := ne hq
    obtain ⟨o', e, r⟩ := hq
    exact ⟨o', hk q o' n e, r⟩
  refine ⟨p, c, t, its, rfl, kt a1, kt a2, a3, ?_⟩
  have n := ne a2
  exact isM_at a4 fun o' e => hk c o' n e
end
end Pv
end
section
set_option Elab.async false
set_option linter.all false
set_option maxRecDepth 100000
set_option maxHeartbeats 2000000
namespace Pw
open PySem PySem.Spec PyProof.Rows L2 Pv
section
variable {X : Cx} {tb : List Addr} {pos : Pos}
def noStr (ds : List D) : Bool := ds.all fun d => match d with | .str _ => false | _ => true
@[simp] theorem noStr_nat {l : List Nat} : noStr (l.map fun i : Nat => D.int i) = true := by simp [noStr]
@[simp] theorem noStr_comp {α : Type} {g : α → Nat} {l : List α} : noStr (l.map ((fun i : Nat => D.int i) ∘ g)) = true := by simp [noStr]
@[simp] theorem noStr_int {l : List Int} : noStr (l.map D.int) = true := by simp [noStr]
@[simp] theorem noStr_compI {α : Type} {g : α → Int} {l : List α} : noStr (l.map (D.int ∘ g)) = true := by simp [noStr]
theorem noStr_rep {K : FRG} {φ ψ : List Addr} {H : Hp} : ∀ {ds : List D} {vs : List V}, Reps K φ ψ H ds vs → noStr ds = true → ∀ x, V.str x ∉ vs
  | _, _, .nil, _, x, h => nomatch h
  | d :: ds, v :: vs, .cons h r, n, x, z => by
    rw [noStr, List.all_cons, Bool.and_eq_true] at n
    rcases List.mem_cons.mp z with z | z
    · subst z
      cases h
      cases n.1
    · exact noStr_rep r n.2 x z
end
end Pw
end
section
set_option Elab.async false
set_option linter.all false
set_option maxRecDepth 100000
set_option maxHeartbeats 2000000
namespace Pv
open PySem PySem.Spec PyProof.Rows L2
end Pv
end
section
set_option Elab.async false
set_option linter.all false
set_option maxRecDepth 100000
set_option maxHeartbeats 2000000
namespace Pw
open PySem PySem.Spec PyProof.Rows L2 Pv
section
variable {X : Cx} {tb : List Addr}
end
end Pw
namespace Pw
end Pw
end
section
set_option Elab.async false
set_option linter.all false
set_option maxRecDepth 100000
set_option maxHeartbeats 2000000
namespace Pw
open PySem PySem.Spec PyProof.Rows L2 Pv
end Pw
end
section
set_option Elab.async false
set_option linter.all false
set_option maxRecDepth 100000
set_option maxHeartbeats 2000000
namespace Pw
open PySem PySem.Spec PyProof.Rows L2 Pv
end Pw
end
section
set_option Elab.async false
set_option linter.all false
set_option maxRecDepth 100000
set_option maxHeartbeats 2000000
namespace Pw
open PySem PySem.Spec PyProof.Rows L2 Pv
end Pw
end
section
set_option Elab.async false
set_option linter.all false
set_option maxRecDepth 100000
set_option maxHeartbeats 2000000
namespace Pv
open PySem PySem.Spec PyProof.Rows L2
section
variable {X : Cx}
def rTupX (K : PySem.W.Frag) : List V → Hp → VK → Prop := fun xs H Q => ∃ (p : Addr) (ys : List V), xs = [.ref p] ∧ SqL K H p ys ∧ ∀ (l : Addr) (o : Obj), H l = none → o.dict = none → Q (.ref l) (upd H l (.frz o (.tup ys)))
theorem cr_tupX : CallR X (.type "tuple") (rTupX X.K) := by
  intro pins s σ H xs us Q J rv hh
  obtain ⟨p, ys, rfl, hq, go⟩ := hh
  obtain ⟨u, rfl, ru⟩ := vals1 rv; cases ru
  obtain ⟨its, ri, pl, sz⟩ := J.list hq
  have ln := ri.length
  refine call_tuple_list pl.isList (fun g kp => ?_) (by simp only [List.size_toArray] <;> omega)
  have J1 : Inv X pins σ H { s with heap := g } := J.kept (t' := s.toks) kp
  have ok : ObjOk X.prog X.w (upd H g.objs.size (.frz ({ cls := .type "tuple", data := .seq its.toArray } : Obj) (.tup ys))) (g.push { cls := .type "tuple", data := .seq its.toArray }) g.objs.size (.frz ({ cls := .type "tuple", data := .seq its.toArray } : Obj) (.tup ys)) :=
    ⟨Heap.get?_push_size _ rfl, sz, its, ri, IsTup.new _ _⟩
  exact ⟨.ref g.objs.size, _, J1.laid (t' := s.toks) (fun b o e => Heap.get?_push_of_some _ e) (Nat.le_refl _) ok, rfl, go _ _ (J1.hok.fresh (Nat.le_refl _)) rfl⟩
theorem flat_ints (ys : List Int) : (ys.map V.int).all flatV = true := List.all_eq_true.mpr fun z hz => by
  obtain ⟨i, _, rfl⟩ := List.mem_map.mp hz; rfl
def rTupIdx (K : PySem.W.Frag) : V → List V → Hp → VK → Prop := fun x xs H Q => ∃ (p : Addr) (ys : List Int) (z : Int) (j : Nat), x = .ref p ∧ xs = [.int z] ∧ SqT K H p (ys.map V.int) ∧ ys[j]? = some z ∧ (∀ n, n < j → ys[n]? ≠ some z) ∧ Q (.int (j : Nat)) H
theorem mt_tupI : MtR X "tuple.index" (rTupIdx X.K) := by
  intro pins s σ H x xs v us Q J rx rs hh
  obtain ⟨p, ys, z, j, rfl, rfl, hq, hy, hno, go⟩ := hh
  cases rx
  obtain ⟨u, rfl, t, rfl⟩ := vals1 rs
  obtain ⟨its, ri, pl, sz⟩ := J.tuple hq
  obtain ⟨⟨c0, d0, t0, s0⟩, ho, hc, n, hd⟩ := pl; simp only at hc hd; subst hc; subst hd
  have hl : its.toArray.size = ys.length := by rw [List.size_toArray, ← ri.length, List.length_map]
  have hj : j < its.toArray.size := by rw [hl]; exact (List.getElem?_eq_some_iff.mp hy).1
  have one : ∀ (k : Nat) (hk : k < its.toArray.size), ∃ (y : Int) (t' : Tok), ys[k]? = some y ∧ its.toArray[k] = Value.int y t' := fun k hk => by
    have hk' : k < ys.length := hl ▸ hk
    obtain ⟨w, hw, t', hw'⟩ := ri.get (i := k) (x := .int ys[k]) (by simp [hk'])
    exact ⟨ys[k], t', List.getElem?_eq_getElem hk', by rw [← hw', ← (List.getElem?_eq_some_iff.mp hw).2]; simp⟩
  refine call_meets PySem.F.slot_tuple_index ⟨_, ho, rfl⟩ PySem.F.entry_tuple_index (PySem.F.args_tuple_index_2 _ _) (TI.tuple_indexAt p its.toArray n d0 s0 (.int z t) (eqU (.int z)) j hj ?_ ?_) ⟨ho, fun w hw => ?_, ⟨.int (j : Nat), H, J.tok _, ⟨_, rfl⟩, go⟩⟩
  · obtain ⟨y, t', h1, h2⟩ := one j hj
    rw [hy] at h1; cases h1; rw [h2]
    exact beq_self_eq_true z
  · intro k hk hkj
    obtain ⟨y, t', h1, h2⟩ := one k hk
    rw [h2]
    exact beq_eq_false_iff_ne.mpr fun e => hno k hkj (e ▸ h1)
  · exact mem_eqAt (x := .int z) ⟨t, rfl⟩ rfl ri (flat_ints ys) w (by simpa using hw)
def tBMz (r : V → List V → Hp → VK → Prop) (to : TE) (t : TA) : TE := fun σ H Q => to σ H fun x H1 => (∃ (p : Addr) (o : Obj) (vs : List V), x = .ref p ∧ H1 p = some (.frz o (.tup vs)) ∧ o.dict = none) ∧ t σ H1 fun xs H2 => r x xs H2 Q
variable {o e : Expr} {es : List Expr} {to : TE} {t : TA} {name : Str} {apos cpos : Pos} {id : String} {r : V → List V → Hp → VK → Prop}
theorem pe_bmz (slot : Slot "tuple" name id) (hty : typeOf (.builtin id) = pure (.type "method_descriptor")) (hm : MtR X id r) (ho : PE X o to) (ha : PA X (e :: es) t)
    (hbase : attributeBase o name X.env (eval o X.env) = eval o X.env := by rfl)
    (hfew : ((backTo cpos (starEach (e :: es) X.env)).all (fun x => !x.1) && (backToKw cpos (keywordEach [] X.env)).all (fun x => x.1.isSome) && decide ((e :: es).length + ([] : List Keyword).length + (if ([] : List Keyword).isEmpty then 0 else 1) < 30)) = true := by rfl)
    (hline : (apos.endLine == cpos.line) = true := by rfl) (hst : starEach (e :: es) X.env = (false, eval e X.env) :: starEach es X.env := by rfl) (hplain : (backTo cpos (starEach es X.env)).any (·.1) = false := by rfl) : PE X (.Call (.Attribute o name apos) (e :: es) [] cpos) (tBMz r to t) := by
  refine ⟨fun pins s σ H Q J h => wpAny_Call_method_late hbase hfew hline rfl (thn (ho.run pins s σ H _ J h) fun v s1 ⟨x, H1, J1, r1, ty, q1⟩ => ?_)⟩
  obtain ⟨p, ob, vs, rfl, hp, hd⟩ := ty
  cases r1
  obtain ⟨g1, _, _, _, g2⟩ := J1.hok p _ hp
  obtain ⟨ob2, g3, g4, _⟩ := g2
  have eo : ob2 = ob := Option.some.inj (g3.symm.trans g1)
  subst eo
  refine ⟨"tuple", id, PySem.F.plainAttrs_tuple, slot, hty, ⟨ob2, g1, g4⟩, fun a ea => by cases ea; exact ⟨ob2, g1, hd⟩, ?_⟩
  have hA := ha.run cpos pins s1 σ H1 _ J1 q1
  rw [hst] at hA ⊢
  exact Calls.callWith_builtin (by show (false || (backTo cpos (starEach es X.env)).any (·.1)) = false; rw [hplain] <;> rfl) (Calls.evalArgs_plain (thn hA fun us s2 ⟨vs, H2, J2, r2, q2⟩ => hm pins s2 σ H2 (.ref p) vs _ us Q J2 rfl r2 q2))
end
end Pv
end
section
set_option Elab.async false
set_option linter.all false
set_option maxRecDepth 100000
set_option maxHeartbeats 2000000
namespace Pw
open PySem PySem.Spec PyProof.Rows L2 Pv
section
variable {X : Cx} {K : FRG} {tb : List Addr}
theorem Go.tx {φ ψ : List Addr} {H : Hp} {m : Mem} {Q : VK} {ds : List D} {vs : List V} {p : Addr} {o : Obj} (k : Go K tb φ ψ H m (.v (.tx ds)) Q) (R : Rel K tb φ ψ H m) (h : Reps K φ ψ H ds vs) (hp : H p = none) (hd : o.dict = none) (hn : ∀ x, V.str x ∉ vs) : Q (.ref p) (upd H p (.frz o (.tup vs))) :=
  k φ ψ _ _ (Post.lay hp) (R.lay hp) ⟨rfl, .tx ⟨o, upd_same, hd, hn⟩ (h.mono (Post.lay hp) R)⟩
def fgW : W → W
  | .v (.tx ds) => .v (.tup ds)
  | w => w
def eFg (a : Ex) : Ex := fun ρ m => (a ρ m).bind fun p => some (fgW p.1, p.2)
theorem ex_fg {a : Expr} {fa : Ex} (ha : PE X a (T X.K tb fa)) : PE X a (T X.K tb (eFg fa)) := by
  refine pe_mono ha fun σ H Q ⟨φ, ψ, ρ, m, w, m', R, E, e, k⟩ => ?_
  obtain ⟨⟨w1, m1⟩, e1, e⟩ := bnd e
  cases e
  refine ⟨φ, ψ, ρ, m, w1, m1, R, E, e1, fun φ1 ψ1 H1 x P1 R1 V1 => k φ1 ψ1 H1 x P1 R1 ?_⟩
  cases w1 with
  | r n => exact V1
  | f d => exact V1
  | v d =>
    cases d with
    | tx ds =>
      obtain ⟨rfl, V1⟩ := V1
      cases V1 with
      | tx h r => exact ⟨rfl, .tup (SqN.no h.sq (kyV_no h.choose_spec.2.2)) r⟩
    | _ => exact V1
def tupleXD : List D → Option W
  | [.fl ds] => if noStr ds = true then some (.v (.tx ds)) else none
  | [.lst ds] => if noStr ds = true then some (.v (.tx ds)) else none
  | _ => none
theorem tupleX_s : CallS K tb (rTupX K) tupleXD := fun φ ψ H m vs ds w Q R r e k => by
  unfold tupleXD at e
  split at e
  · split at e
    rotate_left
    · cases e
    rename_i hn
    cases e
    cases r with
    | cons h r => cases r; obtain ⟨a, vs, rfl, hq, q⟩ := h.fl; exact ⟨_, _, rfl, hq, fun p o hp hd => Go.tx k R q hp hd (noStr_rep q hn)⟩
  · split at e
    rotate_left
    · cases e
    rename_i hn
    cases e
    cases r with
    | cons h r => cases r; obtain ⟨a, vs, rfl, hq, q⟩ := h.lst; exact ⟨_, _, rfl, SqL.of hq, fun p o hp hd => Go.tx k R q hp hd (noStr_rep q hn)⟩
  · cases e
def isTx : W → Mem → Bool
  | .v (.tx _), _ => true
  | _, _ => false
def idxTD : W → List W → Mem → Option (W × Mem) := fun w ws m => match w, ws with
  | .v (.tx ds), [a] => (allI ds).bind fun is => (gt a m).bind fun x => match x with
    | .int i => (is.findIdx? fun j => j == i).bind fun k => some (.v (.int (k : Int)), m)
    | _ => none
  | _, _ => none
theorem idxT_s : MtS X.K tb (rTupIdx X.K) idxTD := fun φ ψ H m x vs w ws w' m' Q R h hs e k => by
  unfold idxTD at e
  split at e
  · obtain ⟨is, e3, e⟩ := bnd e
    obtain ⟨y, e4, e⟩ := bnd e
    split at e
    · rename_i i
      obtain ⟨j, e5, e⟩ := bnd e
      cases e
      cases hs with
      | cons ha r =>
        cases r
        cases h with
        | tx hz rs =>
          obtain rfl := allI_rep rs e3
          have hv := (gt_c R ha e4).int
          subst hv
          obtain ⟨hj, hji, hjn⟩ := List.findIdx?_eq_some_iff_getElem.mp e5
          have hji' : is[j] = i := by simpa using hji
          refine ⟨_, is, i, j, rfl, rfl, hz.sq, by rw [List.getElem?_eq_getElem hj, hji'], fun n hn hz => ?_, Go.val k R (.int _)⟩
          have hn' : n < is.length := by omega
          rw [List.getElem?_eq_getElem hn'] at hz
          have := hjn n hn
          simp at this hz
          exact this hz
    · cases e
  · cases e
theorem ex_indexT {o a : Expr} {fo : Ex} {f : Ax} {apos cpos : Pos} {es : List Expr} (ho : PE X o (T X.K tb fo)) (ha : PA X (a :: es) (Ta X.K tb f))
    (hbase : attributeBase o "index" X.env (eval o X.env) = eval o X.env := by rfl)
    (hfew : ((backTo cpos (starEach (a :: es) X.env)).all (fun x => !x.1) && (backToKw cpos (keywordEach [] X.env)).all (fun x => x.1.isSome) && decide ((a :: es).length + ([] : List Keyword).length + (if ([] : List Keyword).isEmpty then 0 else 1) < 30)) = true := by rfl)
    (hline : (apos.endLine == cpos.line) = true := by rfl) (hst : starEach (a :: es) X.env = (false, eval a X.env) :: starEach es X.env := by rfl) (hplain : (backTo cpos (starEach es X.env)).any (·.1) = false := by rfl) :
    PE X (.Call (.Attribute o "index" apos) (a :: es) [] cpos) (T X.K tb (eMt isTx idxTD fo f)) := by
  refine pe_mono (pe_bmz PySem.F.slot_tuple_index PySem.F.type_tuple_index mt_tupI ho ha hbase hfew hline hst hplain) fun σ H Q ⟨φ, ψ, ρ, m, w, m', R, E, e, k⟩ => ?_
  obtain ⟨⟨w1, m1⟩, e1, e⟩ := bnd e
  split at e
  · rename_i hc
    obtain ⟨⟨ws, m2⟩, e2, e⟩ := bnd e
    refine ⟨φ, ψ, ρ, m, w1, m1, R, E, e1, fun φ1 ψ1 H1 x P1 R1 V1 => ⟨?_, φ1, ψ, ρ, m1, ws, m2, V1.rel R1, E.mono (V1.post P1) R, e2, fun φ2 H2 vs P2 R2 V2 => ?_⟩⟩
    · cases w1 with
      | r n => cases hc
      | f d => cases hc
      | v d =>
        cases d with
        | tx ds =>
          obtain ⟨_, V1⟩ := V1
          cases V1 with
          | tx h r => obtain ⟨o, h1, h2⟩ := h; exact ⟨_, o, _, rfl, h1, h2.1⟩
        | _ => cases hc
    · exact idxT_s φ2 ψ H2 m2 x vs w1 ws w m' Q R2 ((V1.s R1).mono P2 (V1.rel R1)) V2 e fun φ3 ψ3 H3 v P3 R3 V3 => k φ3 ψ3 H3 v (((V1.post P1).trans P2).trans P3) R3 V3
  · cases e
end
end Pw
end
section
set_option Elab.async false
set_option linter.all false
set_option maxRecDepth 100000
set_option maxHeartbeats 2000000
namespace Pw
open PySem PySem.Spec PyProof.Rows L2 Pv
end Pw
end
section
set_option Elab.async false
set_option linter.all false
set_option maxRecDepth 100000
set_option maxHeartbeats 2000000
namespace Pw
open PySem PySem.Spec PyProof.Rows L2 Pv
end Pw
end
section
set_option Elab.async false
set_option linter.all false
set_option maxRecDepth 100000
set_option maxHeartbeats 4000000
namespace Pw
open PySem PySem.Spec PyProof.Rows L2
end Pw
end
section
set_option Elab.async false
set_option linter.all false
set_option maxRecDepth 100000
set_option maxHeartbeats 4000000
namespace Pw
open PySem PySem.Spec PyProof.Rows L2
end Pw
end
section
set_option Elab.async false
set_option linter.all false
set_option maxRecDepth 100000
set_option maxHeartbeats 4000000
namespace Pw
open PySem PySem.Spec PyProof.Rows L2
end Pw
end
section
set_option Elab.async false
set_option linter.all false
set_option maxRecDepth 100000
set_option maxHeartbeats 4000000
namespace Pw
open PySem PySem.Spec PyProof.Rows L2
end Pw
end
section
set_option Elab.async false
set_option linter.all false
set_option maxRecDepth 100000
set_option maxHeartbeats 2000000
namespace Pw
open PySem PySem.Spec PyProof.Rows L2 Pv
section
variable {K : FRG} {tb : List Addr}
theorem RepC.tx {φ ψ : List Addr} {H : Hp} {ds : List D} {v : V} (h : RepC K φ ψ H (.tx ds) v) : ∃ a vs, v = .ref a ∧ Tz H a vs ∧ Reps K φ ψ H ds vs := by
  rcases h with h | ⟨a, mo, rfl, e, q⟩
  · cases h with
    | tx h r => exact ⟨_, _, rfl, h, r⟩
  · cases mo <;> cases e
end
end Pw
end
section
set_option Elab.async false
set_option linter.all false
set_option maxRecDepth 100000
set_option maxHeartbeats 4000000
namespace Pw
open PySem PySem.Spec PyProof.Rows L2
end Pw
end
section
set_option Elab.async false
set_option linter.all false
set_option maxRecDepth 100000
set_option maxHeartbeats 4000000
namespace Pw
open PySem PySem.Spec PyProof.Rows L2 Pv
theorem runF_none {np nn : Nat} {ws : List W} {m : Mem} {r : W × Mem} (h : runF np nn (fun _ _ => none) ws m = some r) : False := by
  unfold runF at h
  split at h
  · cases h
  · cases h
theorem fnG_none {P : Program} {w : World} {K : FRG} {mg : Str → Option Value} {base : Heap} {tb : List Addr} {k nn : Nat} {f : Addr} {fd : FuncData} {ps : List Str} : FnG P w K mg base k f fd ps (spF K tb ps.length (runF ps.length nn fun _ _ => none)) :=
  ⟨fun vs H Q E q => (by
    obtain ⟨φ, ψ, ws, m, d, m', R, r, hl, e, go⟩ := q
    exact (runF_none e).elim), fun A outer s H args us vs Q E _ _ _ _ _ q => (by
    obtain ⟨φ, ψ, ws, m, d, m', R, r, hl, e, go⟩ := q
    exact (runF_none e).elim)⟩
def allBl : List D → Option (List Bool)
  | [] => some []
  | .bl b :: ds => (allBl ds).bind fun bs => some (b :: bs)
  | _ :: _ => none
def allBD : List D → Option W
  | [x] => (itmL x).bind fun ds => (allBl ds).bind fun bs => some (.v (.bl (bs.all id)))
  | _ => none
theorem allBl_rep {K : FRG} {φ ψ : List Addr} {H : Hp} : ∀ {ds : List D} {vs : List V} {bs : List Bool}, Reps K φ ψ H ds vs → allBl ds = some bs → vs = bs.map V.bl
  | [], _, _, .nil, e => by cases e; rfl
  | d :: ds, _, bs, .cons h t, e => by
    unfold allBl at e
    split at e
    · rename_i z; cases z
    · rename_i b ds' z
      cases z
      obtain ⟨bs', e1, e⟩ := bnd e
      cases e
      cases h
      rw [allBl_rep t e1]; rfl
    · cases e
theorem allB_s {K : FRG} {tb : List Addr} : CallS K tb (rAll K) allBD := fun φ ψ H m vs ds w Q R r e k => by
  unfold allBD at e
  split at e
  rotate_left
  · cases e
  obtain ⟨xs, e1, e⟩ := bnd e
  obtain ⟨bs, e2, e⟩ := bnd e
  cases e
  cases r with
  | cons h r =>
    cases r
    obtain ⟨l, us, rfl, hq, q⟩ := itmL_sq h e1
    obtain rfl := allBl_rep q e2
    exact ⟨l, bs, rfl, hq, Go.val k R (.bl _)⟩
section
variable {X : Cx} {tb : List Addr}
def eIs2 (t u : Ty) (a : Ex) : Ex := fun ρ m => (a ρ m).bind fun p => (gt p.1 p.2).bind fun d => some (.v (.bl (isD t d || isD u d)), p.2)
theorem ex_isi2 (t u : Ty) {e : Expr} {fa : Ex} {x y : Str} {kk : Nat} {p q q2 tpos pos : Pos} (hg : Gl X "isinstance") (hm : X.mg "isinstance" = none) (hgT : Gl X x) (hmT : X.mg x = none) (hvT : bootBuiltins x = some (.type t.name)) (hgU : Gl X y) (hmU : X.mg y = none) (hvU : bootBuiltins y = some (.type u.name)) (ha : PE X e (T X.K tb fa)) (hn : x ≠ "__name__" := by decide) (hd : (x == ("__debug__" : Str)) = false := by decide) (hn2 : y ≠ "__name__" := by decide) (hd2 : (y == ("__debug__" : Str)) = false := by decide)
    (h1 : starEach [e, .Tuple [.Name x q, .Name y q2] kk tpos] X.env = (false, eval e X.env) :: starEach [.Tuple [.Name x q, .Name y q2] kk tpos] X.env := by rfl) (h2 : starEach [.Tuple [.Name x q, .Name y q2] kk tpos] X.env = (false, eval (.Tuple [.Name x q, .Name y q2] kk tpos) X.env) :: starEach [] X.env := by rfl) (hpl : (backTo pos (starEach [.Tuple [.Name x q, .Name y q2] kk tpos] X.env)).any (·.1) = false := by rfl)
    (h3 : starEach [.Name x q, .Name y q2] X.env = (false, eval (.Name x q) X.env) :: starEach [.Name y q2] X.env := by rfl) (h4 : starEach [.Name y q2] X.env = (false, eval (.Name y q2) X.env) :: starEach [] X.env := by rfl) :
    PE X (.Call (.Name "isinstance" p) [e, .Tuple [.Name x q, .Name y q2] kk tpos] [] pos) (T X.K tb (eIs2 t u fa)) := by
  have tp := pe_tup (pos := tpos) (x1 := kk) (pa_cons (pe_bltn (pos := q) (v := .ty t.name) hgT hmT hvT rfl hn hd) (pa_cons (pe_bltn (pos := q2) (v := .ty u.name) hgU hmU hvU rfl hn2 hd2) pa_nil h4) h3)
  refine pe_mono (pe_callB call_isiT hg hm PyProof.Rows.boot_isinstance (pa_cons ha (pa_cons tp pa_nil h2) h1) (by decide) (by decide) h1 hpl) fun σ H Q ⟨φ, ψ, ρ, m, w, m', R, E, e, k⟩ => ?_
  obtain ⟨⟨w1, m1⟩, e1, e⟩ := bnd e
  obtain ⟨d, eg, e⟩ := bnd e
  cases e
  refine ⟨φ, ψ, ρ, m, w1, _, R, E, e1, fun φ1 ψ1 H1 v P1 R1 V1 => ?_⟩
  have R1' := V1.rel R1
  refine ⟨by show 2 ≤ sizeLine; rw [sizeLine_eq]; omega, fun p hp => ?_⟩
  have Pl : Post φ1 ψ H1 φ1 ψ _ := Post.lay (o := .tup [.ty t.name, .ty u.name]) hp
  have Rl := R1'.lay (o := .tup [.ty t.name, .ty u.name]) hp
  obtain ⟨a, ea, ty⟩ := tyx_c (gt_c Rl ((V1.s R1).mono Pl R1') eg)
  refine ⟨v, p, [.ty t.name, .ty u.name], .type a, [.type t.name, .type u.name], _, rfl, upd_same, .cons (.ty _) (.cons (.ty _) .nil), ty, ?_, k φ1 ψ _ _ ((V1.post P1).trans Pl) Rl ⟨rfl, .bl _⟩⟩
  have k1 := kit_ty (K := X.K) (kit_is t d ea)
  have k2 := kit_ty (K := X.K) (kit_is u d ea)
  cases hb : isD t d with
  | true => rw [hb] at k1; exact kitAny_cons k1 (fun z => nomatch z) (fun _ => rfl)
  | false =>
    rw [hb] at k1
    refine kitAny_cons k1 (fun _ => ?_) (fun z => nomatch z)
    rw [Bool.false_or]
    cases hc : isD u d with
    | true => rw [hc] at k2; exact kitAny_cons k2 (fun z => nomatch z) (fun _ => rfl)
    | false => rw [hc] at k2; exact kitAny_cons k2 (fun _ => kitAny_nil) (fun z => nomatch z)
end
end Pw
end
section
set_option Elab.async false
set_option linter.all false
set_option maxRecDepth 100000
set_option maxHeartbeats 4000000
namespace Pw
open PySem PySem.Spec PyProof.Rows L2
end Pw
end
section
set_option Elab.async false
set_option linter.all false
set_option maxRecDepth 100000
set_option maxHeartbeats 2000000
namespace Pw
open PySem PySem.Spec PyProof.Rows L2
end Pw
end
section
set_option Elab.async false
set_option linter.all false
set_option maxRecDepth 100000
set_option maxHeartbeats 2000000
namespace Pw
open PySem PySem.Spec PyProof.Rows L2
end Pw
end
section
set_option Elab.async false
set_option linter.all false
set_option maxRecDepth 100000
set_option maxHeartbeats 1000000
namespace Pw
open PySem PySem.Spec PyProof.Rows L2
end Pw
end
section
set_option Elab.async false
set_option linter.all false
set_option maxRecDepth 100000
set_option maxHeartbeats 1000000
namespace Pw
open PySem PySem.Spec PyProof.Rows L2
end Pw
end
section
set_option Elab.async false
set_option linter.all false
set_option maxRecDepth 100000
set_option maxHeartbeats 2000000
namespace Pv
open PySem PySem.Spec PyProof.Rows L2
end Pv
end
section
set_option Elab.async false
set_option linter.all false
set_option maxRecDepth 100000
set_option maxHeartbeats 2000000
namespace Pw
open PySem PySem.Spec PyProof.Rows L2 Pv
end Pw
end
section
set_option Elab.async false
set_option linter.all false
set_option maxRecDepth 100000
set_option maxHeartbeats 1000000
namespace Pw
open PySem PySem.Spec PyProof.Rows L2 Pv
end Pw
end
section
set_option Elab.async false
set_option linter.all false
set_option maxRecDepth 100000
set_option maxHeartbeats 1000000
namespace Pw
open PySem PySem.Spec PyProof.Rows L2
end Pw
end
section
set_option Elab.async false
set_option linter.all false
set_option maxRecDepth 100000
set_option maxHeartbeats 2000000
namespace Pw
open PySem PySem.Spec PyProof.Rows L2 Pv
end Pw
end
section
set_option Elab.async false
set_option linter.all false
set_option maxRecDepth 100000
set_option maxHeartbeats 4000000
namespace Pw
open PySem PySem.Spec PyProof.Rows L2 Pv
end Pw
end
section
set_option Elab.async false
set_option linter.all false
set_option maxRecDepth 100000
set_option maxHeartbeats 2000000
namespace Pv
open PySem PySem.Spec PyProof.Rows L2
end Pv
end
section
set_option Elab.async false
set_option linter.all false
set_option maxRecDepth 100000
set_option maxHeartbeats 2000000
namespace Pw
open PySem PySem.Spec PyProof.Rows L2 Pv
section
variable {X : Cx} {K : FRG} {tb : List Addr}
def eAlt (f g : Ex) : Ex := fun ρ m => match f ρ m with
  | some r => some r
  | none => g ρ m
theorem ex_alt {e : Expr} {f g : Ex} (h1 : PE X e (T X.K tb f)) (h2 : PE X e (T X.K tb g)) : PE X e (T X.K tb (eAlt f g)) := by
  refine ⟨fun pins s σ H Q I ⟨φ, ψ, ρ, m, w, m', R, E, e, k⟩ => ?_⟩
  unfold eAlt at e
  split at e
  · rename_i r hr
    cases e
    exact h1.run pins s σ H Q I ⟨φ, ψ, ρ, m, w, m', R, E, hr, k⟩
  · exact h2.run pins s σ H Q I ⟨φ, ψ, ρ, m, w, m', R, E, e, k⟩
end
end Pw
end
section
set_option Elab.async false
set_option linter.all false
set_option maxRecDepth 100000
set_option maxHeartbeats 2000000
namespace Pw
open PySem PySem.Spec PyProof.Rows L2 Pv
end Pw
end
section
set_option Elab.async false
set_option linter.all false
set_option maxRecDepth 100000
set_option maxHeartbeats 4000000
namespace Pw
open PySem PySem.Spec PyProof.Rows L2 Pv
open Classical in
noncomputable def llX (t : Gx) (f : Ex) (ρ : Env) (m : Mem) : List D → Option (List (List Int))
  | [] => some []
  | d :: ds => (t d ρ).bind fun ρ1 => (f ρ1 m).bind fun q => match q.1 with
    | .f (.lst xs) => if q.2 = m then (allI xs).bind fun is => (llX t f ρ m ds).bind fun L => some (is :: L) else none
    | _ => none
theorem llX_at {t : Gx} {f : Ex} {ρ : Env} {m : Mem} : ∀ {ds : List D} {L : List (List Int)}, llX t f ρ m ds = some L → L.length = ds.length ∧ ∀ (i : Nat) (d : D), ds[i]? = some d → ∃ (ρ1 : Env) (xs : List D) (is : List Int), t d ρ = some ρ1 ∧ f ρ1 m = some (.f (.lst xs), m) ∧ allI xs = some is ∧ L[i]? = some is
  | [], L, h => by
    cases h
    exact ⟨rfl, fun i d e => by simp at e⟩
  | d :: ds, L, h => by
    unfold llX at h
    obtain ⟨ρ1, e1, h⟩ := bnd h
    obtain ⟨⟨w, m'⟩, e2, h⟩ := bnd h
    split at h
    · rename_i xs hw
      split at h
      · rename_i hm
        obtain ⟨is, e3, h⟩ := bnd h
        obtain ⟨L', e4, h⟩ := bnd h
        cases h
        have hm' : m' = m := hm
        have hw' : w = .f (.lst xs) := hw
        subst hm'; subst hw'
        obtain ⟨h1, h2⟩ := llX_at e4
        refine ⟨by simp [h1], fun i d' hd => ?_⟩
        cases i with
        | zero =>
          have : d = d' := by simpa using hd
          subst this
          exact ⟨ρ1, xs, is, e1, e2, e3, rfl⟩
        | succ i => exact h2 i d' (by simpa using hd)
      · cases h
    · cases h
def liM (is : List Int) : MO := .lst (is.map .int)
section
variable {K : FRG} {tb φ ψ : List Addr} {H : Hp} {m : Mem}
theorem own_allL : ∀ (as : List Addr) (Ls : List (List Int)) {φ : List Addr} {m : Mem}, as.length = Ls.length → Rel K tb φ (as ++ ψ) H m → as.Nodup → (∀ a ∈ as, a ∉ ψ) → (∀ (j : Nat) (a : Addr), as[j]? = some a → ∃ is, Ls[j]? = some is ∧ H a = some (.lst (is.map V.int))) → Rel K tb (φ ++ as) ψ H (m ++ Ls.map liM)
  | [], [], φ, m, _, R, _, _, _ => by simpa using R
  | [], _ :: _, φ, m, hl, _, _, _, _ => by simp at hl
  | _ :: _, [], φ, m, hl, _, _, _, _ => by simp at hl
  | a :: as, l :: Ls, φ, m, hl, R, nd, na, ha => by
    obtain ⟨n1, n2⟩ := List.nodup_cons.mp nd
    obtain ⟨is, e1, e2⟩ := ha 0 a rfl
    cases e1
    have R1 : Rel K tb (φ ++ [a]) (as ++ ψ) H (m ++ [liM l]) := Rel.own (ψ := as ++ ψ) R (fun z => by
      rcases List.mem_append.mp z with z | z
      · exact n1 z
      · exact na a List.mem_cons_self z) ⟨_, e2, reps_ints l⟩
    have R2 := own_allL as Ls (by simpa using hl) R1 n2 (fun b hb => na b (List.mem_cons_of_mem _ hb)) fun j b hb => ha (j + 1) b (by simpa using hb)
    simpa using R2
end
noncomputable def eLlI (src : Ix) (t : Gx) (f : Ex) (vs : List Nat) : Ex := fun ρ m => (src ρ m).bind fun p => (itemsAt p.1 p.2).bind fun xs => (llX t f (wipeD ρ vs) p.2 xs).bind fun L => if xs.length ≤ 1000000 then some (.r (p.2.length + xs.length), p.2 ++ L.map liM ++ [.rl p.2.length xs.length]) else none
theorem llI_go {K : FRG} {tb : List Addr} {src : Ix} {g : TG} {t : Gx} {f : Ex} {vs : List Nat} {σ : L2.St} {H : Hp} {Q : VK} (ht : TgS K tb g t) (hw : TgW g vs) (h : T K tb (eLlI src t f vs) σ H Q) :
    tLc (Ti K tb src) g (Tt K tb tYes') (T K tb f) vs σ H Q := by
  obtain ⟨φ, ψ, ρ, m, d, mF, R, E, e, k⟩ := h
  obtain ⟨⟨it, m1⟩, e1, e⟩ := bnd e
  obtain ⟨xs, e2, e⟩ := bnd e
  obtain ⟨L, eL, e⟩ := bnd e
  split at e
  rotate_left
  · cases e
  rename_i hlen
  cases e
  obtain ⟨hLl, hLat⟩ := llX_at eL
  have hLl : L.length = xs.length := hLl
  refine ⟨φ, ψ, ρ, m, it, m1, R, E, e1, fun φ1 H1 J P1 R1 IR A hA => ?_⟩
  have nAS : A ∉ ψ := R1.freshS hA
  let Z : Nat → Hp → Prop := fun i H2 => ∃ as : List Addr, as.length = i ∧ as.Nodup ∧ A ∉ as ∧ (∀ a ∈ as, a ∉ ψ) ∧ Post φ1 ψ H1 φ1 (as ++ A :: ψ) H2 ∧ Rel K tb φ1 (as ++ A :: ψ) H2 m1 ∧ H2 A = some (.lst (as.map .ref)) ∧ (∀ (j : Nat) (a : Addr), as[j]? = some a → ∃ is : List Int, L[j]? = some is ∧ H2 a = some (.lst (is.map V.int)))
  refine ⟨fun i n H2 => n = xs.length - i ∧ i ≤ xs.length ∧ Z i H2, ⟨xs.length, by simp, Nat.zero_le _, [], rfl, List.nodup_nil, by simp, by simp, Post.nw hA, R1.nw hA, upd_same, by simp⟩, ?_⟩
  rintro i n H2 ⟨rfl, hi2, as, hal, hnd, hAa, haS, P2, R2, hA2, hin⟩
  by_cases hlt : i < xs.length
  · obtain ⟨hgo, hy⟩ := (IR φ1 (as ++ A :: ψ) H2 m1 xs P2 R2 e2).1 i xs[i] (List.getElem?_eq_getElem hlt)
    refine .inr ⟨hgo, fun H' => i + 1 ≤ xs.length ∧ Z (i + 1) H', fun H' q => ⟨xs.length - (i + 1), by omega, rfl, q⟩, fun x H3 y => ?_⟩
    obtain ⟨P3, R3, V3, same⟩ := hy x H3 y
    have hA3 : H3 A = some (.lst (as.map .ref)) := same A _ hA2
    have E3 : RE K φ1 (as ++ A :: ψ) H3 (wipeD ρ vs) (wipe σ vs) := (E.mono (P1.trans (P2.trans P3)) R).wipe vs
    obtain ⟨ρ3, ds, is, e3', ef, ei, hLi⟩ := hLat i xs[i] (List.getElem?_eq_getElem hlt)
    have st := ht φ1 (as ++ A :: ψ) H3 m1 (wipeD ρ vs) (wipe σ vs) _ x ρ3 (fun σ3 H3' => Tt K tb tYes' σ3 H3' fun b H4 => if b = true then (T K tb f) σ3 H4 fun y H5 => ∃ acc, H5 A = some (.lst acc) ∧ acc.length < sizeLine ∧ (fun H' => i + 1 ≤ xs.length ∧ Z (i + 1) H') (upd H5 A (.lst (acc ++ [y]))) else (fun H' => i + 1 ≤ xs.length ∧ Z (i + 1) H') H4) R3 E3 V3 e3' fun σ3 E3' => ?_
    · have st2 := hw _ _ _ _ st
      simp only [wipe_wipe] at st2
      exact st2
    · refine ⟨φ1, as ++ A :: ψ, ρ3, m1, true, m1, R3, E3', rfl, fun φ4 H4 P4 R4 => ?_⟩
      have R4' : Rel K tb φ4 (as ++ A :: ψ) H4 m1 := R4
      have P4' : Post φ1 (as ++ A :: ψ) H3 φ4 (as ++ A :: ψ) H4 := P4
      have hA4 : H4 A = some (.lst (as.map .ref)) := (P4'.frm A _ (R3.ap A (by simp)) hA3 fun _ z => nomatch z).ex fun _ z => nomatch z
      have same_len : ∀ {φ5 ψ5 H5}, Rel K tb φ5 ψ5 H5 m1 → φ1 <+: φ5 → φ5 = φ1 := by
        intro φ5 ψ5 H5 R5 hp
        have h1 := R5.len
        have h2 := R1.len
        obtain ⟨t, ht⟩ := hp
        have h3 := congrArg List.length ht
        rw [List.length_append] at h3
        have : t = [] := List.eq_nil_of_length_eq_zero (by omega)
        rw [this, List.append_nil] at ht
        exact ht.symm
      have hφ : φ4 = φ1 := same_len R4' P4'.pre
      subst hφ
      refine iteT ⟨φ4, as ++ A :: ψ, ρ3, m1, .f (.lst ds), m1, R4, E3'.mono P4 R3, ef, fun φ5 ψ5 H5 v P5 R5 V5 => ?_⟩
      obtain ⟨p, mo, rfl, rfl, pN, emo, q⟩ := V5
      have hφ5 : φ5 = φ4 := same_len R5 P5.pre
      subst hφ5
      have emo' : mo = .lst ds := by
        cases mo with
        | lst es => rw [show es = ds from D.lst.inj emo.symm]
        | dk es => cases emo
        | dt es => cases emo
        | rl b k => cases emo
      subst emo'
      obtain ⟨us, hp5, hus⟩ := q
      have hus' := allI_rep hus ei
      subst hus'
      have P35 : Post φ5 (as ++ A :: ψ) H3 φ5 (p :: (as ++ A :: ψ)) H5 := P4'.trans P5
      have hin3 : ∀ a ∈ as, ∀ us, H3 a = some (.lst us) → H5 a = some (.lst us) := fun a ha us h => (P35.frm a _ (R3.ap a (by simp [ha])) h fun _ z => nomatch z).ex fun _ z => nomatch z
      have hA5 : H5 A = some (.lst (as.map .ref)) := (P35.frm A _ (R3.ap A (by simp)) hA3 fun _ z => nomatch z).ex fun _ z => nomatch z
      have hin5 : ∀ (j : Nat) (a : Addr), as[j]? = some a → ∃ is : List Int, L[j]? = some is ∧ H5 a = some (.lst (is.map V.int)) := fun j a hj => by
        obtain ⟨is', h1, h2⟩ := hin j a hj
        exact ⟨is', h1, hin3 a (List.mem_of_getElem? hj) _ (same a _ h2)⟩
      have P15 : Post φ5 ψ H1 φ5 (p :: (as ++ A :: ψ)) H5 := P2.trans (P3.trans P35)
      have pA : p ≠ A := fun z => pN (by rw [z]; simp)
      have pas : p ∉ as := fun z => pN (by simp [z])
      have pS : p ∉ ψ := fun z => pN (by simp [z])
      have perm : ∀ a, a ∈ (as ++ [p]) ++ A :: ψ ↔ a ∈ p :: (as ++ A :: ψ) := fun a => by
        simp only [List.mem_append, List.mem_cons, List.mem_singleton, List.not_mem_nil, or_false]
        constructor
        · rintro ((h | h) | h | h) <;> simp [h]
        · rintro (h | h | h | h) <;> simp [h]
      have P6 : Post φ5 ψ H1 φ5 ((as ++ [p]) ++ A :: ψ) H5 := P15.perm (fun a => (perm a).mp) fun a => (perm a).mpr
      have R6 : Rel K tb φ5 ((as ++ [p]) ++ A :: ψ) H5 m1 := R5.perm perm
      have mA : A ∈ (as ++ [p]) ++ A :: ψ := by simp
      refine ⟨as.map .ref, hA5, smallT (by rw [List.length_map, hal]; omega), hlt, as ++ [p], by simp [hal], ?_, ?_, ?_, Post.sdw mA (R6.ap A mA) (R6.sd A mA) P6 hA, R6.sdw mA hA5, by rw [upd_same, List.map_append]; rfl, fun j a hj => ?_⟩
      · rw [List.nodup_append]
        exact ⟨hnd, by simp, fun a ha b hb => by rw [List.mem_singleton.mp hb]; exact fun z => pas (z ▸ ha)⟩
      · intro z
        rcases List.mem_append.mp z with z | z
        · exact hAa z
        · exact pA (List.mem_singleton.mp z).symm
      · intro a ha
        rcases List.mem_append.mp ha with z | z
        · exact haS a z
        · rw [List.mem_singleton.mp z]; exact pS
      · by_cases hj' : j < as.length
        · rw [List.getElem?_append_left hj'] at hj
          have ma := List.mem_of_getElem? hj
          obtain ⟨is', h1, h2⟩ := hin5 j a hj
          exact ⟨is', h1, by rw [upd_ne (fun y : a = A => hAa (y ▸ ma))]; exact h2⟩
        · have hjl := (List.getElem?_eq_some_iff.mp hj).1
          rw [List.length_append, List.length_singleton] at hjl
          have hj2 : j = i := by omega
          subst hj2
          rw [List.getElem?_append_right (by omega), show j - as.length = 0 by omega] at hj
          have : p = a := by simpa using hj
          subst this
          exact ⟨is, hLi, by rw [upd_ne pA]; exact hp5⟩
  · obtain rfl : i = xs.length := by omega
    refine .inl ⟨(IR φ1 (as ++ A :: ψ) H2 _ xs P2 R2 e2).2 _ (Nat.le_refl _), ?_⟩
    have R4 := own_allL (ψ := A :: ψ) as L (by omega) R2 hnd (fun a ha z => by
      rcases List.mem_cons.mp z with z | z
      · rw [z] at ha; exact hAa ha
      · exact haS a ha z) hin
    have P4 : Post φ1 ψ H1 (φ1 ++ as) (A :: ψ) H2 := ⟨P2.pre.trans (List.prefix_append _ _), fun a z => by
      rcases List.mem_append.mp z with z | z
      · exact P2.new a z
      · rcases P2.side a (List.mem_append_left _ z) with y | y
        · exact absurd y (haS a z)
        · exact .inr y, fun a z => P2.side a (List.mem_append_right _ z), P2.frm, P2.kp, fun a z => List.mem_cons_of_mem _ z⟩
    have hl1 := R1.len
    have R5 := R4.own' (mo := .rl m1.length xs.length) nAS ⟨by
      rw [hA2]
      congr 2
      refine List.ext_getElem (by simp [hal]) fun j h1 h2 => ?_
      have hj : j < as.length := by simpa using h1
      simp only [List.getElem_map, List.getElem_range]
      congr 1
      rw [List.getD_eq_getElem?_getD, List.getElem?_append_left (by rw [List.length_append]; omega), List.getElem?_append_right (by omega), show m1.length + j - φ1.length = j by omega, List.getElem?_eq_getElem hj]
      rfl, by rw [List.getElem?_append_right (by rw [List.length_append]; omega), show m1.length + xs.length - (φ1 ++ as).length = 0 by rw [List.length_append]; omega]; rfl⟩
    refine k (φ1 ++ as ++ [A]) ψ H2 _ (P1.trans (P4.own nAS)) R5 ⟨rfl, A, ?_, rfl⟩
    show (φ1 ++ as ++ [A])[m1.length + xs.length]? = some A
    rw [List.getElem?_append_right (by rw [List.length_append]; omega), show m1.length + xs.length - (φ1 ++ as).length = 0 by rw [List.length_append]; omega]; rfl
theorem ex_llI {X : Cx} {tb : List Addr} {elt tg iter : Expr} {scope : Scope} {own : List (Str × Nat)} {pos : Pos} {src : Ix} {g : TG} {t : Gx} {f : Ex} (hc : X.calm = true) (hN : X.N.Nodup) (htg : TgS X.K tb g t) (hw : TgW g (own.map (·.2)))
    (hi : PI X tg iter (Ti X.K tb src)) (ok : BlkOk X.N X.env.scope scope own)
    (hg : ∀ (s : Shared) (H : Hp) (C : Addr) (cl : List (Str × Addr)) (fp : List Addr), PG (X.blk s H scope (compEnvC scope cl C X.env) fp) tg g)
    (he : ∀ (s : Shared) (H : Hp) (C : Addr) (cl : List (Str × Addr)) (fp : List Addr), PE (X.blk s H scope (compEnvC scope cl C X.env) fp) elt (T X.K tb f)) (hs : ∀ x, foldedSetIterable iter X.env x = pure x := by intro _; rfl) :
    PE X (.ListComp elt [⟨tg, iter, [], 0⟩] scope pos) (T X.K tb (eLlI src t f (own.map (·.2)))) :=
  pe_mono (pe_lc hc hN hi ok hg (fun _ _ _ _ _ => ts_nil) he hs) fun _ _ _ h => llI_go htg hw h
end Pw
end
section
set_option Elab.async false
set_option linter.all false
set_option maxRecDepth 100000
set_option maxHeartbeats 4000000
namespace K72
open PySem PySem.Spec PyProof.Rows L2 Pw
def topS (i : Nat) : Stmt := PySem.Challenge.pw_thronewalk_k72_thrones_ask.main.body.getD i (.Pass ⟨0, 0, 0, 0⟩)
abbrev s_l_take : Stmt := topS 10
abbrev N_l_take : List Str := ["_law_state", "_law_below", "_law_cell", "_law_found"]
abbrev P_l_take : List Str := ["_law_state", "_law_below"]
theorem sc_l_take : FnScope N_l_take P_l_take (defScope s_l_take) := ⟨rfl, rfl, rfl, by decide +kernel, rfl, by decide +kernel, by decide +kernel⟩
abbrev s_drawn_order : Stmt := topS 12
abbrev N_drawn_order : List Str := ["_law_state", "_law_pool", "_law_many", "_law_left", "_law_found", "_law_k"]
abbrev P_drawn_order : List Str := ["_law_state", "_law_pool", "_law_many"]
theorem sc_drawn_order : FnScope N_drawn_order P_drawn_order (defScope s_drawn_order) := ⟨rfl, rfl, rfl, by decide +kernel, rfl, by decide +kernel, by decide +kernel⟩
abbrev s_wished : Stmt := topS 14
abbrev N_wished : List Str := ["_law_wishes", "_law_who", "_law_one", "_law_thrones_here"]
abbrev P_wished : List Str := ["_law_wishes", "_law_who"]
theorem sc_wished : FnScope N_wished P_wished (defScope s_wished) := ⟨rfl, rfl, rfl, by decide +kernel, rfl, by decide +kernel, by decide +kernel⟩
abbrev s_asked_by_thrones : Stmt := topS 15
abbrev N_asked_by_thrones : List Str := ["_law_orders", "_law_wishes", "_law_turn", "_law_sharing", "_law_left", "_law_asks", "_law_some", "_law_throne", "_law_who", "_law_wished_here", "_law_word", "_law_order"]
abbrev P_asked_by_thrones : List Str := ["_law_orders", "_law_wishes", "_law_turn"]
theorem sc_asked_by_thrones : FnScope N_asked_by_thrones P_asked_by_thrones (defScope s_asked_by_thrones) := ⟨rfl, rfl, rfl, by decide +kernel, rfl, by decide +kernel, by decide +kernel⟩
abbrev s_is_plain : Stmt := topS 11
abbrev N_is_plain : List Str := ["_law_thing", "_law_part"]
abbrev P_is_plain : List Str := ["_law_thing"]
theorem sc_is_plain : FnScope N_is_plain P_is_plain (defScope s_is_plain) := ⟨rfl, rfl, rfl, by decide +kernel, rfl, by decide +kernel, by decide +kernel⟩
abbrev s_is_dearer : Stmt := topS 3
abbrev N_is_dearer : List Str := ["thrones", "throne", "had"]
abbrev P_is_dearer : List Str := ["thrones", "throne", "had"]
theorem sc_is_dearer : FnScope N_is_dearer P_is_dearer (defScope s_is_dearer) := ⟨rfl, rfl, rfl, by decide +kernel, rfl, by decide +kernel, by decide +kernel⟩
abbrev s_answer : Stmt := topS 7
abbrev N_answer : List Str := ["thrones", "throne", "had"]
abbrev P_answer : List Str := ["thrones", "throne", "had"]
theorem sc_answer : FnScope N_answer P_answer (defScope s_answer) := ⟨rfl, rfl, rfl, by decide +kernel, rfl, by decide +kernel, by decide +kernel⟩
abbrev s_asking_throne : Stmt := topS 6
abbrev N_asking_throne : List Str := ["orders", "turn", "sharing", "asked", "throne"]
abbrev P_asking_throne : List Str := ["orders", "turn", "sharing", "asked"]
theorem sc_asking_throne : FnScope N_asking_throne P_asking_throne (defScope s_asking_throne) := ⟨rfl, rfl, rfl, by decide +kernel, rfl, by decide +kernel, by decide +kernel⟩
abbrev s_take : Stmt := topS 8
abbrev N_take : List Str := ["sharing", "throne", "who", "had"]
abbrev P_take : List Str := ["sharing", "throne", "who", "had"]
theorem sc_take : FnScope N_take P_take (defScope s_take) := ⟨rfl, rfl, rfl, by decide +kernel, rfl, by decide +kernel, by decide +kernel⟩
abbrev s_throne_of : Stmt := topS 2
abbrev N_throne_of : List Str := ["sharing", "who"]
abbrev P_throne_of : List Str := ["sharing", "who"]
theorem sc_throne_of : FnScope N_throne_of P_throne_of (defScope s_throne_of) := ⟨rfl, rfl, rfl, by decide +kernel, rfl, by decide +kernel, by decide +kernel⟩
abbrev s_wishes_by : Stmt := topS 1
abbrev N_wishes_by : List Str := ["wishes", "who", "thrones"]
abbrev P_wishes_by : List Str := ["wishes"]
theorem sc_wishes_by : FnScope N_wishes_by P_wishes_by (defScope s_wishes_by) := ⟨rfl, rfl, rfl, by decide +kernel, rfl, by decide +kernel, by decide +kernel⟩
abbrev s_by_thrones : Stmt := topS 5
abbrev N_by_thrones : List Str := ["orders", "wishes", "turn", "wished", "sharing", "asked", "asks", "throne", "who", "had", "word"]
abbrev P_by_thrones : List Str := ["orders", "wishes", "turn"]
theorem sc_by_thrones : FnScope N_by_thrones P_by_thrones (defScope s_by_thrones) := ⟨rfl, rfl, rfl, by decide +kernel, rfl, by decide +kernel, by decide +kernel⟩
abbrev s_right : Stmt := topS 16
abbrev N_right : List Str := ["_law_orders", "_law_wishes", "_law_turn", "_law_found"]
abbrev P_right : List Str := ["_law_orders", "_law_wishes", "_law_turn"]
theorem sc_right : FnScope N_right P_right (defScope s_right) := ⟨rfl, rfl, rfl, by decide +kernel, rfl, by decide +kernel, by decide +kernel⟩
abbrev s_thrones : Stmt := topS 13
abbrev N_thrones : List Str := ["_law_state", "_law_most", "_law_many", "_law_pool", "_law_orders", "_law_throne", "_law_wishes", "_law_who", "_law_size"]
abbrev P_thrones : List Str := ["_law_state", "_law_most", "_law_many"]
theorem sc_thrones : FnScope N_thrones P_thrones (defScope s_thrones) := ⟨rfl, rfl, rfl, by decide +kernel, rfl, by decide +kernel, by decide +kernel⟩
abbrev s_law : Stmt := topS 17
abbrev N_law : List Str := ["_law_script", "_law_state", "_law_turn", "_law_many", "_law_turns", "_law_some", "_law_orders", "_law_wishes", "_law_k"]
abbrev P_law : List Str := ["_law_script"]
theorem sc_law : FnScope N_law P_law (defScope s_law) := ⟨rfl, rfl, rfl, by decide +kernel, rfl, by decide +kernel, by decide +kernel⟩
structure Ctx (K : FRG) (mg : Str → Option Value) (tb : List Addr) where
  f_l_take : Addr
  fd_l_take : FuncData
  cd_l_take : Value
  F_l_take : FunC K "_law_take" "_law_take" s_l_take f_l_take fd_l_take cd_l_take
  b_l_take : Binds K fd_l_take P_l_take []
  g_l_take : mg "_law_take" = some (.ref f_l_take)
  f_drawn_order : Addr
  fd_drawn_order : FuncData
  cd_drawn_order : Value
  F_drawn_order : FunC K "_law_drawn_order" "_law_drawn_order" s_drawn_order f_drawn_order fd_drawn_order cd_drawn_order
  b_drawn_order : Binds K fd_drawn_order P_drawn_order []
  g_drawn_order : mg "_law_drawn_order" = some (.ref f_drawn_order)
  f_wished : Addr
  fd_wished : FuncData
  cd_wished : Value
  F_wished : FunC K "_law_wished" "_law_wished" s_wished f_wished fd_wished cd_wished
  b_wished : Binds K fd_wished P_wished []
  g_wished : mg "_law_wished" = some (.ref f_wished)
  f_asked_by_thrones : Addr
  fd_asked_by_thrones : FuncData
  cd_asked_by_thrones : Value
  F_asked_by_thrones : FunC K "_law_asked_by_thrones" "_law_asked_by_thrones" s_asked_by_thrones f_asked_by_thrones fd_asked_by_thrones cd_asked_by_thrones
  b_asked_by_thrones : Binds K fd_asked_by_thrones P_asked_by_thrones []
  g_asked_by_thrones : mg "_law_asked_by_thrones" = some (.ref f_asked_by_thrones)
  f_is_plain : Addr
  fd_is_plain : FuncData
  cd_is_plain : Value
  F_is_plain : FunC K "_law_is_plain" "_law_is_plain" s_is_plain f_is_plain fd_is_plain cd_is_plain
  b_is_plain : Binds K fd_is_plain P_is_plain []
  g_is_plain : mg "_law_is_plain" = some (.ref f_is_plain)
  f_is_dearer : Addr
  fd_is_dearer : FuncData
  cd_is_dearer : Value
  F_is_dearer : FunC K "is_dearer" "is_dearer" s_is_dearer f_is_dearer fd_is_dearer cd_is_dearer
  b_is_dearer : Binds K fd_is_dearer P_is_dearer []
  g_is_dearer : mg "is_dearer" = some (.ref f_is_dearer)
  f_answer : Addr
  fd_answer : FuncData
  cd_answer : Value
  F_answer : FunC K "answer" "answer" s_answer f_answer fd_answer cd_answer
  b_answer : Binds K fd_answer P_answer []
  g_answer : mg "answer" = some (.ref f_answer)
  f_asking_throne : Addr
  fd_asking_throne : FuncData
  cd_asking_throne : Value
  F_asking_throne : FunC K "asking_throne" "asking_throne" s_asking_throne f_asking_throne fd_asking_throne cd_asking_throne
  b_asking_throne : Binds K fd_asking_throne P_asking_throne []
  g_asking_throne : mg "asking_throne" = some (.ref f_asking_throne)
  f_take : Addr
  fd_take : FuncData
  cd_take : Value
  F_take : FunC K "take" "take" s_take f_take fd_take cd_take
  b_take : Binds K fd_take P_take []
  g_take : mg "take" = some (.ref f_take)
  f_throne_of : Addr
  fd_throne_of : FuncData
  cd_throne_of : Value
  F_throne_of : FunC K "throne_of" "throne_of" s_throne_of f_throne_of fd_throne_of cd_throne_of
  b_throne_of : Binds K fd_throne_of P_throne_of []
  g_throne_of : mg "throne_of" = some (.ref f_throne_of)
  f_wishes_by : Addr
  fd_wishes_by : FuncData
  cd_wishes_by : Value
  F_wishes_by : FunC K "wishes_by" "wishes_by" s_wishes_by f_wishes_by fd_wishes_by cd_wishes_by
  b_wishes_by : Binds K fd_wishes_by P_wishes_by []
  g_wishes_by : mg "wishes_by" = some (.ref f_wishes_by)
  f_by_thrones : Addr
  fd_by_thrones : FuncData
  cd_by_thrones : Value
  F_by_thrones : FunC K "by_thrones" "by_thrones" s_by_thrones f_by_thrones fd_by_thrones cd_by_thrones
  b_by_thrones : Binds K fd_by_thrones P_by_thrones []
  g_by_thrones : mg "by_thrones" = some (.ref f_by_thrones)
  f_right : Addr
  fd_right : FuncData
  cd_right : Value
  F_right : FunC K "_law_right" "_law_right" s_right f_right fd_right cd_right
  b_right : Binds K fd_right P_right []
  g_right : mg "_law_right" = some (.ref f_right)
  f_thrones : Addr
  fd_thrones : FuncData
  cd_thrones : Value
  F_thrones : FunC K "_law_thrones" "_law_thrones" s_thrones f_thrones fd_thrones cd_thrones
  b_thrones : Binds K fd_thrones P_thrones []
  g_thrones : mg "_law_thrones" = some (.ref f_thrones)
  f_law : Addr
  fd_law : FuncData
  cd_law : Value
  F_law : FunC K "law" "law" s_law f_law fd_law cd_law
  b_law : Binds K fd_law P_law []
  g_law : mg "law" = some (.ref f_law)
  z_all : mg "all" = none
  z_bool : mg "bool" = none
  z_int : mg "int" = none
  z_isinstance : mg "isinstance" = none
  z_len : mg "len" = none
  z_list : mg "list" = none
  z_min : mg "min" = none
  z_range : mg "range" = none
  z_sorted : mg "sorted" = none
  z_str : mg "str" = none
  z_tuple : mg "tuple" = none
noncomputable def B_l_take : Sx := (sSeq (sFog [3] (sIf (tVal (eOp (cmpD gtI) (eOp ixD (eVar 0) (eC (.int 2))) (eC (.int 0)))) (sSeq (sSet 3 (eOp modD (eOp ixD (eVar 0) (eC (.int 2))) (eVar 1))) (sSeq (sPut (eVar 0) (eC (.int 2)) (eOp divD (eOp ixD (eVar 0) (eC (.int 2))) (eVar 1))) (sRet (eVar 3)))) sNil)) (sSeq (sSet 2 (eC (.int 0))) (sSeq (sIf (tVal (eOp (cmpD ltI) (eOp ixD (eVar 0) (eC (.int 1))) (eCB lenD (aCons (eOp ixD (eVar 0) (eC (.int 0))) aNil)))) (sSet 2 (eOp ixD (eOp ixD (eVar 0) (eC (.int 0))) (eOp ixD (eVar 0) (eC (.int 1))))) sNil) (sSeq (sPut (eVar 0) (eC (.int 1)) (eOp addD (eOp ixD (eVar 0) (eC (.int 1))) (eC (.int 1)))) (sSeq (sIf (tVal (eOp (cmpD geI) (eVar 2) (eOp powD (eC (.int 10)) (eC (.int 18))))) (sSeq (sPut (eVar 0) (eC (.int 2)) (eOp divD (eVar 2) (eVar 1))) (sRet (eOp modD (eVar 2) (eVar 1)))) sNil) (sSeq (sPut (eVar 0) (eC (.int 3)) (eOp modD (eOp addD (eOp addD (eOp mulD (eOp ixD (eVar 0) (eC (.int 3))) (eC (.int 48271))) (eOp modD (eVar 2) (eC (.int 2147483629)))) (eOp mulD (eC (.int 7)) (eOp ixD (eVar 0) (eC (.int 1))))) (eC (.int 2147483647)))) (sRet (eOp modD (eOp divD (eOp modD (eOp powD (eOp ixD (eVar 0) (eC (.int 3))) (eC (.int 3))) (eC (.int 2147483629))) (eC (.int 64))) (eVar 1)))))))))
noncomputable abbrev F_l_take : Fx := runF P_l_take.length N_l_take.length B_l_take
noncomputable def L_drawn_order_1 : Sx := (sDrop (eMt isLst appD (eVar 4) (aCons (eMt isLst popAtD (eVar 3) (aCons (eCall F_l_take (aCons (eVar 0) (aCons (eCB lenD (aCons (eVar 3) aNil)) aNil))) aNil)) aNil)))
noncomputable def B_drawn_order : Sx := (sSeq (sSet 3 (eOwn (eCB listD (aCons (eVar 1) aNil)))) (sSeq (sSet 4 (eOwn (eLst aNil))) (sSeq (sFor (iRngA (aCons (eCB (two minI) (aCons (eVar 2) (aCons (eCB lenD (aCons (eVar 3) aNil)) aNil))) aNil)) (gN 5) L_drawn_order_1 [5]) (sRet (eCB tupleXD (aCons (eVar 4) aNil))))))
noncomputable abbrev F_drawn_order : Fx := runF P_drawn_order.length N_drawn_order.length B_drawn_order
noncomputable def E_wished_1 : Ex := eLc (iSeq (eVar 0)) (gT [gN 2, gN 3]) (tVal (eOp (eqD false) (eVar 2) (eVar 1))) (eVar 3) [2, 3]
noncomputable def B_wished : Sx := (sRet (eOp ixD (eOp addD (eCB tupleD (aCons E_wished_1 aNil)) (eTup (aCons (eTup aNil) aNil))) (eC (.int 0))))
noncomputable abbrev F_wished : Fx := runF P_wished.length N_wished.length B_wished
noncomputable def E_asked_by_thrones_1 : Ex := eLc (iSeq (eVar 2)) (gN 7) (tAnd' (tVal (eOp (eqD false) (eOp ixD (eVar 3) (eVar 7)) (eUn negD (eC (.int 1))))) (tVal (eOp (eqD true) (eIxR (eVar 4) (eVar 7)) (eLst aNil)))) (eVar 7) [7]
noncomputable def L_asked_by_thrones_1 : Sx := (sSeq (sSet 7 (eOp ixD (eVar 6) (eC (.int 0)))) (sSeq (sSet 8 (eMt isLst popAtD (eIxR (eVar 4) (eVar 7)) (aCons (eC (.int 0)) aNil))) (sSeq (sSet 9 (eCall F_wished (aCons (eVar 1) (aCons (eVar 8) aNil)))) (sSeq (sSet 10 (eC (.str "no"))) (sSeq (sIf (tAnd' (tVal (eOp (inD true) (eVar 8) (eVar 3))) (tVal (eOp (inD false) (eVar 7) (eFg (eVar 9))))) (sSet 10 (eC (.str "takes"))) (sIf (tAnd' (tVal (eOp (inD false) (eVar 8) (eVar 3))) (tVal (eOp (inD false) (eVar 7) (eSlc (eFg (eVar 9)) oNone (oSome (eAlt (eMt isTx idxTD (eVar 9) (aCons (eAlt (eMt isTx idxTD (eVar 3) (aCons (eVar 8) aNil)) (eMt isLA idxD (eVar 3) (aCons (eVar 8) aNil))) aNil)) (eMt isLA idxD (eVar 9) (aCons (eAlt (eMt isTx idxTD (eVar 3) (aCons (eVar 8) aNil)) (eMt isLA idxD (eVar 3) (aCons (eVar 8) aNil))) aNil)))))))) (sSeq (sSet 10 (eC (.str "turns"))) (sPut (eVar 3) (eAlt (eMt isTx idxTD (eVar 3) (aCons (eVar 8) aNil)) (eMt isLA idxD (eVar 3) (aCons (eVar 8) aNil))) (eUn negD (eC (.int 1))))) sNil)) (sSeq (sIf (tVal (eOp (eqD true) (eVar 10) (eC (.str "no")))) (sPut (eVar 3) (eVar 7) (eVar 8)) sNil) (sSeq (sDrop (eMt isLst appD (eVar 5) (aCons (eTup (aCons (eVar 7) (aCons (eVar 8) (aCons (eVar 10) aNil)))) aNil))) (sSet 6 E_asked_by_thrones_1))))))))
noncomputable def E_asked_by_thrones_2 : Ex := eLc (iSeq (eVar 2)) (gN 7) (tVal (eOp (eqD true) (eIxR (eVar 4) (eVar 7)) (eLst aNil))) (eVar 7) [7]
noncomputable def B_asked_by_thrones : Sx := (sSeq (sSet 3 (eOwn (eOp mulD (eLst (aCons (eUn negD (eC (.int 1))) aNil)) (eCB lenD (aCons (eVar 0) aNil))))) (sSeq (sSet 4 (eLlI (iSeq (eVar 0)) (gN 11) (eCB listD (aCons (eFg (eVar 11)) aNil)) [11])) (sSeq (sSet 5 (eOwn (eLst aNil))) (sSeq (sSet 6 E_asked_by_thrones_2) (sSeq (sWhile (tVal (eOp (eqD true) (eVar 6) (eLst aNil))) L_asked_by_thrones_1 [7, 8, 9, 10]) (sRet (eTup (aCons (eCB tupleD (aCons (eVar 3) aNil)) (aCons (eCB tupleD (aCons (eVar 5) aNil)) aNil)))))))))
noncomputable abbrev F_asked_by_thrones : Fx := runF P_asked_by_thrones.length N_asked_by_thrones.length B_asked_by_thrones
noncomputable abbrev F_is_plain_r0 : Fx := runF P_is_plain.length N_is_plain.length fun _ _ => none
noncomputable def E_is_plain_1_r1 : Ex := eLc (iSeq (eVar 0)) (gN 1) tYes' (eCall F_is_plain_r0 (aCons (eVar 1) aNil)) [1]
noncomputable def B_is_plain_r1 : Sx := (sSeq (sIf (tTru (eIs .tuple (eVar 0))) (sRet (eCB allBD (aCons E_is_plain_1_r1 aNil))) sNil) (sRet (eAnd (eIs2 .int .str (eVar 0)) (eNot (eIs .bool (eVar 0))))))
noncomputable abbrev F_is_plain_r1 : Fx := runF P_is_plain.length N_is_plain.length B_is_plain_r1
noncomputable def E_is_plain_1_r2 : Ex := eLc (iSeq (eVar 0)) (gN 1) tYes' (eCall F_is_plain_r1 (aCons (eVar 1) aNil)) [1]
noncomputable def B_is_plain_r2 : Sx := (sSeq (sIf (tTru (eIs .tuple (eVar 0))) (sRet (eCB allBD (aCons E_is_plain_1_r2 aNil))) sNil) (sRet (eAnd (eIs2 .int .str (eVar 0)) (eNot (eIs .bool (eVar 0))))))
noncomputable abbrev F_is_plain_r2 : Fx := runF P_is_plain.length N_is_plain.length B_is_plain_r2
noncomputable def E_is_plain_1_r3 : Ex := eLc (iSeq (eVar 0)) (gN 1) tYes' (eCall F_is_plain_r2 (aCons (eVar 1) aNil)) [1]
noncomputable def B_is_plain_r3 : Sx := (sSeq (sIf (tTru (eIs .tuple (eVar 0))) (sRet (eCB allBD (aCons E_is_plain_1_r3 aNil))) sNil) (sRet (eAnd (eIs2 .int .str (eVar 0)) (eNot (eIs .bool (eVar 0))))))
noncomputable abbrev F_is_plain_r3 : Fx := runF P_is_plain.length N_is_plain.length B_is_plain_r3
noncomputable def E_is_plain_1_r4 : Ex := eLc (iSeq (eVar 0)) (gN 1) tYes' (eCall F_is_plain_r3 (aCons (eVar 1) aNil)) [1]
noncomputable def B_is_plain_r4 : Sx := (sSeq (sIf (tTru (eIs .tuple (eVar 0))) (sRet (eCB allBD (aCons E_is_plain_1_r4 aNil))) sNil) (sRet (eAnd (eIs2 .int .str (eVar 0)) (eNot (eIs .bool (eVar 0))))))
noncomputable abbrev F_is_plain_r4 : Fx := runF P_is_plain.length N_is_plain.length B_is_plain_r4
noncomputable abbrev F_is_plain : Fx := F_is_plain_r4
noncomputable def B_is_dearer : Sx := (sSeq (sIf (tVal (eOp (inD true) (eVar 1) (eFg (eVar 0)))) (sRet (eC (.bl false))) sNil) (sRet (eOr (eOp (eqD false) (eVar 2) (eUn negD (eC (.int 1)))) (eOp (cmpD ltI) (eMt isTx idxTD (eVar 0) (aCons (eVar 1) aNil)) (eMt isTx idxTD (eVar 0) (aCons (eVar 2) aNil))))))
noncomputable abbrev F_is_dearer : Fx := runF P_is_dearer.length N_is_dearer.length B_is_dearer
noncomputable def B_answer : Sx := (sSeq (sIf (tNot' (tTru (eCall F_is_dearer (aCons (eVar 0) (aCons (eVar 1) (aCons (eVar 2) aNil)))))) (sRet (eC (.str "no"))) sNil) (sRet (eIf (tVal (eOp (eqD false) (eVar 2) (eUn negD (eC (.int 1))))) (eC (.str "takes")) (eC (.str "turns")))))
noncomputable abbrev F_answer : Fx := runF P_answer.length N_answer.length B_answer
noncomputable def L_asking_throne_1 : Sx := (sIf (tAnd' (tVal (eOp (eqD false) (eOp ixD (eVar 2) (eVar 4)) (eUn negD (eC (.int 1))))) (tVal (eOp (cmpD ltI) (eOp ixD (eVar 3) (eVar 4)) (eCB lenD (aCons (eFg (eOp ixD (eVar 0) (eVar 4))) aNil))))) (sRet (eVar 4)) sNil)
noncomputable def B_asking_throne : Sx := (sSeq (sFor (iSeq (eVar 1)) (gN 4) L_asking_throne_1 [4]) (sRet (eUn negD (eC (.int 1)))))
noncomputable abbrev F_asking_throne : Fx := runF P_asking_throne.length N_asking_throne.length B_asking_throne
noncomputable def B_take : Sx := (sSeq (sIf (tVal (eOp (eqD true) (eVar 3) (eUn negD (eC (.int 1))))) (sPut (eVar 0) (eVar 3) (eUn negD (eC (.int 1)))) sNil) (sPut (eVar 0) (eVar 1) (eVar 2)))
noncomputable abbrev F_take : Fx := runF P_take.length N_take.length B_take
noncomputable def B_throne_of : Sx := (sRet (eIf (tVal (eOp (inD false) (eVar 1) (eFg (eVar 0)))) (eAlt (eMt isTx idxTD (eVar 0) (aCons (eVar 1) aNil)) (eMt isLA idxD (eVar 0) (aCons (eVar 1) aNil))) (eUn negD (eC (.int 1)))))
noncomputable abbrev F_throne_of : Fx := runF P_throne_of.length N_throne_of.length B_throne_of
noncomputable def E_wishes_by_1 : Ex := eDc (iSeq (eVar 0)) (gT [gN 1, gN 2]) tYes' (eVar 1) (eVar 2) [1, 2]
noncomputable def B_wishes_by : Sx := (sRet E_wishes_by_1)
noncomputable abbrev F_wishes_by : Fx := runF P_wishes_by.length N_wishes_by.length B_wishes_by
noncomputable def L_by_thrones_1 : Sx := (sSeq (sSet 8 (eOp ixD (eFg (eOp ixD (eVar 0) (eVar 7))) (eOp ixD (eVar 5) (eVar 7)))) (sSeq (sAug (fun i j => i + j) (eVar 5) (eVar 7) (eC (.int 1))) (sSeq (sSet 9 (eCall F_throne_of (aCons (eVar 4) (aCons (eVar 8) aNil)))) (sSeq (sSet 10 (eCall F_answer (aCons (eGet (eVar 3) (eVar 8) (eTup aNil)) (aCons (eVar 7) (aCons (eVar 9) aNil))))) (sSeq (sIf (tVal (eOp (eqD true) (eVar 10) (eC (.str "no")))) (sDrop (eCall F_take (aCons (eVar 4) (aCons (eVar 7) (aCons (eVar 8) (aCons (eVar 9) aNil)))))) sNil) (sSeq (sDrop (eMt isLst appD (eVar 6) (aCons (eTup (aCons (eVar 7) (aCons (eVar 8) (aCons (eVar 10) aNil)))) aNil))) (sSet 7 (eCall F_asking_throne (aCons (eVar 0) (aCons (eVar 2) (aCons (eVar 4) (aCons (eVar 5) aNil))))))))))))
noncomputable def B_by_thrones : Sx := (sSeq (sSet 3 (eCall F_wishes_by (aCons (eVar 1) aNil))) (sSeq (sSet 4 (eOwn (eOp mulD (eLst (aCons (eUn negD (eC (.int 1))) aNil)) (eCB lenD (aCons (eVar 0) aNil))))) (sSeq (sSet 5 (eOwn (eOp mulD (eLst (aCons (eC (.int 0)) aNil)) (eCB lenD (aCons (eVar 0) aNil))))) (sSeq (sSet 6 (eOwn (eLst aNil))) (sSeq (sSet 7 (eCall F_asking_throne (aCons (eVar 0) (aCons (eVar 2) (aCons (eVar 4) (aCons (eVar 5) aNil)))))) (sSeq (sWhile (tVal (eOp (eqD true) (eVar 7) (eUn negD (eC (.int 1))))) L_by_thrones_1 [8, 9, 10]) (sRet (eTup (aCons (eCB tupleD (aCons (eVar 4) aNil)) (aCons (eCB tupleD (aCons (eVar 6) aNil)) aNil))))))))))
noncomputable abbrev F_by_thrones : Fx := runF P_by_thrones.length N_by_thrones.length B_by_thrones
noncomputable def B_right : Sx := (sSeq (sSet 3 (eCall F_by_thrones (aCons (eVar 0) (aCons (eVar 1) (aCons (eVar 2) aNil))))) (sRet (eAnd (eOp (eqD false) (eVar 3) (eCall F_asked_by_thrones (aCons (eVar 0) (aCons (eVar 1) (aCons (eVar 2) aNil))))) (eCall F_is_plain (aCons (eVar 3) aNil)))))
noncomputable abbrev F_right : Fx := runF P_right.length N_right.length B_right
noncomputable def L_thrones_1 : Sx := (sFog [8] (sIf (tVal (eOp (cmpD gtI) (eCall F_l_take (aCons (eVar 0) (aCons (eC (.int 8)) aNil))) (eC (.int 0)))) (sSeq (sSet 8 (eOp ixD (eLst (aCons (eCB lenD (aCons (eVar 4) aNil)) (aCons (eCB lenD (aCons (eVar 4) aNil)) (aCons (eCall F_l_take (aCons (eVar 0) (aCons (eOp addD (eCB lenD (aCons (eVar 4) aNil)) (eC (.int 1))) aNil))) aNil)))) (eCall F_l_take (aCons (eVar 0) (aCons (eC (.int 3)) aNil))))) (sDrop (eMt isLst appD (eVar 6) (aCons (eTup (aCons (eVar 7) (aCons (eCall F_drawn_order (aCons (eVar 0) (aCons (eUn lrgD (eCB lenD (aCons (eVar 4) aNil))) (aCons (eVar 8) aNil)))) aNil))) aNil)))) sNil))
noncomputable def L_thrones_2 : Sx := (sSeq (sSet 8 (eOp ixD (eLst (aCons (eCB lenD (aCons (eVar 3) aNil)) (aCons (eCB lenD (aCons (eVar 3) aNil)) (aCons (eCall F_l_take (aCons (eVar 0) (aCons (eOp addD (eCB lenD (aCons (eVar 3) aNil)) (eC (.int 1))) aNil))) (aCons (eC (.int 1)) aNil))))) (eCall F_l_take (aCons (eVar 0) (aCons (eC (.int 4)) aNil))))) (sDrop (eMt isLst appD (eVar 4) (aCons (eCall F_drawn_order (aCons (eVar 0) (aCons (eVar 3) (aCons (eVar 8) aNil)))) aNil))))
noncomputable def B_thrones : Sx := (sSeq (sSet 3 (eCB sortBD (aCons (eFg (eCall F_drawn_order (aCons (eVar 0) (aCons (eUn lrgD (eC (.int 61))) (aCons (eVar 2) aNil))))) aNil))) (sSeq (sSet 4 (eOwn (eLst aNil))) (sSeq (sFor (iRngA (aCons (eOp addD (eC (.int 1)) (eCall F_l_take (aCons (eVar 0) (aCons (eVar 1) aNil)))) aNil)) (gN 5) L_thrones_2 [5, 8]) (sSeq (sSet 6 (eOwn (eLst aNil))) (sSeq (sFor (iSeq (eVar 3)) (gN 7) L_thrones_1 [7, 8]) (sRet (eLst (aCons (eCB tupleD (aCons (eVar 4) aNil)) (aCons (eCB tupleD (aCons (eVar 6) aNil)) aNil)))))))))
noncomputable abbrev F_thrones : Fx := runF P_thrones.length N_thrones.length B_thrones
noncomputable def L_law_1 : Sx := (sIf (tNot' (tTru (eCall F_right (aCons (eVar 6) (aCons (eVar 7) (aCons (eVar 5) aNil)))))) (sRet (eC (.bl false))) sNil)
noncomputable def E_law_1 : Ex := eLc (iRngA (aCons (eC (.int 2)) aNil)) (gN 8) tYes' (eFg (eCall F_drawn_order (aCons (eVar 1) (aCons (eUn lrgD (eVar 3)) (aCons (eVar 3) aNil))))) [8]
noncomputable def L_law_2 : Sx := (sSeq (sAsg (gTL [gN 6, gN 7]) (eCall F_thrones (aCons (eVar 1) (aCons (eC (.int 6)) (aCons (eC (.int 8)) aNil))))) (sSeq (sSet 3 (eCB lenD (aCons (eVar 6) aNil))) (sSeq (sSet 4 E_law_1) (sFor (iSeq (eOp addD (eVar 4) (eSlc (eVar 4) oNone (oSome (eC (.int 1)))))) (gN 5) L_law_1 [5]))))
noncomputable def B_law : Sx := (sSeq (sSet 1 (eOwn (eLst (aCons (eVar 0) (aCons (eC (.int 0)) (aCons (eC (.int 0)) (aCons (eC (.int 72)) aNil))))))) (sSeq (sFor (iRngA (aCons (eC (.int 4)) aNil)) (gN 2) L_law_2 [2, 3, 4, 5, 6, 7]) (sRet (eC (.bl true)))))
noncomputable abbrev F_law : Fx := runF P_law.length N_law.length B_law
section
variable {P : Program} {w : World} {K : FRG} {mg : Str → Option Value} {base : Heap} {tb : List Addr}
theorem ok_l_take (C : Ctx K mg tb) : FnG P w K mg base 1 C.f_l_take C.fd_l_take P_l_take (spF K tb P_l_take.length F_l_take) := by
  refine okG (k := 0) C.F_l_take sc_l_take fun A outer s H E hgd hr => ?_
  exact (bs_cons (bs_fog [3] (bs_if (tx_cmp op_gt gt_s (ex_ix (ex_var 0) ex_int) ex_int (nomark _)) (bs_cons (bs_set 3 sc_l_take.nd (ex_op op_mod mod_s (ex_ix (ex_var 0) ex_int) (ex_var 1)))
      (bs_cons (bs_put (ex_var 0) ex_int (ex_op op_fdiv div_s (ex_ix (ex_var 0) ex_int) (ex_var 1)))
      (bs_one (bs_ret (ex_var 3))))) bs_nil))
      (bs_cons (bs_set 2 sc_l_take.nd ex_int)
      (bs_cons (bs_if (tx_cmp op_lt lt_s (ex_ix (ex_var 0) ex_int) (ex_callB len_s cr_lenA (by rfl) C.z_len PySem.boot_len (ax_cons (ex_ix (ex_var 0) ex_int) ax_nil)) (nomark _)) (bs_one (bs_set 2 sc_l_take.nd (ex_ix (ex_ix (ex_var 0) ex_int) (ex_ix (ex_var 0) ex_int)))) bs_nil)
      (bs_cons (bs_put (ex_var 0) ex_int (ex_op op_addA add_s (ex_ix (ex_var 0) ex_int) ex_int))
      (bs_cons (bs_if (tx_cmp op_ge ge_s (ex_var 2) (ex_op op_pow pow_s ex_int ex_int) (nomark _)) (bs_cons (bs_put (ex_var 0) ex_int (ex_op op_fdiv div_s (ex_var 2) (ex_var 1)))
      (bs_one (bs_ret (ex_op op_mod mod_s (ex_var 2) (ex_var 1))))) bs_nil)
      (bs_cons (bs_put (ex_var 0) ex_int (ex_op op_mod mod_s (ex_op op_addA add_s (ex_op op_addA add_s (ex_op op_mulA mul_s (ex_ix (ex_var 0) ex_int) ex_int) (ex_op op_mod mod_s (ex_var 2) ex_int)) (ex_op op_mulA mul_s ex_int (ex_ix (ex_var 0) ex_int))) ex_int))
      (bs_one (bs_ret (ex_op op_mod mod_s (ex_op op_fdiv div_s (ex_op op_mod mod_s (ex_op op_pow pow_s (ex_ix (ex_var 0) ex_int) ex_int) ex_int) ex_int) (ex_var 1))))))))))
theorem ok_drawn_order (C : Ctx K mg tb) : FnG P w K mg base 2 C.f_drawn_order C.fd_drawn_order P_drawn_order (spF K tb P_drawn_order.length F_drawn_order) := by
  have G_l_take : FnG P w K mg base 1 C.f_l_take C.fd_l_take P_l_take (spF K tb P_l_take.length F_l_take) := ok_l_take C
  refine okG (k := 1) C.F_drawn_order sc_drawn_order fun A outer s H E hgd hr => ?_
  exact (bs_cons (bs_set 3 sc_drawn_order.nd (ex_own (ex_callTy list_s call_list_of (by rfl) C.z_list (by decide +kernel) (ax_cons (ex_var 1) ax_nil))))
      (bs_cons (bs_set 4 sc_drawn_order.nd (ex_own (ex_lst ax_nil)))
      (bs_cons (bs_for (dd := [5]) rfl (tg_name 5) PassesOwn.never (ix_rng1 (by rfl) C.z_range (ax_cons (ex_callB two_s (cr_min rfl) (by rfl) C.z_min (by decide +kernel) (ax_cons (ex_var 2) (ax_cons (ex_callB len_s cr_lenA (by rfl) C.z_len PySem.boot_len (ax_cons (ex_var 3) ax_nil)) ax_nil))) ax_nil)) (pg_name (i := 5) sc_drawn_order.nd rfl (by first | exact Or.inl rfl | exact Or.inr rfl)) (bs_one (bs_drop (ex_append (ex_var 4) (ax_cons (ex_popAt (ex_var 3) (ax_cons (ex_callG (fun _ _ _ h => runF_len h) G_l_take hgd (hr.mono (by decide)) (by rfl) C.g_l_take C.F_l_take.kp C.b_l_take (ax_cons (ex_var 0) (ax_cons (ex_callB len_s cr_lenA (by rfl) C.z_len PySem.boot_len (ax_cons (ex_var 3) ax_nil)) ax_nil))) ax_nil)) ax_nil)))))
      (bs_one (bs_ret (ex_callTy tupleX_s Pv.cr_tupX (by rfl) C.z_tuple (by decide +kernel) (ax_cons (ex_var 4) ax_nil)))))))
theorem ok_wished (C : Ctx K mg tb) : FnG P w K mg base 1 C.f_wished C.fd_wished P_wished (spF K tb P_wished.length F_wished) := by
  refine okG (k := 0) C.F_wished sc_wished fun A outer s H E hgd hr => ?_
  exact (bs_one (bs_ret (ex_ix (ex_op op_addA add_s (ex_callTy tuple_s call_tuple_of (by rfl) C.z_tuple (by decide +kernel) (ax_cons (ex_lc (own := [("_law_one", 2), ("_law_thrones_here", 3)]) rfl sc_wished.nd (tg_tup rfl (tgs_cons (tg_name 2) (tgs_cons (tg_name 3) tgs_nil))) (tw_tup (tws_cons (i := 2) (by decide) (tws_cons (i := 3) (by decide) tws_nil))) (ix_seq' (ex_var 0)) (blkOk_by (own := [("_law_one", 2), ("_law_thrones_here", 3)]) (N := N_wished) (sc := defScope s_wished) (by decide +kernel)) (fun _ _ _ _ _ => (pg_tup rfl (pgs_cons (pg_name (i := 2) sc_wished.nd rfl (by first | exact Or.inl rfl | exact Or.inr rfl)) (pgs_cons (pg_name (i := 3) sc_wished.nd rfl (by first | exact Or.inl rfl | exact Or.inr rfl)) pgs_nil)))) (fun _ _ _ _ _ => (ts_one (tx_cmp (op_eqA hr.units) eq_s (ex_var 2) (ex_var 1) (nomark _)))) (fun _ _ _ _ _ => (ex_var 3))) ax_nil)) (ex_tup (ax_cons (ex_tup ax_nil) ax_nil))) ex_int)))
theorem ok_asked_by_thrones (C : Ctx K mg tb) : FnG P w K mg base 2 C.f_asked_by_thrones C.fd_asked_by_thrones P_asked_by_thrones (spF K tb P_asked_by_thrones.length F_asked_by_thrones) := by
  have G_wished : FnG P w K mg base 1 C.f_wished C.fd_wished P_wished (spF K tb P_wished.length F_wished) := ok_wished C
  refine okG (k := 1) C.F_asked_by_thrones sc_asked_by_thrones fun A outer s H E hgd hr => ?_
  exact (bs_cons (bs_set 3 sc_asked_by_thrones.nd (ex_own (ex_op op_mulA mul_s (ex_lst (ax_cons (ex_un un_neg neg_s ex_int) ax_nil)) (ex_callB len_s cr_lenA (by rfl) C.z_len PySem.boot_len (ax_cons (ex_var 0) ax_nil)))))
      (bs_cons (bs_set 4 sc_asked_by_thrones.nd (ex_llI (own := [("_law_order", 11)]) rfl sc_asked_by_thrones.nd (tg_name 11) (tw_name 11 (by decide)) (ix_seq' (ex_var 0)) (blkOk_by (own := [("_law_order", 11)]) (N := N_asked_by_thrones) (sc := defScope s_asked_by_thrones) (by decide +kernel)) (fun _ _ _ _ _ => (pg_name (i := 11) sc_asked_by_thrones.nd rfl (by first | exact Or.inl rfl | exact Or.inr rfl))) (fun _ _ _ _ _ => (ex_callTy list_s call_list_of (by rfl) C.z_list (by decide +kernel) (ax_cons (ex_fg (ex_var 11)) ax_nil)))))
      (bs_cons (bs_set 5 sc_asked_by_thrones.nd (ex_own (ex_lst ax_nil)))
      (bs_cons (bs_setLc 6 (own := [("_law_throne", 7)]) rfl sc_asked_by_thrones.nd (tg_name 7) (tw_name 7 (by decide)) (ix_seq' (ex_var 2)) (blkOk_by (own := [("_law_throne", 7)]) (N := N_asked_by_thrones) (sc := defScope s_asked_by_thrones) (by decide +kernel)) (fun _ _ _ _ _ => (pg_name (i := 7) sc_asked_by_thrones.nd rfl (by first | exact Or.inl rfl | exact Or.inr rfl))) (fun _ _ _ _ _ => (ts_one (tx_cmp (op_neA hr.units) ne_s (ex_ixR (ex_var 4) (ex_var 7)) (ex_lst ax_nil) (nomark _)))) (fun _ _ _ _ _ => (ex_var 7)) (sw_true rfl rfl rfl (by decide +kernel)))
      (bs_cons (bs_while (dd := [7, 8, 9, 10]) PassesOwn.never (tx_cmp (op_neA hr.units) ne_s (ex_var 6) (ex_lst ax_nil) (nomark _)) (bs_cons (bs_set 7 sc_asked_by_thrones.nd (ex_ix (ex_var 6) ex_int))
      (bs_cons (bs_set 8 sc_asked_by_thrones.nd (ex_popAt (ex_ixR (ex_var 4) (ex_var 7)) (ax_cons ex_int ax_nil)))
      (bs_cons (bs_set 9 sc_asked_by_thrones.nd (ex_callG (fun _ _ _ h => runF_len h) G_wished hgd (hr.mono (by decide)) (by rfl) C.g_wished C.F_wished.kp C.b_wished (ax_cons (ex_var 1) (ax_cons (ex_var 8) ax_nil))))
      (bs_cons (bs_set 10 sc_asked_by_thrones.nd ex_str)
      (bs_cons (bs_if (pwt (tw_and (tx_cmp op_notIn_seq in_s (ex_var 8) (ex_var 3) (by rfl)) (tw_and1 (tx_cmp op_in_seq in_s (ex_var 7) (ex_fg (ex_var 9)) (by rfl))))) (bs_one (bs_set 10 sc_asked_by_thrones.nd ex_str)) (bs_one (bs_if (pwt (tw_and (tx_cmp op_in_seq in_s (ex_var 8) (ex_var 3) (by rfl)) (tw_and1 (tx_cmp op_in_seq in_s (ex_var 7) (ex_sl (ex_fg (ex_var 9)) ox_none (ox_some (ex_alt (ex_indexT (ex_var 9) (ax_cons (ex_alt (ex_indexT (ex_var 3) (ax_cons (ex_var 8) ax_nil)) (ex_index (ex_var 3) (ax_cons (ex_var 8) ax_nil))) ax_nil)) (ex_index (ex_var 9) (ax_cons (ex_alt (ex_indexT (ex_var 3) (ax_cons (ex_var 8) ax_nil)) (ex_index (ex_var 3) (ax_cons (ex_var 8) ax_nil))) ax_nil))))) (by rfl))))) (bs_cons (bs_set 10 sc_asked_by_thrones.nd ex_str)
      (bs_one (bs_put (ex_var 3) (ex_alt (ex_indexT (ex_var 3) (ax_cons (ex_var 8) ax_nil)) (ex_index (ex_var 3) (ax_cons (ex_var 8) ax_nil))) (ex_un un_neg neg_s ex_int)))) bs_nil)))
      (bs_cons (bs_if (tx_cmp (op_neA hr.units) ne_s (ex_var 10) ex_str (nomark _)) (bs_one (bs_put (ex_var 3) (ex_var 7) (ex_var 8))) bs_nil)
      (bs_cons (bs_drop (ex_append (ex_var 5) (ax_cons (ex_tup (ax_cons (ex_var 7) (ax_cons (ex_var 8) (ax_cons (ex_var 10) ax_nil)))) ax_nil)))
      (bs_one (bs_setLc 6 (own := [("_law_throne", 7)]) rfl sc_asked_by_thrones.nd (tg_name 7) (tw_name 7 (by decide)) (ix_seq' (ex_var 2)) (blkOk_by (own := [("_law_throne", 7)]) (N := N_asked_by_thrones) (sc := defScope s_asked_by_thrones) (by decide +kernel)) (fun _ _ _ _ _ => (pg_name (i := 7) sc_asked_by_thrones.nd rfl (by first | exact Or.inl rfl | exact Or.inr rfl))) (fun _ _ _ _ _ => (ts_one (pwt (tw_and (tx_cmp (op_eqA hr.units) eq_s (ex_ix (ex_var 3) (ex_var 7)) (ex_un un_neg neg_s ex_int) (nomark _)) (tw_and1 (tx_cmp (op_neA hr.units) ne_s (ex_ixR (ex_var 4) (ex_var 7)) (ex_lst ax_nil) (nomark _))))))) (fun _ _ _ _ _ => (ex_var 7)) (sw_true rfl rfl rfl (by decide +kernel))))))))))))
      (bs_one (bs_ret (ex_tup (ax_cons (ex_callTy tuple_s call_tuple_of (by rfl) C.z_tuple (by decide +kernel) (ax_cons (ex_var 3) ax_nil)) (ax_cons (ex_callTy tuple_s call_tuple_of (by rfl) C.z_tuple (by decide +kernel) (ax_cons (ex_var 5) ax_nil)) ax_nil))))))))))
theorem ok_is_plain_r0 (C : Ctx K mg tb) : FnG P w K mg base 0 C.f_is_plain C.fd_is_plain P_is_plain (spF K tb P_is_plain.length F_is_plain_r0) := fnG_none
theorem ok_is_plain_r1 (C : Ctx K mg tb) : FnG P w K mg base 1 C.f_is_plain C.fd_is_plain P_is_plain (spF K tb P_is_plain.length F_is_plain_r1) := by
  have G_is_plain : FnG P w K mg base 0 C.f_is_plain C.fd_is_plain P_is_plain (spF K tb P_is_plain.length F_is_plain_r0) := ok_is_plain_r0 C
  refine okG (k := 0) C.F_is_plain sc_is_plain fun A outer s H E hgd hr => ?_
  exact (bs_cons (bs_if (tx_tru (ex_isi .tuple (by rfl) C.z_isinstance (by rfl) C.z_tuple (by decide +kernel) (ex_var 0))) (bs_one (bs_ret (ex_callB allB_s (cr_all rfl) (by rfl) C.z_all (by decide +kernel) (ax_cons (ex_lc (own := [("_law_part", 1)]) rfl sc_is_plain.nd (tg_name 1) (tw_name 1 (by decide)) (ix_seq' (ex_var 0)) (blkOk_by (own := [("_law_part", 1)]) (N := N_is_plain) (sc := defScope s_is_plain) (by decide +kernel)) (fun _ _ _ _ _ => (pg_name (i := 1) sc_is_plain.nd rfl (by first | exact Or.inl rfl | exact Or.inr rfl))) (fun _ _ _ _ _ => ts_nil) (fun _ _ _ _ _ => (ex_callG (fun _ _ _ h => runF_len h) G_is_plain hgd (hr.mono (by decide)) (by rfl) C.g_is_plain C.F_is_plain.kp C.b_is_plain (ax_cons (ex_var 1) ax_nil)))) ax_nil)))) bs_nil)
      (bs_one (bs_ret (ex_and (ex_isi2 .int .str (by rfl) C.z_isinstance (by rfl) C.z_int (by decide +kernel) (by rfl) C.z_str (by decide +kernel) (ex_var 0)) (ex_one (ex_not (ex_isi .bool (by rfl) C.z_isinstance (by rfl) C.z_bool (by decide +kernel) (ex_var 0))))))))
theorem ok_is_plain_r2 (C : Ctx K mg tb) : FnG P w K mg base 2 C.f_is_plain C.fd_is_plain P_is_plain (spF K tb P_is_plain.length F_is_plain_r2) := by
  have G_is_plain : FnG P w K mg base 1 C.f_is_plain C.fd_is_plain P_is_plain (spF K tb P_is_plain.length F_is_plain_r1) := ok_is_plain_r1 C
  refine okG (k := 1) C.F_is_plain sc_is_plain fun A outer s H E hgd hr => ?_
  exact (bs_cons (bs_if (tx_tru (ex_isi .tuple (by rfl) C.z_isinstance (by rfl) C.z_tuple (by decide +kernel) (ex_var 0))) (bs_one (bs_ret (ex_callB allB_s (cr_all rfl) (by rfl) C.z_all (by decide +kernel) (ax_cons (ex_lc (own := [("_law_part", 1)]) rfl sc_is_plain.nd (tg_name 1) (tw_name 1 (by decide)) (ix_seq' (ex_var 0)) (blkOk_by (own := [("_law_part", 1)]) (N := N_is_plain) (sc := defScope s_is_plain) (by decide +kernel)) (fun _ _ _ _ _ => (pg_name (i := 1) sc_is_plain.nd rfl (by first | exact Or.inl rfl | exact Or.inr rfl))) (fun _ _ _ _ _ => ts_nil) (fun _ _ _ _ _ => (ex_callG (fun _ _ _ h => runF_len h) G_is_plain hgd (hr.mono (by decide)) (by rfl) C.g_is_plain C.F_is_plain.kp C.b_is_plain (ax_cons (ex_var 1) ax_nil)))) ax_nil)))) bs_nil)
      (bs_one (bs_ret (ex_and (ex_isi2 .int .str (by rfl) C.z_isinstance (by rfl) C.z_int (by decide +kernel) (by rfl) C.z_str (by decide +kernel) (ex_var 0)) (ex_one (ex_not (ex_isi .bool (by rfl) C.z_isinstance (by rfl) C.z_bool (by decide +kernel) (ex_var 0))))))))
theorem ok_is_plain_r3 (C : Ctx K mg tb) : FnG P w K mg base 3 C.f_is_plain C.fd_is_plain P_is_plain (spF K tb P_is_plain.length F_is_plain_r3) := by
  have G_is_plain : FnG P w K mg base 2 C.f_is_plain C.fd_is_plain P_is_plain (spF K tb P_is_plain.length F_is_plain_r2) := ok_is_plain_r2 C
  refine okG (k := 2) C.F_is_plain sc_is_plain fun A outer s H E hgd hr => ?_
  exact (bs_cons (bs_if (tx_tru (ex_isi .tuple (by rfl) C.z_isinstance (by rfl) C.z_tuple (by decide +kernel) (ex_var 0))) (bs_one (bs_ret (ex_callB allB_s (cr_all rfl) (by rfl) C.z_all (by decide +kernel) (ax_cons (ex_lc (own := [("_law_part", 1)]) rfl sc_is_plain.nd (tg_name 1) (tw_name 1 (by decide)) (ix_seq' (ex_var 0)) (blkOk_by (own := [("_law_part", 1)]) (N := N_is_plain) (sc := defScope s_is_plain) (by decide +kernel)) (fun _ _ _ _ _ => (pg_name (i := 1) sc_is_plain.nd rfl (by first | exact Or.inl rfl | exact Or.inr rfl))) (fun _ _ _ _ _ => ts_nil) (fun _ _ _ _ _ => (ex_callG (fun _ _ _ h => runF_len h) G_is_plain hgd (hr.mono (by decide)) (by rfl) C.g_is_plain C.F_is_plain.kp C.b_is_plain (ax_cons (ex_var 1) ax_nil)))) ax_nil)))) bs_nil)
      (bs_one (bs_ret (ex_and (ex_isi2 .int .str (by rfl) C.z_isinstance (by rfl) C.z_int (by decide +kernel) (by rfl) C.z_str (by decide +kernel) (ex_var 0)) (ex_one (ex_not (ex_isi .bool (by rfl) C.z_isinstance (by rfl) C.z_bool (by decide +kernel) (ex_var 0))))))))
theorem ok_is_plain_r4 (C : Ctx K mg tb) : FnG P w K mg base 4 C.f_is_plain C.fd_is_plain P_is_plain (spF K tb P_is_plain.length F_is_plain_r4) := by
  have G_is_plain : FnG P w K mg base 3 C.f_is_plain C.fd_is_plain P_is_plain (spF K tb P_is_plain.length F_is_plain_r3) := ok_is_plain_r3 C
  refine okG (k := 3) C.F_is_plain sc_is_plain fun A outer s H E hgd hr => ?_
  exact (bs_cons (bs_if (tx_tru (ex_isi .tuple (by rfl) C.z_isinstance (by rfl) C.z_tuple (by decide +kernel) (ex_var 0))) (bs_one (bs_ret (ex_callB allB_s (cr_all rfl) (by rfl) C.z_all (by decide +kernel) (ax_cons (ex_lc (own := [("_law_part", 1)]) rfl sc_is_plain.nd (tg_name 1) (tw_name 1 (by decide)) (ix_seq' (ex_var 0)) (blkOk_by (own := [("_law_part", 1)]) (N := N_is_plain) (sc := defScope s_is_plain) (by decide +kernel)) (fun _ _ _ _ _ => (pg_name (i := 1) sc_is_plain.nd rfl (by first | exact Or.inl rfl | exact Or.inr rfl))) (fun _ _ _ _ _ => ts_nil) (fun _ _ _ _ _ => (ex_callG (fun _ _ _ h => runF_len h) G_is_plain hgd (hr.mono (by decide)) (by rfl) C.g_is_plain C.F_is_plain.kp C.b_is_plain (ax_cons (ex_var 1) ax_nil)))) ax_nil)))) bs_nil)
      (bs_one (bs_ret (ex_and (ex_isi2 .int .str (by rfl) C.z_isinstance (by rfl) C.z_int (by decide +kernel) (by rfl) C.z_str (by decide +kernel) (ex_var 0)) (ex_one (ex_not (ex_isi .bool (by rfl) C.z_isinstance (by rfl) C.z_bool (by decide +kernel) (ex_var 0))))))))
theorem ok_is_plain (C : Ctx K mg tb) : FnG P w K mg base 4 C.f_is_plain C.fd_is_plain P_is_plain (spF K tb P_is_plain.length F_is_plain) := ok_is_plain_r4 C
theorem ok_is_dearer (C : Ctx K mg tb) : FnG P w K mg base 1 C.f_is_dearer C.fd_is_dearer P_is_dearer (spF K tb P_is_dearer.length F_is_dearer) := by
  refine okG (k := 0) C.F_is_dearer sc_is_dearer fun A outer s H E hgd hr => ?_
  exact (bs_cons (bs_if (tx_cmp op_notIn_seq in_s (ex_var 1) (ex_fg (ex_var 0)) (by rfl)) (bs_one (bs_ret ex_bl)) bs_nil)
      (bs_one (bs_ret (ex_or (ex_cmp (op_eqA hr.units) eq_s (ex_var 2) (ex_un un_neg neg_s ex_int) (nomark _)) (ex_one (ex_cmp op_lt lt_s (ex_indexT (ex_var 0) (ax_cons (ex_var 1) ax_nil)) (ex_indexT (ex_var 0) (ax_cons (ex_var 2) ax_nil)) (nomark _)))))))
theorem ok_answer (C : Ctx K mg tb) : FnG P w K mg base 2 C.f_answer C.fd_answer P_answer (spF K tb P_answer.length F_answer) := by
  have G_is_dearer : FnG P w K mg base 1 C.f_is_dearer C.fd_is_dearer P_is_dearer (spF K tb P_is_dearer.length F_is_dearer) := ok_is_dearer C
  refine okG (k := 1) C.F_answer sc_answer fun A outer s H E hgd hr => ?_
  exact (bs_cons (bs_if (tx_not (tx_tru (ex_callG (fun _ _ _ h => runF_len h) G_is_dearer hgd (hr.mono (by decide)) (by rfl) C.g_is_dearer C.F_is_dearer.kp C.b_is_dearer (ax_cons (ex_var 0) (ax_cons (ex_var 1) (ax_cons (ex_var 2) ax_nil)))))) (bs_one (bs_ret ex_str)) bs_nil)
      (bs_one (bs_ret (ex_if (tx_cmp (op_eqA hr.units) eq_s (ex_var 2) (ex_un un_neg neg_s ex_int) (nomark _)) ex_str ex_str))))
theorem ok_asking_throne (C : Ctx K mg tb) : FnG P w K mg base 1 C.f_asking_throne C.fd_asking_throne P_asking_throne (spF K tb P_asking_throne.length F_asking_throne) := by
  refine okG (k := 0) C.F_asking_throne sc_asking_throne fun A outer s H E hgd hr => ?_
  exact (bs_cons (bs_for (dd := [4]) rfl (tg_name 4) PassesOwn.never (ix_seq' (ex_var 1)) (pg_name (i := 4) sc_asking_throne.nd rfl (by first | exact Or.inl rfl | exact Or.inr rfl)) (bs_one (bs_if (pwt (tw_and (tx_cmp (op_eqA hr.units) eq_s (ex_ix (ex_var 2) (ex_var 4)) (ex_un un_neg neg_s ex_int) (nomark _)) (tw_and1 (tx_cmp op_lt lt_s (ex_ix (ex_var 3) (ex_var 4)) (ex_callB len_s cr_lenA (by rfl) C.z_len PySem.boot_len (ax_cons (ex_fg (ex_ix (ex_var 0) (ex_var 4))) ax_nil)) (nomark _))))) (bs_one (bs_ret (ex_var 4))) bs_nil)))
      (bs_one (bs_ret (ex_un un_neg neg_s ex_int))))
theorem ok_take (C : Ctx K mg tb) : FnG P w K mg base 1 C.f_take C.fd_take P_take (spF K tb P_take.length F_take) := by
  refine okG (k := 0) C.F_take sc_take fun A outer s H E hgd hr => ?_
  exact (bs_cons (bs_if (tx_cmp (op_neA hr.units) ne_s (ex_var 3) (ex_un un_neg neg_s ex_int) (nomark _)) (bs_one (bs_put (ex_var 0) (ex_var 3) (ex_un un_neg neg_s ex_int))) bs_nil)
      (bs_one (bs_put (ex_var 0) (ex_var 1) (ex_var 2))))
theorem ok_throne_of (C : Ctx K mg tb) : FnG P w K mg base 1 C.f_throne_of C.fd_throne_of P_throne_of (spF K tb P_throne_of.length F_throne_of) := by
  refine okG (k := 0) C.F_throne_of sc_throne_of fun A outer s H E hgd hr => ?_
  exact (bs_one (bs_ret (ex_if (tx_cmp op_in_seq in_s (ex_var 1) (ex_fg (ex_var 0)) (by rfl)) (ex_alt (ex_indexT (ex_var 0) (ax_cons (ex_var 1) ax_nil)) (ex_index (ex_var 0) (ax_cons (ex_var 1) ax_nil))) (ex_un un_neg neg_s ex_int))))
theorem ok_wishes_by (C : Ctx K mg tb) : FnG P w K mg base 1 C.f_wishes_by C.fd_wishes_by P_wishes_by (spF K tb P_wishes_by.length F_wishes_by) := by
  refine okG (k := 0) C.F_wishes_by sc_wishes_by fun A outer s H E hgd hr => ?_
  exact (bs_one (bs_ret (ex_dc (own := [("who", 1), ("thrones", 2)]) rfl sc_wishes_by.nd (tg_tup rfl (tgs_cons (tg_name 1) (tgs_cons (tg_name 2) tgs_nil))) (tw_tup (tws_cons (i := 1) (by decide) (tws_cons (i := 2) (by decide) tws_nil))) (ix_seq' (ex_var 0)) (blkOk_by (own := [("who", 1), ("thrones", 2)]) (N := N_wishes_by) (sc := defScope s_wishes_by) (by decide +kernel)) (fun _ _ _ _ _ => (pg_tup rfl (pgs_cons (pg_name (i := 1) sc_wishes_by.nd rfl (by first | exact Or.inl rfl | exact Or.inr rfl)) (pgs_cons (pg_name (i := 2) sc_wishes_by.nd rfl (by first | exact Or.inl rfl | exact Or.inr rfl)) pgs_nil)))) (fun _ _ _ _ _ => ts_nil) (fun _ _ _ _ _ => (ex_var 1)) (fun _ _ _ _ _ => (ex_var 2)))))
theorem ok_by_thrones (C : Ctx K mg tb) : FnG P w K mg base 3 C.f_by_thrones C.fd_by_thrones P_by_thrones (spF K tb P_by_thrones.length F_by_thrones) := by
  have G_answer : FnG P w K mg base 2 C.f_answer C.fd_answer P_answer (spF K tb P_answer.length F_answer) := ok_answer C
  have G_asking_throne : FnG P w K mg base 1 C.f_asking_throne C.fd_asking_throne P_asking_throne (spF K tb P_asking_throne.length F_asking_throne) := ok_asking_throne C
  have G_take : FnG P w K mg base 1 C.f_take C.fd_take P_take (spF K tb P_take.length F_take) := ok_take C
  have G_throne_of : FnG P w K mg base 1 C.f_throne_of C.fd_throne_of P_throne_of (spF K tb P_throne_of.length F_throne_of) := ok_throne_of C
  have G_wishes_by : FnG P w K mg base 1 C.f_wishes_by C.fd_wishes_by P_wishes_by (spF K tb P_wishes_by.length F_wishes_by) := ok_wishes_by C
  refine okG (k := 2) C.F_by_thrones sc_by_thrones fun A outer s H E hgd hr => ?_
  exact (bs_cons (bs_set 3 sc_by_thrones.nd (ex_callG (fun _ _ _ h => runF_len h) G_wishes_by hgd (hr.mono (by decide)) (by rfl) C.g_wishes_by C.F_wishes_by.kp C.b_wishes_by (ax_cons (ex_var 1) ax_nil)))
      (bs_cons (bs_set 4 sc_by_thrones.nd (ex_own (ex_op op_mulA mul_s (ex_lst (ax_cons (ex_un un_neg neg_s ex_int) ax_nil)) (ex_callB len_s cr_lenA (by rfl) C.z_len PySem.boot_len (ax_cons (ex_var 0) ax_nil)))))
      (bs_cons (bs_set 5 sc_by_thrones.nd (ex_own (ex_op op_mulA mul_s (ex_lst (ax_cons ex_int ax_nil)) (ex_callB len_s cr_lenA (by rfl) C.z_len PySem.boot_len (ax_cons (ex_var 0) ax_nil)))))
      (bs_cons (bs_set 6 sc_by_thrones.nd (ex_own (ex_lst ax_nil)))
      (bs_cons (bs_set 7 sc_by_thrones.nd (ex_callG (fun _ _ _ h => runF_len h) G_asking_throne hgd (hr.mono (by decide)) (by rfl) C.g_asking_throne C.F_asking_throne.kp C.b_asking_throne (ax_cons (ex_var 0) (ax_cons (ex_var 2) (ax_cons (ex_var 4) (ax_cons (ex_var 5) ax_nil))))))
      (bs_cons (bs_while (dd := [8, 9, 10]) PassesOwn.never (tx_cmp (op_neA hr.units) ne_s (ex_var 7) (ex_un un_neg neg_s ex_int) (nomark _)) (bs_cons (bs_set 8 sc_by_thrones.nd (ex_ix (ex_fg (ex_ix (ex_var 0) (ex_var 7))) (ex_ix (ex_var 5) (ex_var 7))))
      (bs_cons (bs_aug ip_add (ex_var 5) (ex_var 7) ex_int)
      (bs_cons (bs_set 9 sc_by_thrones.nd (ex_callG (fun _ _ _ h => runF_len h) G_throne_of hgd (hr.mono (by decide)) (by rfl) C.g_throne_of C.F_throne_of.kp C.b_throne_of (ax_cons (ex_var 4) (ax_cons (ex_var 8) ax_nil))))
      (bs_cons (bs_set 10 sc_by_thrones.nd (ex_callG (fun _ _ _ h => runF_len h) G_answer hgd (hr.mono (by decide)) (by rfl) C.g_answer C.F_answer.kp C.b_answer (ax_cons (ex_get (lt1 (Pv.roomU hr)) (ex_var 3) (ex_var 8) (ex_tup ax_nil) ⟨by rfl, by rfl, by rfl, by rfl⟩) (ax_cons (ex_var 7) (ax_cons (ex_var 9) ax_nil)))))
      (bs_cons (bs_if (tx_cmp (op_neA hr.units) ne_s (ex_var 10) ex_str (nomark _)) (bs_one (bs_drop (ex_callG (fun _ _ _ h => runF_len h) G_take hgd (hr.mono (by decide)) (by rfl) C.g_take C.F_take.kp C.b_take (ax_cons (ex_var 4) (ax_cons (ex_var 7) (ax_cons (ex_var 8) (ax_cons (ex_var 9) ax_nil))))))) bs_nil)
      (bs_cons (bs_drop (ex_append (ex_var 6) (ax_cons (ex_tup (ax_cons (ex_var 7) (ax_cons (ex_var 8) (ax_cons (ex_var 10) ax_nil)))) ax_nil)))
      (bs_one (bs_set 7 sc_by_thrones.nd (ex_callG (fun _ _ _ h => runF_len h) G_asking_throne hgd (hr.mono (by decide)) (by rfl) C.g_asking_throne C.F_asking_throne.kp C.b_asking_throne (ax_cons (ex_var 0) (ax_cons (ex_var 2) (ax_cons (ex_var 4) (ax_cons (ex_var 5) ax_nil))))))))))))))
      (bs_one (bs_ret (ex_tup (ax_cons (ex_callTy tuple_s call_tuple_of (by rfl) C.z_tuple (by decide +kernel) (ax_cons (ex_var 4) ax_nil)) (ax_cons (ex_callTy tuple_s call_tuple_of (by rfl) C.z_tuple (by decide +kernel) (ax_cons (ex_var 6) ax_nil)) ax_nil)))))))))))
theorem ok_right (C : Ctx K mg tb) : FnG P w K mg base 5 C.f_right C.fd_right P_right (spF K tb P_right.length F_right) := by
  have G_asked_by_thrones : FnG P w K mg base 2 C.f_asked_by_thrones C.fd_asked_by_thrones P_asked_by_thrones (spF K tb P_asked_by_thrones.length F_asked_by_thrones) := ok_asked_by_thrones C
  have G_is_plain : FnG P w K mg base 4 C.f_is_plain C.fd_is_plain P_is_plain (spF K tb P_is_plain.length F_is_plain) := ok_is_plain C
  have G_by_thrones : FnG P w K mg base 3 C.f_by_thrones C.fd_by_thrones P_by_thrones (spF K tb P_by_thrones.length F_by_thrones) := ok_by_thrones C
  refine okG (k := 4) C.F_right sc_right fun A outer s H E hgd hr => ?_
  exact (bs_cons (bs_set 3 sc_right.nd (ex_callG (fun _ _ _ h => runF_len h) G_by_thrones hgd (hr.mono (by decide)) (by rfl) C.g_by_thrones C.F_by_thrones.kp C.b_by_thrones (ax_cons (ex_var 0) (ax_cons (ex_var 1) (ax_cons (ex_var 2) ax_nil)))))
      (bs_one (bs_ret (ex_and (ex_cmp (op_eqA hr.units) eq_s (ex_var 3) (ex_callG (fun _ _ _ h => runF_len h) G_asked_by_thrones hgd (hr.mono (by decide)) (by rfl) C.g_asked_by_thrones C.F_asked_by_thrones.kp C.b_asked_by_thrones (ax_cons (ex_var 0) (ax_cons (ex_var 1) (ax_cons (ex_var 2) ax_nil)))) (nomark _)) (ex_one (ex_callG (fun _ _ _ h => runF_len h) G_is_plain hgd (hr.mono (by decide)) (by rfl) C.g_is_plain C.F_is_plain.kp C.b_is_plain (ax_cons (ex_var 3) ax_nil)))))))
theorem ok_thrones (C : Ctx K mg tb) : FnG P w K mg base 3 C.f_thrones C.fd_thrones P_thrones (spF K tb P_thrones.length F_thrones) := by
  have G_drawn_order : FnG P w K mg base 2 C.f_drawn_order C.fd_drawn_order P_drawn_order (spF K tb P_drawn_order.length F_drawn_order) := ok_drawn_order C
  have G_l_take : FnG P w K mg base 1 C.f_l_take C.fd_l_take P_l_take (spF K tb P_l_take.length F_l_take) := ok_l_take C
  refine okG (k := 2) C.F_thrones sc_thrones fun A outer s H E hgd hr => ?_
  exact (bs_cons (bs_set 3 sc_thrones.nd (ex_callB sortB_s Pv.cr_sortB (by rfl) C.z_sorted (by decide +kernel) (ax_cons (ex_fg (ex_callG (fun _ _ _ h => runF_len h) G_drawn_order hgd (hr.mono (by decide)) (by rfl) C.g_drawn_order C.F_drawn_order.kp C.b_drawn_order (ax_cons (ex_var 0) (ax_cons (ex_lrg rfl (by rfl) C.z_list (by rfl) C.z_range ex_int) (ax_cons (ex_var 2) ax_nil))))) ax_nil)))
      (bs_cons (bs_set 4 sc_thrones.nd (ex_own (ex_lst ax_nil)))
      (bs_cons (bs_for (dd := [5, 8]) rfl (tg_name 5) PassesOwn.never (ix_rng1 (by rfl) C.z_range (ax_cons (ex_op op_addA add_s ex_int (ex_callG (fun _ _ _ h => runF_len h) G_l_take hgd (hr.mono (by decide)) (by rfl) C.g_l_take C.F_l_take.kp C.b_l_take (ax_cons (ex_var 0) (ax_cons (ex_var 1) ax_nil)))) ax_nil)) (pg_name (i := 5) sc_thrones.nd rfl (by first | exact Or.inl rfl | exact Or.inr rfl)) (bs_cons (bs_set 8 sc_thrones.nd (ex_ix (ex_lst (ax_cons (ex_callB len_s cr_lenA (by rfl) C.z_len PySem.boot_len (ax_cons (ex_var 3) ax_nil)) (ax_cons (ex_callB len_s cr_lenA (by rfl) C.z_len PySem.boot_len (ax_cons (ex_var 3) ax_nil)) (ax_cons (ex_callG (fun _ _ _ h => runF_len h) G_l_take hgd (hr.mono (by decide)) (by rfl) C.g_l_take C.F_l_take.kp C.b_l_take (ax_cons (ex_var 0) (ax_cons (ex_op op_addA add_s (ex_callB len_s cr_lenA (by rfl) C.z_len PySem.boot_len (ax_cons (ex_var 3) ax_nil)) ex_int) ax_nil))) (ax_cons ex_int ax_nil))))) (ex_callG (fun _ _ _ h => runF_len h) G_l_take hgd (hr.mono (by decide)) (by rfl) C.g_l_take C.F_l_take.kp C.b_l_take (ax_cons (ex_var 0) (ax_cons ex_int ax_nil)))))
      (bs_one (bs_drop (ex_append (ex_var 4) (ax_cons (ex_callG (fun _ _ _ h => runF_len h) G_drawn_order hgd (hr.mono (by decide)) (by rfl) C.g_drawn_order C.F_drawn_order.kp C.b_drawn_order (ax_cons (ex_var 0) (ax_cons (ex_var 3) (ax_cons (ex_var 8) ax_nil)))) ax_nil))))))
      (bs_cons (bs_set 6 sc_thrones.nd (ex_own (ex_lst ax_nil)))
      (bs_cons (bs_for (dd := [7, 8]) rfl (tg_name 7) PassesOwn.never (ix_seq' (ex_var 3)) (pg_name (i := 7) sc_thrones.nd rfl (by first | exact Or.inl rfl | exact Or.inr rfl)) (bs_one (bs_fog [8] (bs_if (tx_cmp op_gt gt_s (ex_callG (fun _ _ _ h => runF_len h) G_l_take hgd (hr.mono (by decide)) (by rfl) C.g_l_take C.F_l_take.kp C.b_l_take (ax_cons (ex_var 0) (ax_cons ex_int ax_nil))) ex_int (nomark _)) (bs_cons (bs_set 8 sc_thrones.nd (ex_ix (ex_lst (ax_cons (ex_callB len_s cr_lenA (by rfl) C.z_len PySem.boot_len (ax_cons (ex_var 4) ax_nil)) (ax_cons (ex_callB len_s cr_lenA (by rfl) C.z_len PySem.boot_len (ax_cons (ex_var 4) ax_nil)) (ax_cons (ex_callG (fun _ _ _ h => runF_len h) G_l_take hgd (hr.mono (by decide)) (by rfl) C.g_l_take C.F_l_take.kp C.b_l_take (ax_cons (ex_var 0) (ax_cons (ex_op op_addA add_s (ex_callB len_s cr_lenA (by rfl) C.z_len PySem.boot_len (ax_cons (ex_var 4) ax_nil)) ex_int) ax_nil))) ax_nil)))) (ex_callG (fun _ _ _ h => runF_len h) G_l_take hgd (hr.mono (by decide)) (by rfl) C.g_l_take C.F_l_take.kp C.b_l_take (ax_cons (ex_var 0) (ax_cons ex_int ax_nil)))))
      (bs_one (bs_drop (ex_append (ex_var 6) (ax_cons (ex_tup (ax_cons (ex_var 7) (ax_cons (ex_callG (fun _ _ _ h => runF_len h) G_drawn_order hgd (hr.mono (by decide)) (by rfl) C.g_drawn_order C.F_drawn_order.kp C.b_drawn_order (ax_cons (ex_var 0) (ax_cons (ex_lrg rfl (by rfl) C.z_list (by rfl) C.z_range (ex_callB len_s cr_lenA (by rfl) C.z_len PySem.boot_len (ax_cons (ex_var 4) ax_nil))) (ax_cons (ex_var 8) ax_nil)))) ax_nil))) ax_nil))))) bs_nil))))
      (bs_one (bs_ret (ex_lst (ax_cons (ex_callTy tuple_s call_tuple_of (by rfl) C.z_tuple (by decide +kernel) (ax_cons (ex_var 4) ax_nil)) (ax_cons (ex_callTy tuple_s call_tuple_of (by rfl) C.z_tuple (by decide +kernel) (ax_cons (ex_var 6) ax_nil)) ax_nil))))))))))
theorem ok_law (C : Ctx K mg tb) : FnG P w K mg base 6 C.f_law C.fd_law P_law (spF K tb P_law.length F_law) := by
  have G_drawn_order : FnG P w K mg base 2 C.f_drawn_order C.fd_drawn_order P_drawn_order (spF K tb P_drawn_order.length F_drawn_order) := ok_drawn_order C
  have G_right : FnG P w K mg base 5 C.f_right C.fd_right P_right (spF K tb P_right.length F_right) := ok_right C
  have G_thrones : FnG P w K mg base 3 C.f_thrones C.fd_thrones P_thrones (spF K tb P_thrones.length F_thrones) := ok_thrones C
  refine okG (k := 5) C.F_law sc_law fun A outer s H E hgd hr => ?_
  exact (bs_cons (bs_set 1 sc_law.nd (ex_own (ex_lst (ax_cons (ex_var 0) (ax_cons ex_int (ax_cons ex_int (ax_cons ex_int ax_nil)))))))
      (bs_cons (bs_for (dd := [2, 3, 4, 5, 6, 7]) rfl (tg_name 2) PassesOwn.never (ix_rng1 (by rfl) C.z_range (ax_cons ex_int ax_nil)) (pg_name (i := 2) sc_law.nd rfl (by first | exact Or.inl rfl | exact Or.inr rfl)) (bs_cons (bs_asg (tg_tl rfl (tgs_cons (tg_name 6) (tgs_cons (tg_name 7) tgs_nil))) (ex_callG (fun _ _ _ h => runF_len h) G_thrones hgd (hr.mono (by decide)) (by rfl) C.g_thrones C.F_thrones.kp C.b_thrones (ax_cons (ex_var 1) (ax_cons ex_int (ax_cons ex_int ax_nil)))) (pg_tl rfl (pgs_cons (pg_name (i := 6) sc_law.nd rfl (by first | exact Or.inl rfl | exact Or.inr rfl)) (pgs_cons (pg_name (i := 7) sc_law.nd rfl (by first | exact Or.inl rfl | exact Or.inr rfl)) pgs_nil))))
      (bs_cons (bs_set 3 sc_law.nd (ex_callB len_s cr_lenA (by rfl) C.z_len PySem.boot_len (ax_cons (ex_var 6) ax_nil)))
      (bs_cons (bs_setLc 4 (own := [("_law_k", 8)]) rfl sc_law.nd (tg_name 8) (tw_name 8 (by decide)) (ix_rng1 (by rfl) C.z_range (ax_cons ex_int ax_nil)) (blkOk_by (own := [("_law_k", 8)]) (N := N_law) (sc := defScope s_law) (by decide +kernel)) (fun _ _ _ _ _ => (pg_name (i := 8) sc_law.nd rfl (by first | exact Or.inl rfl | exact Or.inr rfl))) (fun _ _ _ _ _ => ts_nil) (fun _ _ _ _ _ => (ex_fg (ex_callG (fun _ _ _ h => runF_len h) G_drawn_order hgd (hr.mono (by decide)) (by rfl) C.g_drawn_order C.F_drawn_order.kp C.b_drawn_order (ax_cons (ex_var 1) (ax_cons (ex_lrg rfl (by rfl) C.z_list (by rfl) C.z_range (ex_var 3)) (ax_cons (ex_var 3) ax_nil)))))) (sw_true rfl rfl rfl (by decide +kernel)))
      (bs_one (bs_for (dd := [5]) rfl (tg_name 5) PassesOwn.never (ix_seq' (ex_op op_addA add_s (ex_var 4) (ex_sl (ex_var 4) ox_none (ox_some ex_int)))) (pg_name (i := 5) sc_law.nd rfl (by first | exact Or.inl rfl | exact Or.inr rfl)) (bs_one (bs_if (tx_not (tx_tru (ex_callG (fun _ _ _ h => runF_len h) G_right hgd (hr.mono (by decide)) (by rfl) C.g_right C.F_right.kp C.b_right (ax_cons (ex_var 6) (ax_cons (ex_var 7) (ax_cons (ex_var 5) ax_nil)))))) (bs_one (bs_ret ex_bl)) bs_nil))))))))
      (bs_one (bs_ret ex_bl))))
end
end K72
end
section
set_option Elab.async false
set_option linter.all false
set_option maxRecDepth 100000
set_option maxHeartbeats 1000000
namespace Gs
abbrev Rl := Nat → Nat → Prop
structure Rest (pl rl : Nat → List Nat) (M : Rl) : Prop where
  ok : ∀ p r, M p r → r ∈ pl p ∧ p ∈ rl r
  f1 : ∀ p r r', M p r → M p r' → r = r'
  f2 : ∀ p p' r, M p r → M p' r → p = p'
  no : ∀ p r, r ∈ pl p → p ∈ rl r → (∀ p', M p' r → (rl r).idxOf p < (rl r).idxOf p') → (∀ r', M p r' → (pl p).idxOf r < (pl p).idxOf r') → False
structure St (pl rl : Nat → List Nat) (R : Rl) (A : Nat → Nat) : Prop where
  i1 : ∀ p r, R p r → r ∈ pl p ∧ p ∈ rl r ∧ 0 < A p ∧ (pl p)[A p - 1]? = some r
  i2 : ∀ p p' r, R p r → R p' r → p = p'
  i3 : ∀ p r, r ∈ (pl p).take (A p) → ¬ R p r → p ∉ rl r ∨ ∃ p', R p' r ∧ (rl r).idxOf p' < (rl r).idxOf p
  i4 : ∀ M, Rest pl rl M → ∀ p r, r ∈ (pl p).take (A p) → ¬ R p r → ¬ M p r
variable {pl rl : Nat → List Nat} {R M : Rl} {A : Nat → Nat}
theorem idx_at {l : List Nat} (nd : l.Nodup) {i r : Nat} (h : l[i]? = some r) : l.idxOf r = i := by
  obtain ⟨hi, rfl⟩ := List.getElem?_eq_some_iff.mp h
  exact nd.idxOf_getElem i hi
theorem mem_take_idx {l : List Nat} {r k : Nat} (h : r ∈ l) (lt : l.idxOf r < k) : r ∈ l.take k := by
  have hi := List.idxOf_lt_length_of_mem h
  rw [List.mem_take_iff_getElem]
  exact ⟨l.idxOf r, by omega, List.getElem_idxOf hi⟩
theorem St.f1 (h : St pl rl R A) {p r r' : Nat} (a : R p r) (b : R p r') : r = r' := by
  have x := (h.i1 _ _ a).2.2.2
  have y := (h.i1 _ _ b).2.2.2
  rw [x] at y; cases y; rfl
theorem St.start : St pl rl (fun _ _ => False) (fun _ => 0) :=
  ⟨fun _ _ h => h.elim, fun _ _ _ h => h.elim, fun _ _ h => by simp at h, fun _ _ _ _ h => by simp at h⟩
theorem keeps (hM : Rest pl rl M) {p p' r : Nat} (hr : r ∈ pl p) (hp : p ∈ rl r) (lt : (rl r).idxOf p < (rl r).idxOf p') (ndp : (pl p).Nodup)
    (imp : ∀ r', r' ∈ pl p → (pl p).idxOf r' < (pl p).idxOf r → ¬ M p r') : ¬ M p' r := fun m => by
  refine hM.no p r hr hp (fun q hq => ?_) (fun r' hr' => ?_)
  · rw [hM.f2 _ _ _ hq m]; exact lt
  · have ne : r' ≠ r := fun z => by
      subst z
      have := hM.f2 _ _ _ hr' m
      subst this; omega
    have mem := (hM.ok _ _ hr').1
    rcases Nat.lt_or_ge ((pl p).idxOf r) ((pl p).idxOf r') with z | z
    · exact z
    · have ne2 : (pl p).idxOf r' ≠ (pl p).idxOf r := fun e => ne (by
        have h1 := List.getElem_idxOf (List.idxOf_lt_length_of_mem mem)
        have h2 := List.getElem_idxOf (List.idxOf_lt_length_of_mem hr)
        rw [← h1, ← h2]; simp only [e])
      exact absurd hr' (imp r' mem (by omega))
theorem St.refuse (h : St pl rl R A) (nd : ∀ p, (pl p).Nodup) {p r : Nat} (free : ∀ r, ¬ R p r) (at_ : (pl p)[A p]? = some r)
    (no : p ∉ rl r ∨ ∃ p', R p' r ∧ (rl r).idxOf p' < (rl r).idxOf p) : St pl rl R (fun q => if q = p then A p + 1 else A q) := by
  have hl : A p < (pl p).length := (List.getElem?_eq_some_iff.mp at_).1
  have tk : ∀ x, x ∈ (pl p).take (A p + 1) → x ∈ (pl p).take (A p) ∨ x = r := fun x hx => by
    rw [List.take_succ, at_] at hx
    simpa using hx
  refine ⟨fun q s hq => ?_, h.i2, fun q s hs nr => ?_, fun M hM q s hs nr => ?_⟩
  · have ne : q ≠ p := fun z => free s (z ▸ hq)
    simp only [ne, if_false]; exact h.i1 q s hq
  · by_cases e : q = p
    · subst e
      simp only [if_true] at hs
      rcases tk s hs with z | rfl
      · exact h.i3 _ _ z nr
      · exact no
    · simp only [e, if_false] at hs
      exact h.i3 _ _ hs nr
  · by_cases e : q = p
    · subst e
      simp only [if_true] at hs
      rcases tk s hs with z | rfl
      · exact h.i4 M hM _ _ z nr
      · intro m
        rcases no with z | ⟨p', hp', lt⟩
        · exact z (hM.ok _ _ m).2
        · obtain ⟨a1, a2, a3, a4⟩ := h.i1 _ _ hp'
          refine keeps hM a1 a2 lt (nd _) (fun r' hr' lt' => ?_) m
          have ix := idx_at (nd p') a4
          refine h.i4 M hM _ _ (mem_take_idx hr' (by omega)) fun z => ?_
          have := h.f1 z hp'
          subst this; omega
    · simp only [e, if_false] at hs
      exact h.i4 M hM _ _ hs nr
theorem St.accept (h : St pl rl R A) (nd : ∀ p, (pl p).Nodup) {p r : Nat} (free : ∀ r, ¬ R p r) (at_ : (pl p)[A p]? = some r)
    (hp : p ∈ rl r) (yes : ∀ p', R p' r → (rl r).idxOf p < (rl r).idxOf p') : St pl rl (fun a b => (a = p ∧ b = r) ∨ (R a b ∧ b ≠ r)) (fun q => if q = p then A p + 1 else A q) := by
  have hl : A p < (pl p).length := (List.getElem?_eq_some_iff.mp at_).1
  have hr : r ∈ pl p := List.mem_of_getElem? at_
  have tk : ∀ x, x ∈ (pl p).take (A p + 1) → x ∈ (pl p).take (A p) ∨ x = r := fun x hx => by
    rw [List.take_succ, at_] at hx
    simpa using hx
  refine ⟨fun q s hq => ?_, fun q q' s hq hq' => ?_, fun q s hs nr => ?_, fun M hM q s hs nr => ?_⟩
  · rcases hq with ⟨rfl, rfl⟩ | ⟨hq, _⟩
    · refine ⟨hr, hp, by simp, by simpa using at_⟩
    · have ne : q ≠ p := fun z => free s (z ▸ hq)
      simp only [ne, if_false]; exact h.i1 q s hq
  · rcases hq with ⟨rfl, rfl⟩ | ⟨hq, n1⟩
    · rcases hq' with ⟨rfl, _⟩ | ⟨_, n2⟩
      · rfl
      · exact absurd rfl n2
    · rcases hq' with ⟨rfl, rfl⟩ | ⟨hq', n2⟩
      · exact absurd rfl n1
      · exact h.i2 _ _ _ hq hq'
  · have old : s ∈ (pl q).take (A q) → ¬ R q s → q ∉ rl s ∨ ∃ p', ((p' = p ∧ s = r) ∨ (R p' s ∧ s ≠ r)) ∧ (rl s).idxOf p' < (rl s).idxOf q := fun z nr => by
      rcases h.i3 _ _ z nr with y | ⟨p', y, lt⟩
      · exact .inl y
      · by_cases e : s = r
        · subst e
          exact .inr ⟨p, .inl ⟨rfl, rfl⟩, Nat.lt_trans (yes _ y) lt⟩
        · exact .inr ⟨p', .inr ⟨y, e⟩, lt⟩
    by_cases e : q = p
    · subst e
      simp only [if_true] at hs
      rcases tk s hs with z | rfl
      · exact old z (free s)
      · exact absurd (.inl ⟨rfl, rfl⟩) nr
    · simp only [e, if_false] at hs
      by_cases hq : R q s
      · have es : s = r := by
          by_cases es : s = r
          · exact es
          · exact absurd (.inr ⟨hq, es⟩) nr
        subst es
        exact .inr ⟨p, .inl ⟨rfl, rfl⟩, yes _ hq⟩
      · exact old hs hq
  · by_cases e : q = p
    · subst e
      simp only [if_true] at hs
      rcases tk s hs with z | rfl
      · exact h.i4 M hM _ _ z (free s)
      · exact absurd (.inl ⟨rfl, rfl⟩) nr
    · simp only [e, if_false] at hs
      by_cases hq : R q s
      · have es : s = r := by
          by_cases es : s = r
          · exact es
          · exact absurd (.inr ⟨hq, es⟩) nr
        subst es
        refine keeps hM hr hp (yes _ hq) (nd _) (fun r' hr' lt' => ?_)
        have ix := idx_at (nd p) at_
        exact h.i4 M hM _ _ (mem_take_idx hr' (by omega)) (free r')
      · exact h.i4 M hM _ _ hs hq
theorem Rest.swap (h : Rest pl rl M) : Rest rl pl (fun r p => M p r) :=
  ⟨fun p r z => ⟨(h.ok r p z).2, (h.ok r p z).1⟩, fun p r r' a b => h.f2 _ _ _ a b, fun p p' r a b => h.f1 _ _ _ a b, fun p r a b c d => h.no r p b a (fun p' z => d p' z) (fun r' z => c r' z)⟩
theorem len_sub : ∀ {l l' : List Nat}, l.Nodup → (∀ x ∈ l, x ∈ l') → l.length ≤ l'.length
  | [], _, _, _ => Nat.zero_le _
  | x :: l, l', nd, h => by
    have nd' := List.nodup_cons.mp nd
    have hx : x ∈ l' := h x List.mem_cons_self
    have := len_sub (l' := l'.erase x) nd'.2 fun y hy => (List.mem_erase_of_ne (fun z => nd'.1 (by rw [← z]; exact hy))).mpr (h y (List.mem_cons_of_mem _ hy))
    have hl := List.length_erase_of_mem hx
    have := List.length_pos_of_mem hx
    simp only [List.length_cons]; omega
theorem sub_eq {l l' : List Nat} (nd : l.Nodup) (h : ∀ x ∈ l, x ∈ l') (le : l'.length ≤ l.length) : ∀ x ∈ l', x ∈ l := fun x hx => by
  by_cases m : x ∈ l
  · exact m
  · have := len_sub (l := x :: l) (l' := l') (List.nodup_cons.mpr ⟨m, nd⟩) fun y hy => by
      rcases List.mem_cons.mp hy with rfl | z
      · exact hx
      · exact h y z
    simp only [List.length_cons] at this; omega
abbrev At (S : List (Option Nat)) : Rl := fun t w => S[t]? = some (some w)
end Gs
end
section
set_option Elab.async false
set_option linter.all false
set_option maxRecDepth 100000
set_option maxHeartbeats 4000000
namespace Lx
open PySem L2 Pw
theorem at_nat {α : Type} {xs : List α} {i : Nat} {x : α} (h : xs[i]? = some x) : atI xs (i : Int) = some x := by
  have hl : i < xs.length := (List.getElem?_eq_some_iff.mp h).1
  unfold atI ixN
  rw [if_pos (by omega), if_pos (by omega)]
  simpa using h
theorem at_int {α : Type} {xs : List α} {v : Int} {x : α} (h0 : 0 ≤ v) (h : xs[v.toNat]? = some x) : atI xs v = some x := by
  have := at_nat h
  rwa [Int.toNat_of_nonneg h0] at this
@[simp] theorem at0 {α : Type} {a : α} {xs : List α} : atI (a :: xs) 0 = some a := @at_nat _ (a :: xs) 0 a rfl
@[simp] theorem at1 {α : Type} {a b : α} {xs : List α} : atI (a :: b :: xs) 1 = some b := @at_nat _ (a :: b :: xs) 1 b rfl
@[simp] theorem at2 {α : Type} {a b c : α} {xs : List α} : atI (a :: b :: c :: xs) 2 = some c := @at_nat _ (a :: b :: c :: xs) 2 c rfl
@[simp] theorem at3 {α : Type} {a b c d : α} {xs : List α} : atI (a :: b :: c :: d :: xs) 3 = some d := @at_nat _ (a :: b :: c :: d :: xs) 3 d rfl
@[simp] theorem at4 {α : Type} {a b c d e : α} {xs : List α} : atI (a :: b :: c :: d :: e :: xs) 4 = some e := @at_nat _ (a :: b :: c :: d :: e :: xs) 4 e rfl
@[simp] theorem ix4_1 : ixN 4 1 = some 1 := rfl
@[simp] theorem ix4_2 : ixN 4 2 = some 2 := rfl
@[simp] theorem ix4_3 : ixN 4 3 = some 3 := rfl
@[simp] theorem stl_v {d : D} : stl (.v d) = .v d := rfl
@[simp] theorem stl_f {d : D} : stl (.f d) = .v d := rfl
@[simp] theorem stl_r {n : Nat} : stl (.r n) = .r n := rfl
@[simp] theorem gt_v {d : D} {m : Mem} : gt (.v d) m = some d := rfl
@[simp] theorem gt_f {d : D} {m : Mem} : gt (.f d) m = some d := rfl
@[simp] theorem gt_r {n : Nat} {m : Mem} : gt (.r n) m = (m[n]?).map moD := rfl
@[simp] theorem moD_l {ds : List D} : moD (.lst ds) = .lst ds := rfl
@[simp] theorem moD_k {kvs : List (Key × D)} : moD (.dk kvs) = .dk kvs := rfl
@[simp] theorem vl_v {d : D} : vl (.v d) = some d := rfl
@[simp] theorem vl_f {d : D} : vl (.f d) = some d := rfl
@[simp] theorem gts_nil {m : Mem} : gts [] m = some [] := rfl
@[simp] theorem gts_cons {w : W} {ws : List W} {m : Mem} : gts (w :: ws) m = (gt w m).bind fun d => (gts ws m).bind fun ds => some (d :: ds) := rfl
@[simp] theorem vls_nil : vls [] = some [] := rfl
@[simp] theorem vls_v {d : D} {ws : List W} : vls (.v d :: ws) = (vls ws).bind fun ds => some (d :: ds) := rfl
@[simp] theorem vls_f {d : D} {ws : List W} : vls (.f d :: ws) = (vls ws).bind fun ds => some (d :: ds) := rfl
@[simp] theorem blD_b {b : Bool} : blD (.bl b) = some b := rfl
@[simp] theorem inD_i {i : Int} : inD' (.int i) = some i := rfl
@[simp] theorem wipe_nil {ρ : Pw.Env} : wipeD ρ [] = ρ := rfl
@[simp] theorem wipe_cons {ρ : Pw.Env} {v : Nat} {vs : List Nat} : wipeD ρ (v :: vs) = (wipeD ρ vs).set v none := rfl
@[simp] theorem itm_t {ds : List D} : itmD (.tup ds) = some ds := rfl
@[simp] theorem itm_l {ds : List D} : itmD (.lst ds) = some ds := rfl
@[simp] theorem itmL_l {ds : List D} : itmL (.lst ds) = some ds := rfl
@[simp] theorem src_t {ds : List D} {m : Mem} : srcW (.v (.tup ds)) m = some (.seq ds) := rfl
@[simp] theorem src_l {ds : List D} {m : Mem} : srcW (.v (.lst ds)) m = some (.seq ds) := rfl
@[simp] theorem src_tf {ds : List D} {m : Mem} : srcW (.f (.tup ds)) m = some (.seq ds) := rfl
@[simp] theorem src_lf {ds : List D} {m : Mem} : srcW (.f (.lst ds)) m = some (.seq ds) := rfl
@[simp] theorem items_seq {ds : List D} {m : Mem} : itemsAt (.seq ds) m = some ds := rfl
@[simp] theorem own_f {ds : List D} {m : Mem} : ownW (.f (.lst ds)) m = some (.r m.length, m ++ [.lst ds]) := rfl
@[simp] theorem own_r {n : Nat} {m : Mem} : ownW (.r n) m = some (.r n, m) := rfl
@[simp] theorem out_v {k : Nat} {d : D} {m : Mem} : outW k (.v d) m = some (.v d, m.take k) := rfl
@[simp] theorem out_f {k : Nat} {d : D} {m : Mem} : outW k (.f d) m = some (.f d, m.take k) := rfl
@[simp] theorem sub_i {a b : Int} : subD (.int a) (.int b) = some (.v (.int (a - b))) := rfl
@[simp] theorem add_i {a b : Int} : addD (.int a) (.int b) = some (.v (.int (a + b))) := rfl
@[simp] theorem neg_i {a : Int} : negD (.int a) = some (.v (.int (-a))) := rfl
@[simp] theorem lt_i {a b : Int} : cmpD ltI (.int a) (.int b) = some (.v (.bl (decide (a < b)))) := rfl
@[simp] theorem le_i {a b : Int} : cmpD leI (.int a) (.int b) = some (.v (.bl (decide (a ≤ b)))) := rfl
@[simp] theorem gt_i {a b : Int} : cmpD gtI (.int a) (.int b) = some (.v (.bl (decide (b < a)))) := rfl
@[simp] theorem ge_i {a b : Int} : cmpD geI (.int a) (.int b) = some (.v (.bl (decide (b ≤ a)))) := rfl
@[simp] theorem max_i {a b : Int} : two maxI [.int a, .int b] = some (.v (.int (max a b))) := by
  simp only [two, maxI, Option.some.injEq, W.v.injEq, D.int.injEq]; split <;> omega
@[simp] theorem min_i {a b : Int} : two minI [.int a, .int b] = some (.v (.int (min a b))) := by
  simp only [two, minI, Option.some.injEq, W.v.injEq, D.int.injEq]; split <;> omega
@[simp] theorem int_b {b : Bool} : intD [.bl b] = some (.v (.int (if b then 1 else 0))) := rfl
@[simp] theorem int_i {b : Int} : intD [.int b] = some (.v (.int b)) := rfl
@[simp] theorem len_t {ds : List D} : lenD [.tup ds] = some (.v (.int ds.length)) := rfl
@[simp] theorem len_l {ds : List D} : lenD [.lst ds] = some (.v (.int ds.length)) := rfl
@[simp] theorem len_fl {ds : List D} : lenD [.fl ds] = some (.v (.int ds.length)) := rfl
@[simp] theorem tuple_l {ds : List D} : tupleD [.lst ds] = some (.v (.tup ds)) := rfl
@[simp] theorem tuple_t {ds : List D} : tupleD [.tup ds] = some (.v (.tup ds)) := rfl
@[simp] theorem list_t {ds : List D} : listD [.tup ds] = some (.f (.lst ds)) := rfl
@[simp] theorem list_l {ds : List D} : listD [.lst ds] = some (.f (.lst ds)) := rfl
@[simp] theorem ix_t {ds : List D} {i : Int} : ixD (.tup ds) (.int i) = (atI ds i).bind fun d => some (.v d) := rfl
@[simp] theorem ix_l {ds : List D} {i : Int} : ixD (.lst ds) (.int i) = (atI ds i).bind fun d => some (.v d) := rfl
@[simp] theorem ix_fl {ds : List D} {i : Int} : ixD (.fl ds) (.int i) = (atI ds i).bind fun d => some (.v d) := rfl
@[simp] theorem eq_i {neg : Bool} {x y : Int} : eqD neg (.int x) (.int y) = some (.v (.bl (decide (x = y) != neg))) := by
  unfold eqD eqB
  simp [sc, scal]
@[simp] theorem eq_s {neg : Bool} {x y : Str} : eqD neg (.str x) (.str y) = some (.v (.bl (decide (x = y) != neg))) := by
  unfold eqD eqB
  simp [sc, scal]
theorem mul_i {a b : Int} (c : CMul a b) : mulD (.int a) (.int b) = some (.v (.int (a * b))) := by simp [mulD, c]
theorem div_i {a b : Int} (h : 0 < b) (h2 : b < 2 ^ 30) : divD (.int a) (.int b) = some (.v (.int (a / b))) := by
  have c : CDiv a b := ⟨h, h2⟩
  simp [divD, intC, c]
theorem mod_i {a b : Int} (h : 0 < b) : modD (.int a) (.int b) = some (.v (.int (a % b))) := by simp [modD, intC, h]
theorem pow_i {a b : Int} (c : CPow a b) : powD (.int a) (.int b) = some (.v (.int (a ^ b.toNat))) := by simp [powD, intC, c]
@[simp] theorem add_l {a b : List D} : addD (.lst a) (.lst b) = if a.length + b.length ≤ 1000000 then some (.f (.lst (a ++ b))) else none := rfl
@[simp] theorem add_t {a b : List D} : addD (.tup a) (.tup b) = if a.length + b.length ≤ 1000000 then some (.v (.tup (a ++ b))) else none := rfl
@[simp] theorem app_r {n : Nat} {w : W} {m : Mem} : appD (.r n) [w] m = match m[n]? with
    | some (.lst ds) => (vl w).bind fun d => if ds.length < 1000000 then some (.v .non, m.set n (.lst (ds ++ [d]))) else none
    | _ => none := rfl
@[simp] theorem isl_r {n : Nat} {m : Mem} : isLst (.r n) m = match m[n]? with
    | some (.lst _) => true
    | _ => false := rfl
@[simp] theorem rngA_i {n : Nat} : rngA [.int (n : Int)] = if (n : Int) ≤ 1000000000 then some (rngD 0 n) else none := by
  unfold rngA
  simp only [Int.toNat_natCast]
  by_cases h : (n : Int) ≤ 1000000000
  · rw [if_pos ⟨by omega, h⟩, if_pos h]
  · rw [if_neg (fun z => h z.2), if_neg h]
@[simp] theorem put_r {n : Nat} {i : Int} {d : D} {m : Mem} : putD (.r n) (.int i) d m = match m[n]? with
    | some (.lst ds) => (ixN ds.length i).map fun j => m.set n (.lst (ds.set j d))
    | _ => none := rfl
structure St where
  p : Int
  c : Int
  sd : Int
  hp : 0 ≤ p
  hc : 0 ≤ c
  hs : 0 ≤ sd
  hs2 : sd < 2147483647
def stD (ns : List Int) (s : St) : MO := .lst [.fl (ns.map .int), .int s.p, .int s.c, .int s.sd]
noncomputable def B_take : Sx := (sSeq (sFog [3] (sIf (tVal (eOp (cmpD gtI) (eOp ixD (eVar 0) (eC (.int 2))) (eC (.int 0)))) (sSeq (sSet 3 (eOp modD (eOp ixD (eVar 0) (eC (.int 2))) (eVar 1))) (sSeq (sPut (eVar 0) (eC (.int 2)) (eOp divD (eOp ixD (eVar 0) (eC (.int 2))) (eVar 1))) (sRet (eVar 3)))) sNil)) (sSeq (sSet 2 (eC (.int 0))) (sSeq (sIf (tVal (eOp (cmpD ltI) (eOp ixD (eVar 0) (eC (.int 1))) (eCB lenD (aCons (eOp ixD (eVar 0) (eC (.int 0))) aNil)))) (sSet 2 (eOp ixD (eOp ixD (eVar 0) (eC (.int 0))) (eOp ixD (eVar 0) (eC (.int 1))))) sNil) (sSeq (sPut (eVar 0) (eC (.int 1)) (eOp addD (eOp ixD (eVar 0) (eC (.int 1))) (eC (.int 1)))) (sSeq (sIf (tVal (eOp (cmpD geI) (eVar 2) (eOp powD (eC (.int 10)) (eC (.int 18))))) (sSeq (sPut (eVar 0) (eC (.int 2)) (eOp divD (eVar 2) (eVar 1))) (sRet (eOp modD (eVar 2) (eVar 1)))) sNil) (sSeq (sPut (eVar 0) (eC (.int 3)) (eOp modD (eOp addD (eOp addD (eOp mulD (eOp ixD (eVar 0) (eC (.int 3))) (eC (.int 48271))) (eOp modD (eVar 2) (eC (.int 2147483629)))) (eOp mulD (eC (.int 7)) (eOp ixD (eVar 0) (eC (.int 1))))) (eC (.int 2147483647)))) (sRet (eOp modD (eOp divD (eOp modD (eOp powD (eOp ixD (eVar 0) (eC (.int 3))) (eC (.int 3))) (eC (.int 2147483629))) (eC (.int 64))) (eVar 1)))))))))
noncomputable def F_take : Fx := runF 2 4 B_take
theorem take_ex (ns : List Int) (s : St) (b : Int) (hb : 0 < b) (hb2 : b < 1073741824) :
    ∃ (v : Int) (s' : St), 0 ≤ v ∧ v < b ∧ ∀ m : Mem, F_take [.r 0, .v (.int b)] (stD ns s :: m) = some (.v (.int v), stD ns s' :: m) := by
  obtain ⟨p, c, sd, hp, hc, hs, hs2⟩ := s
  by_cases h0 : 0 < c
  · refine ⟨c % b, ⟨p, c / b, sd, hp, Int.ediv_nonneg hc (by omega), hs, hs2⟩, Int.emod_nonneg _ (by omega), Int.emod_lt_of_pos _ hb, fun m => ?_⟩
    simp [F_take, runF, B_take, startD, sFog, sSeq, sIf, sSet, sRet, sPut, eVar, eC, eOp, tVal, stD, h0, mod_i hb, div_i hb hb2]
  · have key : ∀ cell : Int, (if p < (ns.length : Int) then atI (ns.map D.int) p else some (D.int 0)) = some (.int cell) → ∃ (v : Int) (s' : St), 0 ≤ v ∧ v < b ∧ ∀ m : Mem, F_take [.r 0, .v (.int b)] (stD ns ⟨p, c, sd, hp, hc, hs, hs2⟩ :: m) = some (.v (.int v), stD ns s' :: m) := by
      intro cell hcell
      have cp10 : CPow 10 18 := ⟨by omega, by omega, by decide⟩
      by_cases hbig : (1000000000000000000 : Int) ≤ cell
      · refine ⟨cell % b, ⟨p + 1, cell / b, sd, by omega, Int.ediv_nonneg (by omega) (by omega), hs, hs2⟩, Int.emod_nonneg _ (by omega), Int.emod_lt_of_pos _ hb, fun m => ?_⟩
        by_cases h1 : p < (ns.length : Int)
        · rw [if_pos h1] at hcell
          simp [F_take, runF, B_take, startD, sFog, sSeq, sIf, sSet, sRet, sPut, sNil, eVar, eC, eOp, eCB, aCons, aNil, tVal, stD, h0, h1, hcell, mod_i hb, div_i hb hb2, pow_i cp10, hbig]
        · rw [if_neg h1] at hcell
          have : (0 : Int) = cell := by injection hcell with z; injection z
          omega
      · have n2 : 0 ≤ (sd * 48271 + cell % 2147483629 + 7 * (p + 1)) % 2147483647 := Int.emod_nonneg _ (by omega)
        have n3 : (sd * 48271 + cell % 2147483629 + 7 * (p + 1)) % 2147483647 < 2147483647 := Int.emod_lt_of_pos _ (by omega)
        generalize hq : (sd * 48271 + cell % 2147483629 + 7 * (p + 1)) % 2147483647 = q at n2 n3
        have cp : CPow q 3 := ⟨by omega, by omega, by omega⟩
        refine ⟨q ^ 3 % 2147483629 / 64 % b, ⟨p + 1, c, q, by omega, hc, n2, n3⟩, Int.emod_nonneg _ (by omega), Int.emod_lt_of_pos _ hb, fun m => ?_⟩
        have m1 : mulD (.int sd) (.int 48271) = some (.v (.int (sd * 48271))) := mul_i (.inr ⟨by omega, by omega⟩)
        have m2 : mulD (.int 7) (.int (p + 1)) = some (.v (.int (7 * (p + 1)))) := mul_i (.inl ⟨by omega, by omega⟩)
        have d1 : ∀ a : Int, modD (.int a) (.int 2147483629) = some (.v (.int (a % 2147483629))) := fun a => mod_i (by omega)
        have d2 : ∀ a : Int, modD (.int a) (.int 2147483647) = some (.v (.int (a % 2147483647))) := fun a => mod_i (by omega)
        have d3 : ∀ a : Int, divD (.int a) (.int 64) = some (.v (.int (a / 64))) := fun a => div_i (by omega) (by omega)
        by_cases h1 : p < (ns.length : Int)
        · rw [if_pos h1] at hcell
          simp [F_take, runF, B_take, startD, sFog, sSeq, sIf, sSet, sRet, sPut, sNil, eVar, eC, eOp, eCB, aCons, aNil, tVal, stD, h0, h1, hcell, mod_i hb, d1, d2, d3, m1, m2, pow_i cp10, pow_i cp, hbig, hq]
        · rw [if_neg h1] at hcell
          have : (0 : Int) = cell := by injection hcell with z; injection z
          subst this
          have d1' : modD (.int 0) (.int 2147483629) = some (.v (.int 0)) := d1 0
          simp at hq
          simp [F_take, runF, B_take, startD, sFog, sSeq, sIf, sSet, sRet, sPut, sNil, eVar, eC, eOp, eCB, aCons, aNil, tVal, stD, h0, h1, mod_i hb, d1', d1, d2, d3, m1, m2, pow_i cp10, pow_i cp, hq]
    by_cases h1 : p < (ns.length : Int)
    · have hl : p.toNat < ns.length := by omega
      exact key ns[p.toNat] (by rw [if_pos h1]; exact at_int hp (by simp [hl]))
    · exact key 0 (by rw [if_neg h1])
open Classical in
noncomputable def tk (ns : List Int) (s : St) (b : Int) : Int × St := if h : 0 < b ∧ b < 1073741824 then ⟨Classical.choose (take_ex ns s b h.1 h.2), Classical.choose (Classical.choose_spec (take_ex ns s b h.1 h.2))⟩ else ⟨0, s⟩
theorem tk_lo {ns : List Int} {s : St} {b : Int} : 0 ≤ (tk ns s b).1 := by
  unfold tk
  split
  · rename_i h; exact (Classical.choose_spec (Classical.choose_spec (take_ex ns s b h.1 h.2))).1
  · exact Int.le_refl _
theorem tk_hi {ns : List Int} {s : St} {b : Int} (h : 0 < b) (h2 : b < 1073741824) : (tk ns s b).1 < b := by
  unfold tk
  rw [dif_pos ⟨h, h2⟩]
  exact (Classical.choose_spec (Classical.choose_spec (take_ex ns s b h h2))).2.1
theorem take_eq {ns : List Int} {s : St} {b : Int} {m : Mem} (h : 0 < b) (h2 : b < 1073741824) : F_take [.r 0, .v (.int b)] (stD ns s :: m) = some (.v (.int (tk ns s b).1), stD ns (tk ns s b).2 :: m) := by
  unfold tk
  rw [dif_pos ⟨h, h2⟩]
  exact (Classical.choose_spec (Classical.choose_spec (take_ex ns s b h h2))).2.2 m
end Lx
end
section
set_option Elab.async false
set_option linter.all false
set_option maxRecDepth 100000
set_option maxHeartbeats 4000000
namespace Lx
open PySem L2 Pw
theorem rng0 (n : Nat) : rngD 0 n = (List.range n).map fun i : Nat => D.int (i : Int) := by
  unfold rngD
  refine List.map_congr_left fun i _ => ?_
  simp
section
variable {α : Type} {src : Ix} {t : Gx} {c : Tx} {f : Ex} {b : Sx} {vs dd : List Nat} {ρ : Pw.Env} {m m1 : Mem}
theorem lcL_map {xs : List D} (g : α → D) (sel : α → Bool) (val : α → D) {ρ : Pw.Env} {m : Mem} : ∀ (L : List α) (acc : List D), (∀ a ∈ L, ∃ ρ1, t (g a) ρ = some ρ1 ∧ c ρ1 m = some (sel a, m) ∧ (sel a = true → ∃ w, f ρ1 m = some (w, m) ∧ vl w = some (val a))) → acc.length + L.length ≤ 1000000 →
    lcL (.seq xs) xs t c f ρ (L.map g) acc m = some (acc ++ (L.filter sel).map val, m)
  | [], acc, _, _ => by simp [lcL]
  | a :: L, acc, h, hl => by
    obtain ⟨ρ1, h1, h2, h3⟩ := h a List.mem_cons_self
    have hl' : acc.length + L.length + 1 ≤ 1000000 := by simpa [Nat.add_assoc] using hl
    rw [List.map_cons]
    unfold lcL
    rw [if_pos (by simp), h1]
    simp only [Option.bind_some, h2]
    cases hs : sel a with
    | true =>
      obtain ⟨w, e1, e2⟩ := h3 hs
      simp only [if_true, e1, Option.bind_some, e2]
      rw [if_pos (by omega), lcL_map g sel val L (acc ++ [val a]) (fun a ha => h a (List.mem_cons_of_mem _ ha)) (by simp; omega)]
      simp [List.filter_cons, hs]
    | false =>
      simp only [Bool.false_eq_true, if_false]
      rw [lcL_map g sel val L acc (fun a ha => h a (List.mem_cons_of_mem _ ha)) (by omega)]
      simp [List.filter_cons, hs]
theorem lc_map (L : List α) (g : α → D) (sel : α → Bool) (val : α → D) (hs : src ρ m = some (.seq (L.map g), m1)) (h : ∀ a ∈ L, ∃ ρ1, t (g a) (wipeD ρ vs) = some ρ1 ∧ c ρ1 m1 = some (sel a, m1) ∧ (sel a = true → ∃ w, f ρ1 m1 = some (w, m1) ∧ vl w = some (val a))) (hl : L.length ≤ 1000000) :
    eLc src t c f vs ρ m = some (.f (.lst ((L.filter sel).map val)), m1) := by
  unfold eLc
  rw [hs]
  simp only [Option.bind_some, items_seq]
  rw [lcL_map g sel val L [] h (by simpa using hl)]
  simp
theorem lcL_eff {xs : List D} (Inv : Nat → List D → Mem → Prop) {ρ : Pw.Env} (g : α → D) (step : ∀ i a acc m, Inv i acc m → ∃ ρ1 w v m', t (g a) ρ = some ρ1 ∧ c ρ1 m = some (true, m) ∧ f ρ1 m = some (w, m') ∧ vl w = some v ∧ Inv (i + 1) (acc ++ [v]) m') :
    ∀ (L : List α) (i : Nat) (acc : List D) (m : Mem), Inv i acc m → acc.length + L.length ≤ 1000000 → ∃ acc' m', lcL (.seq xs) xs t c f ρ (L.map g) acc m = some (acc', m') ∧ Inv (i + L.length) acc' m'
  | [], i, acc, m, inv, _ => ⟨acc, m, by simp [lcL], by simpa using inv⟩
  | a :: L, i, acc, m, inv, hl => by
    obtain ⟨ρ1, w, v, m', q1, q2, q3, q4, q5⟩ := step i a acc m inv
    have hl' : acc.length + L.length + 1 ≤ 1000000 := by simpa [Nat.add_assoc] using hl
    obtain ⟨acc', m'', r1, r2⟩ := lcL_eff Inv g step L (i + 1) (acc ++ [v]) m' q5 (by simp; omega)
    refine ⟨acc', m'', ?_, by rw [List.length_cons, show i + (L.length + 1) = i + 1 + L.length by omega]; exact r2⟩
    rw [List.map_cons]
    unfold lcL
    rw [if_pos (by simp)]
    simp only [q1, q2, q3, q4, Option.bind_some, if_true]
    rw [if_pos (by omega)]
    exact r1
theorem lc_eff (L : List α) (g : α → D) (Inv : Nat → List D → Mem → Prop) (hs : src ρ m = some (.seq (L.map g), m1)) (h0 : Inv 0 [] m1) (step : ∀ i a acc m, Inv i acc m → ∃ ρ1 w v m', t (g a) (wipeD ρ vs) = some ρ1 ∧ c ρ1 m = some (true, m) ∧ f ρ1 m = some (w, m') ∧ vl w = some v ∧ Inv (i + 1) (acc ++ [v]) m') (hl : L.length ≤ 1000000) :
    ∃ acc m', eLc src t c f vs ρ m = some (.f (.lst acc), m') ∧ Inv L.length acc m' := by
  obtain ⟨acc, m', e, inv⟩ := lcL_eff (xs := L.map g) Inv g step L 0 [] m1 h0 (by simpa using hl)
  refine ⟨acc, m', ?_, by simpa using inv⟩
  unfold eLc
  rw [hs]
  simp only [Option.bind_some, items_seq]
  rw [e]; rfl
theorem forL_inv {xs : List D} (Inv : Nat → Pw.Env → Mem → Prop) (g : α → D) : ∀ (L : List α) (i : Nat), (∀ k a, L[k]? = some a → ∀ ρ m, Inv (i + k) ρ m → ∃ ρ1 ρ2 m2, t (g a) ρ = some ρ1 ∧ b ρ1 m = some (.nx, ρ2, m2) ∧ Inv (i + k + 1) (wipeD ρ2 dd) m2) → ∀ (ρ : Pw.Env) (m : Mem), Inv i ρ m →
    ∃ ρ' m', forL (.seq xs) xs t b dd (L.map g) ρ m = some (.nx, ρ', m') ∧ Inv (i + L.length) ρ' m'
  | [], i, step, ρ, m, inv => ⟨ρ, m, by simp [forL], by simpa using inv⟩
  | a :: L, i, step, ρ, m, inv => by
    obtain ⟨ρ1, ρ2, m2, q1, q2, q3⟩ := step 0 a rfl ρ m (by simpa using inv)
    obtain ⟨ρ', m', r1, r2⟩ := forL_inv Inv g L (i + 1) (fun k a ha ρ m hi => by
      have := step (k + 1) a (by simpa using ha) ρ m (by rw [show i + (k + 1) = i + 1 + k by omega]; exact hi)
      rw [show i + (k + 1) + 1 = i + 1 + k + 1 by omega] at this
      exact this) (wipeD ρ2 dd) m2 (by simpa using q3)
    refine ⟨ρ', m', ?_, by rw [List.length_cons, show i + (L.length + 1) = i + 1 + L.length by omega]; exact r2⟩
    rw [List.map_cons]
    unfold forL
    rw [if_pos (by simp)]
    simp only [q1, q2, Option.bind_some]
    exact r1
theorem for_inv (L : List α) (g : α → D) (Inv : Nat → Pw.Env → Mem → Prop) (hs : src ρ m = some (.seq (L.map g), m1)) (h0 : Inv 0 ρ m1)
    (step : ∀ k a, L[k]? = some a → ∀ ρ m, Inv k ρ m → ∃ ρ1 ρ2 m2, t (g a) ρ = some ρ1 ∧ b ρ1 m = some (.nx, ρ2, m2) ∧ Inv (k + 1) (wipeD ρ2 dd) m2) :
    ∃ ρ' m', sFor src t b dd ρ m = some (.nx, ρ', m') ∧ Inv L.length ρ' m' := by
  obtain ⟨ρ', m', e, inv⟩ := forL_inv (xs := L.map g) Inv g L 0 (fun k a ha ρ m hi => by
    have := step k a ha ρ m (by simpa using hi)
    simpa using this) ρ m1 h0
  refine ⟨ρ', m', ?_, by simpa using inv⟩
  unfold sFor
  rw [hs]
  simp only [Option.bind_some, items_seq]
  exact e
end
structure Fo where
  day : Int
  fa : Int
  mo : Int
  man : Int
  wed : Int
deriving DecidableEq
def Fo.d (f : Fo) : D := .tup [.int f.day, .int f.fa, .int f.mo, .int f.man, .int f.wed]
def ParOk (F : List Fo) (day v man : Int) : Prop := v = -1 ∨ ∃ (j : Nat) (g : Fo), v = (j : Int) ∧ F[j]? = some g ∧ g.man = man ∧ g.day < day
structure FoOkL (lim : Int) (f : Fo) : Prop where
  d0 : 0 ≤ f.day
  d1 : f.day ≤ lim
  m : f.man = 0 ∨ f.man = 1
  w : f.wed = 0 ∨ f.wed = 1
structure GoodHL (lim : Int) (F : List Fo) : Prop where
  ne : 1 ≤ F.length
  le : F.length ≤ 60
  ok : ∀ f ∈ F, FoOkL lim f
  fa : ∀ (i : Nat) f, F[i]? = some f → ParOk (F.take i) f.day f.fa 1
  mo : ∀ (i : Nat) f, F[i]? = some f → ParOk (F.take i) f.day f.mo 0
  up : F.Pairwise fun f g => f.day ≤ g.day
  lm : lim ≤ 99999
@[simp] theorem fo0 {f : Fo} : ixD f.d (.int 0) = some (.v (.int f.day)) := by simp [Fo.d]
@[simp] theorem fo1 {f : Fo} : ixD f.d (.int 1) = some (.v (.int f.fa)) := by simp [Fo.d]
@[simp] theorem fo2 {f : Fo} : ixD f.d (.int 2) = some (.v (.int f.mo)) := by simp [Fo.d]
@[simp] theorem fo3 {f : Fo} : ixD f.d (.int 3) = some (.v (.int f.man)) := by simp [Fo.d]
@[simp] theorem fo4 {f : Fo} : ixD f.d (.int 4) = some (.v (.int f.wed)) := by simp [Fo.d]
abbrev nD (i : Nat) : D := .int (i : Int)
end Lx
end
section
set_option Elab.async false
set_option linter.all false
set_option maxRecDepth 100000
set_option maxHeartbeats 4000000
namespace Lx
open PySem L2 Pw
theorem snoc_at {α : Type} {F : List α} {f g : α} {i : Nat} (h : (F ++ [f])[i]? = some g) : (i < F.length ∧ F[i]? = some g) ∨ (i = F.length ∧ g = f) := by
  rcases Nat.lt_trichotomy i F.length with z | z | z
  · rw [List.getElem?_append_left z] at h; exact .inl ⟨z, h⟩
  · subst z
    simp at h
    exact .inr ⟨rfl, h.symm⟩
  · rw [List.getElem?_eq_none (by simp; omega)] at h; cases h
structure HalfHL (lim : Int) (F : List Fo) (day : Int) : Prop where
  d0 : 0 ≤ day
  d1 : day ≤ lim
  top : ∀ f ∈ F, f.day ≤ day
  ok : ∀ f ∈ F, FoOkL lim f
  fa : ∀ (i : Nat) f, F[i]? = some f → ParOk (F.take i) f.day f.fa 1
  mo : ∀ (i : Nat) f, F[i]? = some f → ParOk (F.take i) f.day f.mo 0
  up : F.Pairwise fun f g => f.day ≤ g.day
theorem HalfHL.snoc {lim : Int} {F : List Fo} {day : Int} {f : Fo} (h : HalfHL lim F day) (hd : day ≤ f.day) (ok : FoOkL lim f) (fa : ParOk F f.day f.fa 1) (mo : ParOk F f.day f.mo 0) : HalfHL lim (F ++ [f]) f.day := by
  refine ⟨ok.d0, ok.d1, fun g hg => ?_, fun g hg => ?_, fun i g hg => ?_, fun i g hg => ?_, ?_⟩
  · rcases List.mem_append.mp hg with z | z
    · have := h.top g z; omega
    · rw [List.mem_singleton.mp z]; exact Int.le_refl _
  · rcases List.mem_append.mp hg with z | z
    · exact h.ok g z
    · rw [List.mem_singleton.mp z]; exact ok
  · rcases snoc_at hg with ⟨z1, z2⟩ | ⟨rfl, rfl⟩
    · rw [List.take_append_of_le_length (Nat.le_of_lt z1)]; exact h.fa i g z2
    · rw [List.take_left]; exact fa
  · rcases snoc_at hg with ⟨z1, z2⟩ | ⟨rfl, rfl⟩
    · rw [List.take_append_of_le_length (Nat.le_of_lt z1)]; exact h.mo i g z2
    · rw [List.take_left]; exact mo
  · refine List.pairwise_append.mpr ⟨h.up, by simp, fun a ha b hb => ?_⟩
    rw [List.mem_singleton.mp hb]
    have := h.top a ha; omega
end Lx
end
section
set_option Elab.async false
set_option linter.all false
set_option maxRecDepth 100000
set_option maxHeartbeats 4000000
namespace Lx
open PySem L2 Pw Pv
structure Nw where
  word : Str
  day : Int
  who : Int
  other : Int
deriving DecidableEq
def Nw.d (n : Nw) : D := .tup [.str n.word, .int n.day, .int n.who, .int n.other]
abbrev bD (B : List Nw) : D := .tup (B.map Nw.d)
def Nw.k (n : Nw) : KT' := [.inr n.word, .inl n.day, .inl n.who, .inl n.other]
structure NwOk (F : List Fo) (n : Nw) : Prop where
  word : n.word ∈ (["dies", "leaves", "cuts", "returns", "awaits"] : List Str)
  w0 : 0 ≤ n.who
  w1 : n.who < F.length
  d0 : 0 ≤ n.day
  d1 : n.day ≤ 99999
  dw : ∀ f, F[n.who.toNat]? = some f → f.day ≤ n.day
  o : n.word ≠ "awaits" → n.other = -1
  o0 : -1 ≤ n.other
  o1 : n.other < F.length
  aw : n.word = "awaits" → (∀ f, F[n.who.toNat]? = some f → f.man = 0 ∧ f.day < n.day) ∧ ParOk F n.day n.other 1
@[simp] theorem nw0 {n : Nw} : ixD n.d (.int 0) = some (.v (.str n.word)) := by simp [Nw.d]
@[simp] theorem nw1 {n : Nw} : ixD n.d (.int 1) = some (.v (.int n.day)) := by simp [Nw.d]
@[simp] theorem nw2 {n : Nw} : ixD n.d (.int 2) = some (.v (.int n.who)) := by simp [Nw.d]
@[simp] theorem nw3 {n : Nw} : ixD n.d (.int 3) = some (.v (.int n.other)) := by simp [Nw.d]
end Lx
end
section
set_option Elab.async false
set_option linter.all false
set_option maxRecDepth 100000
set_option maxHeartbeats 4000000
namespace Lx
open PySem L2 Pw Pv
def nLt (a b : Nw) : Bool := kLt a.k b.k
theorem nk_inj {a b : Nw} (h : a.k = b.k) : a = b := by
  cases a; cases b
  simp only [Nw.k, List.cons.injEq, Sum.inr.injEq, Sum.inl.injEq, and_true] at h
  obtain ⟨h1, h2, h3, h4⟩ := h
  subst h1; subst h2; subst h3; subst h4; rfl
theorem lin_n : Lin nLt := ⟨fun _ => lin_k.irr _, fun _ _ _ => lin_k.tr _ _ _, fun _ _ h1 h2 => nk_inj (lin_k.tot _ _ h1 h2)⟩
structure GoodB (F : List Fo) (B : List Nw) : Prop where
  ok : ∀ n ∈ B, NwOk F n
  le : B.length < 64
  up : B.Pairwise fun a b => nLt a b = true
structure Rw where
  founder : Int
  men : Str
  wed : Int
  way : Str
deriving DecidableEq
def Rw.d (r : Rw) : D := .tup [.int r.founder, .str r.men, .int r.wed, .str r.way]
@[simp] theorem rw0 {r : Rw} : ixD r.d (.int 0) = some (.v (.int r.founder)) := by simp [Rw.d]
@[simp] theorem rw1 {r : Rw} : ixD r.d (.int 1) = some (.v (.str r.men)) := by simp [Rw.d]
@[simp] theorem rw2 {r : Rw} : ixD r.d (.int 2) = some (.v (.int r.wed)) := by simp [Rw.d]
@[simp] theorem rw3 {r : Rw} : ixD r.d (.int 3) = some (.v (.str r.way)) := by simp [Rw.d]
end Lx
end
section
set_option Elab.async false
set_option linter.all false
set_option maxRecDepth 100000
set_option maxHeartbeats 4000000
namespace Lx
open PySem L2 Pw Pv
@[simp] theorem s1 : (("only" : Str) = "first") = False := by decide
@[simp] theorem s2 : (("first" : Str) = "only") = False := by decide
def dayP (day who : Int) (word : Str) (n : Nw) : Bool := decide (n.word = word) && (decide (n.day ≤ day) && decide (n.who = who))
def daysOf (B : List Nw) (day who : Int) (word : Str) : List Int := (B.filter (dayP day who word)).map Nw.day
def backOf (B : List Nw) (day who : Int) : Int := ((daysOf B day who "returns").foldl bst_max none).getD (-1)
def behind (B : List Nw) (day who : Int) (word : Str) : List Int := (daysOf B day who word).filter fun d => decide (backOf B day who < d)
def cutFrom (B : List Nw) (day who : Int) : Int := ((behind B day who "cuts").foldl bst_min none).getD (-1)
def manP (F : List Fo) (i : Nat) : Bool := match F[i]? with
  | some f => decide (f.man = 1)
  | none => false
def kidP (F : List Fo) (who : Int) (i : Nat) : Bool := match F[i]? with
  | some f => (f.fa == who || f.mo == who)
  | none => false
def ccP (F : List Fo) (r : Rw) (day cut : Int) (i : Nat) : Bool := match F[i]? with
  | some f => !(decide (day < f.day) || (decide (r.wed = 1) && !decide (f.wed = 1))) && (decide (cut = -1) || decide (f.day < cut))
  | none => false
def kids (F : List Fo) (who : Int) : List Nat := (List.range F.length).filter (kidP F who)
def foundOf (F : List Fo) (B : List Nw) (r : Rw) (day who : Int) : List Nat := (kids F who).filter (ccP F r day (cutFrom B day who))
def stepsOf (F : List Fo) (B : List Nw) (r : Rw) (day : Int) (w : Nat) : List Nat :=
  if r.men = "only" ∧ manP F w = false then [] else if r.men = "first" then (foundOf F B r day w).filter (manP F) ++ (foundOf F B r day w).filter (fun i => !manP F i) else foundOf F B r day w
noncomputable def E_days_of_1 : Ex := eLc (iSeq (eVar 0)) (gN 4) (tAnd' (tVal (eOp (eqD false) (eOp ixD (eVar 4) (eC (.int 0))) (eVar 3))) (tAnd' (tVal (eOp (cmpD leI) (eOp ixD (eVar 4) (eC (.int 1))) (eVar 1))) (tVal (eOp (eqD false) (eOp ixD (eVar 4) (eC (.int 2))) (eVar 2))))) (eOp ixD (eVar 4) (eC (.int 1))) [4]
noncomputable def B_days_of : Sx := (sRet E_days_of_1)
noncomputable def F_days_of : Fx := runF 4 5 B_days_of
noncomputable def E_days_behind_back_1 : Ex := eLc (iSeq (eCall F_days_of (aCons (eVar 0) (aCons (eVar 1) (aCons (eVar 2) (aCons (eVar 3) aNil)))))) (gN 5) (tVal (eOp (cmpD gtI) (eVar 5) (eVar 4))) (eVar 5) [5]
noncomputable def B_days_behind_back : Sx := (sSeq (sSet 4 (eBest Pv.bst_max (eCall F_days_of (aCons (eVar 0) (aCons (eVar 1) (aCons (eVar 2) (aCons (eC (.str "returns")) aNil))))) (eUn negD (eC (.int 1))))) (sRet E_days_behind_back_1))
noncomputable def F_days_behind_back : Fx := runF 4 6 B_days_behind_back
noncomputable def B_cut_from : Sx := (sRet (eBest Pv.bst_min (eCall F_days_behind_back (aCons (eVar 0) (aCons (eVar 1) (aCons (eVar 2) (aCons (eC (.str "cuts")) aNil))))) (eUn negD (eC (.int 1)))))
noncomputable def F_cut_from : Fx := runF 3 3 B_cut_from
@[simp] theorem days_of_spec {B : List Nw} {day who : Int} {word : Str} {m : Mem} (hl : B.length ≤ 1000) : F_days_of [.v (bD B), .v (.int day), .v (.int who), .v (.str word)] m = some (.f (.lst ((daysOf B day who word).map .int)), m) := by
  have lc : E_days_of_1 [some (.v (bD B)), some (.v (.int day)), some (.v (.int who)), some (.v (.str word)), none] m = some (.f (.lst ((B.filter (dayP day who word)).map fun n => .int n.day)), m) := by
    refine lc_map B Nw.d (dayP day who word) (fun n => .int n.day) (by simp [iSeq, eVar]) (fun n hn => ⟨_, rfl, ?_, fun _ => ⟨.v (.int n.day), by simp [eOp, eVar, eC], rfl⟩⟩) (by omega)
    unfold dayP
    by_cases h1 : n.word = word <;> by_cases h2 : n.day ≤ day <;> simp [tAnd', tVal, eOp, eVar, eC, h1, h2]
  simp only [F_days_of, runF, B_days_of, startD]
  simp [sRet, lc, daysOf, Function.comp_def]
theorem daysOf_len (B : List Nw) (day who : Int) (word : Str) : (daysOf B day who word).length ≤ B.length := by
  unfold daysOf; rw [List.length_map]; exact List.length_filter_le _ _
@[simp] theorem allI_ints : ∀ is : List Int, allI (is.map D.int) = some is
  | [] => rfl
  | i :: is => by rw [List.map_cons, allI, allI_ints is]; rfl
@[simp] theorem best_l {f : Option Int → Int → Option Int} {is : List Int} {d : Int} : bestD f (.lst (is.map .int)) (.int d) = some (.v (.int ((is.foldl f none).getD d))) := by
  unfold bestD
  simp only [itmL, Option.bind_some, allI_ints]
  cases is.foldl f none <;> rfl
@[simp] theorem behind_spec {B : List Nw} {day who : Int} {word : Str} {m : Mem} (hl : B.length ≤ 1000) : F_days_behind_back [.v (bD B), .v (.int day), .v (.int who), .v (.str word)] m = some (.f (.lst ((behind B day who word).map .int)), m) := by
  have lc : E_days_behind_back_1 [some (.v (bD B)), some (.v (.int day)), some (.v (.int who)), some (.v (.str word)), some (.v (.int (backOf B day who))), none] m = some (.f (.lst ((behind B day who word).map .int)), m) := by
    refine lc_map (daysOf B day who word) D.int (fun d => decide (backOf B day who < d)) D.int (by simp [iSeq, eCall, aCons, aNil, eVar, hl]) (fun n hn => ⟨_, rfl, ?_, fun _ => ⟨.v (.int n), by simp [eVar], rfl⟩⟩) (by have := daysOf_len B day who word; omega)
    simp [tVal, eOp, eVar]
  simp only [F_days_behind_back, runF, B_days_behind_back, startD]
  simp [sSeq, sSet, eBest, eCall, aCons, aNil, eVar, eC, eUn, hl, sRet]
  rw [show (List.foldl bst_max none (daysOf B day who "returns")).getD (-1) = backOf B day who from rfl, lc]
  simp
@[simp] theorem cut_from_spec {B : List Nw} {day who : Int} {m : Mem} (hl : B.length ≤ 1000) : F_cut_from [.v (bD B), .v (.int day), .v (.int who)] m = some (.v (.int (cutFrom B day who)), m) := by
  simp only [F_cut_from, runF, B_cut_from, startD]
  simp [eBest, eCall, aCons, aNil, eVar, eC, eUn, hl, sRet, cutFrom]
end Lx
end
section
set_option Elab.async false
set_option linter.all false
set_option maxRecDepth 100000
set_option maxHeartbeats 4000000
namespace Lx
open PySem L2 Pw Pv
theorem max_some : ∀ (l : List Int) (b : Int), ∃ y, l.foldl bst_max (some b) = some y ∧ (y = b ∨ y ∈ l) ∧ b ≤ y ∧ ∀ z ∈ l, z ≤ y
  | [], b => ⟨b, rfl, .inl rfl, Int.le_refl _, fun z hz => absurd hz List.not_mem_nil⟩
  | x :: l, b => by
    by_cases h : x > b
    · obtain ⟨y, e, h1, h2, h3⟩ := max_some l x
      refine ⟨y, by simp only [List.foldl_cons, bst_max, if_pos h]; exact e, .inr ?_, by omega, fun z hz => ?_⟩
      · rcases h1 with rfl | h1
        · exact List.mem_cons_self
        · exact List.mem_cons_of_mem _ h1
      · rcases List.mem_cons.mp hz with rfl | hz
        · exact h2
        · exact h3 z hz
    · obtain ⟨y, e, h1, h2, h3⟩ := max_some l b
      refine ⟨y, by simp only [List.foldl_cons, bst_max, if_neg h]; exact e, ?_, h2, fun z hz => ?_⟩
      · rcases h1 with rfl | h1
        · exact .inl rfl
        · exact .inr (List.mem_cons_of_mem _ h1)
      · rcases List.mem_cons.mp hz with rfl | hz
        · omega
        · exact h3 z hz
theorem min_some : ∀ (l : List Int) (b : Int), ∃ y, l.foldl bst_min (some b) = some y ∧ (y = b ∨ y ∈ l) ∧ y ≤ b ∧ ∀ z ∈ l, y ≤ z
  | [], b => ⟨b, rfl, .inl rfl, Int.le_refl _, fun z hz => absurd hz List.not_mem_nil⟩
  | x :: l, b => by
    by_cases h : x < b
    · obtain ⟨y, e, h1, h2, h3⟩ := min_some l x
      refine ⟨y, by simp only [List.foldl_cons, bst_min, if_pos h]; exact e, .inr ?_, by omega, fun z hz => ?_⟩
      · rcases h1 with rfl | h1
        · exact List.mem_cons_self
        · exact List.mem_cons_of_mem _ h1
      · rcases List.mem_cons.mp hz with rfl | hz
        · exact h2
        · exact h3 z hz
    · obtain ⟨y, e, h1, h2, h3⟩ := min_some l b
      refine ⟨y, by simp only [List.foldl_cons, bst_min, if_neg h]; exact e, ?_, h2, fun z hz => ?_⟩
      · rcases h1 with rfl | h1
        · exact .inl rfl
        · exact .inr (List.mem_cons_of_mem _ h1)
      · rcases List.mem_cons.mp hz with rfl | hz
        · omega
        · exact h3 z hz
theorem max_def (l : List Int) (d : Int) : (l = [] ∧ (l.foldl bst_max none).getD d = d) ∨ ((l.foldl bst_max none).getD d ∈ l ∧ ∀ z ∈ l, z ≤ (l.foldl bst_max none).getD d) := by
  cases l with
  | nil => exact .inl ⟨rfl, rfl⟩
  | cons x l =>
    right
    obtain ⟨y, e, h1, h2, h3⟩ := max_some l x
    have : (x :: l).foldl bst_max none = some y := e
    rw [this]
    refine ⟨?_, fun z hz => ?_⟩
    · rcases h1 with rfl | h1
      · exact List.mem_cons_self
      · exact List.mem_cons_of_mem _ h1
    · rcases List.mem_cons.mp hz with rfl | hz
      · exact h2
      · exact h3 z hz
theorem min_def (l : List Int) (d : Int) : (l = [] ∧ (l.foldl bst_min none).getD d = d) ∨ ((l.foldl bst_min none).getD d ∈ l ∧ ∀ z ∈ l, (l.foldl bst_min none).getD d ≤ z) := by
  cases l with
  | nil => exact .inl ⟨rfl, rfl⟩
  | cons x l =>
    right
    obtain ⟨y, e, h1, h2, h3⟩ := min_some l x
    have : (x :: l).foldl bst_min none = some y := e
    rw [this]
    refine ⟨?_, fun z hz => ?_⟩
    · rcases h1 with rfl | h1
      · exact List.mem_cons_self
      · exact List.mem_cons_of_mem _ h1
    · rcases List.mem_cons.mp hz with rfl | hz
      · exact h2
      · exact h3 z hz
section
variable (isC isR : Int → Bool)
end
end Lx
end
section
set_option Elab.async false
set_option linter.all false
set_option maxRecDepth 100000
set_option maxHeartbeats 4000000
namespace Lx
open PySem L2 Pw Pv
@[simp] theorem set_last {m : Mem} {a b : MO} : (m ++ [a]).set m.length b = m ++ [b] := by simp
end Lx
end
section
set_option Elab.async false
set_option linter.all false
set_option maxRecDepth 100000
set_option maxHeartbeats 4000000
namespace Lx
open PySem L2 Pw Pv
end Lx
end
section
set_option Elab.async false
set_option linter.all false
set_option maxRecDepth 100000
set_option maxHeartbeats 4000000
namespace Lx
open PySem PySem.Spec PyProof.Rows L2 Pw Pv
end Lx
end
section
set_option Elab.async false
set_option linter.all false
set_option maxRecDepth 100000
set_option maxHeartbeats 4000000
namespace Lx
open PySem L2 Pw Pv
end Lx
end
section
set_option Elab.async false
set_option linter.all false
set_option maxRecDepth 100000
set_option maxHeartbeats 4000000
namespace Ly
open PySem L2 Pw Pv Lx
end Ly
end
section
set_option Elab.async false
set_option linter.all false
set_option maxRecDepth 100000
set_option maxHeartbeats 4000000
namespace Ly
open PySem L2 Pw Pv Lx
end Ly
end
section
set_option Elab.async false
set_option linter.all false
set_option maxRecDepth 100000
set_option maxHeartbeats 4000000
namespace Ls
open PySem L2 Pw Pv Lx
section
variable {κ : Type} [DecidableEq κ]
theorem put_len {kvs : List (κ × D)} {k : κ} {d : D} : (putX kvs k d).length ≤ kvs.length + 1 := by
  unfold putX
  split <;> simp
end
def dI (L : List (Int × Int)) : List (Key × D) := L.map fun p => (Sum.inl p.1, D.int p.2)
def getI (L : List (Int × Int)) (w : Int) : Option Int := (L.find? fun p => decide (p.1 = w)).map (·.2)
def putI (L : List (Int × Int)) (w x : Int) : List (Int × Int) := if (L.any fun p => decide (p.1 = w)) = true then L.map (fun p => if p.1 = w then (p.1, x) else p) else L ++ [(w, x)]
@[simp] theorem val_dI {w : Int} : ∀ {L : List (Int × Int)}, valX (dI L) (Sum.inl w) = (getI L w).map D.int
  | [] => rfl
  | p :: L => by
    have ih := val_dI (w := w) (L := L)
    unfold dI valX getI at ih ⊢
    rw [List.map_cons, List.find?_cons, List.find?_cons]
    by_cases h : p.1 = w
    · simp [h]
    · have : ¬ (Sum.inl p.1 : Key) = Sum.inl w := fun z => h (Sum.inl.inj z)
      simp only [decide_eq_false h, decide_eq_false this]
      exact ih
@[simp] theorem put_dI {L : List (Int × Int)} {w x : Int} : putX (dI L) (Sum.inl w) (D.int x) = dI (putI L w x) := by
  unfold putX putI dI
  have : (L.map fun p => ((Sum.inl p.1 : Key), D.int p.2)).any (fun kv => decide (kv.1 = Sum.inl w)) = L.any fun p => decide (p.1 = w) := by
    rw [List.any_map]
    congr 1
    funext p
    simp
  rw [this]
  split
  · rw [List.map_map, List.map_map]
    refine List.map_congr_left fun p _ => ?_
    by_cases h : p.1 = w
    · simp [h]
    · have : ¬ (Sum.inl p.1 : Key) = Sum.inl w := fun z => h (Sum.inl.inj z)
      simp [h]
  · simp
@[simp] theorem dI_len {L : List (Int × Int)} : (dI L).length = L.length := by simp [dI]
@[simp] theorem key_i {i : Int} : keyOf (.int i) = some (.inl i) := rfl
@[simp] theorem out_newK {m : Mem} {kvs : List (Key × D)} : outW m.length (.r m.length) (m ++ [.dk kvs]) = some (.f (.dk kvs), m) := by simp [outW, moD]
@[simp] theorem own_k {kvs : List (Key × D)} {m : Mem} : ownW (.f (.dk kvs)) m = some (.r m.length, m ++ [.dk kvs]) := rfl
@[simp] theorem tgt4 {n : Nw} {i j k l : Nat} {ρ : Pw.Env} : gT [gN i, gN j, gN k, gN l] n.d ρ = some ((((ρ.set i (some (.v (.str n.word)))).set j (some (.v (.int n.day)))).set k (some (.v (.int n.who)))).set l (some (.v (.int n.other)))) := rfl
end Ls
end
section
set_option Elab.async false
set_option linter.all false
set_option maxRecDepth 100000
set_option maxHeartbeats 4000000
namespace Ls
open PySem L2 Pw Pv Lx
def nbP (B : List Nw) (day : Int) (ws : List Str) (n : Nw) : Bool := decide (n.word ∈ ws) && (decide (backOf B day n.who < n.day) && decide (n.day ≤ day))
end Ls
end
section
set_option Elab.async false
set_option linter.all false
set_option maxRecDepth 100000
set_option maxHeartbeats 4000000
namespace Ls
open PySem L2 Pw Pv Lx
end Ls
end
section
set_option Elab.async false
set_option linter.all false
set_option maxRecDepth 100000
set_option maxHeartbeats 4000000
namespace Ls
open PySem L2 Pw Pv Lx
structure ParH (F : List Fo) : Prop where
  fa : ∀ (i : Nat) f, F[i]? = some f → f.fa = -1 ∨ (0 ≤ f.fa ∧ f.fa < F.length)
  mo : ∀ (i : Nat) f, F[i]? = some f → f.mo = -1 ∨ (0 ≤ f.mo ∧ f.mo < F.length)
  ne : ∀ (i : Nat) f, F[i]? = some f → f.fa = f.mo → f.fa = -1
section
variable (F : List Fo) (B : List Nw) (r : Rw) (day : Int)
end
variable {F : List Fo} {B : List Nw} {r : Rw} {day : Int}
end Ls
end
section
set_option Elab.async false
set_option linter.all false
set_option maxRecDepth 100000
set_option maxHeartbeats 4000000
namespace Ls
open PySem L2 Pw Pv Lx
variable {F : List Fo} {B : List Nw} {r : Rw} {day : Int}
theorem GoodHL.par (h : GoodHL lim F) : ParH F := by
  refine ⟨fun i f e => ?_, fun i f e => ?_, fun i f e q => ?_⟩
  · rcases h.fa i f e with z | ⟨j, g, z1, z2, _⟩
    · exact .inl z
    · have := (List.getElem?_eq_some_iff.mp z2).1
      rw [List.length_take] at this
      exact .inr ⟨by omega, by omega⟩
  · rcases h.mo i f e with z | ⟨j, g, z1, z2, _⟩
    · exact .inl z
    · have := (List.getElem?_eq_some_iff.mp z2).1
      rw [List.length_take] at this
      exact .inr ⟨by omega, by omega⟩
  · rcases h.fa i f e with z | ⟨j, g, z1, z2, z3, _⟩
    · exact z
    · rcases h.mo i f e with y | ⟨k, g', y1, y2, y3, _⟩
      · omega
      · have : k = j := by omega
        subst this
        rw [z2] at y2
        cases y2
        omega
end Ls
end
section
set_option Elab.async false
set_option linter.all false
set_option maxRecDepth 100000
set_option maxHeartbeats 4000000
namespace Ls
open PySem L2 Pw Pv Lx
variable {F : List Fo} {B : List Nw} {r : Rw} {day : Int}
end Ls
end
section
set_option Elab.async false
set_option linter.all false
set_option maxRecDepth 100000
set_option maxHeartbeats 4000000
namespace Ls
open PySem L2 Pw Pv Lx
section
variable {α : Type} {src : Ix} {t : Gx} {c : Tx} {fk fv : Ex} {vs : List Nat} {ρ : Pw.Env} {m m1 : Mem}
theorem dcL_map {xs : List D} (g : α → D) (sel : α → Bool) (key : α → Key) (val : α → D) {ρ : Pw.Env} {m : Mem} : ∀ (L : List α) (acc : List (Key × D)), (∀ a ∈ L, ∃ ρ1, t (g a) ρ = some ρ1 ∧ c ρ1 m = some (sel a, m) ∧ (sel a = true → ∃ w y u, fk ρ1 m = some (w, m) ∧ vl w = some y ∧ keyOf y = some (key a) ∧ fv ρ1 m = some (u, m) ∧ vl u = some (val a))) → acc.length + L.length ≤ 1000000 →
    dcL (.seq xs) xs t c fk fv ρ (L.map g) acc m = some ((L.filter sel).foldl (fun acc a => putX acc (key a) (val a)) acc, m)
  | [], acc, _, _ => by simp [dcL]
  | a :: L, acc, h, hl => by
    obtain ⟨ρ1, h1, h2, h3⟩ := h a List.mem_cons_self
    have hl' : acc.length + L.length + 1 ≤ 1000000 := by simpa [Nat.add_assoc] using hl
    rw [List.map_cons]
    unfold dcL
    rw [if_pos (by simp), h1]
    simp only [Option.bind_some, h2]
    cases hs : sel a with
    | true =>
      obtain ⟨w, y, u, e1, e2, e3, e4, e5⟩ := h3 hs
      simp only [if_true, e1, Option.bind_some, e2, e3, e4, e5]
      rw [if_pos (by omega), dcL_map g sel key val L (putX acc (key a) (val a)) (fun a ha => h a (List.mem_cons_of_mem _ ha)) (by have := @put_len _ _ acc (key a) (val a); omega)]
      simp [List.filter_cons, hs]
    | false =>
      simp only [Bool.false_eq_true, if_false]
      rw [dcL_map g sel key val L acc (fun a ha => h a (List.mem_cons_of_mem _ ha)) (by omega)]
      simp [List.filter_cons, hs]
theorem dc_map (L : List α) (g : α → D) (sel : α → Bool) (key : α → Key) (val : α → D) (hs : src ρ m = some (.seq (L.map g), m1)) (h : ∀ a ∈ L, ∃ ρ1, t (g a) (wipeD ρ vs) = some ρ1 ∧ c ρ1 m1 = some (sel a, m1) ∧ (sel a = true → ∃ w y u, fk ρ1 m1 = some (w, m1) ∧ vl w = some y ∧ keyOf y = some (key a) ∧ fv ρ1 m1 = some (u, m1) ∧ vl u = some (val a))) (hl : L.length ≤ 1000000) :
    eDc src t c fk fv vs ρ m = some (.f (.dk ((L.filter sel).foldl (fun acc a => putX acc (key a) (val a)) [])), m1) := by
  unfold eDc
  rw [hs]
  simp only [Option.bind_some, items_seq]
  rw [dcL_map g sel key val L [] h (by simpa using hl)]
  rfl
end
variable {B : List Nw} {day : Int} {m : Mem}
def deadL (B : List Nw) (day : Int) : List Int := (B.filter fun n : Nw => decide (n.word = ("dies" : Str)) && decide (n.day ≤ day)).map Nw.who
def outL (B : List Nw) (day : Int) : List Int := (B.filter (nbP B day ["leaves", "cuts"])).map Nw.who
end Ls
end
section
set_option Elab.async false
set_option linter.all false
set_option maxRecDepth 100000
set_option maxHeartbeats 4000000
namespace Ls
open PySem L2 Pw Pv Lx
section
variable {α : Type} {src : Ix} {t : Gx} {c : Tx} {f : Ex} {b : Sx} {vs dd : List Nat} {ρ : Pw.Env} {m m1 : Mem}
end
variable {F : List Fo} {B : List Nw} {day : Int} {m : Mem}
end Ls
end
section
set_option Elab.async false
set_option linter.all false
set_option maxRecDepth 100000
set_option maxHeartbeats 4000000
namespace Ls
open PySem L2 Pw Pv Lx
theorem op_at {g : D → D → Option W} {a b : Ex} {ρ : Pw.Env} {m m1 m2 : Mem} {wa wb w : W} {x y : D} (h1 : a ρ m = some (wa, m1)) (h2 : b ρ m1 = some (wb, m2)) (h3 : gt wa m2 = some x) (h4 : gt wb m2 = some y) (h5 : g x y = some w) : eOp g a b ρ m = some (w, m2) := by
  unfold eOp
  simp [h1, h2, h3, h4, h5]
theorem set_own {i : Nat} {a : Ex} {ρ : Pw.Env} {m m1 : Mem} {ds : List D} (h : a ρ m = some (.f (.lst ds), m1)) : sSet i (eOwn a) ρ m = some (.nx, ρ.set i (some (.r m1.length)), m1 ++ [.lst ds]) := by
  unfold sSet eOwn
  simp [h]
theorem set_at {i : Nat} {a : Ex} {ρ : Pw.Env} {m m1 : Mem} {w : W} (h : a ρ m = some (w, m1)) : sSet i a ρ m = some (.nx, ρ.set i (some (stl w)), m1) := by
  unfold sSet
  simp [h]
theorem seq_at {a b : Sx} {ρ ρ1 : Pw.Env} {m m1 : Mem} {r : Option (Out × Pw.Env × Mem)} (h : a ρ m = some (.nx, ρ1, m1)) (h2 : b ρ1 m1 = r) : sSeq a b ρ m = r := by
  unfold sSeq
  rw [h]
  simp only [Option.bind_some]
  exact h2
theorem call_at {G : Fx} {f : Ax} {ρ : Pw.Env} {m m1 : Mem} {ws : List W} {r : Option (W × Mem)} (h : f ρ m = some (ws, m1)) (h2 : G ws m1 = r) : eCall G f ρ m = r := by
  unfold eCall
  rw [h]
  exact h2
theorem while_fold {S : Type} {t : Tx} {b : Sx} {dd : List Nat} (E : S → Pw.Env) (M : S → Mem) (test : S → Bool) (stp : S → S) (P : S → Prop) (ms : S → Nat)
    (ht : ∀ s, P s → t (E s) (M s) = some (test s, M s))
    (hb : ∀ s, P s → test s = true → P (stp s) ∧ ms (stp s) < ms s ∧ ∃ ρ2, b (E s) (M s) = some (.nx, ρ2, M (stp s)) ∧ wipeD ρ2 dd = E (stp s)) (s0 : S) (h0 : P s0) :
    ∃ s', P s' ∧ test s' = false ∧ sWhile t b dd (E s0) (M s0) = some (.nx, E s', M s') := by
  have gen : ∀ (k : Nat) (s : S), ms s < k → P s → ∃ s', P s' ∧ test s' = false ∧ whileN t b dd k (E s) (M s) = some (.nx, E s', M s') := by
    intro k
    induction k with
    | zero => intro s h; omega
    | succ k ih =>
      intro s h p
      unfold whileN
      rw [ht s p]
      simp only [Option.bind_some]
      cases e : test s with
      | false => exact ⟨s, p, e, by simp⟩
      | true =>
        obtain ⟨p1, m1, ρ2, q1, q2⟩ := hb s p e
        obtain ⟨s', p', t', w'⟩ := ih (stp s) (by omega) p1
        refine ⟨s', p', t', ?_⟩
        simp only [if_true, q1, Option.bind_some, q2]
        exact w'
  obtain ⟨s', p', t', w'⟩ := gen (ms s0 + 1) s0 (Nat.lt_succ_self _) h0
  exact ⟨s', p', t', while_is w'⟩
theorem GoodHL.snoc {lim : Int} {F : List Fo} {f g : Fo} {F0 : List Fo} (h : GoodHL lim F) (hF : F = F0 ++ [g]) (hl : F.length < 60) (hd : g.day ≤ f.day) (ok : FoOkL lim f) (fa : ParOk F f.day f.fa 1) (mo : ParOk F f.day f.mo 0) : GoodHL lim (F ++ [f]) := by
  have gm : g ∈ F := by rw [hF]; simp
  have hh : HalfHL lim F g.day := by
    refine ⟨(h.ok g gm).d0, (h.ok g gm).d1, fun x hx => ?_, h.ok, h.fa, h.mo, h.up⟩
    have up := h.up
    rw [hF] at hx up
    rcases List.mem_append.mp hx with z | z
    · exact (List.pairwise_append.mp up).2.2 x z g (by simp)
    · rw [List.mem_singleton.mp z]; exact Int.le_refl _
  have n := hh.snoc hd ok fa mo
  exact ⟨by simp, by simp; omega, n.ok, n.fa, n.mo, n.up, h.lm⟩
end Ls
end
section
set_option Elab.async false
set_option linter.all false
set_option maxRecDepth 100000
set_option maxHeartbeats 4000000
namespace Ls
open PySem L2 Pw Pv Lx
section
variable {F : List Fo} {B : List Nw} {r : Rw} {day : Int} {m : Mem}
structure LineOk (F : List Fo) (B : List Nw) (r : Rw) (day : Int) (L : List Nat) : Prop where
  head : ∃ rest, L = r.founder.toNat :: rest
  lt : ∀ i ∈ L, i < F.length
  step : ∀ (i a b : Nat), L[i]? = some a → L[i + 1]? = some b → b ∈ stepsOf F B r day a
end
end Ls
end
section
set_option Elab.async false
set_option linter.all false
set_option maxRecDepth 100000
set_option maxHeartbeats 4000000
namespace Ls
open PySem L2 Pw Pv Lx
end Ls
end
section
set_option Elab.async false
set_option linter.all false
set_option maxRecDepth 100000
set_option maxHeartbeats 4000000
namespace Ls
open PySem L2 Pw Pv Lx
section
variable {F : List Fo} {B : List Nw} {r : Rw} {d1 d2 : Int} {m : Mem}
theorem days_up {who : Int} {word : Str} (h : d1 ≤ d2) {d : Int} (hd : d ∈ daysOf B d1 who word) : d ∈ daysOf B d2 who word := by
  unfold daysOf dayP at *
  obtain ⟨n, hn, rfl⟩ := List.mem_map.mp hd
  obtain ⟨h1, h2⟩ := List.mem_filter.mp hn
  simp at h2
  exact List.mem_map.mpr ⟨n, List.mem_filter.mpr ⟨h1, by simp [h2.1, h2.2.2]; omega⟩, rfl⟩
theorem days_down {who : Int} {word : Str} {d : Int} (hd : d ∈ daysOf B d2 who word) (h : d ≤ d1) : d ∈ daysOf B d1 who word := by
  unfold daysOf dayP at *
  obtain ⟨n, hn, rfl⟩ := List.mem_map.mp hd
  obtain ⟨h1, h2⟩ := List.mem_filter.mp hn
  simp at h2
  exact List.mem_map.mpr ⟨n, List.mem_filter.mpr ⟨h1, by simp [h2.1, h2.2.2, h]⟩, rfl⟩
theorem back_up (hB : ∀ n ∈ B, 0 ≤ n.day) {who : Int} (h : d1 ≤ d2) : backOf B d1 who ≤ backOf B d2 who := by
  unfold backOf
  rcases max_def (daysOf B d1 who "returns") (-1) with ⟨e1, e2⟩ | ⟨e1, e2⟩
  · rw [e2]
    rcases max_def (daysOf B d2 who "returns") (-1) with ⟨f1, f2⟩ | ⟨f1, f2⟩
    · rw [f2]; exact Int.le_refl _
    · unfold daysOf at f1
      obtain ⟨n, hn, e⟩ := List.mem_map.mp f1
      have := hB n (List.mem_filter.mp hn).1
      unfold daysOf
      omega
  · rcases max_def (daysOf B d2 who "returns") (-1) with ⟨f1, f2⟩ | ⟨f1, f2⟩
    · have := days_up (d2 := d2) h e1
      rw [f1] at this; cases this
    · exact f2 _ (days_up h e1)
theorem cut_up (hB : ∀ n ∈ B, 0 ≤ n.day) {who day : Int} (h : d1 ≤ d2) (hd : day ≤ d1) (h1 : cutFrom B d1 who = -1 ∨ day < cutFrom B d1 who) : cutFrom B d2 who = -1 ∨ day < cutFrom B d2 who := by
  unfold cutFrom at *
  rcases min_def (behind B d2 who "cuts") (-1) with ⟨e1, e2⟩ | ⟨e1, e2⟩
  · exact .inl e2
  · right
    generalize ((behind B d2 who "cuts").foldl bst_min none).getD (-1) = x at e1 e2
    unfold behind at e1
    obtain ⟨f1, f2⟩ := List.mem_filter.mp e1
    simp at f2
    by_cases hx : x ≤ d1
    · have b1 := back_up (who := who) hB h
      have mem : x ∈ behind B d1 who "cuts" := List.mem_filter.mpr ⟨days_down f1 hx, by simp; omega⟩
      rcases min_def (behind B d1 who "cuts") (-1) with ⟨g1, g2⟩ | ⟨g1, g2⟩
      · rw [g1] at mem; cases mem
      · have := g2 x mem
        have g0 : 0 ≤ ((behind B d1 who "cuts").foldl bst_min none).getD (-1) := by
          unfold behind at g1
          have g3 := (List.mem_filter.mp g1).1
          unfold daysOf at g3
          obtain ⟨n, hn, e⟩ := List.mem_map.mp g3
          have := hB n (List.mem_filter.mp hn).1
          unfold behind daysOf
          rw [← e]; exact this
        omega
    · omega
theorem found_up (hB : ∀ n ∈ B, 0 ≤ n.day) {who : Int} (h : d1 ≤ d2) {i : Nat} (hi : i ∈ foundOf F B r d1 who) : i ∈ foundOf F B r d2 who := by
  unfold foundOf at *
  obtain ⟨h1, h2⟩ := List.mem_filter.mp hi
  refine List.mem_filter.mpr ⟨h1, ?_⟩
  unfold ccP at *
  cases e : F[i]? with
  | none => rw [e] at h2; cases h2
  | some f =>
    rw [e] at h2
    simp only [Bool.and_eq_true, Bool.not_eq_true', Bool.or_eq_false_iff, Bool.or_eq_true, decide_eq_true_eq, decide_eq_false_iff_not] at h2 ⊢
    obtain ⟨⟨a1, a2⟩, a3⟩ := h2
    exact ⟨⟨by omega, a2⟩, cut_up hB h (by omega) a3⟩
theorem steps_up (hB : ∀ n ∈ B, 0 ≤ n.day) (h : d1 ≤ d2) {w i : Nat} (hi : i ∈ stepsOf F B r d1 w) : i ∈ stepsOf F B r d2 w := by
  unfold stepsOf at *
  split at hi
  · cases hi
  · rename_i hn
    rw [if_neg hn]
    split at hi
    · rename_i hf
      rw [if_pos hf]
      rcases List.mem_append.mp hi with z | z
      · obtain ⟨z1, z2⟩ := List.mem_filter.mp z
        exact List.mem_append.mpr (.inl (List.mem_filter.mpr ⟨found_up hB h z1, z2⟩))
      · obtain ⟨z1, z2⟩ := List.mem_filter.mp z
        exact List.mem_append.mpr (.inr (List.mem_filter.mpr ⟨found_up hB h z1, z2⟩))
    · rename_i hf
      rw [if_neg hf]
      exact found_up hB h hi
theorem LineOk.up (hB : ∀ n ∈ B, 0 ≤ n.day) (h : d1 ≤ d2) {L : List Nat} (hL : LineOk F B r d1 L) : LineOk F B r d2 L :=
  ⟨hL.head, hL.lt, fun i a b h1 h2 => steps_up hB h (hL.step i a b h1 h2)⟩
end
end Ls
end
section
set_option Elab.async false
set_option linter.all false
set_option maxRecDepth 100000
set_option maxHeartbeats 4000000
namespace Lm
open PySem L2 Pw Pv Lx
section
variable (F : List Fo) (B : List Nw) (r : Rw) (day : Int)
end
variable {F : List Fo} {B : List Nw} {r : Rw} {day : Int}
end Lm
end
section
set_option Elab.async false
set_option linter.all false
set_option maxRecDepth 100000
set_option maxHeartbeats 4000000
namespace Lm
open PySem L2 Pw Pv Lx
section
variable (F : List Fo) (B : List Nw) (r : Rw) (day : Int)
end
variable {F : List Fo} {B : List Nw} {r : Rw} {day : Int}
end Lm
end
section
set_option Elab.async false
set_option linter.all false
set_option maxRecDepth 100000
set_option maxHeartbeats 4000000
namespace Lm
open PySem L2 Pw Pv Lx
variable {F : List Fo} {B : List Nw} {r : Rw} {day : Int}
end Lm
end
section
set_option Elab.async false
set_option linter.all false
set_option maxRecDepth 100000
set_option maxHeartbeats 4000000
namespace Lm
open PySem L2 Pw Pv Lx
variable {F : List Fo} {B : List Nw} {r : Rw} {day : Int}
end Lm
end
section
set_option Elab.async false
set_option linter.all false
set_option maxRecDepth 100000
set_option maxHeartbeats 4000000
namespace Lm
open PySem L2 Pw Pv Lx Ls
theorem in_ints_aux {c : Int} : (∀ L : List Int, inV (.int c) (L.map V.int) = decide (c ∈ L)) ∧ ∀ L : List Int, (L.map D.int).mapM sc = some (L.map V.int) := by
  constructor
  · intro L
    induction L with
    | nil => rfl
    | cons a L ih =>
      have s : inV (.int c) ((a :: L).map V.int) = ((a == c) || inV (.int c) (L.map V.int)) := rfl
      rw [s, ih, Bool.eq_iff_iff]
      simp only [Bool.or_eq_true, beq_iff_eq, decide_eq_true_eq, List.mem_cons]
      constructor
      · rintro (h | h)
        · exact .inl h.symm
        · exact .inr h
      · rintro (h | h)
        · exact .inl h.symm
        · exact .inr h
  · intro L
    induction L with
    | nil => rfl
    | cons a L ih => rw [List.map_cons, List.mapM_cons, ih]; rfl
theorem in_lst {neg : Bool} {c : Int} {L : List Int} : inD neg (.int c) (.lst (L.map .int)) = some (.v (.bl (decide (c ∈ L) != neg))) := by
  obtain ⟨e, ms⟩ := in_ints_aux (c := c)
  unfold inD inB
  simp only [itmD, Option.bind_some, sc, ms, e]
theorem in_tup {neg : Bool} {c : Int} {L : List Int} : inD neg (.int c) (.tup (L.map .int)) = some (.v (.bl (decide (c ∈ L) != neg))) := by
  obtain ⟨e, ms⟩ := in_ints_aux (c := c)
  unfold inD inB
  simp only [itmD, Option.bind_some, sc, ms, e]
end Lm
end
section
set_option Elab.async false
set_option linter.all false
set_option maxRecDepth 100000
set_option maxHeartbeats 2000000
namespace Lq
open PySem L2 Pw Pv Lx Ls
mutual
def gd : Nat → D → Bool
  | _, .int _ => true
  | _, .str x => PyData.strOk x
  | n, .tup ds => decide (0 < n) && gds (n - 1) ds
  | n, .lst ds => decide (0 < n) && gds (n - 1) ds
  | _, .non => false
  | _, .bl _ => false
  | _, .fl _ => false
  | _, .tx _ => false
  | _, .dk _ => false
  | _, .dt _ => false
  | _, .rl _ _ => false
def gds : Nat → List D → Bool
  | _, [] => true
  | n, d :: ds => gd n d && gds n ds
end
mutual
theorem gd_py : ∀ (n : Nat) (d : D), gd n d = true → ∃ p, pyD d = some p ∧ PyData.canLay0 p = true ∧ PyData.depth p ≤ n
  | n, .int i, _ => ⟨.int i, by rw [pyD], rfl, Nat.zero_le _⟩
  | n, .str x, h => ⟨.str x, by rw [pyD], by rw [gd] at h; exact h, Nat.zero_le _⟩
  | n, .tup ds, h => by
    rw [gd, Bool.and_eq_true] at h
    obtain ⟨ps, e, c, dp⟩ := gds_py (n - 1) ds h.2
    have := of_decide_eq_true h.1
    exact ⟨.tuple ps, by rw [pyD, e]; rfl, c, by rw [PyData.depth]; omega⟩
  | n, .lst ds, h => by
    rw [gd, Bool.and_eq_true] at h
    obtain ⟨ps, e, c, dp⟩ := gds_py (n - 1) ds h.2
    have := of_decide_eq_true h.1
    exact ⟨.list ps, by rw [pyD, e]; rfl, c, by rw [PyData.depth]; omega⟩
  | n, .non, h => by rw [gd] at h; cases h
  | n, .bl _, h => by rw [gd] at h; cases h
  | n, .fl _, h => by rw [gd] at h; cases h
  | n, .tx _, h => by rw [gd] at h; cases h
  | n, .dk _, h => by rw [gd] at h; cases h
  | n, .dt _, h => by rw [gd] at h; cases h
  | n, .rl _ _, h => by rw [gd] at h; cases h
theorem gds_py : ∀ (n : Nat) (ds : List D), gds n ds = true → ∃ ps, pyDs ds = some ps ∧ PyData.canLayAll0 ps = true ∧ PyData.depthAll ps ≤ n
  | n, [], _ => ⟨[], by rw [pyDs], rfl, Nat.zero_le _⟩
  | n, d :: ds, h => by
    rw [gds, Bool.and_eq_true] at h
    obtain ⟨p, e, c, dp⟩ := gd_py n d h.1
    obtain ⟨ps, e', c', dp'⟩ := gds_py n ds h.2
    exact ⟨p :: ps, by rw [pyDs, e, e']; rfl, by rw [PyData.canLayAll0, c, c']; rfl, by rw [PyData.depthAll]; omega⟩
end
mutual
theorem gd_same : ∀ (d : D) (n : Nat) (p : PyData), gd n d = true → pyD d = some p → PyData.eqv p p = true
  | .int i, n, p, _, e => by rw [pyD] at e; cases e; rw [PyData.eqv]; exact beq_self_eq_true i
  | .str x, n, p, _, e => by rw [pyD] at e; cases e; rw [PyData.eqv]; exact beq_self_eq_true x
  | .tup ds, n, p, h, e => by
    rw [gd, Bool.and_eq_true] at h
    rw [pyD] at e
    obtain ⟨ps, e1, e⟩ := bnd e
    cases e
    rw [PyData.eqv]
    exact gds_same ds _ ps h.2 e1
  | .lst ds, n, p, h, e => by
    rw [gd, Bool.and_eq_true] at h
    rw [pyD] at e
    obtain ⟨ps, e1, e⟩ := bnd e
    cases e
    rw [PyData.eqv]
    exact gds_same ds _ ps h.2 e1
  | .non, n, p, h, e => by rw [gd] at h; cases h
  | .bl _, n, p, h, e => by rw [gd] at h; cases h
  | .fl _, n, p, h, e => by rw [gd] at h; cases h
  | .tx _, n, p, h, e => by rw [gd] at h; cases h
  | .dk _, n, p, h, e => by rw [gd] at h; cases h
  | .dt _, n, p, h, e => by rw [gd] at h; cases h
  | .rl _ _, n, p, h, e => by rw [gd] at h; cases h
theorem gds_same : ∀ (ds : List D) (n : Nat) (ps : List PyData), gds n ds = true → pyDs ds = some ps → PyData.eqvAll ps ps = true
  | [], n, ps, _, e => by rw [pyDs] at e; cases e; rfl
  | d :: ds, n, ps, h, e => by
    rw [gds, Bool.and_eq_true] at h
    rw [pyDs] at e
    obtain ⟨p, e1, e⟩ := bnd e
    obtain ⟨qs, e2, e⟩ := bnd e
    cases e
    rw [PyData.eqvAll, gd_same d n p h.1 e1, gds_same ds n qs h.2 e2]; rfl
end
mutual
theorem gd_is : ∀ (d e : D) (n k : Nat) (p q : PyData), gd n d = true → gd k e = true → pyD d = some p → pyD e = some q → PyData.eqv p q = true → d = e
  | .int i, e, n, k, p, q, _, h, e1, e2, z => by
    rw [pyD] at e1; cases e1
    cases e <;> first | (rw [gd] at h; cases h; done) | (rw [pyD] at e2; first | (cases e2; rw [PyData.eqv] at z; first | (cases z; done) | (rw [beq_iff_eq.mp z])) | (obtain ⟨ps, _, e2⟩ := bnd e2; cases e2; rw [PyData.eqv] at z; cases z))
  | .str i, e, n, k, p, q, _, h, e1, e2, z => by
    rw [pyD] at e1; cases e1
    cases e <;> first | (rw [gd] at h; cases h; done) | (rw [pyD] at e2; first | (cases e2; rw [PyData.eqv] at z; first | (cases z; done) | (rw [beq_iff_eq.mp z])) | (obtain ⟨ps, _, e2⟩ := bnd e2; cases e2; rw [PyData.eqv] at z; cases z))
  | .tup ds, e, n, k, p, q, g, h, e1, e2, z => by
    rw [pyD] at e1
    obtain ⟨ps, e9, e3⟩ := bnd e1
    cases e3
    rw [gd, Bool.and_eq_true] at g
    cases e with
    | tup es =>
      rw [pyD] at e2
      obtain ⟨qs, e8, e3⟩ := bnd e2
      cases e3
      rw [gd, Bool.and_eq_true] at h
      rw [PyData.eqv] at z
      rw [gds_is ds es _ _ ps qs g.2 h.2 e9 e8 z]
    | lst es =>
      rw [pyD] at e2
      obtain ⟨qs, e2, e3⟩ := bnd e2
      cases e3
      rw [PyData.eqv] at z; cases z
    | int i => rw [pyD] at e2; cases e2; rw [PyData.eqv] at z; cases z
    | str i => rw [pyD] at e2; cases e2; rw [PyData.eqv] at z; cases z
    | _ => rw [gd] at h; cases h
  | .lst ds, e, n, k, p, q, g, h, e1, e2, z => by
    rw [pyD] at e1
    obtain ⟨ps, e9, e3⟩ := bnd e1
    cases e3
    rw [gd, Bool.and_eq_true] at g
    cases e with
    | lst es =>
      rw [pyD] at e2
      obtain ⟨qs, e8, e3⟩ := bnd e2
      cases e3
      rw [gd, Bool.and_eq_true] at h
      rw [PyData.eqv] at z
      rw [gds_is ds es _ _ ps qs g.2 h.2 e9 e8 z]
    | tup es =>
      rw [pyD] at e2
      obtain ⟨qs, e2, e3⟩ := bnd e2
      cases e3
      rw [PyData.eqv] at z; cases z
    | int i => rw [pyD] at e2; cases e2; rw [PyData.eqv] at z; cases z
    | str i => rw [pyD] at e2; cases e2; rw [PyData.eqv] at z; cases z
    | _ => rw [gd] at h; cases h
  | .non, e, n, k, p, q, h, _, e1, e2, z => by rw [gd] at h; cases h
  | .bl _, e, n, k, p, q, h, _, e1, e2, z => by rw [gd] at h; cases h
  | .fl _, e, n, k, p, q, h, _, e1, e2, z => by rw [gd] at h; cases h
  | .tx _, e, n, k, p, q, h, _, e1, e2, z => by rw [gd] at h; cases h
  | .dk _, e, n, k, p, q, h, _, e1, e2, z => by rw [gd] at h; cases h
  | .dt _, e, n, k, p, q, h, _, e1, e2, z => by rw [gd] at h; cases h
  | .rl _ _, e, n, k, p, q, h, _, e1, e2, z => by rw [gd] at h; cases h
theorem gds_is : ∀ (ds es : List D) (n k : Nat) (ps qs : List PyData), gds n ds = true → gds k es = true → pyDs ds = some ps → pyDs es = some qs → PyData.eqvAll ps qs = true → ds = es
  | [], es, n, k, ps, qs, g, h, e1, e2, z => by
    rw [pyDs] at e1; cases e1
    cases es with
    | nil => rfl
    | cons e es =>
      rw [pyDs] at e2
      obtain ⟨p, e3, e2⟩ := bnd e2
      obtain ⟨ps, e4, e2⟩ := bnd e2
      cases e2
      rw [PyData.eqvAll] at z; cases z
  | d :: ds, es, n, k, ps, qs, g, h, e1, e2, z => by
    rw [pyDs] at e1
    obtain ⟨p, e3, e1⟩ := bnd e1
    obtain ⟨ps', e4, e1⟩ := bnd e1
    cases e1
    rw [gds, Bool.and_eq_true] at g
    cases es with
    | nil => rw [pyDs] at e2; cases e2; rw [PyData.eqvAll] at z; cases z
    | cons e es =>
      rw [pyDs] at e2
      obtain ⟨q, e5, e2⟩ := bnd e2
      obtain ⟨qs', e6, e2⟩ := bnd e2
      cases e2
      rw [gds, Bool.and_eq_true] at h
      rw [PyData.eqvAll, Bool.and_eq_true] at z
      rw [gd_is d e n k p q g.1 h.1 e3 e5 z.1, gds_is ds es n k ps' qs' g.2 h.2 e4 e6 z.2]
end
theorem eq_same {neg : Bool} {n : Nat} {d : D} (g : gd n d = true) (hn : n ≤ 64) (hs : sc d = none) : eqD neg d d = some (.v (.bl (!neg))) := by
  obtain ⟨p, e, c, dp⟩ := gd_py n d g
  have sh : SeqAt.shaped p = true := by
    unfold SeqAt.shaped
    rw [c, Bool.true_and]
    exact decide_eq_true (by omega)
  have q := gd_same d n p g e
  unfold eqD eqB
  rw [hs]
  simp [e, sh, q]
theorem eq_not {neg : Bool} {n k : Nat} {d e : D} (g : gd n d = true) (h : gd k e = true) (hn : n ≤ 64) (hk : k ≤ 64) (hs : sc d = none) (ne : d ≠ e) : eqD neg d e = some (.v (.bl neg)) := by
  obtain ⟨p, e1, c, dp⟩ := gd_py n d g
  obtain ⟨q, e2, c', dp'⟩ := gd_py k e h
  have sh : SeqAt.shaped p = true := by
    unfold SeqAt.shaped
    rw [c, Bool.true_and]
    exact decide_eq_true (by omega)
  have sh' : SeqAt.shaped q = true := by
    unfold SeqAt.shaped
    rw [c', Bool.true_and]
    exact decide_eq_true (by omega)
  have z : PyData.eqv p q = false := by
    cases z : PyData.eqv p q with
    | false => rfl
    | true => exact absurd (gd_is d e n k p q g h e1 e2 z) ne
  unfold eqD eqB
  rw [hs]
  simp [e1, e2, sh, sh', z]
theorem gds_all {n : Nat} : ∀ {ds : List D}, (∀ d ∈ ds, gd n d = true) → gds n ds = true
  | [], _ => by rw [gds]
  | d :: ds, h => by
    rw [gds, h d List.mem_cons_self, gds_all fun e he => h e (List.mem_cons_of_mem _ he)]; rfl
theorem gds_map {α : Type} {n : Nat} {f : α → D} {L : List α} (h : ∀ a ∈ L, gd n (f a) = true) : gds n (L.map f) = true := gds_all fun d hd => by
  obtain ⟨a, ha, rfl⟩ := List.mem_map.mp hd
  exact h a ha
theorem gd_i {n : Nat} {i : Int} : gd n (.int i) = true := by rw [gd]
theorem gd_t {n : Nat} {ds : List D} (h : gds n ds = true) : gd (n + 1) (.tup ds) = true := by rw [gd]; simpa using h
theorem gd_l {n : Nat} {ds : List D} (h : gds n ds = true) : gd (n + 1) (.lst ds) = true := by rw [gd]; simpa using h
theorem gd_nil {n : Nat} : gds n [] = true := by rw [gds]
theorem gd_cons {n : Nat} {d : D} {ds : List D} (h : gd n d = true) (hs : gds n ds = true) : gds n (d :: ds) = true := by rw [gds, h, hs]; rfl
abbrev tI (xs : List Int) : D := .tup (xs.map .int)
abbrev lI (xs : List Int) : D := .lst (xs.map .int)
theorem gd_li {n : Nat} {xs : List Int} : gd (n + 1) (lI xs) = true := gd_l (gds_map fun _ _ => gd_i)
theorem map_inj {xs ys : List Int} (h : xs.map D.int = ys.map D.int) : xs = ys := by
  induction xs generalizing ys with
  | nil => cases ys with
    | nil => rfl
    | cons y ys => cases h
  | cons x xs ih => cases ys with
    | nil => cases h
    | cons y ys =>
      rw [List.map_cons, List.map_cons] at h
      injection h with h1 h2
      injection h1 with h1
      rw [h1, ih h2]
theorem eq_li {neg : Bool} {xs ys : List Int} : eqD neg (lI xs) (lI ys) = some (.v (.bl (decide (xs = ys) != neg))) := by
  by_cases h : xs = ys
  · subst h
    rw [eq_same (gd_li (n := 0)) (by decide) rfl]; simp
  · rw [eq_not (gd_li (n := 0)) (gd_li (n := 0)) (by decide) (by decide) rfl fun z => h (map_inj (by injection z)), decide_eq_false h]; simp
end Lq
end
section
set_option Elab.async false
set_option linter.all false
set_option maxRecDepth 100000
set_option maxHeartbeats 2000000
namespace Lq
open PySem L2 Pw Pv Lx Ls
noncomputable def L_drawn_order_1 : Sx := (sDrop (eMt isLst appD (eVar 4) (aCons (eMt isLst popAtD (eVar 3) (aCons (eCall F_take (aCons (eVar 0) (aCons (eCB lenD (aCons (eVar 3) aNil)) aNil))) aNil)) aNil)))
section
variable {ns : List Int} {s : Lx.St} {m : Mem}
theorem at_p1 {x A B : MO} : (x :: (m ++ [A, B]))[m.length + 1]? = some A := by simp
theorem at_p2 {x A B : MO} : (x :: (m ++ [A, B]))[m.length + 2]? = some B := by
  rw [List.getElem?_cons_succ, List.getElem?_append_right (by omega)]; simp
theorem set_p1 {x A B C : MO} : (x :: (m ++ [A, B])).set (m.length + 1) C = x :: (m ++ [C, B]) := by simp
theorem set_p2 {x A B C : MO} : (x :: (m ++ [A, B])).set (m.length + 2) C = x :: (m ++ [A, C]) := by
  rw [List.set_cons_succ, List.set_append_right _ _ (by omega)]; simp
theorem map_erase {α β : Type} (f : α → β) : ∀ (xs : List α) (k : Nat), (xs.map f).eraseIdx k = (xs.eraseIdx k).map f
  | [], _ => rfl
  | _ :: _, 0 => rfl
  | x :: xs, k + 1 => by rw [List.map_cons, List.eraseIdx_cons_succ, List.eraseIdx_cons_succ, List.map_cons, map_erase f xs k]
theorem erase_perm {α : Type} : ∀ (l : List α) (j : Nat) (h : j < l.length), (l[j] :: l.eraseIdx j).Perm l
  | [], j, h => by simp at h
  | a :: l, 0, h => List.Perm.refl _
  | a :: l, j + 1, h => by
    have h' : j < l.length := by simpa using h
    show (l[j] :: a :: l.eraseIdx j).Perm (a :: l)
    exact (List.Perm.swap a l[j] (l.eraseIdx j)).trans ((erase_perm l j h').cons a)
theorem ix_nat {n k : Nat} (h : k < n) : ixN n (k : Int) = some k := by
  unfold ixN
  rw [if_pos (by omega), if_pos (by omega)]; simp
abbrev dEnv (pool : D) (many : Int) (m : Mem) (x : Option W) : Pw.Env := [some (.r 0), some (.v pool), some (.v (.int many)), some (.r (m.length + 1)), some (.r (m.length + 2)), x]
theorem drawn_turn {pool : D} {many i : Int} {left found : List Int} (h0 : 0 < left.length) (h1 : left.length ≤ 1000) (h2 : found.length ≤ 1000) :
    ∃ (j : Nat) (s' : Lx.St), ∃ hj : j < left.length, L_drawn_order_1 (dEnv pool many m (some (.v (.int i)))) (stD ns s :: (m ++ [.lst (left.map .int), .lst (found.map .int)])) =
      some (.nx, dEnv pool many m (some (.v (.int i))), stD ns s' :: (m ++ [.lst ((left.eraseIdx j).map .int), .lst ((found ++ [left[j]]).map .int)])) := by
  have lo := tk_lo (ns := ns) (s := s) (b := left.length)
  have hi := tk_hi (ns := ns) (s := s) (b := left.length) (by omega) (by omega)
  obtain ⟨j, hj⟩ := Int.eq_ofNat_of_zero_le lo
  have hjl : j < left.length := by omega
  have ej : (left.map D.int)[j]? = some (.int left[j]) := by rw [List.getElem?_map, List.getElem?_eq_getElem hjl]; rfl
  refine ⟨j, (tk ns s left.length).2, hjl, ?_⟩
  have te := take_eq (ns := ns) (s := s) (b := left.length) (m := m ++ [.lst (left.map .int), .lst (found.map .int)]) (by omega) (by omega)
  rw [hj] at te
  have hp : popAtD (.r (m.length + 1)) [.v (.int (j : Int))] (stD ns (tk ns s left.length).2 :: (m ++ [.lst (left.map .int), .lst (found.map .int)])) = some (.v (.int left[j]), stD ns (tk ns s left.length).2 :: (m ++ [.lst ((left.eraseIdx j).map .int), .lst (found.map .int)])) := by
    unfold popAtD
    simp only [at_p1, List.length_map, if_pos (show left.length ≤ 1000000 by omega), ix_nat hjl, Option.bind_some, ej, set_p1, map_erase]
  have l1 : isLst (.r (m.length + 1)) (stD ns s :: (m ++ [.lst (left.map .int), .lst (found.map .int)])) = true := by rw [isl_r, at_p1]
  have l2 : isLst (.r (m.length + 2)) (stD ns s :: (m ++ [.lst (left.map .int), .lst (found.map .int)])) = true := by rw [isl_r, at_p2]
  have ha : appD (.r (m.length + 2)) [.v (.int left[j])] (stD ns (tk ns s left.length).2 :: (m ++ [.lst ((left.eraseIdx j).map .int), .lst (found.map .int)])) = some (.v .non, stD ns (tk ns s left.length).2 :: (m ++ [.lst ((left.eraseIdx j).map .int), .lst ((found ++ [left[j]]).map .int)])) := by
    rw [app_r, at_p2]
    simp only [vl_v, Option.bind_some, List.length_map, if_pos (show found.length < 1000000 by omega), set_p2, List.map_append, List.map_cons, List.map_nil]
  have g1 : gt (.r (m.length + 1)) (stD ns s :: (m ++ [.lst (left.map .int), .lst (found.map .int)])) = some (.lst (left.map .int)) := by rw [gt_r, at_p1]; rfl
  simp [L_drawn_order_1, sDrop, eMt, eVar, aCons, aNil, eCall, eCB, l1, l2, g1, te, hp, ha, -gt_r, -isl_r, -app_r]
theorem cut_to {α : Type} {n : Nat} {k : Int} (h0 : 0 ≤ k) (h : k ≤ n) : HT.sIx n n (some k) = k.toNat := by
  unfold HT.sIx
  simp only
  split <;> omega
theorem cut_take {ds : List D} {k : Int} (h0 : 0 ≤ k) (h : k ≤ ds.length) : cutD ds none (some k) = ds.take k.toNat := by
  unfold cutD
  rw [cut_to (α := D) h0 h]
  simp [HT.sIx]
end
end Lq
end
section
set_option Elab.async false
set_option linter.all false
set_option maxRecDepth 100000
set_option maxHeartbeats 2000000
namespace Lq
open PySem L2 Pw Pv Lx Ls
section
variable {ns : List Int} {s : Lx.St} {m : Mem}
structure Ord (P A : List Int) : Prop where
  nd : A.Nodup
  sub : ∀ x ∈ A, x ∈ P
  len : A.length ≤ 200
theorem Ord.take {P A : List Int} (h : Ord P A) (k : Nat) : Ord P (A.take k) :=
  ⟨h.nd.sublist (List.take_sublist k A), fun x hx => h.sub x (List.mem_of_mem_take hx), by rw [List.length_take]; have := h.len; omega⟩
end
end Lq
end
section
set_option Elab.async false
set_option linter.all false
set_option maxRecDepth 100000
set_option maxHeartbeats 2000000
namespace Wk
open Pv
def lexN : List Nat → List Nat → Bool
  | [], [] => false
  | [], _ :: _ => true
  | _ :: _, [] => false
  | x :: xs, y :: ys => if x = y then lexN xs ys else decide (x < y)
abbrev zp (p : List Nat) : List Int := p.map fun n : Nat => (n : Int)
theorem lex_zp : ∀ p q : List Nat, iLex (zp p) (zp q) = lexN p q
  | [], [] => rfl
  | [], _ :: _ => rfl
  | _ :: _, [] => rfl
  | x :: xs, y :: ys => by
    show (if (x : Int) = (y : Int) then iLex (zp xs) (zp ys) else decide ((x : Int) < (y : Int))) = if x = y then lexN xs ys else decide (x < y)
    rw [lex_zp xs ys]
    by_cases h : x = y
    · subst h; simp
    · rw [if_neg (by omega), if_neg h]
      by_cases h2 : x < y <;> simp [h2] <;> omega
theorem zp_inj {p q : List Nat} (h : zp p = zp q) : p = q := by
  induction p generalizing q with
  | nil => cases q with
    | nil => rfl
    | cons y q => cases h
  | cons x p ih => cases q with
    | nil => cases h
    | cons y q =>
      simp only [zp, List.map_cons] at h
      injection h with h1 h2
      rw [ih h2]
      congr 1
      omega
theorem lexN_irr (p : List Nat) : lexN p p = false := by rw [← lex_zp]; exact iLex_irr _
theorem lexN_tr {p q r : List Nat} (h1 : lexN p q = true) (h2 : lexN q r = true) : lexN p r = true := by rw [← lex_zp] at *; exact iLex_tr _ _ _ h1 h2
theorem lexN_tot {p q : List Nat} (h1 : lexN p q = false) (h2 : lexN q p = false) : p = q := by rw [← lex_zp] at *; exact zp_inj (iLex_tot _ _ h1 h2)
theorem lexN_as {p q : List Nat} (h : lexN p q = true) : lexN q p = false := by rw [← lex_zp] at *; exact iLex_asym h
def le (p q : List Nat) : Prop := lexN q p = false
theorem le_refl (p : List Nat) : le p p := lexN_irr p
theorem le_of {p q : List Nat} (h : lexN p q = true) : le p q := lexN_as h
theorem le_cases {p q : List Nat} (h : le p q) : p = q ∨ lexN p q = true := by
  cases e : lexN p q with
  | true => exact .inr rfl
  | false => exact .inl (lexN_tot e h)
theorem le_tr {p q r : List Nat} (h1 : le p q) (h2 : le q r) : le p r := by
  rcases le_cases h1 with rfl | h1
  · exact h2
  · rcases le_cases h2 with rfl | h2
    · exact le_of h1
    · exact le_of (lexN_tr h1 h2)
theorem le_app (p r : List Nat) : le p (p ++ r) := by
  induction p with
  | nil => cases r <;> rfl
  | cons x p ih =>
    have ih' : lexN (p ++ r) p = false := ih
    show lexN (x :: (p ++ r)) (x :: p) = false
    simpa [lexN] using ih'
def nL : List Nat → List Nat → Bool
  | x :: xs, y :: ys => if x = y then nL xs ys else decide (x < y)
  | _, _ => false
theorem nL_lex : ∀ {p q : List Nat} (a b : List Nat), nL p q = true → lexN (p ++ a) (q ++ b) = true
  | x :: xs, y :: ys, a, b, h => by
    unfold nL at h
    show (if x = y then lexN (xs ++ a) (ys ++ b) else decide (x < y)) = true
    split at h
    · rename_i e; rw [if_pos e]; exact nL_lex a b h
    · rename_i e; rw [if_neg e]; exact h
  | [], _, _, _, h => by simp [nL] at h
  | _ :: _, [], _, _, h => by simp [nL] at h
theorem nL_of {p q : List Nat} : lexN p q = true → (∀ r, q ≠ p ++ r) → nL p q = true := by
  induction p generalizing q with
  | nil => intro _ h; exact absurd rfl (h q)
  | cons x p ih =>
    intro h hp
    cases q with
    | nil => simp [lexN] at h
    | cons y q =>
      unfold lexN at h
      unfold nL
      split at h
      · rename_i e
        rw [if_pos e]
        exact ih h fun r z => hp r (by rw [z, e]; rfl)
      · rename_i e; rw [if_neg e]; exact h
section
variable (S : Nat → List Nat)
def go : Nat → List Nat → Option Nat
  | w, [] => some w
  | w, k :: ks => ((S w)[k]?).bind fun c => go c ks
theorem go_app (w : Nat) (p q : List Nat) : go S w (p ++ q) = (go S w p).bind fun v => go S v q := by
  induction p generalizing w with
  | nil => rfl
  | cons k p ih =>
    show ((S w)[k]?).bind (fun c => go S c (p ++ q)) = _
    simp only [go]
    cases (S w)[k]? with
    | none => rfl
    | some c => exact ih c
theorem go_snoc (w : Nat) (p : List Nat) (k : Nat) : go S w (p ++ [k]) = (go S w p).bind fun v => (S v)[k]? := by
  rw [go_app]
  congr 1
  funext v
  simp only [go]
  cases (S v)[k]? <;> rfl
variable {S}
theorem snoc_of {w c : Nat} {q : List Nat} {k : Nat} (h : go S w (q ++ [k]) = some c) : ∃ v, go S w q = some v ∧ (S v)[k]? = some c := by
  rw [go_snoc] at h
  cases e : go S w q with
  | none => rw [e] at h; cases h
  | some v => rw [e] at h; exact ⟨v, rfl, h⟩
variable (up : ∀ v c, c ∈ S v → v < c)
include up
theorem go_up {w v : Nat} : ∀ {p : List Nat}, go S w p = some v → w ≤ v ∧ (p ≠ [] → w < v) := by
  intro p
  induction p generalizing w with
  | nil => intro h; cases h; exact ⟨Nat.le_refl _, fun z => absurd rfl z⟩
  | cons k p ih =>
    intro h
    simp only [go] at h
    cases e : (S w)[k]? with
    | none => rw [e] at h; cases h
    | some c =>
      rw [e] at h
      have a := up w c (List.mem_of_getElem? e)
      have b := (ih h).1
      exact ⟨by omega, fun _ => by omega⟩
theorem not_pre {w v : Nat} {p q : List Nat} (h1 : go S w p = some v) (h2 : go S w q = some v) (ne : p ≠ q) : ∀ r, q ≠ p ++ r := fun r z => by
  subst z
  rw [go_app, h1] at h2
  have := (go_up up (show go S v r = some v from h2)).2
  by_cases hr : r = []
  · subst hr; exact ne (by simp)
  · exact absurd (this hr) (Nat.lt_irrefl _)
theorem ext_le {w v : Nat} {p q : List Nat} (h1 : go S w p = some v) (h2 : go S w q = some v) (h : le p q) (k : Nat) : le (p ++ [k]) (q ++ [k]) := by
  rcases le_cases h with rfl | h
  · exact le_refl _
  · have ne : p ≠ q := fun z => by rw [z, lexN_irr] at h; cases h
    exact le_of (nL_lex [k] [k] (nL_of h (not_pre up h1 h2 ne)))
end
section
variable (S : Nat → List Nat) (f : Nat)
structure Dfs (V T : List (List Nat)) : Prop where
  vV : ∀ p ∈ V, ∃ v, go S f p = some v
  tV : ∀ p ∈ T, ∃ v, go S f p = some v
  tN : T.Pairwise fun p q => nL p q = true
  vS : V.Pairwise fun p q => lexN p q = true
  vt : ∀ p ∈ V, ∀ t ∈ T, lexN p t = true
  lst : ∀ p ∈ V, ∀ q v, go S f p = some v → go S f q = some v → le p q
  st : [] ∈ T ∨ ∃ p ∈ V, go S f p = some f ∧ le p []
  cov : ∀ p ∈ V, ∀ v k c, go S f p = some v → (S v)[k]? = some c → p ++ [k] ∈ T ∨ ∃ p' ∈ V, go S f p' = some c ∧ le p' (p ++ [k])
variable {S f}
theorem Dfs.start : Dfs S f [] [[]] := ⟨(fun _ h => by cases h), (fun p h => by rw [List.mem_singleton.mp h]; exact ⟨f, rfl⟩), by simp, List.Pairwise.nil, (fun _ h => by cases h), (fun _ h => by cases h), .inl (by simp), (fun _ h => by cases h)⟩
variable (up : ∀ v c, c ∈ S v → v < c)
include up
theorem Dfs.key {V T : List (List Nat)} (D : Dfs S f V T) : ∀ (n : Nat) (q : List Nat) (v : Nat), q.length = n → go S f q = some v → (∃ p ∈ V, go S f p = some v ∧ le p q) ∨ ∃ t ∈ T, le t q := by
  intro n
  induction n with
  | zero =>
    intro q v hl h
    have : q = [] := List.eq_nil_of_length_eq_zero hl
    subst this
    cases h
    rcases D.st with z | z
    · exact .inr ⟨[], z, le_refl _⟩
    · exact .inl z
  | succ n ih =>
    intro q v hl h
    obtain ⟨q0, k, rfl⟩ : ∃ q0 k, q = q0 ++ [k] := by
      have hne : q ≠ [] := fun z => by rw [z] at hl; cases hl
      exact ⟨q.dropLast, q.getLast hne, (List.dropLast_concat_getLast hne).symm⟩
    obtain ⟨u, hu, hk⟩ := snoc_of h
    rcases ih q0 u (by simpa using hl) hu with ⟨p, hp, hpu, hle⟩ | ⟨t, ht, hle⟩
    · have e := ext_le up hpu hu hle k
      rcases D.cov p hp u k v hpu hk with z | ⟨p', h1, h2, h3⟩
      · exact .inr ⟨_, z, e⟩
      · exact .inl ⟨p', h1, h2, le_tr h3 e⟩
    · exact .inr ⟨t, ht, le_tr hle (le_app _ _)⟩
theorem Dfs.all {V : List (List Nat)} (D : Dfs S f V []) {q : List Nat} {v : Nat} (h : go S f q = some v) : ∃ p ∈ V, go S f p = some v ∧ le p q := by
  rcases D.key up q.length q v rfl h with z | ⟨t, ht, _⟩
  · exact z
  · cases ht
end
end Wk
end
section
set_option Elab.async false
set_option linter.all false
set_option maxRecDepth 100000
set_option maxHeartbeats 2000000
namespace Wk
open Pv
section
variable (S : Nat → List Nat) (f : Nat)
def Pq (u j : Nat) (q : List Nat) : Prop := q = [] ∨ ∃ q0 k v, q = q0 ++ [k] ∧ go S f q0 = some v ∧ (v < u ∨ (v = u ∧ k < j))
structure Ki (u j : Nat) (g : Nat → Option (List Nat)) : Prop where
  k1 : ∀ w p, g w = some p → go S f p = some w ∧ Pq S f u j p
  k2 : ∀ w q, go S f q = some w → Pq S f u j q → ∃ p, g w = some p ∧ le p q
variable {S f}
theorem Ki.start : Ki S f 0 0 fun w => if w = f then some [] else none := by
  refine ⟨fun w p h => ?_, fun w q h hq => ?_⟩
  · split at h
    · rename_i e; cases h; subst e; exact ⟨rfl, .inl rfl⟩
    · cases h
  · rcases hq with rfl | ⟨q0, k, v, rfl, _, z | z⟩
    · cases h; exact ⟨[], by simp, le_refl _⟩
    · omega
    · omega
theorem Pq.next {u : Nat} {q : List Nat} {w : Nat} (h : go S f q = some w) : Pq S f u (S u).length q ↔ Pq S f (u + 1) 0 q := by
  constructor
  · rintro (z | ⟨q0, k, v, e, e1, z⟩)
    · exact .inl z
    · exact .inr ⟨q0, k, v, e, e1, .inl (by omega)⟩
  · rintro (z | ⟨q0, k, v, e, e1, z⟩)
    · exact .inl z
    · refine .inr ⟨q0, k, v, e, e1, ?_⟩
      rcases z with z | z
      · by_cases hv : v < u
        · exact .inl hv
        · have : v = u := by omega
          subst this
          rw [e] at h
          obtain ⟨v', h1, h2⟩ := snoc_of h
          rw [e1] at h1
          cases h1
          exact .inr ⟨rfl, (List.getElem?_eq_some_iff.mp h2).1⟩
      · omega
theorem Ki.next {u : Nat} {g : Nat → Option (List Nat)} (K : Ki S f u (S u).length g) : Ki S f (u + 1) 0 g :=
  ⟨fun w p h => ⟨(K.k1 w p h).1, (Pq.next (K.k1 w p h).1).mp (K.k1 w p h).2⟩, fun w q h hq => K.k2 w q h ((Pq.next h).mpr hq)⟩
variable (up : ∀ v c, c ∈ S v → v < c)
include up
theorem Pq.own {u j : Nat} {q : List Nat} (h : go S f q = some u) : Pq S f u j q := by
  by_cases hq : q = []
  · exact .inl hq
  · have e := (List.dropLast_concat_getLast hq).symm
    rw [e] at h
    obtain ⟨v, h1, h2⟩ := snoc_of h
    exact .inr ⟨_, _, v, e, h1, .inl (up v u (List.mem_of_getElem? h2))⟩
theorem Ki.turn {u j c : Nat} {g : Nat → Option (List Nat)} {pu : List Nat} (K : Ki S f u j g) (hu : g u = some pu) (hc : (S u)[j]? = some c) (g' : Nat → Option (List Nat))
    (hg : (g c = none ∨ ∃ p, g c = some p ∧ lexN (pu ++ [j]) p = true) ∧ g' = (fun w => if w = c then some (pu ++ [j]) else g w) ∨ (∃ p, g c = some p ∧ lexN (pu ++ [j]) p = false) ∧ g' = g) : Ki S f u (j + 1) g' ∧ g' u = some pu := by
  have huc := up u c (List.mem_of_getElem? hc)
  have gpu := (K.k1 u pu hu).1
  have cand : go S f (pu ++ [j]) = some c := by rw [go_snoc, gpu]; exact hc
  have more : ∀ q, Pq S f u j q → Pq S f u (j + 1) q := fun q h => by
    rcases h with z | ⟨q0, k, v, e, e1, z⟩
    · exact .inl z
    · exact .inr ⟨q0, k, v, e, e1, by omega⟩
  have split' : ∀ w q, go S f q = some w → Pq S f u (j + 1) q → Pq S f u j q ∨ (w = c ∧ le (pu ++ [j]) q) := fun w q h hq => by
    rcases hq with z | ⟨q0, k, v, e, e1, z⟩
    · exact .inl (.inl z)
    · by_cases hk : v = u ∧ k = j
      · obtain ⟨rfl, rfl⟩ := hk
        rw [e, go_snoc, e1] at h
        have hw : (S v)[k]? = some w := h
        rw [hc] at hw
        cases hw
        obtain ⟨p, hp, hl⟩ := K.k2 v q0 e1 (Pq.own up e1)
        rw [hu] at hp
        cases hp
        exact .inr ⟨rfl, by rw [e]; exact ext_le up gpu e1 hl k⟩
      · exact .inl (.inr ⟨q0, k, v, e, e1, by omega⟩)
  rcases hg with ⟨h, rfl⟩ | ⟨⟨p0, h0, h1⟩, rfl⟩
  · refine ⟨⟨fun w p hp => ?_, fun w q hq hP => ?_⟩, ?_⟩
    · split at hp
      · rename_i e
        cases hp
        subst e
        exact ⟨cand, .inr ⟨pu, j, u, rfl, gpu, .inr ⟨rfl, by omega⟩⟩⟩
      · exact ⟨(K.k1 w p hp).1, more p (K.k1 w p hp).2⟩
    · rcases split' w q hq hP with z | ⟨rfl, z⟩
      · obtain ⟨p, hp, hl⟩ := K.k2 w q hq z
        by_cases e : w = c
        · subst e
          refine ⟨pu ++ [j], by simp, ?_⟩
          rcases h with h | ⟨p', h, h'⟩
          · rw [h] at hp; cases hp
          · rw [h] at hp; cases hp; exact le_tr (le_of h') hl
        · exact ⟨p, by simp [e, hp], hl⟩
      · exact ⟨pu ++ [j], by simp, z⟩
    · show (if u = c then some (pu ++ [j]) else g u) = some pu
      rw [if_neg (by omega)]
      exact hu
  · refine ⟨⟨fun w p hp => ⟨(K.k1 w p hp).1, more p (K.k1 w p hp).2⟩, fun w q hq hP => ?_⟩, hu⟩
    rcases split' w q hq hP with z | ⟨rfl, z⟩
    · exact K.k2 w q hq z
    · exact ⟨p0, h0, le_tr h1 z⟩
theorem Ki.all {n : Nat} {g : Nat → Option (List Nat)} (K : Ki S f n 0 g) (lt : ∀ v c, c ∈ S v → c < n) : ∀ w q, go S f q = some w → ∃ p, g w = some p ∧ le p q := fun w q h => by
  refine K.k2 w q h ?_
  by_cases hq : q = []
  · exact .inl hq
  · have e := (List.dropLast_concat_getLast hq).symm
    have h' := h
    rw [e] at h'
    obtain ⟨v, h1, h2⟩ := snoc_of h'
    have m := List.mem_of_getElem? h2
    have := up v w m
    have := lt v w m
    exact .inr ⟨_, _, v, e, h1, .inl (by omega)⟩
end
def endOf (S : Nat → List Nat) (f : Nat) (p : List Nat) : Nat := (go S f p).getD 0
theorem nd_len : ∀ (n : Nat) (l : List Nat), l.Nodup → (∀ x ∈ l, x < n) → l.length ≤ n
  | 0, [], _, _ => Nat.le_refl _
  | 0, x :: _, _, h => absurd (h x List.mem_cons_self) (Nat.not_lt_zero _)
  | n + 1, l, nd, h => by
    by_cases hn : n ∈ l
    · have := nd_len n (l.erase n) (nd.erase n) fun x hx => by
        obtain ⟨a, b⟩ := (nd.mem_erase_iff).mp hx
        have := h x b
        omega
      rw [List.length_erase_of_mem hn] at this
      omega
    · have := nd_len n l nd fun x hx => by
        have a := h x hx
        have : x ≠ n := fun z => hn (z ▸ hx)
        omega
      omega
end Wk
end
section
set_option Elab.async false
set_option linter.all false
set_option maxRecDepth 100000
set_option maxHeartbeats 4000000
namespace Lv
open PySem L2 Pw Pv Lx Ls Lq Wk
section
variable (S : Nat → List Nat)
variable {S}
end
section
variable {S : Nat → List Nat} {f n : Nat}
abbrev PS2 := List (List Nat) × List (List Nat)
structure Ok (S : Nat → List Nat) (f n : Nat) (s : PS2) : Prop where
  d : Dfs S f s.1 s.2
  l : s.2.length ≤ 1 + s.1.length * 120
  nd : (s.1.map (endOf S f)).Nodup
theorem end_eq {p : List Nat} {v : Nat} (h : go S f p = some v) : endOf S f p = v := by unfold endOf; rw [h]; rfl
variable (up : ∀ v c, c ∈ S v → v < c) (lt : ∀ v c, c ∈ S v → c < n) (hf : f < n) (hn : n ≤ 60) (hs : ∀ v, (S v).length ≤ 120)
theorem end_lt (lt : ∀ v c, c ∈ S v → c < n) (hf : f < n) {p : List Nat} {v : Nat} (h : go S f p = some v) : v < n := by
  by_cases hp : p = []
  · subst hp; cases h; exact hf
  · rw [(List.dropLast_concat_getLast hp).symm] at h
    obtain ⟨u, _, h2⟩ := snoc_of h
    exact lt u v (List.mem_of_getElem? h2)
theorem Ok.len {s : PS2} (o : Ok S f n s) (lt : ∀ v c, c ∈ S v → c < n) (hf : f < n) : s.1.length ≤ n := by
  have := nd_len n (s.1.map (endOf S f)) o.nd fun x hx => by
    obtain ⟨p, hp, rfl⟩ := List.mem_map.mp hx
    obtain ⟨v, hv⟩ := o.d.vV p hp
    rw [end_eq hv]
    exact end_lt lt hf hv
  simpa using this
include up lt hf hn hs
end
end Lv
end
section
set_option Elab.async false
set_option linter.all false
set_option maxRecDepth 100000
set_option maxHeartbeats 4000000
namespace Lv
open PySem L2 Pw Pv Lx Ls Lq Wk
end Lv
end
section
set_option Elab.async false
set_option linter.all false
set_option maxRecDepth 100000
set_option maxHeartbeats 4000000
namespace Lv
open PySem L2 Pw Pv Lx Ls Lq Wk
section
variable {F : List Fo} {B : List Nw} {r : Rw} {day : Int}
abbrev f0 (r : Rw) : Nat := r.founder.toNat
def fborn (F : List Fo) (r : Rw) (day : Int) : Bool := match F[f0 r]? with
  | some f => decide (f.day ≤ day)
  | none => false
def IsWalk (F : List Fo) (B : List Nw) (r : Rw) (day : Int) (V : List (List Nat)) : Prop :=
  if fborn F r day = true then Dfs (stepsOf F B r day) (f0 r) V [] else V = []
end
end Lv
end
section
set_option Elab.async false
set_option linter.all false
set_option maxRecDepth 100000
set_option maxHeartbeats 4000000
namespace Lz
open PySem L2 Pw Pv Lx Ls Lq Wk Lv
section
variable {F : List Fo} {B : List Nw} {r : Rw} {day : Int} {m : Mem}
end
end Lz
end
section
set_option Elab.async false
set_option linter.all false
set_option maxRecDepth 100000
set_option maxHeartbeats 4000000
namespace Lz
open PySem L2 Pw Pv Lx Ls Lq Wk Lv
section
variable {α : Type} {src : Ix} {t : Gx} {c : Tx} {f : Ex} {vs : List Nat}
end
section
variable {F : List Fo} {B : List Nw} {r : Rw} {day : Int} {m : Mem}
end
end Lz
end
section
set_option Elab.async false
set_option linter.all false
set_option maxRecDepth 100000
set_option maxHeartbeats 4000000
namespace Lz
open PySem L2 Pw Pv Lx Ls Lq Wk Lv
section
variable {L : List (Nat × List Nat)} {c w : Nat} {p : List Nat}
end
section
variable {F : List Fo} {B : List Nw} {r : Rw} {day : Int} {m : Mem} {web : D}
end
end Lz
end
section
set_option Elab.async false
set_option linter.all false
set_option maxRecDepth 100000
set_option maxHeartbeats 4000000
namespace Lz
open PySem L2 Pw Pv Lx Ls Lq Wk Lv
end Lz
end
section
set_option Elab.async false
set_option linter.all false
set_option maxRecDepth 100000
set_option maxHeartbeats 4000000
namespace Lz
open PySem L2 Pw Pv Lx Ls Lq Wk Lv
end Lz
end
section
set_option Elab.async false
set_option linter.all false
set_option maxRecDepth 100000
set_option maxHeartbeats 4000000
namespace Lz
open PySem L2 Pw Pv Lx Ls Lq Wk Lv
section
variable {F : List Fo} {B : List Nw} {r : Rw} {day : Int} {m : Mem} {web : D}
end
end Lz
end
section
set_option Elab.async false
set_option linter.all false
set_option maxRecDepth 100000
set_option maxHeartbeats 4000000
namespace Lz
open PySem L2 Pw Pv Lx Ls Lq Wk Lv
end Lz
end
section
set_option Elab.async false
set_option linter.all false
set_option maxRecDepth 100000
set_option maxHeartbeats 4000000
namespace Lz
open PySem L2 Pw Pv Lx Ls Lq Wk Lv
end Lz
end
section
set_option Elab.async false
set_option linter.all false
set_option maxRecDepth 100000
set_option maxHeartbeats 4000000
namespace Le
open PySem L2 Pw Pv Lx Ls Lq Wk Lv Lz
section
variable {ns : List Int} {s : Lx.St} {m : Mem} {a b : List Int}
end
section
variable {ns : List Int} {s : Lx.St} {F : List Fo} {B : List Nw} {r : Rw} {day : Int} {m : Mem}
end
end Le
end
section
set_option Elab.async false
set_option linter.all false
set_option maxRecDepth 100000
set_option maxHeartbeats 2000000
namespace Dg
open Wk
def Way (S : Nat → List Nat) (x y k : Nat) : Prop := ∃ q, q.length = k ∧ go S x q = some y
section
variable {S : Nat → List Nat} {x y v c k : Nat}
theorem Way.nil : Way S x x 0 := ⟨[], rfl, rfl⟩
theorem Way.zero (h : Way S x y 0) : x = y := by
  obtain ⟨q, hq, h⟩ := h
  have : q = [] := by simpa using hq
  subst this
  cases h; rfl
theorem Way.snoc (h : Way S x v k) (hc : c ∈ S v) : Way S x c (k + 1) := by
  obtain ⟨q, hq, h⟩ := h
  obtain ⟨j, hj⟩ := List.getElem?_of_mem hc
  exact ⟨q ++ [j], by simp [hq], by rw [go_snoc, h]; exact hj⟩
theorem Way.snoc_inv (h : Way S x y (k + 1)) : ∃ v, Way S x v k ∧ y ∈ S v := by
  obtain ⟨q, hq, h⟩ := h
  have ne : q ≠ [] := fun z => by rw [z] at hq; cases hq
  have e := (List.dropLast_concat_getLast ne).symm
  rw [e] at h
  obtain ⟨v, h1, h2⟩ := snoc_of h
  exact ⟨v, ⟨_, by rw [List.length_dropLast]; omega, h1⟩, List.mem_of_getElem? h2⟩
theorem Way.cons (hc : c ∈ S x) (h : Way S c y k) : Way S x y (k + 1) := by
  obtain ⟨q, hq, h⟩ := h
  obtain ⟨j, hj⟩ := List.getElem?_of_mem hc
  refine ⟨j :: q, by simp [hq], ?_⟩
  simp only [go]
  rw [hj]; exact h
theorem Way.cons_inv (h : Way S x y (k + 1)) : ∃ c, c ∈ S x ∧ Way S c y k := by
  obtain ⟨q, hq, h⟩ := h
  cases q with
  | nil => cases hq
  | cons j q =>
    simp only [go] at h
    cases e : (S x)[j]? with
    | none => rw [e] at h; cases h
    | some d =>
      rw [e] at h
      exact ⟨d, List.mem_of_getElem? e, q, by simpa using hq, h⟩
theorem Way.up (up : ∀ v c, c ∈ S v → v < c) : ∀ {k x y : Nat}, Way S x y k → x + k ≤ y
  | 0, x, y, h => by rw [h.zero]; exact Nat.le_refl _
  | k + 1, x, y, h => by
    obtain ⟨c, hc, h⟩ := h.cons_inv
    have a := up x c hc
    have b := Way.up up h
    omega
theorem Way.app {j : Nat} (h : Way S x v k) (h2 : Way S v y j) : Way S x y (k + j) := by
  obtain ⟨q, hq, h⟩ := h
  obtain ⟨q2, hq2, h2⟩ := h2
  exact ⟨q ++ q2, by simp [hq, hq2], by rw [go_app, h]; exact h2⟩
end
structure Least (P : Nat → Nat → Prop) (g : Nat → Option Nat) : Prop where
  l1 : ∀ y k, g y = some k → P y k
  l2 : ∀ y k, P y k → ∃ k', g y = some k' ∧ k' ≤ k
section
variable (S : Nat → List Nat) (R : Nat → Prop) (who : Nat)
def Far (y k : Nat) : Prop := ∃ x a b, R x ∧ Way S x who a ∧ Way S x y b ∧ a + b = k
def UpP (x k : Nat) : Prop := R x ∧ Way S x who k
def Pu (c x k : Nat) : Prop := R x ∧ ((x = who ∧ k = 0) ∨ ∃ d j, d ∈ S x ∧ c ≤ d ∧ Way S d who j ∧ k = j + 1)
structure UpI (c : Nat) (g : Nat → Option Nat) : Prop where
  u1 : ∀ x k, g x = some k → UpP S R who x k
  u2 : ∀ x k, Pu S R who c x k → ∃ k', g x = some k' ∧ k' ≤ k
variable {S R who} (up : ∀ v c, c ∈ S v → v < c) (cl : ∀ v c, R v → c ∈ S v → R c)
include up cl
theorem UpI.start (hw : R who) : UpI S R who (who + 1) fun y => if y = who then some 0 else none := by
  refine ⟨fun x k h => ?_, fun x k h => ?_⟩
  · split at h
    · rename_i e
      cases h
      subst e
      exact ⟨hw, Way.nil⟩
    · cases h
  · obtain ⟨_, ⟨rfl, rfl⟩ | ⟨d, j, _, h1, h2, _⟩⟩ := h
    · exact ⟨0, by simp, Nat.le_refl _⟩
    · have := Way.up up h2
      omega
theorem UpI.own {c k : Nat} {g : Nat → Option Nat} (I : UpI S R who (c + 1) g) (hc : R c) (h : Way S c who k) : ∃ k', g c = some k' ∧ k' ≤ k := by
  refine I.u2 c k ⟨hc, ?_⟩
  cases k with
  | zero => exact .inl ⟨h.zero, rfl⟩
  | succ k =>
    obtain ⟨d, hd, h⟩ := h.cons_inv
    exact .inr ⟨d, k, hd, up c d hd, h, rfl⟩
theorem UpI.turn {c k0 : Nat} {g g' : Nat → Option Nat} (I : UpI S R who (c + 1) g) (h : g c = some k0)
    (h1 : ∀ x k, g' x = some k → g x = some k ∨ (R x ∧ c ∈ S x ∧ k = k0 + 1)) (h2 : ∀ x k, g x = some k → ∃ k', g' x = some k' ∧ k' ≤ k) (h3 : ∀ x, R x → c ∈ S x → ∃ k', g' x = some k' ∧ k' ≤ k0 + 1) : UpI S R who c g' := by
  refine ⟨fun x k hx => ?_, fun x k hp => ?_⟩
  · rcases h1 x k hx with z | ⟨z1, z2, rfl⟩
    · exact I.u1 x k z
    · exact ⟨z1, Way.cons z2 (I.u1 c k0 h).2⟩
  · have old : ∀ {k}, (∃ k', g x = some k' ∧ k' ≤ k) → ∃ k', g' x = some k' ∧ k' ≤ k := fun {k} ⟨k', e, l⟩ => by
      obtain ⟨k'', e2, l2⟩ := h2 x k' e
      exact ⟨k'', e2, by omega⟩
    obtain ⟨hx, hp⟩ := hp
    rcases hp with hp | ⟨d, j, hd, h4, h5, h6⟩
    · exact old (I.u2 x k ⟨hx, .inl hp⟩)
    · by_cases e : d = c
      · subst e
        obtain ⟨k', e1, l1⟩ := I.own up cl (cl x d hx hd) h5
        rw [h] at e1
        cases e1
        obtain ⟨k'', e2, l2⟩ := h3 x hx hd
        exact ⟨k'', e2, by omega⟩
      · exact old (I.u2 x k ⟨hx, .inr ⟨d, j, hd, by omega, h5, h6⟩⟩)
theorem UpI.all {g : Nat → Option Nat} (I : UpI S R who 0 g) : Least (UpP S R who) g := by
  refine ⟨I.u1, fun x k h => I.u2 x k ⟨h.1, ?_⟩⟩
  cases k with
  | zero => exact .inl ⟨h.2.zero, rfl⟩
  | succ k =>
    obtain ⟨d, hd, hw⟩ := h.2.cons_inv
    exact .inr ⟨d, k, hd, Nat.zero_le _, hw, rfl⟩
omit cl up in
theorem Far.down {v c k : Nat} (h : Far S R who v k) (hc : c ∈ S v) : Far S R who c (k + 1) := by
  obtain ⟨x, a, b, hx, h1, h2, h3⟩ := h
  exact ⟨x, a, b + 1, hx, h1, h2.snoc hc, by omega⟩
end
section
variable (S : Nat → List Nat) (R : Nat → Prop) (who : Nat)
def Pd (p y k : Nat) : Prop := UpP S R who y k ∨ ∃ v j, v < p ∧ y ∈ S v ∧ Far S R who v j ∧ k = j + 1
structure DnI (p : Nat) (g : Nat → Option Nat) : Prop where
  d1 : ∀ y k, g y = some k → Far S R who y k
  d2 : ∀ y k, Pd S R who p y k → ∃ k', g y = some k' ∧ k' ≤ k
variable {S R who}
theorem DnI.start {g : Nat → Option Nat} (h : Least (UpP S R who) g) : DnI S R who 0 g := by
  refine ⟨fun y k e => ?_, fun y k hp => ?_⟩
  · obtain ⟨a, b⟩ := h.l1 y k e
    exact ⟨y, k, 0, a, b, Way.nil, rfl⟩
  · rcases hp with hp | ⟨v, j, hv, _⟩
    · exact h.l2 y k hp
    · omega
theorem far_pd {y k : Nat} {p : Nat} (h : Far S R who y k) (hp : ∀ v, y ∈ S v → v < p) : Pd S R who p y k := by
  obtain ⟨x, a, b, hx, h1, h2, h3⟩ := h
  cases b with
  | zero =>
    have := h2.zero
    subst this
    left
    have : a = k := by omega
    subst this
    exact ⟨hx, h1⟩
  | succ b =>
    obtain ⟨v, hv, hy⟩ := h2.snoc_inv
    exact .inr ⟨v, a + b, hp v hy, hy, ⟨x, a, b, hx, h1, hv, rfl⟩, by omega⟩
variable (up : ∀ v c, c ∈ S v → v < c)
include up
theorem DnI.own {p k : Nat} {g : Nat → Option Nat} (I : DnI S R who p g) (h : Far S R who p k) : ∃ k', g p = some k' ∧ k' ≤ k :=
  I.d2 p k (far_pd h fun v hv => up v p hv)
theorem DnI.turn {p k0 : Nat} {g g' : Nat → Option Nat} (I : DnI S R who p g) (h : g p = some k0)
    (h1 : ∀ y k, g' y = some k → g y = some k ∨ (y ∈ S p ∧ k = k0 + 1)) (h2 : ∀ y k, g y = some k → ∃ k', g' y = some k' ∧ k' ≤ k) (h3 : ∀ y, y ∈ S p → ∃ k', g' y = some k' ∧ k' ≤ k0 + 1) : DnI S R who (p + 1) g' := by
  refine ⟨fun y k hy => ?_, fun y k hp => ?_⟩
  · rcases h1 y k hy with z | ⟨z1, rfl⟩
    · exact I.d1 y k z
    · exact (I.d1 p k0 h).down z1
  · have old : ∀ {k}, (∃ k', g y = some k' ∧ k' ≤ k) → ∃ k', g' y = some k' ∧ k' ≤ k := fun {k} ⟨k', e, l⟩ => by
      obtain ⟨k'', e2, l2⟩ := h2 y k' e
      exact ⟨k'', e2, by omega⟩
    rcases hp with hp | ⟨v, j, hv, h4, h5, h6⟩
    · exact old (I.d2 y k (.inl hp))
    · by_cases e : v = p
      · subst e
        obtain ⟨k', e1, l1⟩ := I.own up h5
        rw [h] at e1
        cases e1
        obtain ⟨k'', e2, l2⟩ := h3 y h4
        exact ⟨k'', e2, by omega⟩
      · exact old (I.d2 y k (.inr ⟨v, j, by omega, h4, h5, h6⟩))
theorem DnI.all {n : Nat} {g : Nat → Option Nat} (lt : ∀ v c, c ∈ S v → c < n) (I : DnI S R who n g) : Least (Far S R who) g :=
  ⟨I.d1, fun y k h => I.d2 y k (far_pd h fun v hv => by have := up v y hv; have := lt v y hv; omega)⟩
end
end Dg
end
section
set_option Elab.async false
set_option linter.all false
set_option maxRecDepth 100000
set_option maxHeartbeats 2000000
namespace Dg
open Wk
open Classical
section
variable (S : Nat → List Nat) (R : Nat → Prop) (who : Nat)
structure RgI (i : Nat) (g : Nat → Option Nat) : Prop where
  a : ∀ x k, g x = some k → UpP S R who x k ∧ k ≤ i
  b : ∀ x k, UpP S R who x k → k ≤ i → ∃ k', g x = some k' ∧ k' ≤ k
variable {S R who} (cl : ∀ v c, R v → c ∈ S v → R c)
theorem RgI.start (hw : R who) : RgI S R who 0 fun y => if y = who then some 0 else none := by
  refine ⟨fun x k h => ?_, fun x k h hk => ?_⟩
  · split at h
    · rename_i e
      cases h
      subst e
      exact ⟨⟨hw, Way.nil⟩, Nat.le_refl _⟩
    · cases h
  · have : k = 0 := by omega
    subst this
    have := h.2.zero
    exact ⟨0, by simp [this], Nat.le_refl _⟩
include cl
theorem RgI.turn {i : Nat} {g g' : Nat → Option Nat} (I : RgI S R who i g) (h1 : ∀ x, g' x = if g x = none ∧ R x ∧ (∃ c, c ∈ S x ∧ g c = some i) then some (i + 1) else g x) : RgI S R who (i + 1) g' := by
  refine ⟨fun x k h => ?_, fun x k h hk => ?_⟩
  · rw [h1] at h
    split at h
    · rename_i z
      cases h
      obtain ⟨_, hx, c, hc, hg⟩ := z
      exact ⟨⟨hx, Way.cons hc (I.a c i hg).1.2⟩, Nat.le_refl _⟩
    · obtain ⟨u, v⟩ := I.a x k h
      exact ⟨u, by omega⟩
  · have old : (∃ k', g x = some k' ∧ k' ≤ k) → ∃ k', g' x = some k' ∧ k' ≤ k := fun ⟨k', e, l⟩ => ⟨k', by rw [h1, if_neg (fun z => by rw [z.1] at e; cases e)]; exact e, l⟩
    by_cases hki : k ≤ i
    · exact old (I.b x k h hki)
    · have ek : k = i + 1 := by omega
      subst ek
      obtain ⟨hx, hw⟩ := h
      obtain ⟨c, hc, hw⟩ := hw.cons_inv
      obtain ⟨k', e, l⟩ := I.b c i ⟨cl x c hx hc, hw⟩ (Nat.le_refl _)
      by_cases hk' : k' = i
      · subst hk'
        by_cases hg : g x = none
        · exact ⟨k' + 1, by rw [h1, if_pos ⟨hg, hx, c, hc, e⟩], Nat.le_refl _⟩
        · obtain ⟨j, hj⟩ := Option.ne_none_iff_exists'.mp hg
          exact old ⟨j, hj, by have := (I.a x j hj).2; omega⟩
      · obtain ⟨j, e2, l2⟩ := I.b x (k' + 1) ⟨hx, Way.cons hc (I.a c k' e).1.2⟩ (by omega)
        exact old ⟨j, e2, by omega⟩
theorem RgI.all {i : Nat} {g : Nat → Option Nat} (I : RgI S R who i g) (h : ∀ x, g x ≠ some i) : Least (UpP S R who) g := by
  refine ⟨fun x k e => (I.a x k e).1, fun x k => ?_⟩
  induction k generalizing x with
  | zero => exact fun hp => I.b x 0 hp (Nat.zero_le _)
  | succ k ih =>
    intro hp
    obtain ⟨hx, hw⟩ := hp
    obtain ⟨c, hc, hw⟩ := hw.cons_inv
    obtain ⟨k', e, l⟩ := ih c ⟨cl x c hx hc, hw⟩
    obtain ⟨u, v⟩ := I.a c k' e
    have ne : k' ≠ i := fun z => h c (z ▸ e)
    obtain ⟨j, e2, l2⟩ := I.b x (k' + 1) ⟨hx, Way.cons hc u.2⟩ (by omega)
    exact ⟨j, e2, by omega⟩
end
section
variable (S : Nat → List Nat) (R : Nat → Prop) (who : Nat)
structure RdI (t : Nat) (g : Nat → Option Nat) : Prop where
  r1 : ∀ y k, g y = some k → Far S R who y k
  r2 : ∀ y k, UpP S R who y k → ∃ k', g y = some k' ∧ k' ≤ k
  r3 : ∀ v k, g v = some k → k < t → ∀ y, y ∈ S v → ∃ k', g y = some k' ∧ k' ≤ k + 1
variable {S R who}
theorem RdI.start {g : Nat → Option Nat} (h : Least (UpP S R who) g) : RdI S R who 0 g :=
  ⟨fun y k e => ⟨y, k, 0, (h.l1 y k e).1, (h.l1 y k e).2, Way.nil, rfl⟩, h.l2, fun v k _ z => absurd z (Nat.not_lt_zero _)⟩
theorem RdI.turn {t : Nat} {g g' : Nat → Option Nat} (I : RdI S R who t g) (h1 : ∀ y k, g' y = some k → g y = some k ∨ (k = t + 1 ∧ ∃ v, g v = some t ∧ y ∈ S v))
    (h2 : ∀ y k, g y = some k → ∃ k', g' y = some k' ∧ k' ≤ k) (h3 : ∀ v, g v = some t → ∀ y, y ∈ S v → ∃ k', g' y = some k' ∧ k' ≤ t + 1) : RdI S R who (t + 1) g' := by
  have old : ∀ {y k}, (∃ k', g y = some k' ∧ k' ≤ k) → ∃ k', g' y = some k' ∧ k' ≤ k := fun {y k} ⟨k', e, l⟩ => by
    obtain ⟨k'', e2, l2⟩ := h2 y k' e
    exact ⟨k'', e2, by omega⟩
  refine ⟨fun y k e => ?_, fun y k hp => old (I.r2 y k hp), fun v k e hk y hy => ?_⟩
  · rcases h1 y k e with z | ⟨rfl, v, hv, hy⟩
    · exact I.r1 y k z
    · exact (I.r1 v t hv).down hy
  · rcases h1 v k e with z | ⟨rfl, _⟩
    · by_cases hkt : k < t
      · exact old (I.r3 v k z hkt y hy)
      · have : k = t := by omega
        subst this
        exact h3 v z y hy
    · omega
theorem least_of {P : Nat → Prop} : ∀ {k : Nat}, P k → ∃ j, P j ∧ j ≤ k ∧ ∀ i, P i → j ≤ i := by
  intro k
  induction k using Nat.strongRecOn with
  | _ k ih =>
    intro h
    by_cases z : ∃ i, P i ∧ i < k
    · obtain ⟨i, hi, l⟩ := z
      obtain ⟨j, h1, h2, h3⟩ := ih i l hi
      exact ⟨j, h1, by omega, h3⟩
    · exact ⟨k, h, Nat.le_refl _, fun i hi => Nat.le_of_not_lt fun l => z ⟨i, hi, l⟩⟩
theorem RdI.all {t : Nat} {g : Nat → Option Nat} (I : RdI S R who t g) (bound : ∀ y k, Far S R who y k → (∀ i, Far S R who y i → k ≤ i) → k < t + 1) : Least (Far S R who) g := by
  have key : ∀ k y, Far S R who y k → (∀ i, Far S R who y i → k ≤ i) → g y = some k := by
    intro k
    induction k with
    | zero =>
      intro y h hm
      obtain ⟨x, a, b, hx, h1, h2, h3⟩ := h
      have ea : a = 0 := by omega
      have eb : b = 0 := by omega
      subst ea; subst eb
      have e := h2.zero
      subst e
      obtain ⟨k', e, l⟩ := I.r2 x 0 ⟨hx, h1⟩
      rw [e]
      congr 1
      omega
    | succ k ih =>
      intro y h hm
      have hk := bound y (k + 1) h hm
      have fin : (∃ k', g y = some k' ∧ k' ≤ k + 1) → g y = some (k + 1) := fun ⟨k', e, l⟩ => by
        have := hm k' (I.r1 y k' e)
        rw [e]
        congr 1
        omega
      obtain ⟨x, a, b, hx, h1, h2, h3⟩ := h
      cases b with
      | zero =>
        have e := h2.zero
        subst e
        have : a = k + 1 := by omega
        subst this
        exact fin (I.r2 x (k + 1) ⟨hx, h1⟩)
      | succ b =>
        obtain ⟨v, hv, hy⟩ := h2.snoc_inv
        have fv : Far S R who v k := ⟨x, a, b, hx, h1, hv, by omega⟩
        have gv := ih v fv fun i hi => by
          have := hm (i + 1) (hi.down hy)
          omega
        exact fin (I.r3 v k gv (by omega) y hy)
  refine ⟨I.r1, fun y k h => ?_⟩
  obtain ⟨j, h1, h2, h3⟩ := least_of h
  exact ⟨j, key j y h1 h3, h2⟩
end
end Dg
end
section
set_option Elab.async false
set_option linter.all false
set_option maxRecDepth 100000
set_option maxHeartbeats 4000000
namespace Lg
open PySem L2 Pw Pv Lx Ls Lq Wk Lv Lz Dg
def kdA {α : Type} (enc : α → D) (L : List (Nat × α)) : List (Key × D) := L.map fun e => (Sum.inl (e.1 : Int), enc e.2)
def getA {α : Type} (L : List (Nat × α)) (w : Nat) : Option α := (L.find? fun e => decide (e.1 = w)).map (·.2)
def putA {α : Type} (L : List (Nat × α)) (w : Nat) (p : α) : List (Nat × α) := if (L.any fun e => decide (e.1 = w)) = true then L.map (fun e => if e.1 = w then (e.1, p) else e) else L ++ [(w, p)]
section
variable {α : Type} {enc : α → D} {L : List (Nat × α)} {c w : Nat} {p : α}
theorem val_kdA : valX (kdA enc L) (Sum.inl (w : Int)) = (getA L w).map enc := by
  unfold valX getA kdA
  induction L with
  | nil => rfl
  | cons e L ih =>
    rw [List.map_cons, List.find?_cons, List.find?_cons]
    by_cases h : e.1 = w
    · subst h; simp
    · have h' : ¬ ((Sum.inl (e.1 : Int) : Key) = Sum.inl (w : Int)) := fun z => h (by injection z with z; omega)
      simp only [h, h', decide_false]
      exact ih
theorem put_kdA : putX (kdA enc L) (Sum.inl (w : Int)) (enc p) = kdA enc (putA L w p) := by
  unfold putX putA kdA
  have ea : ((L.map fun e => ((Sum.inl (e.1 : Int) : Key), enc e.2)).any fun kv => decide (kv.1 = Sum.inl (w : Int))) = L.any fun e => decide (e.1 = w) := by
    rw [List.any_map]
    congr 1
    funext e
    by_cases h : e.1 = w
    · subst h; simp
    · have h' : ¬ ((Sum.inl (e.1 : Int) : Key) = Sum.inl (w : Int)) := fun z => h (by injection z with z; omega)
      simp [h, h']
  rw [ea]
  split
  · rw [List.map_map, List.map_map]
    refine List.map_congr_left fun e _ => ?_
    by_cases h : e.1 = w
    · subst h; simp
    · have h' : ¬ ((Sum.inl (e.1 : Int) : Key) = Sum.inl (w : Int)) := fun z => h (by injection z with z; omega)
      simp [h, h']
  · simp
theorem getA_none : getA L w = none ↔ (L.any fun e => decide (e.1 = w)) = false := by
  unfold getA
  rw [Option.map_eq_none_iff, List.find?_eq_none, List.any_eq_false]
theorem getA_put : getA (putA L c p) w = if w = c then some p else getA L w := by
  unfold putA
  split
  · rename_i ha
    unfold getA
    rw [List.find?_map]
    have e : ((fun e : Nat × α => decide (e.1 = w)) ∘ fun e => if e.1 = c then (e.1, p) else e) = fun e => decide (e.1 = w) := funext fun e => by
      show decide ((if e.1 = c then (e.1, p) else e).1 = w) = _
      split <;> rfl
    rw [e]
    cases h : L.find? fun e => decide (e.1 = w) with
    | none =>
      by_cases hw : w = c
      · subst hw
        have := getA_none.mp (show getA L w = none by unfold getA; rw [h]; rfl)
        rw [this] at ha; cases ha
      · rw [if_neg hw]; rfl
    | some x =>
      have hx : x.1 = w := of_decide_eq_true (List.find?_some (p := fun e : Nat × α => decide (e.1 = w)) h)
      simp only [Option.map_some]
      by_cases hw : w = c
      · rw [if_pos (by rw [hx, hw]), if_pos hw]
      · rw [if_neg (by rw [hx]; exact hw), if_neg hw]
  · rename_i ha
    unfold getA
    rw [List.find?_append]
    by_cases hw : w = c
    · subst hw
      rw [if_pos rfl]
      have h : L.find? (fun e => decide (e.1 = w)) = none := by
        have := getA_none.mpr (show (L.any fun e => decide (e.1 = w)) = false by rw [Bool.not_eq_true] at ha; exact ha)
        unfold getA at this
        exact Option.map_eq_none_iff.mp this
      rw [h]
      simp
    · rw [if_neg hw]
      have : List.find? (fun e : Nat × α => decide (e.1 = w)) [(c, p)] = none := by
        rw [List.find?_cons]
        simp only [decide_eq_false (show ¬ c = w from fun z => hw z.symm)]
        rfl
      rw [this, Option.or_none]
theorem keysA_put (nd : (L.map (·.1)).Nodup) : ((putA L c p).map (·.1)).Nodup := by
  unfold putA
  split
  · have : (L.map (fun e => if e.1 = c then (e.1, p) else e)).map (·.1) = L.map (·.1) := by
      rw [List.map_map]
      refine List.map_congr_left fun e _ => ?_
      show (if e.1 = c then (e.1, p) else e).1 = e.1
      split <;> rfl
    rw [this]; exact nd
  · rename_i ha
    rw [List.map_append, List.nodup_append]
    refine ⟨nd, by simp, fun a h1 b h2 z => ?_⟩
    simp only [List.map_cons, List.map_nil, List.mem_singleton] at h2
    obtain ⟨e, he, rfl⟩ := List.mem_map.mp h1
    exact ha (List.any_eq_true.mpr ⟨e, he, decide_eq_true (z.trans h2)⟩)
theorem ltA_put {n : Nat} (h : ∀ e ∈ L, e.1 < n) (hc : c < n) : ∀ e ∈ putA L c p, e.1 < n := by
  unfold putA
  split
  · intro e he
    obtain ⟨x, hx, rfl⟩ := List.mem_map.mp he
    have := h x hx
    split <;> exact this
  · intro e he
    rcases List.mem_append.mp he with z | z
    · exact h e z
    · rw [List.mem_singleton.mp z]; exact hc
theorem memA_get : ∀ {L : List (Nat × α)}, (L.map (·.1)).Nodup → ∀ w p, (w, p) ∈ L ↔ getA L w = some p
  | [], _, w, p => by simp [getA]
  | e :: L, nd, w, p => by
    rw [List.map_cons, List.nodup_cons] at nd
    have ih := memA_get nd.2 w p
    have ex : getA (e :: L) w = if e.1 = w then some e.2 else getA L w := by
      unfold getA
      rw [List.find?_cons]
      by_cases h : e.1 = w <;> simp [h]
    rw [ex, List.mem_cons]
    by_cases h : e.1 = w
    · rw [if_pos h]
      constructor
      · rintro (z | z)
        · rw [← z]
        · exact absurd (List.mem_map.mpr ⟨_, z, h.symm⟩) nd.1
      · intro z
        injection z with z
        exact .inl (by rw [← z, ← h])
    · rw [if_neg h, ← ih]
      constructor
      · rintro (z | z)
        · exact absurd (by rw [← z]) h
        · exact z
      · exact .inr
end
structure Tab (n : Nat) (L : List (Nat × Nat)) : Prop where
  nd : (L.map (·.1)).Nodup
  lt : ∀ e ∈ L, e.1 < n
end Lg
end
section
set_option Elab.async false
set_option linter.all false
set_option maxRecDepth 100000
set_option maxHeartbeats 2000000
namespace Lu
open PySem L2 Pw Pv Lx Ls
open Lq (Ord at_p1 at_p2 cut_take dEnv drawn_turn erase_perm lI tI)
noncomputable def L_drawn_order_1 : Sx := (sDrop (eMt isLst appD (eVar 4) (aCons (eMt isLst popAtD (eVar 3) (aCons (eCall F_take (aCons (eVar 0) (aCons (eCB lenD (aCons (eVar 3) aNil)) aNil))) aNil)) aNil)))
noncomputable def B_drawn_order : Sx := (sSeq (sSet 3 (eOwn (eCB listD (aCons (eVar 1) aNil)))) (sSeq (sSet 4 (eOwn (eLst aNil))) (sSeq (sFor (iRngA (aCons (eCB (two minI) (aCons (eVar 2) (aCons (eCB lenD (aCons (eVar 3) aNil)) aNil))) aNil)) (gN 5) L_drawn_order_1 [5]) (sRet (eCB tupleXD (aCons (eVar 4) aNil))))))
noncomputable def F_drawn_order : Fx := runF 3 6 B_drawn_order
abbrev tX (xs : List Int) : D := .tx (xs.map D.int)
section
variable {ns : List Int} {s : Lx.St} {m : Mem}
theorem drawn_spec {xs : List Int} (hx : xs.length ≤ 1000) {pool : D} (hp : pool = lI xs ∨ pool = tI xs) {many : Int} (h0 : 0 ≤ many) (h1 : many ≤ 1000) (m : Mem) :
    ∃ (ys rest : List Int) (s' : Lx.St), F_drawn_order [.r 0, .v pool, .v (.int many)] (stD ns s :: m) = some (.v (tX ys), stD ns s' :: m) ∧ (ys ++ rest).Perm xs ∧ ys.length = min many.toNat xs.length := by
  obtain ⟨ρ', m', e, inv⟩ := for_inv (α := Nat) (src := iRngA (aCons (eCB (two minI) (aCons (eVar 2) (aCons (eCB lenD (aCons (eVar 3) aNil)) aNil))) aNil)) (t := gN 5) (b := L_drawn_order_1) (dd := [5])
    (ρ := dEnv pool many m none) (m := stD ns s :: (m ++ [.lst (xs.map .int), .lst []])) (m1 := stD ns s :: (m ++ [.lst (xs.map .int), .lst []])) (List.range (min many.toNat xs.length)) (fun i => .int (i : Int))
    (fun k ρ mm => ρ = dEnv pool many m none ∧ ∃ (s' : Lx.St) (left found : List Int), mm = stD ns s' :: (m ++ [.lst (left.map .int), .lst (found.map .int)]) ∧ (found ++ left).Perm xs ∧ found.length = k)
    (by
      have g1 : gt (.r (m.length + 1)) (stD ns s :: (m ++ [.lst (xs.map .int), .lst []])) = some (.lst (xs.map .int)) := by rw [gt_r, at_p1]; rfl
      have em : min many (xs.length : Int) = ((min many.toNat xs.length : Nat) : Int) := by omega
      simp [iRngA, aCons, aNil, eCB, eVar, g1, em, -gt_r]
      rw [if_pos (by omega), rng0]; rfl)
    ⟨rfl, s, xs, [], rfl, by simp, rfl⟩
    (fun k a ha ρ mm inv => by
      obtain ⟨rfl, s', left, found, rfl, pm, hl⟩ := inv
      obtain ⟨hk, rfl⟩ := List.getElem?_eq_some_iff.mp ha
      have hk' : k < min many.toNat xs.length := by simpa using hk
      have pl := pm.length_eq
      rw [List.length_append] at pl
      obtain ⟨j, s2, hj, q⟩ := drawn_turn (ns := ns) (s := s') (m := m) (pool := pool) (many := many) (i := ((List.range (min many.toNat xs.length))[k] : Nat)) (left := left) (found := found) (by omega) (by omega) (by omega)
      refine ⟨_, _, _, rfl, q, rfl, s2, left.eraseIdx j, found ++ [left[j]], rfl, ?_, by simp [hl]⟩
      rw [List.append_assoc]
      exact ((erase_perm left j hj).append_left found).trans pm)
  obtain ⟨rfl, s', left, found, rfl, pm, hl⟩ := inv
  refine ⟨found, left, s', ?_, pm, by simpa using hl⟩
  have g2 : gt (.r (m.length + 2)) (stD ns s' :: (m ++ [.lst (left.map .int), .lst (found.map .int)])) = some (.lst (found.map .int)) := by rw [gt_r, at_p2]; rfl
  have lp : listD [pool] = some (.f (lI xs)) := by rcases hp with z | z <;> (rw [z]; rfl)
  have tk2 : ∀ (x A B : MO), (x :: (m ++ [A, B])).take (m.length + 1) = x :: m := fun x A B => by simp
  have e' : sFor (iRngA (aCons (eCB (two minI) (aCons (eVar 2) (aCons (eCB lenD (aCons (eVar 3) aNil)) aNil))) aNil)) (gN 5) L_drawn_order_1 [5] [some (.r 0), some (.v pool), some (.v (.int many)), some (.r (m.length + 1)), some (.r (m.length + 1 + 1)), none] (stD ns s :: (m ++ [.lst (xs.map .int), .lst []])) = _ := e
  simp [F_drawn_order, runF, B_drawn_order, startD, sSeq, sSet, eOwn, eCB, aCons, aNil, eVar, lp, eLst, e', sRet, g2, tk2, tupleXD, -gt_r]
end
end Lu
end
section
set_option Elab.async false
set_option linter.all false
set_option maxRecDepth 100000
set_option maxHeartbeats 2000000
namespace Lu
open PySem L2 Pw Pv Lx Ls
open Lq (tI lI)
end Lu
end
section
set_option Elab.async false
set_option linter.all false
set_option maxRecDepth 100000
set_option maxHeartbeats 4000000
namespace Ga
open PySem L2 Pw Pv Lx Ls
open Lg (kdA getA putA val_kdA put_kdA getA_put)
noncomputable def E_wishes_by_1 : Ex := eDc (iSeq (eVar 0)) (gT [gN 1, gN 2]) tYes' (eVar 1) (eVar 2) [1, 2]
noncomputable def B_wishes_by : Sx := (sRet E_wishes_by_1)
noncomputable def F_wishes_by : Fx := runF 1 3 B_wishes_by
noncomputable def B_is_dearer : Sx := (sSeq (sIf (tVal (eOp (inD true) (eVar 1) (eFg (eVar 0)))) (sRet (eC (.bl false))) sNil) (sRet (eOr (eOp (eqD false) (eVar 2) (eUn negD (eC (.int 1)))) (eOp (cmpD ltI) (eMt isTx idxTD (eVar 0) (aCons (eVar 1) aNil)) (eMt isTx idxTD (eVar 0) (aCons (eVar 2) aNil))))))
noncomputable def F_is_dearer : Fx := runF 3 3 B_is_dearer
noncomputable def B_throne_of : Sx := (sRet (eIf (tVal (eOp (inD false) (eVar 1) (eFg (eVar 0)))) (eAlt (eMt isTx idxTD (eVar 0) (aCons (eVar 1) aNil)) (eMt isLA idxD (eVar 0) (aCons (eVar 1) aNil))) (eUn negD (eC (.int 1)))))
noncomputable def F_throne_of : Fx := runF 2 2 B_throne_of
noncomputable def B_answer : Sx := (sSeq (sIf (tNot' (tTru (eCall F_is_dearer (aCons (eVar 0) (aCons (eVar 1) (aCons (eVar 2) aNil)))))) (sRet (eC (.str "no"))) sNil) (sRet (eIf (tVal (eOp (eqD false) (eVar 2) (eUn negD (eC (.int 1))))) (eC (.str "takes")) (eC (.str "turns")))))
noncomputable def F_answer : Fx := runF 3 3 B_answer
noncomputable def L_asking_throne_1 : Sx := (sIf (tAnd' (tVal (eOp (eqD false) (eOp ixD (eVar 2) (eVar 4)) (eUn negD (eC (.int 1))))) (tVal (eOp (cmpD ltI) (eOp ixD (eVar 3) (eVar 4)) (eCB lenD (aCons (eFg (eOp ixD (eVar 0) (eVar 4))) aNil))))) (sRet (eVar 4)) sNil)
noncomputable def B_asking_throne : Sx := (sSeq (sFor (iSeq (eVar 1)) (gN 4) L_asking_throne_1 [4]) (sRet (eUn negD (eC (.int 1)))))
noncomputable def F_asking_throne : Fx := runF 4 5 B_asking_throne
noncomputable def B_take : Sx := (sSeq (sIf (tVal (eOp (eqD true) (eVar 3) (eUn negD (eC (.int 1))))) (sPut (eVar 0) (eVar 3) (eUn negD (eC (.int 1)))) sNil) (sPut (eVar 0) (eVar 1) (eVar 2)))
noncomputable def F_take : Fx := runF 4 4 B_take
noncomputable def L_by_thrones_1 : Sx := (sSeq (sSet 8 (eOp ixD (eFg (eOp ixD (eVar 0) (eVar 7))) (eOp ixD (eVar 5) (eVar 7)))) (sSeq (sAug (fun i j => i + j) (eVar 5) (eVar 7) (eC (.int 1))) (sSeq (sSet 9 (eCall F_throne_of (aCons (eVar 4) (aCons (eVar 8) aNil)))) (sSeq (sSet 10 (eCall F_answer (aCons (eGet (eVar 3) (eVar 8) (eTup aNil)) (aCons (eVar 7) (aCons (eVar 9) aNil))))) (sSeq (sIf (tVal (eOp (eqD true) (eVar 10) (eC (.str "no")))) (sDrop (eCall F_take (aCons (eVar 4) (aCons (eVar 7) (aCons (eVar 8) (aCons (eVar 9) aNil)))))) sNil) (sSeq (sDrop (eMt isLst appD (eVar 6) (aCons (eTup (aCons (eVar 7) (aCons (eVar 8) (aCons (eVar 10) aNil)))) aNil))) (sSet 7 (eCall F_asking_throne (aCons (eVar 0) (aCons (eVar 2) (aCons (eVar 4) (aCons (eVar 5) aNil))))))))))))
abbrev qN (o : List Nat) : D := .tx (o.map nD)
abbrev oD (O : List (List Nat)) : D := .tup (O.map qN)
def wE (p : Nat × List Nat) : D := .tup [nD p.1, qN p.2]
abbrev wD (W : List (Nat × List Nat)) : D := .tup (W.map wE)
def sI : Option Nat → Int
  | none => -1
  | some w => (w : Int)
abbrev oN (o : Option Nat) : D := .int (sI o)
abbrev sL (S : List (Option Nat)) : List D := S.map oN
theorem sI_inj : ∀ {a b : Option Nat}, sI a = sI b → a = b
  | none, none, _ => rfl
  | none, some b, h => by
    have : (-1 : Int) = b := h
    omega
  | some a, none, h => by
    have : (a : Int) = -1 := h
    omega
  | some a, some b, h => by
    have : (a : Int) = b := h
    exact congrArg some (by omega)
theorem sI_neg {a : Option Nat} : decide (sI a = -1) = a.isNone := by
  cases a with
  | none => rfl
  | some w =>
    have : ¬ ((w : Int) = -1) := by omega
    exact decide_eq_false this
theorem sL_ints (S : List (Option Nat)) : sL S = (S.map sI).map D.int := by rw [List.map_map]; rfl
theorem q_ints (o : List Nat) : o.map nD = (o.map fun n : Nat => (n : Int)).map D.int := by rw [List.map_map]; rfl
theorem in_q {neg : Bool} {o : List Nat} {w : Nat} : inD neg (nD w) (.tup (o.map nD)) = some (.v (.bl (decide (w ∈ o) != neg))) := by
  rw [q_ints, Lm.in_tup]
  have : decide ((w : Int) ∈ o.map fun n : Nat => (n : Int)) = decide (w ∈ o) := by
    congr 1
    rw [List.mem_map, eq_iff_iff]
    exact ⟨fun ⟨a, h, e⟩ => by rw [← Int.ofNat.inj e]; exact h, fun h => ⟨w, h, rfl⟩⟩
  rw [this]
theorem mem_sI {S : List (Option Nat)} {x : Option Nat} : decide (sI x ∈ S.map sI) = decide (x ∈ S) := by
  congr 1
  rw [List.mem_map, eq_iff_iff]
  exact ⟨fun ⟨a, h, e⟩ => by rw [← sI_inj e]; exact h, fun h => ⟨x, h, rfl⟩⟩
theorem in_S {neg : Bool} {S : List (Option Nat)} {w : Nat} : inD neg (nD w) (.lst (sL S)) = some (.v (.bl (decide (some w ∈ S) != neg))) := by
  rw [sL_ints, show nD w = D.int (sI (some w)) from rfl, Lm.in_lst, mem_sI]
theorem find_idx {α : Type} [BEq α] [LawfulBEq α] {e : α → Int} (inj : ∀ a b, e a = e b → a = b) {x : α} : ∀ {L : List α}, x ∈ L → (L.map e).findIdx? (fun j => j == e x) = some (L.idxOf x)
  | y :: L, h => by
    rw [List.map_cons, List.findIdx?_cons, List.idxOf_cons]
    by_cases z : y = x
    · subst z; simp
    · have : (e y == e x) = false := beq_false_of_ne fun w => z (inj _ _ w)
      rw [this, beq_false_of_ne z]
      have m : x ∈ L := (List.mem_cons.mp h).resolve_left fun w => z w.symm
      simp [find_idx inj m]
theorem allI_of (L : List Int) : allI (L.map D.int) = some L := allI_ints ..
theorem idx_q {o : List Nat} {w : Nat} (h : w ∈ o) (m : Mem) : idxTD (.v (qN o)) [.v (nD w)] m = some (.v (nD (o.idxOf w)), m) := by
  have f := find_idx (e := fun n : Nat => (n : Int)) (fun a b (h : (a : Int) = b) => by omega) h
  have a : allI (o.map nD) = some (o.map fun n : Nat => (n : Int)) := by rw [q_ints]; exact allI_of _
  show ((allI (o.map nD)).bind fun is => (gt (.v (nD w)) m).bind fun x => match x with
    | .int i => (is.findIdx? fun j => j == i).bind fun k => some (W.v (.int (k : Int)), m)
    | _ => none) = _
  rw [a]
  simp only [Option.bind_some, gt_v, f]
theorem idx_SL {S : List (Option Nat)} {x : Option Nat} {k : Nat} {m : Mem} (h : x ∈ S) (hk : m[k]? = some (.lst (sL S))) : idxD (.r k) [.v (oN x)] m = some (.v (nD (S.idxOf x)), m) := by
  have f := find_idx (e := sI) (fun a b h => sI_inj h) h
  have a : allI (sL S) = some (S.map sI) := by rw [sL_ints]; exact allI_of _
  have g : gt (.r k) m = some (.lst (sL S)) := by rw [gt_r, hk]; rfl
  show ((gt (.r k) m).bind fun d => (itmL d).bind fun ds => (allI ds).bind fun is => (gt (.v (oN x)) m).bind fun x => match x with
    | .int i => (is.findIdx? fun j => j == i).bind fun k => some (W.v (.int (k : Int)), m)
    | _ => none) = _
  rw [g]
  simp only [Option.bind_some, itmL, a, gt_v, f]
def posOf (S : List (Option Nat)) (w : Nat) : Option Nat := if some w ∈ S then some (S.idxOf (some w)) else none
theorem isLA_S {S : List (Option Nat)} {k : Nat} {m : Mem} (hk : m[k]? = some (.lst (sL S))) : isLA (.r k) m = true := by
  unfold isLA
  rw [gt_r, hk]; rfl
theorem throne_of_lst {S : List (Option Nat)} {w k : Nat} {m : Mem} (hk : m[k]? = some (.lst (sL S))) : F_throne_of [.r k, .v (nD w)] m = some (.v (oN (posOf S w)), m) := by
  have g : gt (.r k) m = some (.lst (sL S)) := by rw [gt_r, hk]; rfl
  have i1 := in_S (neg := false) (S := S) (w := w)
  have la := isLA_S hk
  have tx : isTx (.r k) m = false := rfl
  have fg : fgW (.r k) = .r k := rfl
  by_cases h : some w ∈ S
  · have i2 : idxD (.r k) [.v (nD w)] m = some (.v (nD (S.idxOf (some w))), m) := idx_SL h hk
    simp only [F_throne_of, runF, B_throne_of, startD]
    simp [sRet, eIf, tVal, eOp, eVar, eFg, fg, g, i1, h, eAlt, eMt, tx, la, aCons, aNil, posOf, i2, sI, -gt_r]
  · simp only [F_throne_of, runF, B_throne_of, startD]
    simp [sRet, eIf, tVal, eOp, eVar, eFg, fg, g, i1, h, posOf, eUn, eC, negD, sI, -gt_r]
def Wis (x : D) (ts : List Nat) : Prop := x = qN ts ∨ (x = .tup [] ∧ ts = [])
theorem Wis.fg {x : D} {ts : List Nat} (h : Wis x ts) : fgW (.v x) = .v (.tup (ts.map nD)) := by
  rcases h with rfl | ⟨rfl, rfl⟩ <;> rfl
def dearer (ts : List Nat) (t : Nat) (had : Option Nat) : Bool := decide (t ∈ ts) && match had with
  | none => true
  | some h => decide (ts.idxOf t < ts.idxOf h)
theorem is_dearer_spec {x : D} {ts : List Nat} (hx : Wis x ts) {t : Nat} {had : Option Nat} (hh : t ∈ ts → ∀ h, had = some h → h ∈ ts) (m : Mem) : F_is_dearer [.v x, .v (nD t), .v (oN had)] m = some (.v (.bl (dearer ts t had)), m) := by
  have i1 := in_q (neg := true) (o := ts) (w := t)
  have fg := hx.fg
  by_cases h : t ∈ ts
  · have hx' : x = qN ts := by
      rcases hx with z | ⟨_, rfl⟩
      · exact z
      · cases h
    subst hx'
    have tx : isTx (.v (qN ts)) m = true := rfl
    have i2 := idx_q h m
    cases had with
    | none =>
      simp only [F_is_dearer, runF, B_is_dearer, startD]
      simp [sSeq, sIf, tVal, eOp, eVar, eFg, fg, i1, h, sNil, sRet, eOr, sI, eUn, eC, negD, dearer]
    | some g =>
      have i3 : idxTD (.v (qN ts)) [.v (oN (some g))] m = some (.v (nD (ts.idxOf g)), m) := idx_q (hh h g rfl) m
      have ne : ¬ ((g : Int) = -1) := by omega
      simp only [F_is_dearer, runF, B_is_dearer, startD]
      simp [sSeq, sIf, tVal, eOp, eVar, eFg, fg, i1, h, sNil, sRet, eOr, sI, eUn, eC, negD, dearer, ne, eMt, tx, aCons, aNil, i2, i3]
  · simp only [F_is_dearer, runF, B_is_dearer, startD]
    simp [sSeq, sIf, tVal, eOp, eVar, eFg, fg, i1, h, sRet, eC, dearer]
def prefd (o : List Nat) (w : Nat) : Option Nat → Bool
  | none => true
  | some h => decide (o.idxOf w < o.idxOf h)
def ansW (ts : List Nat) (t : Nat) (had : Option Nat) : Str := if dearer ts t had = true then (if had = none then "takes" else "turns") else "no"
theorem answer_spec {x : D} {ts : List Nat} (hx : Wis x ts) {t : Nat} {had : Option Nat} (hh : t ∈ ts → ∀ h, had = some h → h ∈ ts) (m : Mem) : F_answer [.v x, .v (nD t), .v (oN had)] m = some (.v (.str (ansW ts t had)), m) := by
  have e := is_dearer_spec hx hh m
  unfold ansW
  simp only [F_answer, runF, B_answer, startD]
  generalize dearer ts t had = dd at e ⊢
  cases dd with
  | true =>
    cases had with
    | none => simp [sSeq, sIf, tNot', tTru, eCall, aCons, aNil, eVar, e, sNil, sRet, eIf, tVal, eOp, eUn, eC, negD, sI, truD]
    | some g =>
      have ne : ¬ ((g : Int) = -1) := by omega
      simp [sSeq, sIf, tNot', tTru, eCall, aCons, aNil, eVar, e, sNil, sRet, eIf, tVal, eOp, eUn, eC, negD, sI, truD, ne]
  | false => simp [sSeq, sIf, tNot', tTru, eCall, aCons, aNil, eVar, e, sNil, sRet, eC, truD]
end Ga
end
section
set_option Elab.async false
set_option linter.all false
set_option maxRecDepth 100000
set_option maxHeartbeats 4000000
namespace Lg
open PySem L2 Pw Pv Lx Ls Lq Wk Lv Lz Dg
end Lg
end
section
set_option Elab.async false
set_option linter.all false
set_option maxRecDepth 100000
set_option maxHeartbeats 4000000
namespace Lg
open PySem L2 Pw Pv Lx Ls Lq Wk Lv Lz Dg
end Lg
end
section
set_option Elab.async false
set_option linter.all false
set_option maxRecDepth 100000
set_option maxHeartbeats 4000000
namespace Lg
open PySem L2 Pw Pv Lx Ls Lq Wk Lv Lz Dg
end Lg
end
section
set_option Elab.async false
set_option linter.all false
set_option maxRecDepth 100000
set_option maxHeartbeats 4000000
namespace Lg
open PySem L2 Pw Pv Lx Ls Lq Wk Lv Lz Dg
end Lg
end
section
set_option Elab.async false
set_option linter.all false
set_option maxRecDepth 100000
set_option maxHeartbeats 4000000
namespace Lg
open PySem L2 Pw Pv Lx Ls Lq Wk Lv Lz Dg
end Lg
end
section
set_option Elab.async false
set_option linter.all false
set_option maxRecDepth 100000
set_option maxHeartbeats 4000000
namespace Lg
open PySem L2 Pw Pv Lx Ls Lq Wk Lv Lz Dg
section
variable {S : Nat → List Nat} {f : Nat}
end
end Lg
end
section
set_option Elab.async false
set_option linter.all false
set_option maxRecDepth 100000
set_option maxHeartbeats 4000000
namespace Lg
open PySem L2 Pw Pv Lx Ls Lq Wk Lv Lz Dg
end Lg
end
section
set_option Elab.async false
set_option linter.all false
set_option maxRecDepth 100000
set_option maxHeartbeats 4000000
namespace Lg
open PySem L2 Pw Pv Lx Ls Lq Wk Lv Lz Dg
section
variable {F : List Fo} {B : List Nw} {r : Rw} {day : Int} {m : Mem}
end
end Lg
end
section
set_option Elab.async false
set_option linter.all false
set_option maxRecDepth 100000
set_option maxHeartbeats 4000000
namespace Lg
open PySem L2 Pw Pv Lx Ls Lq Wk Lv Lz Dg
end Lg
end
section
set_option Elab.async false
set_option linter.all false
set_option maxRecDepth 100000
set_option maxHeartbeats 4000000
namespace Lg
open PySem L2 Pw Pv Lx Ls Lq Wk Lv Lz Dg
section
variable {m : Mem} {ST : List (Key × D)} {T T' : List (Nat × Nat)} {E : List MO} {x y : MO} {i : Nat}
def IsRing (m : Mem) (E : List MO) (rw : W) (ring : List Nat) : Prop := rw = .v (.lst (ring.map nD)) ∨ ∃ i, rw = .r (m.length + 2 + i) ∧ E[i]? = some (.lst (ring.map nD))
theorem IsRing.stl {rw : W} {ring : List Nat} (h : IsRing m E rw ring) : Pw.stl rw = rw := by
  rcases h with rfl | ⟨i, rfl, e⟩ <;> rfl
end
section
variable {F : List Fo} {B : List Nw} {r : Rw} {day : Int} {m : Mem} {web : D} {S : Nat → List Nat} {ks : List Nat} {R : List (Key × D)} {w : Nat}
def cndR (S : Nat → List Nat) (T : List (Nat × Nat)) (ring : List Nat) (x : Nat) : Bool := (getA T x).isNone && !((S x).filter fun c => decide (c ∈ ring)).isEmpty
end
end Lg
end
section
set_option Elab.async false
set_option linter.all false
set_option maxRecDepth 100000
set_option maxHeartbeats 4000000
namespace Lg
open PySem L2 Pw Pv Lx Ls Lq Wk Lv Lz Dg
section
variable {F : List Fo} {B : List Nw} {r : Rw} {day : Int} {m : Mem} {web : D} {S : Nat → List Nat} {ks : List Nat} {R : List (Key × D)} {w : Nat}
def putR (T : List (Nat × Nat)) (us : List Nat) (k : Nat) : List (Nat × Nat) := us.foldl (fun T x => putA T x k) T
theorem putR_get {k : Nat} : ∀ (us : List Nat) (T : List (Nat × Nat)) (y : Nat), getA (putR T us k) y = if y ∈ us then some k else getA T y
  | [], T, y => by simp [putR]
  | x :: us, T, y => by
    show getA (putR (putA T x k) us k) y = _
    rw [putR_get us]
    by_cases h : y ∈ us
    · simp [h]
    · rw [if_neg h, getA_put]
      by_cases h2 : y = x
      · simp [h2]
      · simp [h, h2]
theorem putR_tab {n k : Nat} : ∀ (us : List Nat) (T : List (Nat × Nat)), Tab n T → (∀ x ∈ us, x < n) → Tab n (putR T us k)
  | [], T, h, _ => h
  | x :: us, T, h, hu => putR_tab us (putA T x k) ⟨keysA_put h.nd, ltA_put h.lt (hu x List.mem_cons_self)⟩ fun y hy => hu y (List.mem_cons_of_mem _ hy)
end
end Lg
end
section
set_option Elab.async false
set_option linter.all false
set_option maxRecDepth 100000
set_option maxHeartbeats 4000000
namespace Lg
open PySem L2 Pw Pv Lx Ls Lq Wk Lv Lz Dg
structure RS where
  T : List (Nat × Nat)
  ring : List Nat
  E : List MO
  rw : W
  i : Nat
section
variable {F : List Fo} {B : List Nw} {r : Rw} {day : Int} {m : Mem} {web : D} {S : Nat → List Nat} {Rb : Nat → Bool} {ks : List Nat} {R : List (Key × D)} {w n : Nat}
def nextR (S : Nat → List Nat) (ks : List Nat) (m : Mem) (s : RS) : RS :=
  ⟨putR s.T (ks.filter (cndR S s.T s.ring)) (s.i + 1), ks.filter (cndR S s.T s.ring), s.E ++ [.lst ((ks.filter (cndR S s.T s.ring)).map nD)], .r (m.length + 2 + s.E.length), s.i + 1⟩
structure RInv (S : Nat → List Nat) (Rb : Nat → Bool) (w n : Nat) (m : Mem) (s : RS) : Prop where
  tb : Tab n s.T
  rg : RgI S (fun x => Rb x = true) w s.i (getA s.T)
  rm : ∀ x, x ∈ s.ring ↔ getA s.T x = some s.i
  rr : IsRing m s.E s.rw s.ring
theorem cnd_iff {T : List (Nat × Nat)} {ring : List Nat} {x : Nat} : cndR S T ring x = true ↔ getA T x = none ∧ ∃ c, c ∈ S x ∧ c ∈ ring := by
  unfold cndR
  rw [Bool.and_eq_true, Option.isNone_iff_eq_none, Bool.not_eq_true', List.isEmpty_eq_false_iff]
  refine and_congr Iff.rfl ?_
  constructor
  · intro h
    obtain ⟨c, hc⟩ := List.exists_mem_of_ne_nil _ h
    rw [List.mem_filter] at hc
    exact ⟨c, hc.1, of_decide_eq_true hc.2⟩
  · rintro ⟨c, h1, h2⟩ h3
    have : c ∈ (S x).filter fun c => decide (c ∈ ring) := List.mem_filter.mpr ⟨h1, decide_eq_true h2⟩
    rw [h3] at this
    cases this
theorem RInv.next (cl : ∀ v c, Rb v = true → c ∈ S v → Rb c = true) (hk : ∀ x, x ∈ ks ↔ Rb x = true) (hl : ∀ x ∈ ks, x < n) {s : RS} (I : RInv S Rb w n m s) : RInv S Rb w n m (nextR S ks m s) := by
  have um : ∀ x, x ∈ ks.filter (cndR S s.T s.ring) ↔ getA s.T x = none ∧ Rb x = true ∧ ∃ c, c ∈ S x ∧ getA s.T c = some s.i := fun x => by
    rw [List.mem_filter, cnd_iff, hk]
    constructor
    · rintro ⟨h1, h2, c, h3, h4⟩
      exact ⟨h2, h1, c, h3, (I.rm c).mp h4⟩
    · rintro ⟨h1, h2, c, h3, h4⟩
      exact ⟨h2, h1, c, h3, (I.rm c).mpr h4⟩
  refine ⟨putR_tab _ _ I.tb fun x hx => hl x (List.mem_filter.mp hx).1, I.rg.turn cl fun x => ?_, fun x => ?_, .inr ⟨s.E.length, rfl, by simp [nextR]⟩⟩
  · show getA (putR s.T (ks.filter (cndR S s.T s.ring)) (s.i + 1)) x = _
    rw [putR_get]
    by_cases h : x ∈ ks.filter (cndR S s.T s.ring)
    · rw [if_pos h, if_pos ((um x).mp h)]
    · rw [if_neg h, if_neg fun z => h ((um x).mpr z)]
  · show x ∈ ks.filter (cndR S s.T s.ring) ↔ getA (putR s.T (ks.filter (cndR S s.T s.ring)) (s.i + 1)) x = some (s.i + 1)
    rw [putR_get]
    by_cases h : x ∈ ks.filter (cndR S s.T s.ring)
    · simp only [h, if_true]
    · simp only [h, if_false, false_iff]
      intro z
      have := (I.rg.a x _ z).2
      omega
end
end Lg
end
section
set_option Elab.async false
set_option linter.all false
set_option maxRecDepth 100000
set_option maxHeartbeats 4000000
namespace Lg
open PySem L2 Pw Pv Lx Ls Lq Wk Lv Lz Dg
end Lg
end
section
set_option Elab.async false
set_option linter.all false
set_option maxRecDepth 100000
set_option maxHeartbeats 4000000
namespace Lg
open PySem L2 Pw Pv Lx Ls Lq Wk Lv Lz Dg
end Lg
end
section
set_option Elab.async false
set_option linter.all false
set_option maxRecDepth 100000
set_option maxHeartbeats 4000000
namespace Lg
open PySem L2 Pw Pv Lx Ls Lq Wk Lv Lz Dg
section
variable {ns : List Int} {s : Lx.St} {F : List Fo} {B : List Nw} {r : Rw} {day : Int} {m : Mem} {web : D}
end
end Lg
end
section
set_option Elab.async false
set_option linter.all false
set_option maxRecDepth 100000
set_option maxHeartbeats 4000000
namespace Le
open PySem L2 Pw Pv Lx Ls Lq Wk Lv Lz
end Le
end
section
set_option Elab.async false
set_option linter.all false
set_option maxRecDepth 100000
set_option maxHeartbeats 4000000
namespace Lh
open PySem L2 Pw Pv Lx Ls Lq Wk Lv Lz
section
variable {F : List Fo} {B : List Nw} {r : Rw} {day : Int} {m : Mem}
end
end Lh
end
section
set_option Elab.async false
set_option linter.all false
set_option maxRecDepth 100000
set_option maxHeartbeats 4000000
namespace Lh
open PySem L2 Pw Pv Lx Ls Lq Wk Lv
open Lz
section
variable {F : List Fo} {B : List Nw} {r : Rw} {day : Int} {m : Mem}
end
end Lh
end
section
set_option Elab.async false
set_option linter.all false
set_option maxRecDepth 100000
set_option maxHeartbeats 4000000
namespace Lh
open PySem L2 Pw Pv Lx Ls Lq Wk Lv
open Lz
section
variable {F : List Fo} {B : List Nw} {m : Mem} {day : Int}
end
end Lh
end
section
set_option Elab.async false
set_option linter.all false
set_option maxRecDepth 100000
set_option maxHeartbeats 4000000
namespace Lh
open PySem L2 Pw Pv Lx Ls Lq Wk Lv
open Lz
end Lh
end
section
set_option Elab.async false
set_option linter.all false
set_option maxRecDepth 100000
set_option maxHeartbeats 4000000
namespace Lh
open PySem L2 Pw Pv Lx Ls Lq Wk Lv
end Lh
end
section
set_option Elab.async false
set_option linter.all false
set_option maxRecDepth 100000
set_option maxHeartbeats 400000
namespace Lh
open PySem L2 Pw Pv Lx Ls Lq Wk Lv
end Lh
end
section
set_option Elab.async false
set_option linter.all false
set_option maxRecDepth 100000
set_option maxHeartbeats 400000
namespace Lh
open PySem L2 Pw Pv Lx Ls Lq Wk Lv Lg
section
variable {F : List Fo} {B : List Nw} {r : Rw} {day : Int}
end
end Lh
end
section
set_option Elab.async false
set_option linter.all false
set_option maxRecDepth 100000
set_option maxHeartbeats 400000
namespace Lh
open PySem L2 Pw Pv Lx Ls Lq Wk Lv Lg
section
variable {F : List Fo} {B : List Nw} {r : Rw} {day : Int} {m : Mem}
end
end Lh
end
section
set_option Elab.async false
set_option linter.all false
set_option maxRecDepth 100000
set_option maxHeartbeats 4000000
namespace Lo
open PySem L2 Pw Pv Lx Ls Lq Wk Lv Lz Dg Lg
section
variable {F : List Fo} {B : List Nw} {r : Rw} {day : Int} {m : Mem}
def stB (F : List Fo) (B : List Nw) (r : Rw) (day : Int) (w : Nat) : Bool := (!decide ((w : Int) ∈ deadL B day) && !decide ((w : Int) ∈ outL B day)) && (!decide (r.men = "only") || manP F w)
end
end Lo
end
section
set_option Elab.async false
set_option linter.all false
set_option maxRecDepth 100000
set_option maxHeartbeats 4000000
namespace Lo
open PySem L2 Pw Pv Lx Ls Lq Wk Lv Lz Dg Lg
section
variable {F : List Fo} {B : List Nw} {r : Rw} {day : Int} {m : Mem}
end
end Lo
end
section
set_option Elab.async false
set_option linter.all false
set_option maxRecDepth 100000
set_option maxHeartbeats 4000000
namespace Lo
open PySem L2 Pw Pv Lx Ls Lq Wk Lv Lz Dg Lg
section
variable {α : Type} {src : Ix} {t : Gx} {b : Sx} {dd : List Nat}
def outO : Option W → Out
  | some w => .ret w
  | none => .nx
theorem forL_find {xs : List D} (g : α → D) (sel : α → Option W) {ρ : Pw.Env} {m : Mem} : ∀ L : List α, (∀ a ∈ L, ∃ ρ1 ρ2, t (g a) ρ = some ρ1 ∧ b ρ1 m = some (outO (sel a), ρ2, m) ∧ wipeD ρ2 dd = ρ) →
    ∃ ρ', forL (.seq xs) xs t b dd (L.map g) ρ m = some (outO (L.findSome? sel), ρ', m) ∧ (L.findSome? sel = none → ρ' = ρ)
  | [], _ => ⟨ρ, by simp [forL, outO], fun _ => rfl⟩
  | a :: L, h => by
    obtain ⟨ρ1, ρ2, q1, q2, q3⟩ := h a List.mem_cons_self
    obtain ⟨ρ', r1, r2⟩ := forL_find (xs := xs) g sel L fun a ha => h a (List.mem_cons_of_mem _ ha)
    rw [List.map_cons]
    unfold forL
    rw [if_pos (by simp)]
    simp only [q1, q2, Option.bind_some]
    rw [List.findSome?_cons]
    cases hs : sel a with
    | none =>
      simp only [outO, q3]
      exact ⟨ρ', r1, r2⟩
    | some w => exact ⟨ρ2, by simp [outO], fun h => by simp at h⟩
theorem for_find {ρ : Pw.Env} {m m1 : Mem} (L : List α) (g : α → D) (sel : α → Option W) (hs : src ρ m = some (.seq (L.map g), m1))
    (h : ∀ a ∈ L, ∃ ρ1 ρ2, t (g a) ρ = some ρ1 ∧ b ρ1 m1 = some (outO (sel a), ρ2, m1) ∧ wipeD ρ2 dd = ρ) :
    ∃ ρ', sFor src t b dd ρ m = some (outO (L.findSome? sel), ρ', m1) ∧ (L.findSome? sel = none → ρ' = ρ) := by
  obtain ⟨ρ', e, k⟩ := forL_find (xs := L.map g) g sel L h
  refine ⟨ρ', ?_, k⟩
  unfold sFor
  rw [hs]
  simp only [Option.bind_some, items_seq]
  exact e
end
section
variable {F : List Fo} {B : List Nw} {r : Rw} {day : Int} {m : Mem}
noncomputable def vF (F : List Fo) (B : List Nw) (r : Rw) (day : Int) : List (List Nat) := @dite _ (∃ V, IsWalk F B r day V) (Classical.propDecidable _) (fun h => Classical.choose h) fun _ => []
end
end Lo
end
section
set_option Elab.async false
set_option linter.all false
set_option maxRecDepth 100000
set_option maxHeartbeats 4000000
namespace Ga
open PySem L2 Pw Pv Lx Ls
open Lg (kdA getA putA val_kdA put_kdA getA_put)
abbrev SO := List (Option Nat)
section
variable {O : List (List Nat)} {Ws : List (Nat × List Nat)} {m : Mem}
def wl (Ws : List (Nat × List Nat)) (w : Nat) : List Nat := (getA Ws w).getD []
def od (O : List (List Nat)) (t : Nat) : List Nat := O.getD t []
structure OkS (O : List (List Nat)) (Ws : List (Nat × List Nat)) : Prop where
  n1 : O.length ≤ 100
  o1 : ∀ o ∈ O, o.Nodup
  o2 : ∀ o ∈ O, o.length ≤ 100
  k1 : (Ws.map (·.1)).Nodup
  k2 : Ws.length ≤ 1000
  w1 : ∀ p ∈ Ws, p.2.Nodup
  w2 : ∀ p ∈ Ws, ∀ t ∈ p.2, t < O.length
theorem OkS.od (h : OkS O Ws) (t : Nat) : (od O t).Nodup ∧ (Ga.od O t).length ≤ 100 := by
  unfold Ga.od
  rw [List.getD_eq_getElem?_getD]
  cases e : O[t]? with
  | none => exact ⟨List.nodup_nil, Nat.zero_le _⟩
  | some o => exact ⟨h.o1 o (List.mem_of_getElem? e), h.o2 o (List.mem_of_getElem? e)⟩
theorem od_at {t : Nat} (h : t < O.length) : O[t]? = some (od O t) := by
  unfold od
  rw [List.getD_eq_getElem?_getD, List.getElem?_eq_getElem h]; rfl
theorem getA_mem {α : Type} {L : List (Nat × α)} {w : Nat} {x : α} (h : getA L w = some x) : (w, x) ∈ L := by
  unfold getA at h
  obtain ⟨e, h1, h2⟩ := Option.map_eq_some_iff.mp h
  have := List.find?_some h1
  have m := List.mem_of_find?_eq_some h1
  simp at this
  subst this; subst h2
  exact m
theorem OkS.wl (h : OkS O Ws) (w : Nat) : (wl Ws w).Nodup ∧ ∀ t ∈ Ga.wl Ws w, t < O.length := by
  unfold Ga.wl
  cases e : getA Ws w with
  | none => exact ⟨List.nodup_nil, fun t h => nomatch h⟩
  | some ts => exact ⟨h.w1 _ (getA_mem e), h.w2 _ (getA_mem e)⟩
theorem putA_new {α : Type} {L : List (Nat × α)} {w : Nat} {x : α} (h : w ∉ L.map (·.1)) : putA L w x = L ++ [(w, x)] := by
  unfold putA
  rw [if_neg]
  intro z
  obtain ⟨e, h1, h2⟩ := List.any_eq_true.mp z
  exact h (List.mem_map.mpr ⟨e, h1, by simpa using h2⟩)
theorem fold_put {α β : Type} (f : β → α) (k : β → Nat) (enc : α → D) : ∀ (L : List β) (acc : List (Nat × α)), ((acc.map (·.1)) ++ L.map k).Nodup → L.foldl (fun a p => putX a (Sum.inl (k p : Int)) (enc (f p))) (kdA enc acc) = kdA enc (acc ++ L.map fun p => (k p, f p))
  | [], acc, _ => by simp
  | p :: L, acc, nd => by
    rw [List.foldl_cons, put_kdA, putA_new (fun z => by
      have := (List.nodup_append.mp nd).2.2 _ z (k p) (by simp)
      exact this rfl), fold_put f k enc L (acc ++ [(k p, f p)]) (by simpa using nd)]
    simp
theorem wishes_by_spec (h : OkS O Ws) (m : Mem) : F_wishes_by [.v (wD Ws)] m = some (.f (.dk (kdA qN Ws)), m) := by
  have e := dc_map (src := iSeq (eVar 0)) (t := gT [gN 1, gN 2]) (c := tYes') (fk := eVar 1) (fv := eVar 2) (vs := [1, 2]) (ρ := [some (.v (wD Ws)), none, none]) (m := m) (m1 := m) Ws wE (fun _ => true) (fun p => Sum.inl (p.1 : Int)) (fun p => qN p.2)
    (by simp [iSeq, eVar]) (fun p hp => ⟨_, rfl, rfl, fun _ => ⟨.v (nD p.1), nD p.1, .v (qN p.2), by simp [eVar], rfl, Ls.key_i, by simp [eVar], rfl⟩⟩) (by have := h.k2; omega)
  rw [List.filter_eq_self.mpr (fun _ _ => rfl)] at e
  have f := fold_put (fun p : Nat × List Nat => p.2) (fun p => p.1) qN Ws [] (by simpa using h.k1)
  have f' : Ws.foldl (fun acc (a : Nat × List Nat) => putX acc (Sum.inl (a.1 : Int)) (qN a.2)) [] = kdA qN Ws := by simpa [kdA] using f
  rw [f'] at e
  have e' : E_wishes_by_1 [some (.v (wD Ws)), none, none] m = some (.f (.dk (kdA qN Ws)), m) := e
  simp only [F_wishes_by, runF, B_wishes_by, startD]
  simp [sRet, e']
theorem get_wish (w : Nat) : Wis ((valX (kdA qN Ws) (Sum.inl (w : Int))).getD (.tup [])) (wl Ws w) := by
  rw [val_kdA]
  unfold wl
  cases getA Ws w with
  | none => exact .inr ⟨rfl, rfl⟩
  | some ts => exact .inl rfl
def nextT (O : List (List Nat)) (tn : List Nat) (S : SO) (A : List Nat) : Option Nat := tn.find? fun t => decide (S.getD t none = none) && decide (A.getD t 0 < (od O t).length)
theorem getD_at {α : Type} {S : List α} {t : Nat} {d : α} (h : t < S.length) : S[t]? = some (S.getD t d) := by
  rw [List.getD_eq_getElem?_getD, List.getElem?_eq_getElem h]; rfl
theorem at_k {α : Type} {L : List α} {t : Nat} {x : α} (e : α → D) (h : L[t]? = some x) : atI (L.map e) (t : Int) = some (e x) := at_nat (by rw [List.getElem?_map, h]; rfl)
theorem asking_throne_spec {tn : List Nat} {S : SO} {A : List Nat} {i j : Nat} (ht : ∀ t ∈ tn, t < O.length) (hS : S.length = O.length) (hA : A.length = O.length) (hi : m[i]? = some (.lst (sL S))) (hj : m[j]? = some (.lst (A.map nD))) :
    F_asking_throne [.v (oD O), .v (.tup (tn.map nD)), .r i, .r j] m = some (.v (oN (nextT O tn S A)), m) := by
  have gi : gt (.r i) m = some (.lst (sL S)) := by rw [gt_r, hi]; rfl
  have gj : gt (.r j) m = some (.lst (A.map nD)) := by rw [gt_r, hj]; rfl
  obtain ⟨ρ', e, _⟩ := Lo.for_find (src := iSeq (eVar 1)) (t := gN 4) (b := L_asking_throne_1) (dd := [4]) (ρ := [some (.v (oD O)), some (.v (.tup (tn.map nD))), some (.r i), some (.r j), none]) (m := m) (m1 := m) tn nD
    (fun t => if (decide (S.getD t none = none) && decide (A.getD t 0 < (od O t).length)) = true then some (.v (nD t)) else none) (by simp [iSeq, eVar]) (fun t h => by
      have h0 := ht t h
      refine ⟨[some (.v (oD O)), some (.v (.tup (tn.map nD))), some (.r i), some (.r j), some (.v (nD t))], [some (.v (oD O)), some (.v (.tup (tn.map nD))), some (.r i), some (.r j), some (.v (nD t))], by simp [gN], ?_, by simp [wipeD]⟩
      have a1 := at_k oN (getD_at (d := none) (S := S) (t := t) (by omega))
      have a2 := at_k nD (getD_at (d := 0) (S := A) (t := t) (by omega))
      have a3 := at_k qN (od_at h0)
      have s1 : decide (sI (S.getD t none) = -1) = decide (S.getD t none = none) := by rw [sI_neg]; cases S.getD t none <;> rfl
      generalize S.getD t none = x at a1 s1 ⊢
      generalize A.getD t 0 = y at a2 ⊢
      generalize od O t = z at a3 ⊢
      have c1 : decide ((y : Int) < (z.length : Int)) = decide (y < z.length) := by congr 1; simp
      cases hx : decide (x = none) with
      | false =>
        rw [hx] at s1
        simp [L_asking_throne_1, sIf, tAnd', tVal, eOp, eVar, eUn, eC, negD, gi, gj, a1, s1, sNil, Lo.outO, -gt_r]
      | true =>
        rw [hx] at s1
        by_cases hy : y < z.length
        · simp [L_asking_throne_1, sIf, tAnd', tVal, eOp, eVar, eUn, eC, negD, gi, gj, a1, a2, a3, s1, sNil, eFg, fgW, eCB, aCons, aNil, hy, Lo.outO, sRet, -gt_r]
        · simp [L_asking_throne_1, sIf, tAnd', tVal, eOp, eVar, eUn, eC, negD, gi, gj, a1, a2, a3, s1, sNil, eFg, fgW, eCB, aCons, aNil, hy, Lo.outO, -gt_r])
  have fs : ∀ (L : List Nat) (p : Nat → Bool), (L.findSome? fun t => if p t = true then some (W.v (nD t)) else none) = (L.find? p).map fun t => .v (nD t) := fun L p => by
    induction L with
    | nil => rfl
    | cons a L ih =>
      rw [List.findSome?_cons, List.find?_cons]
      cases h : p a with
      | true => simp
      | false => simp [ih]
  rw [fs] at e
  change _ = some (Lo.outO ((nextT O tn S A).map fun t => W.v (nD t)), ρ', m) at e
  simp only [F_asking_throne, runF, B_asking_throne, startD]
  cases hn : nextT O tn S A with
  | none =>
    rw [hn] at e
    simp [sSeq, e, Lo.outO, sRet, eUn, eC, negD, sI]
  | some t =>
    rw [hn] at e
    simp [sSeq, e, Lo.outO, sI]
theorem ix_lt {n t : Nat} (h : t < n) : ixN n (t : Int) = some t := by
  unfold ixN
  simp [h]
theorem take_spec {S : SO} {i t w : Nat} {had : Option Nat} (hi : m[i]? = some (.lst (sL S))) (ht : t < S.length) (hh : ∀ h, had = some h → h < S.length) :
    F_take [.r i, .v (nD t), .v (nD w), .v (oN had)] m = some (.v .non, m.set i (.lst (sL (((match had with | some h => S.set h none | none => S).set t (some w)))))) := by
  have il : i < m.length := (List.getElem?_eq_some_iff.mp hi).1
  have t1 := ix_lt ht
  have mp1 : ∀ (L : SO) (k : Nat), (sL L).set k (D.int (w : Int)) = sL (L.set k (some w)) := fun L k => by
    show (L.map oN).set k (oN (some w)) = (L.set k (some w)).map oN
    rw [List.map_set]
  have mp2 : ∀ (L : SO) (k : Nat), (sL L).set k (D.int (-1)) = sL (L.set k none) := fun L k => by
    show (L.map oN).set k (oN none) = (L.set k none).map oN
    rw [List.map_set]
  have tk : ∀ x : MO, (m.set i x).take m.length = m.set i x := fun x => List.take_of_length_le (by simp)
  cases had with
  | none =>
    simp only [F_take, runF, B_take, startD]
    simp [sSeq, sIf, tVal, eOp, eVar, eUn, eC, negD, sI, sNil, sPut, putD, hi, t1, mp1, tk, vl, -List.map_set]
  | some h =>
    have h1 := ix_lt (hh h rfl)
    have ne : ¬ ((h : Int) = -1) := by omega
    have g2 : (m.set i (MO.lst (sL (S.set h none))))[i]? = some (.lst (sL (S.set h none))) := by rw [List.getElem?_set_self il]
    simp only [F_take, runF, B_take, startD]
    simp [sSeq, sIf, tVal, eOp, eVar, eUn, eC, negD, sI, sNil, sPut, putD, hi, t1, h1, ne, mp1, mp2, tk, g2, vl, List.set_set, -List.map_set]
end
end Ga
end
section
set_option Elab.async false
set_option linter.all false
set_option maxRecDepth 100000
set_option maxHeartbeats 4000000
namespace Ga
open PySem L2 Pw Pv Lx Ls
open Lg (kdA getA putA val_kdA put_kdA getA_put)
abbrev Ask := Nat × Nat × Str
def askD (a : Ask) : D := .tup [nD a.1, nD a.2.1, .str a.2.2]
structure TT where
  S : SO
  A : List Nat
  Q : List Ask
section
variable {O : List (List Nat)} {Ws : List (Nat × List Nat)} {m : Mem}
theorem p0 {a b c : MO} : (m ++ [a, b, c])[m.length]? = some a := by simp
theorem p1 {a b c : MO} : (m ++ [a, b, c])[m.length + 1]? = some b := by rw [List.getElem?_append_right (by omega)]; simp
theorem p2 {a b c : MO} : (m ++ [a, b, c])[m.length + 2]? = some c := by rw [List.getElem?_append_right (by omega)]; simp
theorem s0 {a b c x : MO} : (m ++ [a, b, c]).set m.length x = m ++ [x, b, c] := by rw [List.set_append_right _ _ (by omega)]; simp
theorem s1 {a b c x : MO} : (m ++ [a, b, c]).set (m.length + 1) x = m ++ [a, x, c] := by rw [List.set_append_right _ _ (by omega)]; simp
theorem s2 {a b c x : MO} : (m ++ [a, b, c]).set (m.length + 2) x = m ++ [a, b, x] := by rw [List.set_append_right _ _ (by omega)]; simp
def swp (S : SO) (t w : Nat) (had : Option Nat) : SO := (match had with | some h => S.set h none | none => S).set t (some w)
def who (O : List (List Nat)) (s : TT) (t : Nat) : Nat := (od O t).getD (s.A.getD t 0) 0
def wrd (O : List (List Nat)) (Ws : List (Nat × List Nat)) (s : TT) (t : Nat) : Str := ansW (wl Ws (who O s t)) t (posOf s.S (who O s t))
def stpT (O : List (List Nat)) (Ws : List (Nat × List Nat)) (s : TT) (t : Nat) : TT :=
  { S := if wrd O Ws s t = "no" then s.S else swp s.S t (who O s t) (posOf s.S (who O s t)), A := s.A.set t (s.A.getD t 0 + 1), Q := s.Q ++ [(t, who O s t, wrd O Ws s t)] }
abbrev thE (O : List (List Nat)) (Ws : List (Nat × List Nat)) (tn : List Nat) (k : Nat) (nx : D) (a b c : Option W) : Pw.Env :=
  [some (.v (oD O)), some (.v (wD Ws)), some (.v (.tup (tn.map nD))), some (.v (.dk (kdA qN Ws))), some (.r k), some (.r (k + 1)), some (.r (k + 2)), some (.v nx), a, b, c]
def thM (m : Mem) (s : TT) : Mem := m ++ [.lst (sL s.S), .lst (s.A.map nD), .lst (s.Q.map askD)]
theorem word_of {ts : List Nat} {t : Nat} {had : Option Nat} : ansW ts t had = "no" ∨ ansW ts t had = "takes" ∨ ansW ts t had = "turns" := by
  unfold ansW
  split
  · split
    · exact .inr (.inl rfl)
    · exact .inr (.inr rfl)
  · exact .inl rfl
theorem ne_no {x : Str} (h : x = "no" ∨ x = "takes" ∨ x = "turns") : eqD true (.str x) (.str "no") = some (.v (.bl (decide (x ≠ "no")))) := by
  rcases h with rfl | rfl | rfl <;> rfl
theorem turn_T {tn : List Nat} {s : TT} {t w : Nat} {x : Str} {had nx : Option Nat} {S' : SO} {Y : D}
    (a1 : atI (s.A.map nD) (t : Int) = some (nD (s.A.getD t 0))) (a2 : atI (O.map qN) (t : Int) = some (qN (od O t))) (a3 : atI ((od O t).map nD) ((s.A.getD t 0 : Nat) : Int) = some (nD w))
    (a4 : ixN s.A.length (t : Int) = some t) (gy : (valX (kdA qN Ws) (Sum.inl (w : Int))).getD (.tup []) = Y)
    (e1 : F_throne_of [.r m.length, .v (nD w)] (thM m { s with A := s.A.set t (s.A.getD t 0 + 1) }) = some (.v (oN had), thM m { s with A := s.A.set t (s.A.getD t 0 + 1) }))
    (e2 : F_answer [.v Y, .v (nD t), .v (oN had)] (thM m { s with A := s.A.set t (s.A.getD t 0 + 1) }) = some (.v (.str x), thM m { s with A := s.A.set t (s.A.getD t 0 + 1) }))
    (hx : x = "no" ∨ x = "takes" ∨ x = "turns")
    (e3 : x ≠ "no" → F_take [.r m.length, .v (nD t), .v (nD w), .v (oN had)] (thM m { s with A := s.A.set t (s.A.getD t 0 + 1) }) = some (.v .non, thM m { s with S := S', A := s.A.set t (s.A.getD t 0 + 1) }))
    (hs : x = "no" → S' = s.S) (hq : s.Q.length < 1000000)
    (e4 : F_asking_throne [.v (oD O), .v (.tup (tn.map nD)), .r m.length, .r (m.length + 1)] (thM m { S := S', A := s.A.set t (s.A.getD t 0 + 1), Q := s.Q ++ [(t, w, x)] }) = some (.v (oN nx), thM m { S := S', A := s.A.set t (s.A.getD t 0 + 1), Q := s.Q ++ [(t, w, x)] })) :
    L_by_thrones_1 (thE O Ws tn m.length (nD t) none none none) (thM m s) = some (.nx, thE O Ws tn m.length (oN nx) (some (.v (nD w))) (some (.v (oN had))) (some (.v (.str x))), thM m { S := S', A := s.A.set t (s.A.getD t 0 + 1), Q := s.Q ++ [(t, w, x)] }) := by
  have oT : oN (some t) = nD t := rfl
  have q3 : askD (t, w, x) = .tup [nD t, nD w, .str x] := rfl
  have nn := ne_no hx
  simp only [thE, oD] at e4 ⊢
  generalize hA : s.A.getD t 0 = A0 at *
  generalize O.map qN = OD at *
  generalize hod : od O t = o at *
  generalize tn.map nD = TD at *
  generalize kdA qN Ws = KD at *
  have dx : sAug (fun i j => i + j) (eVar 5) (eVar 7) (eC (.int 1)) [some (.v (.tup OD)), some (.v (wD Ws)), some (.v (.tup TD)), some (.v (.dk KD)), some (.r m.length), some (.r (m.length + 1)), some (.r (m.length + 2)), some (.v (nD t)), some (.v (nD w)), none, none] (thM m s)
      = some (.nx, [some (.v (.tup OD)), some (.v (wD Ws)), some (.v (.tup TD)), some (.v (.dk KD)), some (.r m.length), some (.r (m.length + 1)), some (.r (m.length + 2)), some (.v (nD t)), some (.v (nD w)), none, none], thM m { s with A := s.A.set t (A0 + 1) }) := by
    have sm : (s.A.map nD).set t (D.int ((A0 : Int) + 1)) = (s.A.set t (A0 + 1)).map nD := by rw [List.map_set]; rfl
    simp [sAug, eVar, eC, augD, thM, p1, a1, a4, s1, sm, -List.map_set]
  have g1 : gt (.r (m.length + 1)) (thM m s) = some (.lst (s.A.map nD)) := by rw [gt_r]; unfold thM; rw [p1]; rfl
  have ap : appD (.r (m.length + 2)) [.v (.tup [nD t, nD w, .str x])] (thM m { S := S', A := s.A.set t (A0 + 1), Q := s.Q }) = some (.v .non, thM m { S := S', A := s.A.set t (A0 + 1), Q := s.Q ++ [(t, w, x)] }) := by
    simp [appD, thM, p2, vl, hq, s2, q3, -List.map_set]
  have il : isLst (.r (m.length + 2)) (thM m { S := S', A := s.A.set t (A0 + 1), Q := s.Q }) = true := by
    unfold isLst thM
    simp only [p2]
  generalize hM0 : thM m s = M0 at *
  generalize hM1 : thM m { s with A := s.A.set t (A0 + 1) } = M1 at *
  generalize hM3 : thM m { S := S', A := s.A.set t (A0 + 1), Q := s.Q ++ [(t, w, x)] } = M3 at *
  have g2 : eGet (eVar 3) (eVar 8) (eTup aNil) [some (.v (.tup OD)), some (.v (wD Ws)), some (.v (.tup TD)), some (.v (.dk KD)), some (.r m.length), some (.r (m.length + 1)), some (.r (m.length + 2)), some (.v (nD t)), some (.v (nD w)), some (.v (oN had)), none] M1 = some (.v Y, M1) := by
    simp [eGet, eVar, eTup, aNil, vl, gy]
  by_cases hn : x = "no"
  · have hs' := hs hn
    rw [hs', hM1] at ap il
    subst hn
    simp [L_by_thrones_1, sSeq, sSet, eOp, eVar, eFg, fgW, a2, g1, a1, a3, dx, eCall, aCons, aNil, e1, g2, e2, sIf, tVal, eC, nn, sNil, sDrop, eMt, il, eTup, ap, e4, -gt_r]
  · have e3' := e3 hn
    simp [L_by_thrones_1, sSeq, sSet, eOp, eVar, eFg, fgW, a2, g1, a1, a3, dx, eCall, aCons, aNil, e1, g2, e2, sIf, tVal, eC, nn, hn, sNil, sDrop, eMt, il, eTup, ap, e4, e3', -gt_r]
end
end Ga
end
section
set_option Elab.async false
set_option linter.all false
set_option maxRecDepth 100000
set_option maxHeartbeats 4000000
namespace Ga
open PySem L2 Pw Pv Lx Ls
open Lg (kdA getA putA val_kdA put_kdA getA_put)
open Gs (At St Rest)
section
variable {O : List (List Nat)} {Ws : List (Nat × List Nat)} {m : Mem}
theorem posOf_some {S : SO} {w h : Nat} (e : posOf S w = some h) : At S h w := by
  unfold posOf at e
  split at e
  · rename_i hm
    cases e
    have hl := List.idxOf_lt_length_of_mem hm
    show S[S.idxOf (some w)]? = some (some w)
    rw [List.getElem?_eq_getElem hl, List.getElem_idxOf hl]
  · cases e
theorem posOf_none {S : SO} {w : Nat} (e : posOf S w = none) : ∀ a, ¬ At S a w := fun a h => by
  unfold posOf at e
  rw [if_pos (List.mem_of_getElem? h)] at e
  cases e
theorem getD_set {α : Type} {A : List α} {t q : Nat} {x d : α} (h : t < A.length) : (A.set t x).getD q d = if q = t then x else A.getD q d := by
  rw [List.getD_eq_getElem?_getD, List.getD_eq_getElem?_getD, List.getElem?_set]
  by_cases e : t = q
  · subst e; rw [if_pos rfl, if_pos h, if_pos rfl]; rfl
  · rw [if_neg e, if_neg (fun z => e z.symm)]
theorem at_swp {S : SO} {t w : Nat} (inj : ∀ a a' b, At S a b → At S a' b → a = a') (ht : t < S.length) (free : ∀ b, ¬ At S t b) :
    At (swp S t w (posOf S w)) = fun a b => (a = t ∧ b = w) ∨ (At S a b ∧ b ≠ w) := by
  funext a b
  apply propext
  cases e : posOf S w with
  | none =>
    have no := posOf_none e
    show (S.set t (some w))[a]? = some (some b) ↔ _
    rw [List.getElem?_set]
    by_cases z : t = a
    · subst z
      rw [if_pos rfl, if_pos ht]
      constructor
      · intro h
        cases h; exact .inl ⟨rfl, rfl⟩
      · rintro (⟨_, rfl⟩ | ⟨h, _⟩)
        · rfl
        · exact absurd h (free b)
    · rw [if_neg z]
      constructor
      · intro h
        exact .inr ⟨h, fun y => no a (by subst y; exact h)⟩
      · rintro (⟨rfl, _⟩ | ⟨h, _⟩)
        · exact absurd rfl z
        · exact h
  | some k =>
    have hk := posOf_some e
    have nk : k ≠ t := fun z => free w (by subst z; exact hk)
    show ((S.set k none).set t (some w))[a]? = some (some b) ↔ _
    rw [List.getElem?_set]
    by_cases z : t = a
    · subst z
      rw [if_pos rfl, if_pos (by simpa using ht)]
      constructor
      · intro h
        cases h; exact .inl ⟨rfl, rfl⟩
      · rintro (⟨_, rfl⟩ | ⟨h, _⟩)
        · rfl
        · exact absurd h (free b)
    · rw [if_neg z, List.getElem?_set]
      by_cases y : k = a
      · subst y
        rw [if_pos rfl, if_pos (List.getElem?_eq_some_iff.mp hk).1]
        constructor
        · intro h
          cases h
        · rintro (⟨rfl, _⟩ | ⟨h, n⟩)
          · exact absurd rfl z
          · have : some (some b) = some (some w) := h.symm.trans hk
            cases this
            exact absurd rfl n
      · rw [if_neg y]
        constructor
        · intro h
          exact .inr ⟨h, fun x => y (by subst x; exact inj _ _ _ hk h)⟩
        · rintro (⟨rfl, _⟩ | ⟨h, _⟩)
          · exact absurd rfl z
          · exact h
def rpS (p : SO × List Nat) (a : Ask) : SO × List Nat :=
  (if a.2.2 = "no" then p.1 else (if a.2.2 = "turns" then p.1.set (p.1.idxOf (some a.2.1)) none else p.1).set a.1 (some a.2.1), p.2.set a.1 (p.2.getD a.1 0 + 1))
abbrev rp0 (n : Nat) : SO × List Nat := (List.replicate n none, List.replicate n 0)
structure Vld (O : List (List Nat)) (p : SO × List Nat) (a : Ask) : Prop where
  lS : p.1.length = O.length
  lA : p.2.length = O.length
  lt : a.1 < O.length
  bare : p.1.getD a.1 none = none
  nx : (od O a.1)[p.2.getD a.1 0]? = some a.2.1
  wd : a.2.2 = "no" ∨ a.2.2 = "takes" ∨ a.2.2 = "turns"
  tn : a.2.2 = "turns" → some a.2.1 ∈ p.1
def sumR (f : Nat → Nat) : Nat → Nat
  | 0 => 0
  | n + 1 => sumR f n + f n
theorem sumR_le {f : Nat → Nat} {k : Nat} : ∀ n, (∀ i, f i ≤ k) → sumR f n ≤ n * k
  | 0, _ => by simp [sumR]
  | n + 1, h => by
    have := sumR_le n h
    have := h n
    rw [sumR, Nat.add_mul]; omega
theorem sumR_same {f g : Nat → Nat} : ∀ n, (∀ i, i < n → f i = g i) → sumR f n = sumR g n
  | 0, _ => rfl
  | n + 1, h => by rw [sumR, sumR, sumR_same n fun i hi => h i (by omega), h n (by omega)]
theorem sumR_less {f g : Nat → Nat} {t : Nat} (h1 : g t + 1 = f t) (h2 : ∀ i, i ≠ t → g i = f i) : ∀ n, t < n → sumR g n + 1 = sumR f n
  | 0, h => by omega
  | n + 1, h => by
    rw [sumR, sumR]
    by_cases e : t = n
    · subst e
      rw [sumR_same t fun i hi => h2 i (by omega)]; omega
    · have := sumR_less h1 h2 n (by omega)
      rw [h2 n fun z => e z.symm]; omega
def rem (O : List (List Nat)) (A : List Nat) : Nat := sumR (fun t => (od O t).length - A.getD t 0) O.length
structure InvT (O : List (List Nat)) (Ws : List (Nat × List Nat)) (s : TT) : Prop where
  lS : s.S.length = O.length
  lA : s.A.length = O.length
  st : St (od O) (wl Ws) (At s.S) (fun t => s.A.getD t 0)
  hq : s.Q.length + rem O s.A ≤ 10000
  r1 : s.Q.foldl rpS (rp0 O.length) = (s.S, s.A)
  r2 : ∀ k a, s.Q[k]? = some a → Vld O ((s.Q.take k).foldl rpS (rp0 O.length)) a
theorem ans_none {ts : List Nat} {t : Nat} (h : dearer ts t none = true) : ansW ts t none = "takes" := by
  unfold ansW
  rw [h, if_pos rfl, if_pos rfl]
theorem ans_some {ts : List Nat} {t h : Nat} (e : dearer ts t (some h) = true) : ansW ts t (some h) = "turns" := by
  unfold ansW
  rw [e, if_pos rfl, if_neg (by simp)]
theorem bare_free {S : SO} {t : Nat} (h : S.getD t none = none) : ∀ b, ¬ At S t b := fun b z => by
  rw [List.getD_eq_getElem?_getD, show S[t]? = some (some b) from z] at h
  cases h
theorem InvT.step {s : TT} (ok : OkS O Ws) (I : InvT O Ws s) {t : Nat} (ht : t < O.length) (bare : s.S.getD t none = none) (lt : s.A.getD t 0 < (od O t).length) :
    InvT O Ws (stpT O Ws s t) ∧ rem O (stpT O Ws s t).A < rem O s.A ∧ (∀ h, posOf s.S (who O s t) = some h → h ∈ wl Ws (who O s t) ∧ h < s.S.length) := by
  have free := bare_free bare
  have ndo : ∀ p, (od O p).Nodup := fun p => (ok.od p).1
  have at_ : (od O t)[s.A.getD t 0]? = some (who O s t) := by
    unfold who
    exact getD_at lt
  have hh : ∀ h, posOf s.S (who O s t) = some h → h ∈ wl Ws (who O s t) ∧ h < s.S.length := fun h e => ⟨(I.st.i1 _ _ (posOf_some e)).2.1, (List.getElem?_eq_some_iff.mp (posOf_some e)).1⟩
  have eA : (fun q => (s.A.set t (s.A.getD t 0 + 1)).getD q 0) = fun q => if q = t then s.A.getD t 0 + 1 else s.A.getD q 0 := by
    funext q
    exact getD_set (by rw [I.lA]; exact ht)
  have rl : rem O (s.A.set t (s.A.getD t 0 + 1)) + 1 = rem O s.A := by
    unfold rem
    refine sumR_less (t := t) ?_ (fun i hi => ?_) _ ht
    · rw [getD_set (by rw [I.lA]; exact ht), if_pos rfl]; omega
    · rw [getD_set (by rw [I.lA]; exact ht), if_neg hi]
  refine ⟨?_, by show rem O (s.A.set t (s.A.getD t 0 + 1)) < _; omega, hh⟩
  have key : St (od O) (wl Ws) (At (stpT O Ws s t).S) (fun q => (stpT O Ws s t).A.getD q 0) ∧ rpS (s.S, s.A) (t, who O s t, wrd O Ws s t) = ((stpT O Ws s t).S, (stpT O Ws s t).A) ∧ (wrd O Ws s t = "turns" → some (who O s t) ∈ s.S) ∧ (stpT O Ws s t).S.length = O.length := by
    show St (od O) (wl Ws) (At (if wrd O Ws s t = "no" then s.S else swp s.S t (who O s t) (posOf s.S (who O s t)))) (fun q => (s.A.set t (s.A.getD t 0 + 1)).getD q 0) ∧
      ((if wrd O Ws s t = "no" then s.S else (if wrd O Ws s t = "turns" then s.S.set (s.S.idxOf (some (who O s t))) none else s.S).set t (some (who O s t))), s.A.set t (s.A.getD t 0 + 1)) = ((if wrd O Ws s t = "no" then s.S else swp s.S t (who O s t) (posOf s.S (who O s t))), s.A.set t (s.A.getD t 0 + 1)) ∧
      (wrd O Ws s t = "turns" → some (who O s t) ∈ s.S) ∧ (if wrd O Ws s t = "no" then s.S else swp s.S t (who O s t) (posOf s.S (who O s t))).length = O.length
    rw [eA]
    generalize hw : who O s t = w at *
    have wd : wrd O Ws s t = ansW (wl Ws w) t (posOf s.S w) := by unfold wrd; rw [hw]
    rw [wd]
    cases hd : dearer (wl Ws w) t (posOf s.S w) with
    | false =>
      have e1 : ansW (wl Ws w) t (posOf s.S w) = "no" := by unfold ansW; rw [hd]; rfl
      rw [e1]
      rw [if_pos (rfl : ("no" : Str) = "no"), if_pos (rfl : ("no" : Str) = "no")]
      refine ⟨?_, rfl, (fun z => by cases z), I.lS⟩
      refine I.st.refuse ndo free at_ ?_
      unfold dearer at hd
      by_cases z : t ∈ wl Ws w
      · right
        cases hp : posOf s.S w with
        | none => rw [hp] at hd; simp [z] at hd
        | some h =>
          rw [hp] at hd
          simp [z] at hd
          refine ⟨h, posOf_some hp, ?_⟩
          have ne : (wl Ws w).idxOf h ≠ (wl Ws w).idxOf t := fun e => by
            have h1 := List.getElem_idxOf (List.idxOf_lt_length_of_mem (hh h hp).1)
            have h2 := List.getElem_idxOf (List.idxOf_lt_length_of_mem z)
            have : h = t := by rw [← h1, ← h2]; simp only [e]
            subst this
            exact free w (posOf_some hp)
          omega
      · exact .inl z
    | true =>
      have ne : ansW (wl Ws w) t (posOf s.S w) ≠ "no" := by
        unfold ansW; rw [hd, if_pos rfl]
        split <;> exact fun z => by cases z
      have zt : t ∈ wl Ws w := by
        unfold dearer at hd
        by_cases z : t ∈ wl Ws w
        · exact z
        · simp [z] at hd
      rw [if_neg ne, if_neg ne, at_swp I.st.i2 (by rw [I.lS]; exact ht) free]
      refine ⟨I.st.accept ndo free at_ zt fun p' hp' => ?_, ?_, fun z => ?_, ?_⟩
      · cases hp : posOf s.S w with
        | none => exact absurd hp' (posOf_none hp p')
        | some h =>
          have := I.st.i2 _ _ _ hp' (posOf_some hp)
          subst this
          unfold dearer at hd
          rw [hp] at hd
          simp [zt] at hd
          exact hd
      · cases hp : posOf s.S w with
        | none =>
          have e1 : ansW (wl Ws w) t none = "takes" := ans_none (by rw [← hp]; exact hd)
          rw [e1, if_neg (by intro z; cases z)]; rfl
        | some h =>
          have e1 : ansW (wl Ws w) t (some h) = "turns" := ans_some (by rw [← hp]; exact hd)
          have e2 : h = s.S.idxOf (some w) := by
            unfold posOf at hp
            split at hp
            · cases hp; rfl
            · cases hp
          rw [e1, if_pos rfl, ← e2]; rfl
      · cases hp : posOf s.S w with
        | none =>
          have e1 : ansW (wl Ws w) t none = "takes" := ans_none (by rw [← hp]; exact hd)
          rw [hp, e1] at z; cases z
        | some h => exact List.mem_of_getElem? (posOf_some hp)
      · show (swp s.S t w (posOf s.S w)).length = _
        unfold swp
        rw [List.length_set]
        split
        · rw [List.length_set]; exact I.lS
        · exact I.lS
  obtain ⟨k1, k2, k3, k4⟩ := key
  refine ⟨k4, by show (s.A.set t _).length = _; rw [List.length_set]; exact I.lA, k1, ?_, ?_, fun k a hk => ?_⟩
  · show (s.Q ++ [_]).length + rem O (s.A.set t (s.A.getD t 0 + 1)) ≤ 10000
    have := I.hq
    rw [List.length_append, List.length_singleton]; omega
  · show (s.Q ++ [(t, who O s t, wrd O Ws s t)]).foldl rpS (rp0 O.length) = _
    rw [List.foldl_append, I.r1]
    exact k2
  · have hk : (s.Q ++ [(t, who O s t, wrd O Ws s t)])[k]? = some a := hk
    show Vld O (((s.Q ++ [(t, who O s t, wrd O Ws s t)]).take k).foldl rpS (rp0 O.length)) a
    rcases Nat.lt_or_ge k s.Q.length with z | z
    · rw [List.getElem?_append_left z] at hk
      rw [List.take_append_of_le_length (by omega)]
      exact I.r2 k a hk
    · have : k = s.Q.length := by
        have := (List.getElem?_eq_some_iff.mp hk).1
        rw [List.length_append, List.length_singleton] at this; omega
      subst this
      rw [List.getElem?_append_right (Nat.le_refl _), Nat.sub_self] at hk
      cases hk
      rw [List.take_append_of_le_length (Nat.le_refl _), List.take_length, I.r1]
      exact ⟨I.lS, I.lA, ht, bare, at_, word_of, k3⟩
end
end Ga
end
section
set_option Elab.async false
set_option linter.all false
set_option maxRecDepth 100000
set_option maxHeartbeats 4000000
namespace Ga
open PySem L2 Pw Pv Lx Ls
open Lg (kdA getA putA val_kdA put_kdA getA_put)
open Gs (At St Rest)
section
variable {O : List (List Nat)} {Ws : List (Nat × List Nat)} {m : Mem}
theorem next_some {tn : List Nat} {S : SO} {A : List Nat} {t : Nat} (h : nextT O tn S A = some t) : t ∈ tn ∧ S.getD t none = none ∧ A.getD t 0 < (od O t).length := by
  have h1 := List.find?_some h
  have h2 := List.mem_of_find?_eq_some h
  simp only [Bool.and_eq_true, decide_eq_true_eq] at h1
  exact ⟨h2, h1.1, h1.2⟩
theorem fl_rep (d : D) : ∀ n : Nat, (List.replicate n [d]).flatten = List.replicate n d
  | 0 => rfl
  | n + 1 => by rw [List.replicate_succ, List.flatten_cons, fl_rep d n, List.replicate_succ]; rfl
theorem rep_n {n : Nat} {d : D} {ds : List D} (h : n ≤ 1000) (e : ds = List.replicate n d) : mulD (.lst [d]) (.int (n : Int)) = some (.f (.lst ds)) := by
  have h1 : (n : Int) < 9223372036854775808 := by omega
  have h2 : -9223372036854775808 ≤ (n : Int) := by omega
  have h3 : n ≤ 1000000 := by omega
  simp [mulD, h1, h2, h3, fl_rep, e]
theorem start_inv (ok : OkS O Ws) : InvT O Ws { S := List.replicate O.length none, A := List.replicate O.length 0, Q := [] } := by
  have e1 : At (List.replicate O.length (none : Option Nat)) = fun _ _ => False := by
    funext a b
    apply propext
    refine ⟨fun h => ?_, fun h => h.elim⟩
    have : (some (some b) : Option (Option Nat)) = some none := by
      obtain ⟨h1, h2⟩ := List.getElem?_eq_some_iff.mp h
      rw [List.getElem_replicate] at h2
      cases h2
    cases this
  have e2 : (fun t => (List.replicate O.length 0).getD t 0) = fun _ => 0 := by
    funext t
    rw [List.getD_eq_getElem?_getD, List.getElem?_replicate]
    split <;> rfl
  refine ⟨by simp, by simp, ?_, ?_, rfl, fun k a h => by simp at h⟩
  · show St (od O) (wl Ws) (At (List.replicate O.length none)) (fun t => (List.replicate O.length 0).getD t 0)
    rw [e1, e2]
    exact St.start
  · show 0 + rem O (List.replicate O.length 0) ≤ 10000
    have := sumR_le (f := fun t => (od O t).length - (List.replicate O.length 0).getD t 0) (k := 100) O.length fun i => by have := (ok.od i).2; omega
    have h2 : rem O (List.replicate O.length 0) ≤ O.length * 100 := this
    have := ok.n1
    omega
theorem step_T (ok : OkS O Ws) {tn : List Nat} (lt : ∀ t ∈ tn, t < O.length) {s : TT} (I : InvT O Ws s) {t : Nat} (hn : nextT O tn s.S s.A = some t) :
    InvT O Ws (stpT O Ws s t) ∧ rem O (stpT O Ws s t).A < rem O s.A ∧ L_by_thrones_1 (thE O Ws tn m.length (nD t) none none none) (thM m s) =
      some (.nx, thE O Ws tn m.length (oN (nextT O tn (stpT O Ws s t).S (stpT O Ws s t).A)) (some (.v (nD (who O s t)))) (some (.v (oN (posOf s.S (who O s t))))) (some (.v (.str (wrd O Ws s t)))), thM m (stpT O Ws s t)) := by
  obtain ⟨h1, h2, h3⟩ := next_some hn
  have hl := lt t h1
  obtain ⟨I', r', hh⟩ := I.step ok hl h2 h3
  refine ⟨I', r', ?_⟩
  have at_ : (od O t)[s.A.getD t 0]? = some (who O s t) := by unfold who; exact getD_at h3
  have lA' : t < s.A.length := by rw [I.lA]; exact hl
  have e1 : F_throne_of [.r m.length, .v (nD (who O s t))] (thM m { s with A := s.A.set t (s.A.getD t 0 + 1) }) = some (.v (oN (posOf s.S (who O s t))), thM m { s with A := s.A.set t (s.A.getD t 0 + 1) }) := throne_of_lst p0
  have e2 := answer_spec (get_wish (Ws := Ws) (who O s t)) (t := t) (had := posOf s.S (who O s t)) (fun _ h e => (hh h e).1) (thM m { s with A := s.A.set t (s.A.getD t 0 + 1) })
  have e3 : wrd O Ws s t ≠ "no" → F_take [.r m.length, .v (nD t), .v (nD (who O s t)), .v (oN (posOf s.S (who O s t)))] (thM m { s with A := s.A.set t (s.A.getD t 0 + 1) }) = some (.v .non, thM m { s with S := (stpT O Ws s t).S, A := s.A.set t (s.A.getD t 0 + 1) }) := fun ne => by
    have q := take_spec (m := thM m { s with A := s.A.set t (s.A.getD t 0 + 1) }) (S := s.S) (i := m.length) (t := t) (w := who O s t) (had := posOf s.S (who O s t)) p0 (by rw [I.lS]; exact hl) (fun h e => (hh h e).2)
    rw [q]
    have z : (stpT O Ws s t).S = swp s.S t (who O s t) (posOf s.S (who O s t)) := if_neg ne
    rw [z]
    unfold thM swp
    rw [Ga.s0]
    all_goals rfl
  have e4 : F_asking_throne [.v (oD O), .v (.tup (tn.map nD)), .r m.length, .r (m.length + 1)] (thM m (stpT O Ws s t)) = some (.v (oN (nextT O tn (stpT O Ws s t).S (stpT O Ws s t).A)), thM m (stpT O Ws s t)) := asking_throne_spec lt I'.lS I'.lA p0 p1
  exact turn_T (O := O) (Ws := Ws) (m := m) (tn := tn) (s := s) (t := t) (w := who O s t) (x := wrd O Ws s t) (had := posOf s.S (who O s t)) (nx := nextT O tn (stpT O Ws s t).S (stpT O Ws s t).A) (S' := (stpT O Ws s t).S)
    (at_k nD (getD_at lA')) (at_k qN (od_at hl)) (at_k nD at_) (ix_lt lA') rfl e1 e2 word_of e3 (fun e => if_pos e) (by have := I.hq; omega) e4
theorem test_T {OD TD : List D} {WD KD : D} {x : Option Nat} {a b c : W} {M : Mem} : tVal (eOp (eqD true) (eVar 7) (eUn negD (eC (.int 1)))) [some (.v (.tup OD)), some (.v WD), some (.v (.tup TD)), some (.v KD), some a, some b, some c, some (.v (oN x)), none, none, none] M = some (x.isSome, M) := by
  cases x with
  | none => simp [tVal, eOp, eVar, eUn, eC, negD, sI]
  | some t =>
    have ne : ¬ ((t : Int) = -1) := by omega
    simp [tVal, eOp, eVar, eUn, eC, negD, sI, ne]
theorem wipe_T {OD TD : List D} {WD KD : D} {x : D} {a b c d e f : W} : wipeD [some (.v (.tup OD)), some (.v WD), some (.v (.tup TD)), some (.v KD), some a, some b, some c, some (.v x), some d, some e, some f] [8, 9, 10] = [some (.v (.tup OD)), some (.v WD), some (.v (.tup TD)), some (.v KD), some a, some b, some c, some (.v x), none, none, none] := rfl
theorem rep_at {a b : Ex} {ρ : Pw.Env} {m : Mem} {n : Nat} {d : D} {ds : List D} (h1 : a ρ m = some (.f (.lst [d]), m)) (h2 : b ρ m = some (.v (.int (n : Int)), m)) (h3 : mulD (.lst [d]) (.int (n : Int)) = some (.f (.lst ds))) : eOp mulD a b ρ m = some (.f (.lst ds), m) := op_at h1 h2 rfl rfl h3
theorem run_at {np n : Nat} {b : Sx} {ws : List W} {ρ : Pw.Env} {M : Mem} {d : D} (hl : ws.length = np) (h : b (startD n ws) m = some (.ret (.v d), ρ, M)) (tk : M.take m.length = m) : runF np n b ws m = some (.v d, m) := by
  unfold runF
  rw [if_pos hl, h]
  simp [outW, tk]
end
end Ga
end
section
set_option Elab.async false
set_option linter.all false
set_option maxRecDepth 100000
set_option maxHeartbeats 4000000
namespace Ga
open PySem L2 Pw Pv Lx Ls
open Lg (kdA getA putA val_kdA put_kdA getA_put getA_none)
open Gs (At St Rest)
section
variable {O : List (List Nat)} {Ws : List (Nat × List Nat)} {m : Mem}
def fw (O : List (List Nat)) (Ws : List (Nat × List Nat)) (w : Nat) : List Nat := (wl Ws w).filter fun t => decide (w ∈ od O t)
theorem if_at {t : Tx} {a b : Sx} {ρ : Pw.Env} {m m1 : Mem} (h : t ρ m = some (true, m1)) : sIf t a b ρ m = a ρ m1 := by
  unfold sIf
  rw [h]; rfl
theorem put_at {o i a : Ex} {ρ : Pw.Env} {m m' : Mem} {d y : D} {wo wi : W} (h1 : a ρ m = some (.v d, m)) (h2 : o ρ m = some (wo, m)) (h3 : i ρ m = some (wi, m)) (h4 : gt wi m = some y) (h5 : putD wo y d m = some m') : sPut o i a ρ m = some (.nx, ρ, m') := by
  unfold sPut
  rw [h1]
  simp only [Option.bind_some]
  rw [h2]
  simp only [Option.bind_some]
  rw [h3]
  simp only [Option.bind_some, vl]
  rw [h4]
  simp only [Option.bind_some]
  rw [h5]; rfl
structure FF where
  P : SO
  A : List (Nat × Nat)
def thr (O : List (List Nat)) (Ws : List (Nat × List Nat)) (s : FF) (w : Nat) : Nat := (fw O Ws w).getD ((getA s.A w).getD 0) 0
def stpF (O : List (List Nat)) (Ws : List (Nat × List Nat)) (s : FF) (w : Nat) : FF :=
  { P := if prefd (od O (thr O Ws s w)) w (s.P.getD (thr O Ws s w) none) = true then s.P.set (thr O Ws s w) (some w) else s.P, A := putA s.A w ((getA s.A w).getD 0 + 1) }
end
end Ga
end
section
set_option Elab.async false
set_option linter.all false
set_option maxRecDepth 100000
set_option maxHeartbeats 4000000
namespace Ga
open PySem L2 Pw Pv Lx Ls
open Lg (kdA getA putA val_kdA put_kdA getA_put getA_none)
open Gs (At St Rest)
section
variable {O : List (List Nat)} {Ws : List (Nat × List Nat)} {m : Mem}
theorem putA_keys {α : Type} {L : List (Nat × α)} {w : Nat} {x : α} (h : w ∈ L.map (·.1)) : (putA L w x).map (·.1) = L.map (·.1) := by
  unfold putA
  rw [if_pos]
  · rw [List.map_map]
    refine List.map_congr_left fun e _ => ?_
    show (if e.1 = w then (e.1, x) else e).1 = e.1
    split <;> rfl
  · obtain ⟨e, h1, h2⟩ := List.mem_map.mp h
    exact List.any_eq_true.mpr ⟨e, h1, by simp [h2]⟩
abbrev Sw (P : SO) : Gs.Rl := fun w t => At P t w
def bnd (Ws : List (Nat × List Nat)) : Nat := (Ws.map (·.1)).sum + 1
theorem le_sum {x : Nat} : ∀ {L : List Nat}, x ∈ L → x ≤ L.sum
  | y :: L, h => by
    rw [List.sum_cons]
    rcases List.mem_cons.mp h with rfl | z
    · omega
    · have := le_sum z; omega
def remF (O : List (List Nat)) (Ws : List (Nat × List Nat)) (A : List (Nat × Nat)) : Nat := sumR (fun w => (fw O Ws w).length - (getA A w).getD 0) (bnd Ws)
structure InvF (O : List (List Nat)) (Ws : List (Nat × List Nat)) (s : FF) : Prop where
  lP : s.P.length = O.length
  kA : s.A.map (·.1) = Ws.map (·.1)
  st : St (fw O Ws) (od O) (Sw s.P) (fun w => (getA s.A w).getD 0)
theorem OkS.fw (ok : OkS O Ws) (w : Nat) : (fw O Ws w).Nodup := (ok.wl w).1.filter _
theorem fw_mem {w t : Nat} : t ∈ fw O Ws w ↔ t ∈ wl Ws w ∧ w ∈ od O t := by
  unfold fw
  rw [List.mem_filter]; simp
theorem at_setF {P : SO} {w t : Nat} (ht : t < P.length) (free : some w ∉ P) : Sw (P.set t (some w)) = fun a b => (a = w ∧ b = t) ∨ (Sw P a b ∧ b ≠ t) := by
  funext a b
  apply propext
  show (P.set t (some w))[b]? = some (some a) ↔ (a = w ∧ b = t) ∨ (P[b]? = some (some a) ∧ b ≠ t)
  rw [List.getElem?_set]
  by_cases z : t = b
  · subst z
    rw [if_pos rfl, if_pos ht]
    constructor
    · intro h; cases h; exact .inl ⟨rfl, rfl⟩
    · rintro (⟨rfl, _⟩ | ⟨_, h⟩)
      · rfl
      · exact absurd rfl h
  · rw [if_neg z]
    constructor
    · intro h; exact .inr ⟨h, fun y => z y.symm⟩
    · rintro (⟨_, rfl⟩ | ⟨h, _⟩)
      · exact absurd rfl z
      · exact h
theorem InvF.step {s : FF} (ok : OkS O Ws) (I : InvF O Ws s) {w : Nat} (hw : w ∈ Ws.map (·.1)) (free : some w ∉ s.P) (lt : (getA s.A w).getD 0 < (fw O Ws w).length) :
    InvF O Ws (stpF O Ws s w) ∧ remF O Ws (stpF O Ws s w).A < remF O Ws s.A ∧ thr O Ws s w < O.length ∧ w ∈ od O (thr O Ws s w) ∧ (∀ h, s.P.getD (thr O Ws s w) none = some h → h ∈ od O (thr O Ws s w)) := by
  have at_ : (fw O Ws w)[(getA s.A w).getD 0]? = some (thr O Ws s w) := by unfold thr; exact getD_at lt
  have mem := fw_mem.mp (List.mem_of_getElem? at_)
  have tl : thr O Ws s w < O.length := (ok.wl w).2 _ mem.1
  have fr : ∀ t, ¬ Sw s.P w t := fun t z => free (List.mem_of_getElem? z)
  have tP : thr O Ws s w < s.P.length := by rw [I.lP]; exact tl
  have hAt : ∀ h, s.P.getD (thr O Ws s w) none = some h → Sw s.P h (thr O Ws s w) := fun h e => by
    show s.P[thr O Ws s w]? = some (some h)
    rw [← e]; exact getD_at tP
  have hh : ∀ h, s.P.getD (thr O Ws s w) none = some h → h ∈ od O (thr O Ws s w) := fun h e => (I.st.i1 _ _ (hAt h e)).2.1
  have gp : ∀ q, (getA (putA s.A w ((getA s.A w).getD 0 + 1)) q).getD 0 = if q = w then (getA s.A w).getD 0 + 1 else (getA s.A q).getD 0 := fun q => by
    rw [getA_put]
    by_cases e : q = w
    · subst e; simp
    · simp [e]
  have eA : (fun q => (getA (putA s.A w ((getA s.A w).getD 0 + 1)) q).getD 0) = fun q => if q = w then (getA s.A w).getD 0 + 1 else (getA s.A q).getD 0 := funext gp
  have hb : w < bnd Ws := by have := le_sum hw; unfold bnd; omega
  have rl : remF O Ws (putA s.A w ((getA s.A w).getD 0 + 1)) + 1 = remF O Ws s.A := by
    unfold remF
    refine sumR_less (t := w) ?_ (fun i hi => ?_) _ hb
    · show (fw O Ws w).length - (getA (putA s.A w ((getA s.A w).getD 0 + 1)) w).getD 0 + 1 = _
      rw [gp, if_pos rfl]; omega
    · show (fw O Ws i).length - (getA (putA s.A w ((getA s.A w).getD 0 + 1)) i).getD 0 = _
      rw [gp, if_neg hi]
  refine ⟨?_, by show remF O Ws (putA s.A w _) < _; omega, tl, mem.2, hh⟩
  refine ⟨?_, ?_, ?_⟩
  · show (if prefd (od O (thr O Ws s w)) w (s.P.getD (thr O Ws s w) none) = true then s.P.set (thr O Ws s w) (some w) else s.P).length = _
    split
    · rw [List.length_set]; exact I.lP
    · exact I.lP
  · show (putA s.A w _).map (·.1) = _
    rw [putA_keys (by rw [I.kA]; exact hw)]; exact I.kA
  · show St (fw O Ws) (od O) (Sw (if prefd (od O (thr O Ws s w)) w (s.P.getD (thr O Ws s w) none) = true then s.P.set (thr O Ws s w) (some w) else s.P)) (fun q => (getA (putA s.A w ((getA s.A w).getD 0 + 1)) q).getD 0)
    rw [eA]
    generalize thr O Ws s w = t at *
    cases hp : prefd (od O t) w (s.P.getD t none) with
    | false =>
      rw [if_neg (by simp)]
      refine I.st.refuse ok.fw fr at_ (.inr ?_)
      cases hx : s.P.getD t none with
      | none => rw [hx] at hp; cases hp
      | some h =>
        rw [hx] at hp
        have hp' : ¬ (od O t).idxOf w < (od O t).idxOf h := by simpa [prefd] using hp
        refine ⟨h, hAt h hx, ?_⟩
        have ne : (od O t).idxOf h ≠ (od O t).idxOf w := fun e => by
          have h1 := List.getElem_idxOf (List.idxOf_lt_length_of_mem (hh h hx))
          have h2 := List.getElem_idxOf (List.idxOf_lt_length_of_mem mem.2)
          have : h = w := by rw [← h1, ← h2]; simp only [e]
          subst this
          exact fr _ (hAt h hx)
        omega
    | true =>
      rw [if_pos rfl, at_setF tP free]
      refine I.st.accept ok.fw fr at_ mem.2 fun p' hp' => ?_
      have e : s.P.getD t none = some p' := by
        rw [List.getD_eq_getElem?_getD, show s.P[t]? = some (some p') from hp']; rfl
      rw [e] at hp
      simpa [prefd] using hp
end
end Ga
end
section
set_option Elab.async false
set_option linter.all false
set_option maxRecDepth 100000
set_option maxHeartbeats 4000000
namespace Lo
open PySem L2 Pw Pv Lx Ls Lq Wk Lv Lz Dg Lg
end Lo
end
section
set_option Elab.async false
set_option linter.all false
set_option maxRecDepth 100000
set_option maxHeartbeats 4000000
namespace Lo
open PySem L2 Pw Pv Lx Ls Lq Wk Lv Lz Dg Lg
end Lo
end
section
set_option Elab.async false
set_option linter.all false
set_option maxRecDepth 100000
set_option maxHeartbeats 400000
namespace Lh
open PySem L2 Pw Pv Lx Ls Lq Wk Lv Lg
section
variable {F : List Fo} {B : List Nw} {r : Rw} {day : Int} {m : Mem}
end
end Lh
end
section
set_option Elab.async false
set_option linter.all false
set_option maxRecDepth 100000
set_option maxHeartbeats 400000
namespace Lh
open PySem L2 Pw Pv Lx Ls Lq Wk Lv Lg
section
variable {F : List Fo} {B : List Nw} {r : Rw} {day : Int} {m : Mem}
end
end Lh
end
section
set_option Elab.async false
set_option linter.all false
set_option maxRecDepth 100000
set_option maxHeartbeats 400000
namespace Lh
open PySem L2 Pw Pv Lx Ls Lq Wk Lv
end Lh
end
section
set_option Elab.async false
set_option linter.all false
set_option maxRecDepth 100000
set_option maxHeartbeats 400000
namespace Lh
open PySem L2 Pw Pv Lx Ls Lq Wk Lv
end Lh
end
section
set_option Elab.async false
set_option linter.all false
set_option maxRecDepth 100000
set_option maxHeartbeats 4000000
namespace Lo
open PySem L2 Pw Pv Lx Ls Lq Wk Lv Lz Dg Lg
section
variable {ns : List Int} {s : Lx.St} {F : List Fo} {m : Mem}
end
end Lo
end
section
set_option Elab.async false
set_option linter.all false
set_option maxRecDepth 100000
set_option maxHeartbeats 2000000
namespace Wk
open Lv
end Wk
end
section
set_option Elab.async false
set_option linter.all false
set_option maxRecDepth 100000
set_option maxHeartbeats 4000000
namespace Le
open PySem L2 Pw Pv Lx Ls Lq Wk Lv Lz
end Le
end
section
set_option Elab.async false
set_option linter.all false
set_option maxRecDepth 100000
set_option maxHeartbeats 4000000
namespace Lo
open PySem L2 Pw Pv Lx Ls Lq Wk Lv Lz Dg Lg
end Lo
end
section
set_option Elab.async false
set_option linter.all false
set_option maxRecDepth 100000
set_option maxHeartbeats 4000000
namespace Lo
open PySem L2 Pw Pv Lx Ls Lq Wk Lv Lz Dg Lg
section
variable {F : List Fo} {B B' : List Nw} {r : Rw} {day : Int} {m : Mem}
structure SameS (F : List Fo) (B B' : List Nw) (r : Rw) (day : Int) : Prop where
  st : stepsOf F B' r day = stepsOf F B r day
theorem SameS.is (h : SameS F B B' r day) : IsWalk F B' r day = IsWalk F B r day := funext fun V => by
  unfold IsWalk
  rw [h.st]
theorem SameS.v (h : SameS F B B' r day) : vF F B' r day = vF F B r day := by
  have g : ∀ P Q : List (List Nat) → Prop, P = Q → @dite _ (∃ V, P V) (Classical.propDecidable _) (fun h => Classical.choose h) (fun _ => []) = @dite _ (∃ V, Q V) (Classical.propDecidable _) (fun h => Classical.choose h) (fun _ => []) := fun P Q e => by subst e; rfl
  exact g _ _ h.is
end
end Lo
end
section
set_option Elab.async false
set_option linter.all false
set_option maxRecDepth 100000
set_option maxHeartbeats 4000000
namespace Lo
open PySem L2 Pw Pv Lx Ls Lq Wk Lv Lz Dg Lg
section
variable {ns : List Int} {s : Lx.St} {F : List Fo} {B : List Nw} {r : Rw} {day : Int} {m : Mem}
theorem take_nat {n : Nat} (h : 1 ≤ n) (h2 : n ≤ 1000000) (m : Mem) : ∃ (w : Nat) (s' : Lx.St), F_take [.r 0, .v (.int (n : Int))] (stD ns s :: m) = some (.v (nD w), stD ns s' :: m) ∧ w < n := by
  have te : F_take [.r 0, .v (.int (n : Int))] (stD ns s :: m) = _ := take_eq (ns := ns) (s := s) (m := m) (b := (n : Int)) (by omega) (by omega)
  have c1 := tk_lo (ns := ns) (s := s) (b := (n : Int))
  have c2 := tk_hi (ns := ns) (s := s) (b := (n : Int)) (by omega) (by omega)
  generalize (tk ns s (n : Int)).1 = c at c1 c2 te
  obtain ⟨w, rfl⟩ : ∃ w : Nat, c = (w : Int) := ⟨c.toNat, by omega⟩
  exact ⟨w, _, te, by omega⟩
theorem take_int {b : Int} (h : 0 < b) (h2 : b ≤ 1000000) (m : Mem) : ∃ (c : Int) (s' : Lx.St), F_take [.r 0, .v (.int b)] (stD ns s :: m) = some (.v (.int c), stD ns s' :: m) ∧ 0 ≤ c ∧ c < b := by
  have te : F_take [.r 0, .v (.int b)] (stD ns s :: m) = _ := take_eq (ns := ns) (s := s) (m := m) (b := b) (by omega) (by omega)
  exact ⟨_, _, te, tk_lo, tk_hi (by omega) (by omega)⟩
end
end Lo
end
section
set_option Elab.async false
set_option linter.all false
set_option maxRecDepth 100000
set_option maxHeartbeats 4000000
namespace Lo
open PySem L2 Pw Pv Lx Ls
section
variable {α : Type} {src : Ix} {t : Gx} {c : Tx} {f : Ex} {vs : List Nat} {ρ : Pw.Env} {m m1 : Mem}
end
end Lo
end
section
set_option Elab.async false
set_option linter.all false
set_option maxRecDepth 100000
set_option maxHeartbeats 4000000
namespace Lu
open PySem L2 Pw Pv Lx Ls
open Lq (tI lI cut_take)
section
variable {ns : List Int} {s : Lx.St} {m : Mem} {a b : List Int}
theorem sort_ti {xs : List Int} (h : xs.length ≤ 1000000) : sortBD [tI xs] = some (.f (lI (sortM iLt xs))) := by
  have e : allI (xs.map D.int) = some xs := by
    clear h
    induction xs with
    | nil => rfl
    | cons x xs ih => rw [List.map_cons, allI, ih]; rfl
  show (match allI (xs.map D.int) with
    | some is => if is.length ≤ 1000000 then some (W.f (.lst ((sortM iLt is).map .int))) else none
    | none => _) = _
  rw [e]
  simp only [if_pos h]
end
end Lu
end
section
set_option Elab.async false
set_option linter.all false
set_option maxRecDepth 100000
set_option maxHeartbeats 4000000
namespace Lo
open PySem L2 Pw Pv Lx Ls Lq Wk Lv Lz Dg Lg
section
variable {ns : List Int} {s : Lx.St} {F : List Fo} {B B' : List Nw} {r : Rw} {day d : Int} {m : Mem} {ds : List Int}
end
end Lo
end
section
set_option Elab.async false
set_option linter.all false
set_option maxRecDepth 100000
set_option maxHeartbeats 1000000
namespace Wk
open Pv
section
variable {S S' : Nat → List Nat} {n f : Nat}
variable (hS : ∀ v, S v = (S' v).filter fun c => decide (c ≠ n)) (hn : S' n = [])
include hS hn
end
end Wk
end
section
set_option Elab.async false
set_option linter.all false
set_option maxRecDepth 100000
set_option maxHeartbeats 1000000
namespace Lo
open PySem L2 Pw Pv Lx Ls Lq Wk Lv Lz Dg Lg
end Lo
end
section
set_option Elab.async false
set_option linter.all false
set_option maxRecDepth 100000
set_option maxHeartbeats 1000000
namespace Lo
open PySem L2 Pw Pv Lx Ls Lq Wk Lv Lz Dg Lg
end Lo
end
section
set_option Elab.async false
set_option linter.all false
set_option maxRecDepth 100000
set_option maxHeartbeats 1000000
namespace Lo
open PySem L2 Pw Pv Lx Ls Lq Wk Lv Lz Dg Lg
end Lo
end
section
set_option Elab.async false
set_option linter.all false
set_option maxRecDepth 100000
set_option maxHeartbeats 4000000
namespace Rg
open PySem L2 Pw Pv Lx Ls Lq Wk Lv Lz Dg Lg Lo
section
variable {F : List Fo} {B : List Nw} {Rs : List Rw} {day : Int} {m : Mem}
def upB (B : List Nw) (day : Int) : List Nw := B.filter fun n => decide (n.day ≤ day)
end
end Rg
end
section
set_option Elab.async false
set_option linter.all false
set_option maxRecDepth 100000
set_option maxHeartbeats 4000000
namespace Rg
open PySem L2 Pw Pv Lx Ls Lq Wk Lv Lz Dg Lg Lo
end Rg
end
section
set_option Elab.async false
set_option linter.all false
set_option maxRecDepth 100000
set_option maxHeartbeats 800000
namespace Rg
open PySem L2 Pw Pv Lx Ls Lq Wk Lv Lz Dg Lg Lo
end Rg
end
section
set_option Elab.async false
set_option linter.all false
set_option maxRecDepth 100000
set_option maxHeartbeats 1000000
namespace Lp
open PySem L2 Pw Pv Lx Ls Lq Wk Lv Lz Dg Lg Lo
end Lp
end
section
set_option Elab.async false
set_option linter.all false
set_option maxRecDepth 100000
set_option maxHeartbeats 4000000
namespace Le
open PySem L2 Pw Pv Lx Ls Lq Wk Lv Lz
end Le
end
section
set_option Elab.async false
set_option linter.all false
set_option maxRecDepth 100000
set_option maxHeartbeats 1000000
namespace Lp
open PySem L2 Pw Pv Lx Ls Lq Wk Lv Lz Dg Lg Lo
end Lp
end
section
set_option Elab.async false
set_option linter.all false
set_option maxRecDepth 100000
set_option maxHeartbeats 1000000
namespace Lp
open PySem L2 Pw Pv Lx Ls Lq Wk Lv Lz Dg Lg Lo
end Lp
end
section
set_option Elab.async false
set_option linter.all false
set_option maxRecDepth 100000
set_option maxHeartbeats 1000000
namespace Lp
open PySem L2 Pw Pv Lx Ls Lq Wk Lv Lz Dg Lg Lo
end Lp
end
section
set_option Elab.async false
set_option linter.all false
set_option maxRecDepth 100000
set_option maxHeartbeats 1000000
namespace Lp
open PySem L2 Pw Pv Lx Ls Lq Wk Lv Lz Dg Lg Lo
end Lp
end
section
set_option Elab.async false
set_option linter.all false
set_option maxRecDepth 100000
set_option maxHeartbeats 1000000
namespace Lp
open PySem L2 Pw Pv Lx Ls Lq Wk Lv Lz Dg Lg Lo
end Lp
end
section
set_option Elab.async false
set_option linter.all false
set_option maxRecDepth 100000
set_option maxHeartbeats 1000000
namespace Lp
open PySem L2 Pw Pv Lx Ls Lq Wk Lv Lz Dg Lg Lo
end Lp
end
section
set_option Elab.async false
set_option linter.all false
set_option maxRecDepth 100000
set_option maxHeartbeats 1000000
namespace Lp
open PySem L2 Pw Pv Lx Ls Lq Wk Lv Lz Dg Lg Lo
end Lp
end
section
set_option Elab.async false
set_option linter.all false
set_option maxRecDepth 100000
set_option maxHeartbeats 1000000
namespace Lp
open PySem L2 Pw Pv Lx Ls Lq Wk Lv Lz Dg Lg Lo
end Lp
end
section
set_option Elab.async false
set_option linter.all false
set_option maxRecDepth 100000
set_option maxHeartbeats 1000000
namespace Lp
open PySem L2 Pw Pv Lx Ls Lq Wk Lv Lz Dg Lg Lo
end Lp
end
section
set_option Elab.async false
set_option linter.all false
set_option maxRecDepth 100000
set_option maxHeartbeats 1000000
namespace Lp
open PySem L2 Pw Pv Lx Ls Lq Wk Lv Lz Dg Lg Lo
section
variable {F : List Fo} {B : List Nw} {r : Rw} {day lim aside : Int} {last : Nat} {m : Mem}
end
end Lp
end
section
set_option Elab.async false
set_option linter.all false
set_option maxRecDepth 100000
set_option maxHeartbeats 1000000
namespace Rd
open PySem L2 Pw Pv Lx Ls Lq Wk Lv Lz Dg Lg Lo Rg
section
variable {F F' : List Fo} {B B' : List Nw} {Rs : List Rw} {r : Rw} {d e : Int} {last : Nat}
structure Still (F : List Fo) (B : List Nw) (d e : Int) : Prop where
  le : d ≤ e
  f : ∀ f ∈ F, f.day ≤ e → f.day ≤ d
  b : ∀ n ∈ B, n.day ≤ e → n.day ≤ d
variable (hq : Still F B d e)
theorem Still.dec (h : Still F B d e) {n : Nw} (hn : n ∈ B) : decide (n.day ≤ e) = decide (n.day ≤ d) := by
  rw [decide_eq_decide]
  exact ⟨h.b n hn, fun z => by have := h.le; omega⟩
theorem Still.up (h : Still F B d e) : upB B e = upB B d := List.filter_congr fun n hn => h.dec hn
theorem Still.days (h : Still F B d e) (who : Int) (word : Str) : daysOf B e who word = daysOf B d who word := by
  unfold daysOf
  congr 1
  refine List.filter_congr fun n hn => ?_
  unfold dayP
  rw [h.dec hn]
theorem Still.back (h : Still F B d e) (who : Int) : backOf B e who = backOf B d who := by
  unfold backOf
  rw [h.days]
theorem Still.cut (h : Still F B d e) (who : Int) : cutFrom B e who = cutFrom B d who := by
  unfold cutFrom behind
  rw [h.days, h.back]
theorem Still.dead (h : Still F B d e) : deadL B e = deadL B d := by
  unfold deadL
  congr 1
  refine List.filter_congr fun n hn => ?_
  rw [h.dec hn]
theorem Still.out (h : Still F B d e) : outL B e = outL B d := by
  unfold outL
  congr 1
  refine List.filter_congr fun n hn => ?_
  unfold nbP
  rw [h.dec hn, h.back]
theorem Still.st (h : Still F B d e) (G : List Fo) (r : Rw) : stB G B r e = stB G B r d := by
  funext x
  unfold stB
  rw [h.dead, h.out]
end
end Rd
end
section
set_option Elab.async false
set_option linter.all false
set_option maxRecDepth 100000
set_option maxHeartbeats 800000
namespace Rg
open PySem L2 Pw Pv Lx Ls Lq Wk Lv Lz Dg Lg Lo
section
variable {F : List Fo} {B : List Nw} {Rs : List Rw} {day lim : Int} {m : Mem}
end
end Rg
end
section
set_option Elab.async false
set_option linter.all false
set_option maxRecDepth 100000
set_option maxHeartbeats 800000
namespace Rg
open PySem L2 Pw Pv Lx Ls Lq Wk Lv Lz Dg Lg Lo
section
variable {F : List Fo} {B : List Nw} {Rs : List Rw} {day lim : Int} {m : Mem}
end
end Rg
end
section
set_option Elab.async false
set_option linter.all false
set_option maxRecDepth 100000
set_option maxHeartbeats 800000
namespace Rg
open PySem L2 Pw Pv Lx Ls Lq Wk Lv Lz Dg Lg Lo
section
variable {F : List Fo} {B : List Nw} {Rs : List Rw} {day lim : Int} {m : Mem}
end
end Rg
end
section
set_option Elab.async false
set_option linter.all false
set_option maxRecDepth 100000
set_option maxHeartbeats 800000
namespace Rg
open PySem L2 Pw Pv Lx Ls Lq Wk Lv Lz Dg Lg Lo
end Rg
end
section
set_option Elab.async false
set_option linter.all false
set_option maxRecDepth 100000
set_option maxHeartbeats 1000000
namespace Rt
open PySem L2 Pw Pv Lx Ls Lq Wk Lv Lz Dg Lg Lo
open Rg (upB)
section
variable {ns : List Int} {s : Lx.St} {F : List Fo} {B : List Nw} {Rs : List Rw} {day lim : Int} {m : Mem}
theorem mem_sortM {Ns : List Nw} {n : Nw} : n ∈ sortM nLt Ns ↔ n ∈ Ns := (sortM_perm Ns).mem_iff
theorem sortM_good (hok : ∀ n ∈ B, NwOk F n) (nd : B.Nodup) (hl : B.length < 64) : GoodB F (sortM nLt B) := by
  refine ⟨fun n hn => hok n (mem_sortM.mp hn), by rw [(sortM_perm B).length_eq]; exact hl, ?_⟩
  have h1 := sortM_sorted lin_n B
  have h2 : (sortM nLt B).Nodup := (sortM_perm B).nodup_iff.mpr nd
  refine (List.pairwise_and_iff.mpr ⟨h1, h2⟩).imp fun {a b} h => ?_
  cases z : nLt a b with
  | true => rfl
  | false => exact absurd (lin_n.tot a b z h.1) h.2
structure NewsOk (F : List Fo) (B0 N : List Nw) : Prop where
  ok : ∀ n ∈ B0 ++ N, NwOk F n
  nd : (B0 ++ N).Nodup
  le : (B0 ++ N).length < 64
theorem NewsOk.take {B0 N : List Nw} (h : NewsOk F B0 N) (k : Nat) : GoodB F (sortM nLt (B0 ++ N.take k)) := by
  have sb : (B0 ++ N.take k).Sublist (B0 ++ N) := List.Sublist.append (List.Sublist.refl _) (List.take_sublist _ _)
  exact sortM_good (fun n hn => h.ok n (sb.subset hn)) (h.nd.sublist sb) (Nat.lt_of_le_of_lt sb.length_le h.le)
end
end Rt
end
section
set_option Elab.async false
set_option linter.all false
set_option maxRecDepth 100000
set_option maxHeartbeats 1000000
namespace Rt
open PySem L2 Pw Pv Lx Ls Lq Wk Lv Lz Dg Lg Lo
section
variable {ns : List Int} {s : Lx.St} {F : List Fo} {B : List Nw} {m : Mem} {day lim : Int}
theorem rngA_at {a : Ax} {ρ : Pw.Env} {m m1 : Mem} {ws : List W} {ds xs : List D} (h : a ρ m = some (ws, m1)) (hg : gts ws m1 = some ds) (hr : rngA ds = some xs) : iRngA a ρ m = some (.seq xs, m1) := by
  unfold iRngA
  rw [h, Option.bind_some, hg, Option.bind_some, hr]
  rfl
theorem rngA_nat {n : Nat} (h : n ≤ 1000000) : rngA [.int (n : Int)] = some ((List.range n).map nD) := by
  unfold rngA
  dsimp only
  rw [if_pos (by omega), Int.toNat_natCast]
  unfold rngD
  simp
end
end Rt
end
section
set_option Elab.async false
set_option linter.all false
set_option maxRecDepth 100000
set_option maxHeartbeats 4000000
namespace Ga
open PySem L2 Pw Pv Lx Ls
open Lg (kdA getA putA val_kdA put_kdA getA_put getA_none)
open Gs (At St Rest)
section
variable {O : List (List Nat)} {Ws : List (Nat × List Nat)} {m : Mem}
end
end Ga
end
section
set_option Elab.async false
set_option linter.all false
set_option maxRecDepth 100000
set_option maxHeartbeats 4000000
namespace Ga
open PySem L2 Pw Pv Lx Ls
open Lg (kdA getA putA val_kdA put_kdA getA_put getA_none)
open Gs (At St Rest)
open Lq (lI tI)
open Lu (tX)
section
variable {ns : List Int} {s : Lx.St} {m : Mem}
theorem nat_of {P : List Nat} {ys : List Int} (h : ∀ y ∈ ys, y ∈ P.map fun n : Nat => (n : Int)) : ∃ o : List Nat, ys = o.map fun n : Nat => (n : Int) := by
  induction ys with
  | nil => exact ⟨[], rfl⟩
  | cons y ys ih =>
    obtain ⟨o, rfl⟩ := ih fun z hz => h z (List.mem_cons_of_mem _ hz)
    obtain ⟨n, _, rfl⟩ := List.mem_map.mp (h y List.mem_cons_self)
    exact ⟨n :: o, rfl⟩
theorem x1_ {x A : MO} : (x :: (m ++ [A]))[m.length + 1]? = some A := by simp
theorem x1s {x A B : MO} : (x :: (m ++ [A])).set (m.length + 1) B = x :: (m ++ [B]) := by
  rw [List.set_cons_succ, List.set_append_right _ _ (by omega)]; simp
theorem y1_ {x A C : MO} : (x :: (m ++ [A, C]))[m.length + 1]? = some A := by simp
theorem y2_ {x A C : MO} : (x :: (m ++ [A, C]))[m.length + 2]? = some C := by
  rw [List.getElem?_cons_succ, List.getElem?_append_right (by omega)]; simp
theorem y2s {x A B C : MO} : (x :: (m ++ [A, C])).set (m.length + 2) B = x :: (m ++ [A, B]) := by
  rw [List.set_cons_succ, List.set_append_right _ _ (by omega)]; simp
theorem if_no {t : Tx} {a b : Sx} {ρ : Pw.Env} {m m1 : Mem} (h : t ρ m = some (false, m1)) : sIf t a b ρ m = b ρ m1 := by
  unfold sIf
  rw [h]; rfl
theorem drop_at {a : Ex} {ρ : Pw.Env} {m m1 : Mem} {w : W} (h : a ρ m = some (w, m1)) : sDrop a ρ m = some (.nx, ρ, m1) := by
  unfold sDrop
  rw [h]; rfl
end
end Ga
end
section
set_option Elab.async false
set_option linter.all false
set_option maxRecDepth 100000
set_option maxHeartbeats 4000000
namespace Ga
open PySem L2 Pw Pv Lx Ls
open Lg (kdA getA putA val_kdA put_kdA getA_put getA_none)
open Gs (At St Rest)
section
variable {ns : List Int} {s : Lx.St} {m : Mem}
theorem one_at {a : Ex} {ρ : Pw.Env} {m m1 : Mem} {w : W} (h : a ρ m = some (w, m1)) : aCons a aNil ρ m = some ([stl w], m1) := by
  unfold aCons
  rw [h]; rfl
end
end Ga
end
section
set_option Elab.async false
set_option linter.all false
set_option maxRecDepth 100000
set_option maxHeartbeats 4000000
namespace K72
open PySem L2 Pw Pv Lx Ls
open Gs (At St Rest)
open Lg (kdA getA putA val_kdA put_kdA getA_put)
open Ga (qN oD wE wD sI oN sL SO OkS od wl InvT at_k getD_at od_at ix_lt in_q in_S idx_q idx_SL run_at if_at if_no drop_at Wis sI_inj askD thE thM nextT stpT who wrd posOf swp ansW rem next_some step_T test_T wipe_T start_inv rep_at rep_n p0 p1 p2 wishes_by_spec asking_throne_spec dearer)
section
variable {O : List (List Nat)} {Ws : List (Nat × List Nat)} {m : Mem} {tn : List Nat}
def st0 (O : List (List Nat)) : Ga.TT := { S := List.replicate O.length none, A := List.replicate O.length 0, Q := [] }
def nxs (O : List (List Nat)) (Ws : List (Nat × List Nat)) (tn : List Nat) (s : Ga.TT) : Ga.TT := stpT O Ws s ((nextT O tn s.S s.A).getD 0)
def itr (O : List (List Nat)) (Ws : List (Nat × List Nat)) (tn : List Nat) : Nat → Ga.TT
  | 0 => st0 O
  | k + 1 => nxs O Ws tn (itr O Ws tn k)
def Rch (O : List (List Nat)) (Ws : List (Nat × List Nat)) (tn : List Nat) (s : Ga.TT) : Prop := ∃ k, s = itr O Ws tn k ∧ ∀ j, j < k → (nextT O tn (itr O Ws tn j).S (itr O Ws tn j).A).isSome = true
theorem Rch.start : Rch O Ws tn (st0 O) := ⟨0, rfl, fun j h => by omega⟩
theorem Rch.step {s : Ga.TT} (h : Rch O Ws tn s) (t : (nextT O tn s.S s.A).isSome = true) : Rch O Ws tn (nxs O Ws tn s) := by
  obtain ⟨k, rfl, h⟩ := h
  refine ⟨k + 1, rfl, fun j hj => ?_⟩
  by_cases e : j = k
  · rw [e]; exact t
  · exact h j (by omega)
theorem Rch.same {s s' : Ga.TT} (h : Rch O Ws tn s) (h' : Rch O Ws tn s') (t : nextT O tn s.S s.A = none) (t' : nextT O tn s'.S s'.A = none) : s = s' := by
  obtain ⟨k, rfl, h⟩ := h
  obtain ⟨k', rfl, h'⟩ := h'
  rcases Nat.lt_trichotomy k k' with z | z | z
  · have := h' k z
    rw [t] at this; cases this
  · rw [z]
  · have := h k' z
    rw [t'] at this; cases this
theorem loop_T (ok : OkS O Ws) (lt : ∀ t ∈ tn, t < O.length) (s0 : Ga.TT) (I0 : InvT O Ws s0 ∧ Rch O Ws tn s0) :
    ∃ s : Ga.TT, InvT O Ws s ∧ Rch O Ws tn s ∧ nextT O tn s.S s.A = none ∧ sWhile (tVal (eOp (eqD true) (eVar 7) (eUn negD (eC (.int 1))))) Ga.L_by_thrones_1 [8, 9, 10] (thE O Ws tn m.length (oN (nextT O tn s0.S s0.A)) none none none) (thM m s0) =
      some (.nx, thE O Ws tn m.length (oN (nextT O tn s.S s.A)) none none none, thM m s) := by
  obtain ⟨s, I, tst, e⟩ := while_fold (t := tVal (eOp (eqD true) (eVar 7) (eUn negD (eC (.int 1))))) (b := Ga.L_by_thrones_1) (dd := [8, 9, 10]) (fun s : Ga.TT => thE O Ws tn m.length (oN (nextT O tn s.S s.A)) none none none) (fun s => thM m s)
    (fun s => (nextT O tn s.S s.A).isSome) (fun s => nxs O Ws tn s) (fun s => InvT O Ws s ∧ Rch O Ws tn s) (fun s => rem O s.A)
    (fun s I => test_T)
    (fun s I tst => by
      obtain ⟨t, hn⟩ := Option.isSome_iff_exists.mp tst
      obtain ⟨I', r', k⟩ := step_T (m := m) ok lt I.1 hn
      have hr := I.2.step tst
      have hg : nxs O Ws tn s = stpT O Ws s t := by unfold nxs; rw [hn]; rfl
      rw [hg] at hr ⊢
      rw [hn]
      exact ⟨⟨I', hr⟩, r', _, k, wipe_T⟩) s0 I0
  exact ⟨s, I.1, I.2, by simpa using tst, e⟩
theorem all_T {OD TD SL AL SL9 QL9 : List D} {WD : D} {KD : List (Key × D)} {n : Nat} {x0 x1 : Option Nat} {M9 : Mem} (ln : OD.length = n) (e0 : ∀ m, Ga.F_wishes_by [.v WD] m = some (.f (.dk KD), m))
    (m1 : mulD (.lst [.int (-1)]) (.int (n : Int)) = some (.f (.lst SL))) (m2 : mulD (.lst [.int 0]) (.int (n : Int)) = some (.f (.lst AL)))
    (a0 : Ga.F_asking_throne [.v (.tup OD), .v (.tup TD), .r m.length, .r (m.length + 1)] (m ++ [.lst SL, .lst AL, .lst []]) = some (.v (oN x0), m ++ [.lst SL, .lst AL, .lst []]))
    (e : sWhile (tVal (eOp (eqD true) (eVar 7) (eUn negD (eC (.int 1))))) Ga.L_by_thrones_1 [8, 9, 10] [some (.v (.tup OD)), some (.v WD), some (.v (.tup TD)), some (.v (.dk KD)), some (.r m.length), some (.r (m.length + 1)), some (.r (m.length + 2)), some (.v (oN x0)), none, none, none] (m ++ [.lst SL, .lst AL, .lst []]) =
      some (.nx, [some (.v (.tup OD)), some (.v WD), some (.v (.tup TD)), some (.v (.dk KD)), some (.r m.length), some (.r (m.length + 1)), some (.r (m.length + 2)), some (.v (oN x1)), none, none, none], M9))
    (g0 : gt (.r m.length) M9 = some (.lst SL9)) (g2 : gt (.r (m.length + 2)) M9 = some (.lst QL9)) (tk : M9.take m.length = m) :
    K72.F_by_thrones [.v (.tup OD), .v WD, .v (.tup TD)] m = some (.v (.tup [.tup SL9, .tup QL9]), m) := by
  have q1 : sSet 3 (eCall Ga.F_wishes_by (aCons (eVar 1) aNil)) [some (.v (.tup OD)), some (.v WD), some (.v (.tup TD)), none, none, none, none, none, none, none, none] m = some (.nx, [some (.v (.tup OD)), some (.v WD), some (.v (.tup TD)), some (.v (.dk KD)), none, none, none, none, none, none, none], m) := by
    simp [sSet, eCall, aCons, aNil, eVar, e0, stl]
  have q2 : sSet 4 (eOwn (eOp mulD (eLst (aCons (eUn negD (eC (.int 1))) aNil)) (eCB lenD (aCons (eVar 0) aNil)))) [some (.v (.tup OD)), some (.v WD), some (.v (.tup TD)), some (.v (.dk KD)), none, none, none, none, none, none, none] m = some (.nx, [some (.v (.tup OD)), some (.v WD), some (.v (.tup TD)), some (.v (.dk KD)), some (.r m.length), none, none, none, none, none, none], m ++ [.lst SL]) :=
    set_own (rep_at (by simp [eLst, aCons, aNil, eUn, eC, negD]) (by simp [aCons, aNil, eCB, eVar, ln]) m1)
  have q3 : sSet 5 (eOwn (eOp mulD (eLst (aCons (eC (.int 0)) aNil)) (eCB lenD (aCons (eVar 0) aNil)))) [some (.v (.tup OD)), some (.v WD), some (.v (.tup TD)), some (.v (.dk KD)), some (.r m.length), none, none, none, none, none, none] (m ++ [.lst SL]) = some (.nx, [some (.v (.tup OD)), some (.v WD), some (.v (.tup TD)), some (.v (.dk KD)), some (.r m.length), some (.r (m.length + 1)), none, none, none, none, none], m ++ [.lst SL, .lst AL]) := by
    have := set_own (i := 5) (ρ := [some (.v (.tup OD)), some (.v WD), some (.v (.tup TD)), some (.v (.dk KD)), some (.r m.length), none, none, none, none, none, none]) (m := m ++ [.lst SL]) (m1 := m ++ [.lst SL]) (a := eOp mulD (eLst (aCons (eC (.int 0)) aNil)) (eCB lenD (aCons (eVar 0) aNil))) (ds := AL) (rep_at (by simp [eLst, aCons, aNil, eC]) (by simp [aCons, aNil, eCB, eVar, ln]) m2)
    rw [this]
    simp
  have q4 : sSet 6 (eOwn (eLst aNil)) [some (.v (.tup OD)), some (.v WD), some (.v (.tup TD)), some (.v (.dk KD)), some (.r m.length), some (.r (m.length + 1)), none, none, none, none, none] (m ++ [.lst SL, .lst AL]) = some (.nx, [some (.v (.tup OD)), some (.v WD), some (.v (.tup TD)), some (.v (.dk KD)), some (.r m.length), some (.r (m.length + 1)), some (.r (m.length + 2)), none, none, none, none], m ++ [.lst SL, .lst AL, .lst []]) := by
    have := set_own (i := 6) (ρ := [some (.v (.tup OD)), some (.v WD), some (.v (.tup TD)), some (.v (.dk KD)), some (.r m.length), some (.r (m.length + 1)), none, none, none, none, none]) (m := m ++ [.lst SL, .lst AL]) (m1 := m ++ [.lst SL, .lst AL]) (a := eLst aNil) (ds := []) (by simp [eLst, aNil])
    rw [this]
    simp
  have q5 : sSet 7 (eCall Ga.F_asking_throne (aCons (eVar 0) (aCons (eVar 2) (aCons (eVar 4) (aCons (eVar 5) aNil))))) [some (.v (.tup OD)), some (.v WD), some (.v (.tup TD)), some (.v (.dk KD)), some (.r m.length), some (.r (m.length + 1)), some (.r (m.length + 2)), none, none, none, none] (m ++ [.lst SL, .lst AL, .lst []]) = some (.nx, [some (.v (.tup OD)), some (.v WD), some (.v (.tup TD)), some (.v (.dk KD)), some (.r m.length), some (.r (m.length + 1)), some (.r (m.length + 2)), some (.v (oN x0)), none, none, none], m ++ [.lst SL, .lst AL, .lst []]) := by
    have a1 : (aCons (eVar 0) (aCons (eVar 2) (aCons (eVar 4) (aCons (eVar 5) aNil)))) [some (.v (.tup OD)), some (.v WD), some (.v (.tup TD)), some (.v (.dk KD)), some (.r m.length), some (.r (m.length + 1)), some (.r (m.length + 2)), none, none, none, none] (m ++ [.lst SL, .lst AL, .lst []]) = some ([.v (.tup OD), .v (.tup TD), .r m.length, .r (m.length + 1)], m ++ [.lst SL, .lst AL, .lst []]) := rfl
    exact set_at (call_at a1 a0)
  have q6 : sRet (eTup (aCons (eCB tupleD (aCons (eVar 4) aNil)) (aCons (eCB tupleD (aCons (eVar 6) aNil)) aNil))) [some (.v (.tup OD)), some (.v WD), some (.v (.tup TD)), some (.v (.dk KD)), some (.r m.length), some (.r (m.length + 1)), some (.r (m.length + 2)), some (.v (oN x1)), none, none, none] M9 = some (.ret (.v (.tup [.tup SL9, .tup QL9])), [some (.v (.tup OD)), some (.v WD), some (.v (.tup TD)), some (.v (.dk KD)), some (.r m.length), some (.r (m.length + 1)), some (.r (m.length + 2)), some (.v (oN x1)), none, none, none], M9) := by
    simp [sRet, eTup, aCons, aNil, eCB, eVar, tupleD, g0, g2, vl, -gt_r]
  have hb : K72.B_by_thrones (startD 11 [.v (.tup OD), .v WD, .v (.tup TD)]) m = some (.ret (.v (.tup [.tup SL9, .tup QL9])), [some (.v (.tup OD)), some (.v WD), some (.v (.tup TD)), some (.v (.dk KD)), some (.r m.length), some (.r (m.length + 1)), some (.r (m.length + 2)), some (.v (oN x1)), none, none, none], M9) :=
    seq_at q1 (seq_at q2 (seq_at q3 (seq_at q4 (seq_at q5 (seq_at e q6)))))
  exact run_at rfl hb tk
theorem by_thrones_spec (ok : OkS O Ws) (lt : ∀ t ∈ tn, t < O.length) (m : Mem) :
    ∃ s : Ga.TT, InvT O Ws s ∧ Rch O Ws tn s ∧ nextT O tn s.S s.A = none ∧ F_by_thrones [.v (oD O), .v (wD Ws), .v (.tup (tn.map nD))] m = some (.v (.tup [.tup (sL s.S), .tup (s.Q.map askD)]), m) := by
  obtain ⟨s, I, R, nn, e⟩ := loop_T (m := m) ok lt (st0 O) ⟨start_inv ok, Rch.start⟩
  refine ⟨s, I, R, nn, ?_⟩
  exact all_T (OD := O.map qN) (n := O.length) (SL := sL (List.replicate O.length none)) (AL := (List.replicate O.length 0).map nD) (by simp) (fun m => wishes_by_spec ok m)
      (rep_n (by have := ok.n1; omega) (by show (List.replicate O.length none).map oN = _; rw [List.map_replicate]; rfl)) (rep_n (by have := ok.n1; omega) (by rw [List.map_replicate]; rfl))
      (asking_throne_spec lt (start_inv ok).lS (start_inv ok).lA p0 p1) e
      (by rw [gt_r]; unfold thM; rw [p0]; rfl) (by rw [gt_r]; unfold thM; rw [p2]; rfl) (by unfold thM; simp)
end
end K72
end
section
set_option Elab.async false
set_option linter.all false
set_option maxRecDepth 100000
set_option maxHeartbeats 4000000
namespace K72
open PySem L2 Pw Pv Lx Ls
open Gs (At St Rest)
open Lg (kdA getA putA val_kdA put_kdA getA_put)
open Ga (qN oD wE wD sI oN sL SO OkS od wl InvT at_k getD_at od_at ix_lt in_q in_S idx_q idx_SL run_at if_at if_no drop_at put_at Wis sI_inj sI_neg askD nextT stpT who wrd posOf swp ansW rem next_some rep_at rep_n dearer q_ints isLA_S)
section
variable {O : List (List Nat)} {Ws : List (Nat × List Nat)} {m : Mem} {tn : List Nat}
theorem and_no {a b : Tx} {ρ : Pw.Env} {m m1 : Mem} (h1 : a ρ m = some (false, m1)) : tAnd' a b ρ m = some (false, m1) := by
  unfold tAnd'
  rw [h1]
  simp only [Option.bind_some, Bool.false_eq_true, if_false]
theorem and_yes {a b : Tx} {ρ : Pw.Env} {m m1 : Mem} {r : Option (Bool × Mem)} (h1 : a ρ m = some (true, m1)) (h2 : b ρ m1 = r) : tAnd' a b ρ m = r := by
  unfold tAnd'
  rw [h1]
  simp only [Option.bind_some, if_true]
  exact h2
theorem val_at {a : Ex} {ρ : Pw.Env} {m m1 : Mem} {b : Bool} (h : a ρ m = some (.v (.bl b), m1)) : tVal a ρ m = some (b, m1) := by
  unfold tVal
  rw [h]; rfl
theorem tru_at {a : Ex} {ρ : Pw.Env} {m m1 : Mem} {b : Bool} (h : a ρ m = some (.v (.bl b), m1)) : tTru a ρ m = some (b, m1) := by
  unfold tTru
  rw [h]; rfl
theorem not_at {a : Tx} {ρ : Pw.Env} {m m1 : Mem} {b : Bool} (h : a ρ m = some (b, m1)) : tNot' a ρ m = some (!b, m1) := by
  unfold tNot'
  rw [h]; rfl
def wlo (Ws : List (Nat × List Nat)) : Option Nat → List Nat
  | none => []
  | some w => wl Ws w
theorem wished_spec (ok : OkS O Ws) (x : Option Nat) (m : Mem) : ∃ Y, F_wished [.v (wD Ws), .v (oN x)] m = some (.v Y, m) ∧ Wis Y (wlo Ws x) := by
  have e := lc_map (src := iSeq (eVar 0)) (t := gT [gN 2, gN 3]) (c := tVal (eOp (eqD false) (eVar 2) (eVar 1))) (f := eVar 3) (vs := [2, 3]) (ρ := [some (.v (wD Ws)), some (.v (oN x)), none, none]) (m := m) (m1 := m) Ws wE (fun p => decide (x = some p.1)) (fun p => qN p.2)
    (by simp [iSeq, eVar]) (fun p hp => ⟨[some (.v (wD Ws)), some (.v (oN x)), some (.v (nD p.1)), some (.v (qN p.2))], rfl, by
      have : decide ((p.1 : Int) = sI x) = decide (x = some p.1) := by
        congr 1
        apply propext
        constructor
        · intro h; exact (sI_inj (a := some p.1) (b := x) h).symm
        · intro h; rw [h]; rfl
      have ee : eqD false (nD p.1) (oN x) = some (.v (.bl (decide (x = some p.1)))) := by simp [this]
      generalize decide (x = some p.1) = b at *
      exact val_at (op_at (wa := .v (nD p.1)) (x := nD p.1) (wb := .v (oN x)) (y := oN x) (m1 := m) (m2 := m) rfl rfl rfl rfl ee), fun _ => ⟨.v (qN p.2), rfl, rfl⟩⟩) (by have := ok.k2; omega)
  have e' : E_wished_1 [some (.v (wD Ws)), some (.v (oN x)), none, none] m = some (.f (.lst ((Ws.filter fun p => decide (x = some p.1)).map fun p => qN p.2)), m) := e
  have hl : (Ws.filter fun p => decide (x = some p.1)).length ≤ 1000 := Nat.le_trans (List.length_filter_le _ _) ok.k2
  have hd : (Ws.filter fun p => decide (x = some p.1)).head? = Ws.find? fun p => decide (x = some p.1) := List.head?_filter
  generalize hF : (Ws.filter fun p => decide (x = some p.1)) = F at *
  have z1 : (eCB tupleD (aCons E_wished_1 aNil)) [some (.v (wD Ws)), some (.v (oN x)), none, none] m = some (.v (.tup (F.map fun p => qN p.2)), m) := by
    generalize F.map (fun p => qN p.2) = FD at *
    simp [eCB, aCons, e', aNil, tupleD]
  have z2 : (eTup (aCons (eTup aNil) aNil)) [some (.v (wD Ws)), some (.v (oN x)), none, none] m = some (.v (.tup [.tup []]), m) := by simp [eTup, aCons, aNil, vl]
  have ad : addD (.tup (F.map fun p => qN p.2)) (.tup [.tup []]) = some (.v (.tup ((F.map fun p => qN p.2) ++ [.tup []]))) := by
    unfold addD
    simp only [List.length_map, List.length_singleton]
    rw [if_pos (by omega)]
  have z3 := op_at (g := addD) z1 z2 rfl rfl ad
  have fin : ∀ Y, ((F.map fun p => qN p.2) ++ [D.tup []])[0]? = some Y → F_wished [.v (wD Ws), .v (oN x)] m = some (.v Y, m) := fun Y hY => by
    have ix : ixD (.tup ((F.map fun p => qN p.2) ++ [.tup []])) (.int 0) = some (.v Y) := by
      show (atI _ (0 : Int)).bind _ = _
      rw [show (0 : Int) = ((0 : Nat) : Int) from rfl, at_nat hY]; rfl
    have z4 := op_at (g := ixD) (b := eC (.int 0)) (wb := .v (.int 0)) (y := .int 0) (w := .v Y) z3 rfl rfl rfl ix
    refine run_at (ρ := [some (.v (wD Ws)), some (.v (oN x)), none, none]) (M := m) rfl ?_ (by simp)
    show sRet _ [some (.v (wD Ws)), some (.v (oN x)), none, none] m = _
    unfold sRet
    rw [z4]; rfl
  cases hFd : F.head? with
  | none =>
    have hn : F = [] := List.head?_eq_none_iff.mp hFd
    subst hn
    refine ⟨_, fin (.tup []) rfl, .inr ⟨rfl, ?_⟩⟩
    rw [hFd] at hd
    cases x with
    | none => rfl
    | some w =>
      show wl Ws w = []
      unfold wl Lg.getA
      have : (Ws.find? fun e => decide (e.1 = w)) = none := by
        rw [List.find?_eq_none]
        intro p hp
        have h2 := List.find?_eq_none.mp hd.symm p hp
        simp only [Option.some.injEq, decide_eq_true_eq] at h2 ⊢
        exact fun z => h2 z.symm
      rw [this]; rfl
  | some p =>
    obtain ⟨F', rfl⟩ : ∃ F', F = p :: F' := by
      cases F with
      | nil => cases hFd
      | cons q F' => cases hFd; exact ⟨F', rfl⟩
    refine ⟨_, fin (qN p.2) rfl, .inl ?_⟩
    rw [hFd] at hd
    have hp := List.find?_some hd.symm
    have hx : x = some p.1 := of_decide_eq_true hp
    subst hx
    show qN p.2 = qN (wl Ws p.1)
    have mem : p ∈ Ws := List.mem_of_find?_eq_some hd.symm
    have := (Lg.memA_get ok.k1 p.1 p.2).mp mem
    unfold wl
    rw [this]; rfl
def lf (O : List (List Nat)) (A : List Nat) (t : Nat) : MO := .lst (((od O t).drop (A.getD t 0)).map nD)
def lfs (O : List (List Nat)) (A : List Nat) : List MO := (List.range O.length).map (lf O A)
def lM (m : Mem) (S : SO) (Ls : List MO) (Q : List Ga.Ask) : Mem := m ++ (.lst (sL S) :: (Ls ++ [.rl (m.length + 1) Ls.length, .lst (Q.map askD)]))
section
variable {S S' : SO} {Ls : List MO} {Q Q' : List Ga.Ask} {t : Nat} {x : MO}
theorem g_S : (lM m S Ls Q)[m.length]? = some (.lst (sL S)) := by simp [lM]
theorem g_L (h : t < Ls.length) : (lM m S Ls Q)[m.length + 1 + t]? = Ls[t]? := by
  unfold lM
  rw [List.getElem?_append_right (by omega), show m.length + 1 + t - m.length = t + 1 by omega, List.getElem?_cons_succ, List.getElem?_append_left h]
theorem g_R : (lM m S Ls Q)[m.length + 1 + Ls.length]? = some (.rl (m.length + 1) Ls.length) := by
  unfold lM
  rw [List.getElem?_append_right (by omega), show m.length + 1 + Ls.length - m.length = Ls.length + 1 by omega, List.getElem?_cons_succ, List.getElem?_append_right (by omega)]
  simp
theorem g_Q : (lM m S Ls Q)[m.length + 2 + Ls.length]? = some (.lst (Q.map askD)) := by
  unfold lM
  rw [List.getElem?_append_right (by omega), show m.length + 2 + Ls.length - m.length = Ls.length + 1 + 1 by omega, List.getElem?_cons_succ, List.getElem?_append_right (by omega)]
  simp
theorem s_S : (lM m S Ls Q).set m.length (.lst (sL S')) = lM m S' Ls Q := by
  unfold lM
  rw [List.set_append_right _ _ (by omega), Nat.sub_self, List.set_cons_zero]
theorem s_L (h : t < Ls.length) : (lM m S Ls Q).set (m.length + 1 + t) x = lM m S (Ls.set t x) Q := by
  unfold lM
  rw [List.set_append_right _ _ (by omega), show m.length + 1 + t - m.length = t + 1 by omega, List.set_cons_succ, List.set_append_left _ _ h, List.length_set]
theorem s_Q : (lM m S Ls Q).set (m.length + 2 + Ls.length) (.lst (Q'.map askD)) = lM m S Ls Q' := by
  unfold lM
  rw [List.set_append_right _ _ (by omega), show m.length + 2 + Ls.length - m.length = Ls.length + 1 + 1 by omega, List.set_cons_succ, List.set_append_right _ _ (by omega), show Ls.length + 1 - Ls.length = 1 by omega]
  rfl
end
theorem lfs_len {A : List Nat} : (lfs O A).length = O.length := by simp [lfs]
theorem lfs_at {A : List Nat} {t : Nat} (h : t < O.length) : (lfs O A)[t]? = some (lf O A t) := by
  unfold lfs
  rw [List.getElem?_map, List.getElem?_range h]; rfl
theorem lfs_set {A : List Nat} {t : Nat} (h : t < O.length) (hA : A.length = O.length) : (lfs O A).set t (.lst (((od O t).drop (A.getD t 0 + 1)).map nD)) = lfs O (A.set t (A.getD t 0 + 1)) := by
  refine List.ext_getElem? fun i => ?_
  by_cases hi : i < O.length
  · rw [lfs_at hi]
    by_cases e : i = t
    · subst e
      rw [List.getElem?_set_self (by rw [lfs_len]; exact hi)]
      unfold lf
      rw [Ga.getD_set (by omega), if_pos rfl]
    · rw [List.getElem?_set_ne (Ne.symm e), lfs_at hi]
      unfold lf
      rw [Ga.getD_set (by omega), if_neg e]
  · rw [List.getElem?_eq_none (by rw [List.length_set, lfs_len]; omega), List.getElem?_eq_none (by rw [lfs_len]; omega)]
theorem ne_nil (L : List Nat) : eqD true (.lst (L.map nD)) (.lst []) = some (.v (.bl (!L.isEmpty))) := by
  have := Lq.eq_li (neg := true) (xs := L.map fun n : Nat => (n : Int)) (ys := [])
  have e : L.map nD = (L.map fun n : Nat => (n : Int)).map D.int := q_ints L
  rw [e]
  refine this.trans ?_
  cases L <;> simp
theorem drop_ne {L : List Nat} {k : Nat} : (!(L.drop k).isEmpty) = decide (k < L.length) := by
  by_cases h : k < L.length
  · have : L.drop k ≠ [] := fun z => by
      have := congrArg List.length z
      rw [List.length_drop] at this
      simp at this; omega
    rw [decide_eq_true h]
    cases e : L.drop k with
    | nil => exact absurd e this
    | cons a l => rfl
  · rw [List.drop_of_length_le (by omega), decide_eq_false h]; rfl
def asksT (O : List (List Nat)) (S : SO) (A : List Nat) (t : Nat) : Bool := decide (S.getD t none = none) && decide (A.getD t 0 < (od O t).length)
def Fl (O : List (List Nat)) (tn : List Nat) (S : SO) (A : List Nat) : List Nat := tn.filter (asksT O S A)
theorem Fl_head {S : SO} {A : List Nat} : (Fl O tn S A).head? = nextT O tn S A := by
  unfold Fl nextT
  rw [List.head?_filter]; rfl
abbrev lE (O : List (List Nat)) (Ws : List (Nat × List Nat)) (tn : List Nat) (k n : Nat) (F : List Nat) (x7 x8 x9 x10 : Option W) : Pw.Env :=
  [some (.v (oD O)), some (.v (wD Ws)), some (.v (.tup (tn.map nD))), some (.r k), some (.r (k + 1 + n)), some (.r (k + 2 + n)), some (.v (.lst (F.map nD))), x7, x8, x9, x10, none]
theorem var_v {ρ : Pw.Env} {i : Nat} {d : D} (h : ρ[i]? = some (some (.v d))) (m : Mem) : eVar i ρ m = some (.v d, m) := by simp [eVar, h]
theorem var_r {ρ : Pw.Env} {i n : Nat} (h : ρ[i]? = some (some (.r n))) (m : Mem) : eVar i ρ m = some (.r n, m) := by simp [eVar, h]
theorem ixr_at {ρ : Pw.Env} {S : SO} {Ls : List MO} {Q : List Ga.Ask} {t : Nat} (h4 : ρ[4]? = some (some (.r (m.length + 1 + Ls.length)))) (h7 : ρ[7]? = some (some (.v (nD t)))) (ht : t < Ls.length) : eIxR (eVar 4) (eVar 7) ρ (lM m S Ls Q) = some (.r (m.length + 1 + t), lM m S Ls Q) := by
  have g := g_R (m := m) (S := S) (Ls := Ls) (Q := Q)
  have i := ix_lt ht
  simp [eIxR, eVar, h4, h7, g, i]
theorem left_test {ρ : Pw.Env} {S : SO} {A : List Nat} {Q : List Ga.Ask} {t : Nat} (h4 : ρ[4]? = some (some (.r (m.length + 1 + (lfs O A).length)))) (h7 : ρ[7]? = some (some (.v (nD t)))) (ht : t < O.length) :
    tVal (eOp (eqD true) (eIxR (eVar 4) (eVar 7)) (eLst aNil)) ρ (lM m S (lfs O A) Q) = some (decide (A.getD t 0 < (od O t).length), lM m S (lfs O A) Q) := by
  have ht' : t < (lfs O A).length := by rw [lfs_len]; exact ht
  have g : gt (.r (m.length + 1 + t)) (lM m S (lfs O A) Q) = some (.lst (((od O t).drop (A.getD t 0)).map nD)) := by rw [gt_r, g_L ht', lfs_at ht]; rfl
  rw [← drop_ne]
  exact val_at (op_at (ixr_at h4 h7 ht') (by simp [eLst, aNil]; rfl) g rfl (ne_nil _))
theorem bare_test {ρ : Pw.Env} {S : SO} {Ls : List MO} {Q : List Ga.Ask} {t : Nat} (h3 : ρ[3]? = some (some (.r m.length))) (h7 : ρ[7]? = some (some (.v (nD t)))) (ht : t < S.length) :
    tVal (eOp (eqD false) (eOp ixD (eVar 3) (eVar 7)) (eUn negD (eC (.int 1)))) ρ (lM m S Ls Q) = some (decide (S.getD t none = none), lM m S Ls Q) := by
  have g : gt (.r m.length) (lM m S Ls Q) = some (.lst (sL S)) := by rw [gt_r, g_S]; rfl
  have a1 := at_k oN (getD_at (d := none) ht)
  have ix : ixD (.lst (sL S)) (nD t) = some (.v (oN (S.getD t none))) := by
    show (atI (sL S) (t : Int)).bind _ = _
    rw [a1]; rfl
  have e1 : eOp ixD (eVar 3) (eVar 7) ρ (lM m S Ls Q) = some (.v (oN (S.getD t none)), lM m S Ls Q) := op_at (var_r h3 _) (var_v h7 _) g rfl ix
  have s1 : decide (sI (S.getD t none) = -1) = decide (S.getD t none = none) := by rw [sI_neg]; cases S.getD t none <;> rfl
  generalize S.getD t none = x at e1 s1 ⊢
  rw [← s1]
  exact val_at (op_at (wb := .v (.int (-1))) (x := oN x) (y := .int (-1)) (m2 := lM m S Ls Q) e1 (by simp [eUn, eC, negD]) rfl rfl (by simp))
theorem some_1 {S : SO} {A : List Nat} {Q : List Ga.Ask} {F : List Nat} {x7 x8 x9 x10 : Option W} (lt : ∀ t ∈ tn, t < O.length) (hS : S.length = O.length) (hl : tn.length ≤ 1000) :
    E_asked_by_thrones_1 (lE O Ws tn m.length (lfs O A).length F x7 x8 x9 x10) (lM m S (lfs O A) Q) = some (.f (.lst ((Fl O tn S A).map nD)), lM m S (lfs O A) Q) :=
  lc_map (src := iSeq (eVar 2)) (t := gN 7) (vs := [7]) (ρ := lE O Ws tn m.length (lfs O A).length F x7 x8 x9 x10) tn nD (asksT O S A) nD (by simp [iSeq, eVar])
    (fun t h => ⟨_, rfl, by
      have b := bare_test (m := m) (S := S) (Ls := lfs O A) (Q := Q) (t := t) (ρ := lE O Ws tn m.length (lfs O A).length F (some (.v (nD t))) x8 x9 x10) rfl rfl (by rw [hS]; exact lt t h)
      have l := left_test (m := m) (O := O) (S := S) (A := A) (Q := Q) (t := t) (ρ := lE O Ws tn m.length (lfs O A).length F (some (.v (nD t))) x8 x9 x10) rfl rfl (lt t h)
      show tAnd' _ _ (lE O Ws tn m.length (lfs O A).length F (some (.v (nD t))) x8 x9 x10) _ = some (asksT O S A t, _)
      unfold asksT
      cases hx : decide (S.getD t none = none) with
      | false => rw [hx] at b; exact and_no b
      | true => rw [hx] at b; exact and_yes b l, fun _ => ⟨.v (nD t), rfl, rfl⟩⟩) (by omega)
end
end K72
end
section
set_option Elab.async false
set_option linter.all false
set_option maxRecDepth 100000
set_option maxHeartbeats 4000000
namespace K72
open PySem L2 Pw Pv Lx Ls
open Gs (At St Rest)
open Lg (kdA getA putA val_kdA put_kdA getA_put)
open Ga (qN oD wE wD sI oN sL SO OkS od wl InvT at_k getD_at od_at ix_lt in_q in_S idx_q idx_SL run_at if_at if_no drop_at put_at Wis sI_inj sI_neg askD nextT stpT who wrd posOf swp ansW rem next_some rep_at rep_n dearer q_ints isLA_S)
section
variable {O : List (List Nat)} {Ws : List (Nat × List Nat)} {m : Mem} {tn : List Nat}
theorem mt_at {ck : W → Mem → Bool} {g : W → List W → Mem → Option (W × Mem)} {o : Ex} {a : Ax} {ρ : Pw.Env} {m m1 : Mem} {w : W} {ws : List W} {r : Option (W × Mem)} (h1 : o ρ m = some (w, m)) (h2 : ck w m = true) (h3 : a ρ m = some (ws, m1)) (h4 : g w ws m1 = r) : eMt ck g o a ρ m = r := by
  unfold eMt
  rw [h1]
  simp only [Option.bind_some]
  rw [if_pos h2, h3]
  exact h4
theorem mt_no {ck : W → Mem → Bool} {g : W → List W → Mem → Option (W × Mem)} {o : Ex} {a : Ax} {ρ : Pw.Env} {m : Mem} {w : W} (h1 : o ρ m = some (w, m)) (h2 : ck w m = false) : eMt ck g o a ρ m = none := by
  unfold eMt
  rw [h1]
  simp only [Option.bind_some]
  rw [if_neg (by rw [h2]; exact Bool.false_ne_true)]
theorem alt1 {f g : Ex} {ρ : Pw.Env} {m : Mem} {r : W × Mem} (h : f ρ m = some r) : eAlt f g ρ m = some r := by
  unfold eAlt
  rw [h]
theorem alt2 {f g : Ex} {ρ : Pw.Env} {m : Mem} {r : Option (W × Mem)} (h : f ρ m = none) (h2 : g ρ m = r) : eAlt f g ρ m = r := by
  unfold eAlt
  rw [h]
  exact h2
theorem one_v {a : Ex} {ρ : Pw.Env} {m m1 : Mem} {d : D} (h : a ρ m = some (.v d, m1)) : aCons a aNil ρ m = some ([.v d], m1) := Ga.one_at h
abbrev eIS : Ex := eAlt (eMt isTx idxTD (eVar 3) (aCons (eVar 8) aNil)) (eMt isLA idxD (eVar 3) (aCons (eVar 8) aNil))
abbrev eIY : Ex := eAlt (eMt isTx idxTD (eVar 9) (aCons eIS aNil)) (eMt isLA idxD (eVar 9) (aCons eIS aNil))
section
variable {ρ : Pw.Env} {S : SO} {Ls : List MO} {Q : List Ga.Ask} {w t h : Nat} {Y : D} {ts : List Nat}
theorem idxS (h3 : ρ[3]? = some (some (.r m.length))) (h8 : ρ[8]? = some (some (.v (nD w)))) (hm : some w ∈ S) : eIS ρ (lM m S Ls Q) = some (.v (nD (S.idxOf (some w))), lM m S Ls Q) :=
  alt2 (mt_no (var_r h3 _) rfl) (mt_at (var_r h3 _) (isLA_S g_S) (one_v (var_v h8 _)) (idx_SL hm g_S))
theorem idxY (h3 : ρ[3]? = some (some (.r m.length))) (h8 : ρ[8]? = some (some (.v (nD w)))) (h9 : ρ[9]? = some (some (.v (qN ts)))) (hm : some w ∈ S) (hh : S.idxOf (some w) ∈ ts) : eIY ρ (lM m S Ls Q) = some (.v (nD (ts.idxOf (S.idxOf (some w)))), lM m S Ls Q) :=
  alt1 (mt_at (var_v h9 _) rfl (one_v (idxS h3 h8 hm)) (idx_q hh _))
theorem take_mem {k : Nat} : (t ∈ ts.take k) ↔ t ∈ ts ∧ ts.idxOf t < k := by
  constructor
  · intro h
    have m1 := List.mem_of_mem_take h
    refine ⟨m1, ?_⟩
    obtain ⟨i, hi, e⟩ := List.mem_take_iff_getElem.mp h
    have : ts.idxOf t ≤ i := by
      rcases Nat.lt_or_ge i (ts.idxOf t) with z | z
      · exfalso
        have := List.not_of_lt_findIdx (p := (· == t)) (xs := ts) (i := i) z
        rw [e] at this
        simp at this
      · exact z
    omega
  · rintro ⟨m1, lt⟩
    have l := List.idxOf_lt_length_of_mem m1
    exact List.mem_take_iff_getElem.mpr ⟨ts.idxOf t, by omega, List.getElem_idxOf l⟩
theorem before_test (h3 : ρ[3]? = some (some (.r m.length))) (h7 : ρ[7]? = some (some (.v (nD t)))) (h8 : ρ[8]? = some (some (.v (nD w)))) (h9 : ρ[9]? = some (some (.v (qN ts)))) (hm : some w ∈ S) (hh : S.idxOf (some w) ∈ ts) :
    tVal (eOp (inD false) (eVar 7) (eSlc (eFg (eVar 9)) oNone (oSome eIY))) ρ (lM m S Ls Q) = some (decide (t ∈ ts) && decide (ts.idxOf t < ts.idxOf (S.idxOf (some w))), lM m S Ls Q) := by
  have y := idxY (Ls := Ls) (Q := Q) h3 h8 h9 hm hh
  have c : cutD (ts.map nD) none (some ((ts.idxOf (S.idxOf (some w)) : Nat) : Int)) = (ts.take (ts.idxOf (S.idxOf (some w)))).map nD := by
    have := List.idxOf_lt_length_of_mem hh
    rw [q_ints, Lq.cut_take (by omega) (by simp; omega), ← q_ints, List.map_take, Int.toNat_natCast]
  have sl : eSlc (eFg (eVar 9)) oNone (oSome eIY) ρ (lM m S Ls Q) = some (.v (.tup ((ts.take (ts.idxOf (S.idxOf (some w)))).map nD)), lM m S Ls Q) := by
    generalize eIY = EI at y ⊢
    generalize lM m S Ls Q = M at *
    generalize ts.idxOf (S.idxOf (some w)) = k at *
    have fg : fgW (.v (qN ts)) = .v (.tup (ts.map nD)) := rfl
    simp [eSlc, eFg, eVar, h9, fg, oNone, oSome, y, slcD, c, -List.map_take]
  have e : (decide (t ∈ ts) && decide (ts.idxOf t < ts.idxOf (S.idxOf (some w)))) = (decide (t ∈ ts.take (ts.idxOf (S.idxOf (some w)))) != false) := by
    rw [Bool.bne_false, ← Bool.decide_and]
    congr 1
    exact propext take_mem.symm
  rw [e]
  exact val_at (op_at (var_v h7 _) sl rfl rfl in_q)
theorem in_test {neg : Bool} (h3 : ρ[3]? = some (some (.r m.length))) (h8 : ρ[8]? = some (some (.v (nD w)))) : tVal (eOp (inD neg) (eVar 8) (eVar 3)) ρ (lM m S Ls Q) = some (decide (some w ∈ S) != neg, lM m S Ls Q) := by
  have g : gt (.r m.length) (lM m S Ls Q) = some (.lst (sL S)) := by rw [gt_r, g_S]; rfl
  exact val_at (op_at (var_v h8 _) (var_r h3 _) rfl g in_S)
theorem wish_test (h7 : ρ[7]? = some (some (.v (nD t)))) (h9 : ρ[9]? = some (some (.v Y))) (hY : Wis Y ts) : tVal (eOp (inD false) (eVar 7) (eFg (eVar 9))) ρ (lM m S Ls Q) = some (decide (t ∈ ts), lM m S Ls Q) := by
  have fg := hY.fg
  have e : eFg (eVar 9) ρ (lM m S Ls Q) = some (.v (.tup (ts.map nD)), lM m S Ls Q) := by
    unfold eFg
    rw [var_v h9]
    simp only [Option.bind_some]
    rw [fg]
  have := val_at (op_at (var_v h7 _) e rfl rfl (in_q (neg := false)))
  rw [this]; simp
end
def midS (S : SO) (had : Option Nat) (x : Str) : SO := match had with
  | some h => if x = "no" then S else S.set h none
  | none => S
theorem put_S {ρ : Pw.Env} {S : SO} {Ls : List MO} {Q : List Ga.Ask} {i a : Ex} {h : Nat} {x : Option Nat} (h3 : ρ[3]? = some (some (.r m.length))) (hi : i ρ (lM m S Ls Q) = some (.v (nD h), lM m S Ls Q)) (ha : a ρ (lM m S Ls Q) = some (.v (oN x), lM m S Ls Q)) (hl : h < S.length) :
    sPut (eVar 3) i a ρ (lM m S Ls Q) = some (.nx, ρ, lM m (S.set h x) Ls Q) := by
  refine put_at ha (var_r h3 _) hi rfl ?_
  unfold putD
  simp only [g_S]
  have l : ixN (sL S).length (h : Int) = some h := ix_lt (by simpa using hl)
  rw [l, Option.map_some]
  have : (sL S).set h (oN x) = sL (S.set h x) := by
    show (S.map oN).set h (oN x) = (S.set h x).map oN
    rw [List.map_set]
  rw [this, s_S]
theorem word_if {F : List Nat} {n t w : Nat} {Y : D} {ts : List Nat} {S : SO} {Ls : List MO} {Q : List Ga.Ask} (hY : Wis Y ts) (hh : ∀ h, posOf S w = some h → h ∈ ts ∧ h < S.length) :
    sIf (tAnd' (tVal (eOp (inD true) (eVar 8) (eVar 3))) (tVal (eOp (inD false) (eVar 7) (eFg (eVar 9))))) (sSet 10 (eC (.str "takes"))) (sIf (tAnd' (tVal (eOp (inD false) (eVar 8) (eVar 3))) (tVal (eOp (inD false) (eVar 7) (eSlc (eFg (eVar 9)) oNone (oSome eIY))))) (sSeq (sSet 10 (eC (.str "turns"))) (sPut (eVar 3) eIS (eUn negD (eC (.int 1))))) sNil)
      (lE O Ws tn m.length n F (some (.v (nD t))) (some (.v (nD w))) (some (.v Y)) (some (.v (.str "no")))) (lM m S Ls Q) =
    some (.nx, lE O Ws tn m.length n F (some (.v (nD t))) (some (.v (nD w))) (some (.v Y)) (some (.v (.str (ansW ts t (posOf S w))))), lM m (midS S (posOf S w) (ansW ts t (posOf S w))) Ls Q) := by
  have i1 := in_test (m := m) (S := S) (Ls := Ls) (Q := Q) (w := w) (neg := true) (ρ := lE O Ws tn m.length n F (some (.v (nD t))) (some (.v (nD w))) (some (.v Y)) (some (.v (.str "no")))) rfl rfl
  have i2 := in_test (m := m) (S := S) (Ls := Ls) (Q := Q) (w := w) (neg := false) (ρ := lE O Ws tn m.length n F (some (.v (nD t))) (some (.v (nD w))) (some (.v Y)) (some (.v (.str "no")))) rfl rfl
  have wt := wish_test (m := m) (S := S) (Ls := Ls) (Q := Q) (t := t) (ρ := lE O Ws tn m.length n F (some (.v (nD t))) (some (.v (nD w))) (some (.v Y)) (some (.v (.str "no")))) rfl rfl hY
  by_cases hm : some w ∈ S
  · have hp : posOf S w = some (S.idxOf (some w)) := if_pos hm
    obtain ⟨q1, q2⟩ := hh _ hp
    rw [hp]
    have hY' : Y = qN ts := by
      rcases hY with z | ⟨_, z⟩
      · exact z
      · rw [z] at q1; cases q1
    subst hY'
    have bt := before_test (m := m) (S := S) (Ls := Ls) (Q := Q) (t := t) (w := w) (ρ := lE O Ws tn m.length n F (some (.v (nD t))) (some (.v (nD w))) (some (.v (qN ts))) (some (.v (.str "no")))) rfl rfl rfl rfl hm q1
    rw [decide_eq_true hm] at i1 i2
    rw [if_no (and_no i1)]
    cases hd : (decide (t ∈ ts) && decide (ts.idxOf t < ts.idxOf (S.idxOf (some w)))) with
    | true =>
      rw [hd] at bt
      have ha : ansW ts t (some (S.idxOf (some w))) = "turns" := Ga.ans_some hd
      rw [ha, if_at (and_yes i2 bt)]
      refine seq_at (ρ1 := lE O Ws tn m.length n F (some (.v (nD t))) (some (.v (nD w))) (some (.v (qN ts))) (some (.v (.str "turns")))) rfl ?_
      exact put_S (x := none) rfl (idxS rfl rfl hm) (by simp [eUn, eC, negD, sI]) q2
    | false =>
      rw [hd] at bt
      have ha : ansW ts t (some (S.idxOf (some w))) = "no" := if_neg (by rw [show dearer ts t (some (S.idxOf (some w))) = false from hd]; exact Bool.false_ne_true)
      rw [ha, if_no (and_yes i2 bt)]
      rfl
  · have hp : posOf S w = none := if_neg hm
    rw [hp]
    rw [decide_eq_false hm] at i1 i2
    cases hd : decide (t ∈ ts) with
    | true =>
      rw [hd] at wt
      have ha : ansW ts t none = "takes" := Ga.ans_none (by unfold dearer; rw [hd]; rfl)
      rw [ha, if_at (and_yes i1 wt)]
      rfl
    | false =>
      rw [hd] at wt
      have ha : ansW ts t none = "no" := if_neg (by unfold dearer; rw [hd]; exact Bool.false_ne_true)
      rw [ha, if_no (and_yes i1 wt), if_no (and_no i2)]
      rfl
theorem put_if {F : List Nat} {n t w : Nat} {Y : D} {S : SO} {Ls : List MO} {Q : List Ga.Ask} {x : Str} (hx : x = "no" ∨ x = "takes" ∨ x = "turns") (ht : t < S.length) :
    sIf (tVal (eOp (eqD true) (eVar 10) (eC (.str "no")))) (sPut (eVar 3) (eVar 7) (eVar 8)) sNil
      (lE O Ws tn m.length n F (some (.v (nD t))) (some (.v (nD w))) (some (.v Y)) (some (.v (.str x)))) (lM m S Ls Q) =
    some (.nx, lE O Ws tn m.length n F (some (.v (nD t))) (some (.v (nD w))) (some (.v Y)) (some (.v (.str x))), lM m (if x = "no" then S else S.set t (some w)) Ls Q) := by
  have e := val_at (op_at (var_v (ρ := lE O Ws tn m.length n F (some (.v (nD t))) (some (.v (nD w))) (some (.v Y)) (some (.v (.str x)))) (i := 10) rfl (lM m S Ls Q)) (show eC (.str "no") _ _ = some (.v (.str "no"), _) from rfl) rfl rfl (Ga.ne_no hx))
  by_cases h : x = "no"
  · rw [if_pos h]
    rw [decide_eq_false (by simpa using h)] at e
    rw [if_no e]
    rfl
  · rw [if_neg h]
    rw [decide_eq_true h] at e
    rw [if_at e]
    exact put_S (x := some w) rfl rfl rfl ht
theorem mid_swp {S : SO} {t w : Nat} {had : Option Nat} {x : Str} : (if x = "no" then midS S had x else (midS S had x).set t (some w)) = if x = "no" then S else swp S t w had := by
  by_cases h : x = "no"
  · rw [if_pos h, if_pos h]
    cases had with
    | none => rfl
    | some g => exact if_pos h
  · rw [if_neg h, if_neg h]
    unfold swp
    congr 1
    cases had with
    | none => rfl
    | some g => exact if_neg h
theorem mid_len {S : SO} {had : Option Nat} {x : Str} : (midS S had x).length = S.length := by
  unfold midS
  split
  · split
    · rfl
    · exact List.length_set
  · rfl
theorem turn_L (ok : OkS O Ws) (lt : ∀ t ∈ tn, t < O.length) (hl : tn.length ≤ 1000) {s : Ga.TT} (I : InvT O Ws s) {t : Nat} (hn : nextT O tn s.S s.A = some t) :
    ∃ Y, L_asked_by_thrones_1 (lE O Ws tn m.length O.length (Fl O tn s.S s.A) none none none none) (lM m s.S (lfs O s.A) s.Q) =
      some (.nx, lE O Ws tn m.length O.length (Fl O tn (stpT O Ws s t).S (stpT O Ws s t).A) (some (.v (nD t))) (some (.v (nD (who O s t)))) (some (.v Y)) (some (.v (.str (wrd O Ws s t)))), lM m (stpT O Ws s t).S (lfs O (stpT O Ws s t).A) (stpT O Ws s t).Q) := by
  obtain ⟨h1, h2, h3⟩ := next_some hn
  have h0 := lt t h1
  obtain ⟨I', r', hh⟩ := I.step ok h0 h2 h3
  obtain ⟨Y, eY, hY⟩ := wished_spec ok (some (who O s t)) (lM m s.S (lfs O (s.A.set t (s.A.getD t 0 + 1))) s.Q)
  have hY : Wis Y (wl Ws (who O s t)) := hY
  refine ⟨Y, ?_⟩
  have n1 : (lfs O s.A).length = O.length := lfs_len
  have ht' : t < (lfs O s.A).length := by rw [n1]; exact h0
  obtain ⟨F', eF⟩ : ∃ F', Fl O tn s.S s.A = t :: F' := by
    have := (Fl_head (O := O) (tn := tn) (S := s.S) (A := s.A)).trans hn
    cases e : Fl O tn s.S s.A with
    | nil => rw [e] at this; cases this
    | cons a F' => rw [e] at this; cases this; exact ⟨F', rfl⟩
  have q1 : sSet 7 (eOp ixD (eVar 6) (eC (.int 0))) (lE O Ws tn m.length O.length (Fl O tn s.S s.A) none none none none) (lM m s.S (lfs O s.A) s.Q) = some (.nx, lE O Ws tn m.length O.length (Fl O tn s.S s.A) (some (.v (nD t))) none none none, lM m s.S (lfs O s.A) s.Q) := by
    rw [eF]
    have ix : ixD (.lst ((t :: F').map nD)) (.int 0) = some (.v (nD t)) := by
      show (atI _ ((0 : Nat) : Int)).bind _ = _
      rw [at_nat (x := nD t) rfl]; rfl
    exact set_at (op_at (wa := .v (.lst ((t :: F').map nD))) (wb := .v (.int 0)) (y := .int 0) (m1 := lM m s.S (lfs O s.A) s.Q) rfl rfl rfl rfl ix)
  have dr : (od O t).drop (s.A.getD t 0) = who O s t :: (od O t).drop (s.A.getD t 0 + 1) := by
    rw [List.drop_eq_getElem_cons h3]
    have e : (od O t)[s.A.getD t 0] = who O s t := (List.getElem?_eq_some_iff.mp (getD_at (d := 0) h3)).2
    rw [e]
  have q2 : sSet 8 (eMt isLst popAtD (eIxR (eVar 4) (eVar 7)) (aCons (eC (.int 0)) aNil)) (lE O Ws tn m.length O.length (Fl O tn s.S s.A) (some (.v (nD t))) none none none) (lM m s.S (lfs O s.A) s.Q) = some (.nx, lE O Ws tn m.length O.length (Fl O tn s.S s.A) (some (.v (nD t))) (some (.v (nD (who O s t)))) none none, lM m s.S (lfs O (s.A.set t (s.A.getD t 0 + 1))) s.Q) := by
    have g : (lM m s.S (lfs O s.A) s.Q)[m.length + 1 + t]? = some (.lst ((who O s t :: (od O t).drop (s.A.getD t 0 + 1)).map nD)) := by rw [g_L ht', lfs_at h0, ← dr]; rfl
    refine set_at (w := .v (nD (who O s t))) (mt_at (ixr_at (by rw [n1]; rfl) rfl ht') (by rw [isl_r, g]) (Ga.one_at (w := .v (.int 0)) rfl) ?_)
    show popAtD (.r (m.length + 1 + t)) [.v (.int 0)] _ = _
    have len : ((who O s t :: (od O t).drop (s.A.getD t 0 + 1)).map nD).length ≤ 1000000 := by
      have := (ok.od t).2
      simp; omega
    unfold popAtD
    simp only [g]
    rw [if_pos len, show (0 : Int) = ((0 : Nat) : Int) from rfl, Ga.ix_lt (by simp)]
    have e0 : ((who O s t :: (od O t).drop (s.A.getD t 0 + 1)).map nD)[0]? = some (nD (who O s t)) := rfl
    have e1 : ((who O s t :: (od O t).drop (s.A.getD t 0 + 1)).map nD).eraseIdx 0 = ((od O t).drop (s.A.getD t 0 + 1)).map nD := rfl
    simp only [Option.bind_some, e0, e1]
    rw [s_L ht', lfs_set h0 I.lA]
  have q3 : sSet 9 (eCall F_wished (aCons (eVar 1) (aCons (eVar 8) aNil))) (lE O Ws tn m.length O.length (Fl O tn s.S s.A) (some (.v (nD t))) (some (.v (nD (who O s t)))) none none) (lM m s.S (lfs O (s.A.set t (s.A.getD t 0 + 1))) s.Q) = some (.nx, lE O Ws tn m.length O.length (Fl O tn s.S s.A) (some (.v (nD t))) (some (.v (nD (who O s t)))) (some (.v Y)) none, lM m s.S (lfs O (s.A.set t (s.A.getD t 0 + 1))) s.Q) :=
    set_at (w := .v Y) (call_at (f := aCons (eVar 1) (aCons (eVar 8) aNil)) (ws := [.v (wD Ws), .v (nD (who O s t))]) rfl eY)
  have q4 : sSet 10 (eC (.str "no")) (lE O Ws tn m.length O.length (Fl O tn s.S s.A) (some (.v (nD t))) (some (.v (nD (who O s t)))) (some (.v Y)) none) (lM m s.S (lfs O (s.A.set t (s.A.getD t 0 + 1))) s.Q) = some (.nx, lE O Ws tn m.length O.length (Fl O tn s.S s.A) (some (.v (nD t))) (some (.v (nD (who O s t)))) (some (.v Y)) (some (.v (.str "no"))), lM m s.S (lfs O (s.A.set t (s.A.getD t 0 + 1))) s.Q) := rfl
  have q5 := word_if (O := O) (Ws := Ws) (tn := tn) (m := m) (F := Fl O tn s.S s.A) (n := O.length) (t := t) (Ls := lfs O (s.A.set t (s.A.getD t 0 + 1))) (Q := s.Q) (S := s.S) hY (fun h e => hh h e)
  have q6 := put_if (O := O) (Ws := Ws) (tn := tn) (m := m) (F := Fl O tn s.S s.A) (n := O.length) (t := t) (w := who O s t) (Y := Y) (Ls := lfs O (s.A.set t (s.A.getD t 0 + 1))) (Q := s.Q) (S := midS s.S (posOf s.S (who O s t)) (wrd O Ws s t)) (x := wrd O Ws s t) Ga.word_of (by rw [mid_len, I.lS]; exact h0)
  rw [mid_swp] at q6
  have q7 : sDrop (eMt isLst appD (eVar 5) (aCons (eTup (aCons (eVar 7) (aCons (eVar 8) (aCons (eVar 10) aNil)))) aNil)) (lE O Ws tn m.length O.length (Fl O tn s.S s.A) (some (.v (nD t))) (some (.v (nD (who O s t)))) (some (.v Y)) (some (.v (.str (wrd O Ws s t))))) (lM m (stpT O Ws s t).S (lfs O (stpT O Ws s t).A) s.Q) =
      some (.nx, lE O Ws tn m.length O.length (Fl O tn s.S s.A) (some (.v (nD t))) (some (.v (nD (who O s t)))) (some (.v Y)) (some (.v (.str (wrd O Ws s t)))), lM m (stpT O Ws s t).S (lfs O (stpT O Ws s t).A) (stpT O Ws s t).Q) := by
    have n2 : (lfs O (stpT O Ws s t).A).length = O.length := lfs_len
    have g : (lM m (stpT O Ws s t).S (lfs O (stpT O Ws s t).A) s.Q)[m.length + 2 + O.length]? = some (.lst (s.Q.map askD)) := by rw [← n2]; exact g_Q
    have sq : (lM m (stpT O Ws s t).S (lfs O (stpT O Ws s t).A) s.Q).set (m.length + 2 + O.length) (.lst ((stpT O Ws s t).Q.map askD)) = lM m (stpT O Ws s t).S (lfs O (stpT O Ws s t).A) (stpT O Ws s t).Q := by rw [← n2]; exact s_Q
    refine drop_at (w := .v .non) (mt_at (ws := [.v (.tup [nD t, nD (who O s t), .str (wrd O Ws s t)])]) (var_r (n := m.length + 2 + O.length) rfl _) (by rw [isl_r, g]) rfl ?_)
    unfold appD
    simp only [g]
    have hq : (s.Q.map askD).length < 1000000 := by have := I.hq; rw [List.length_map]; omega
    show (if _ then some (W.v D.non, _) else none) = _
    rw [if_pos hq]
    have em : s.Q.map askD ++ [.tup [nD t, nD (who O s t), .str (wrd O Ws s t)]] = (stpT O Ws s t).Q.map askD := by
      show _ = (s.Q ++ [(t, who O s t, wrd O Ws s t)]).map askD
      rw [List.map_append]; rfl
    rw [em, sq]
  have q8 := some_1 (O := O) (Ws := Ws) (tn := tn) (m := m) (S := (stpT O Ws s t).S) (A := (stpT O Ws s t).A) (Q := (stpT O Ws s t).Q) (F := Fl O tn s.S s.A) (x7 := some (.v (nD t))) (x8 := some (.v (nD (who O s t)))) (x9 := some (.v Y)) (x10 := some (.v (.str (wrd O Ws s t)))) lt I'.lS hl
  rw [lfs_len] at q8
  exact seq_at q1 (seq_at q2 (seq_at q3 (seq_at q4 (seq_at q5 (seq_at q6 (seq_at q7 (set_at q8)))))))
end
end K72
end
section
set_option Elab.async false
set_option linter.all false
set_option maxRecDepth 100000
set_option maxHeartbeats 4000000
namespace K72
open PySem L2 Pw Pv Lx Ls
open Gs (At St Rest)
open Lg (kdA getA putA val_kdA put_kdA getA_put)
open Ga (qN oD wE wD sI oN sL SO OkS od wl InvT at_k getD_at od_at in_q in_S idx_q idx_SL run_at if_at if_no drop_at put_at Wis sI_inj sI_neg askD nextT stpT who wrd posOf swp ansW rem next_some rep_at rep_n dearer q_ints isLA_S)
noncomputable def BP (G : Fx) : Sx := (sSeq (sIf (tTru (eIs .tuple (eVar 0))) (sRet (eCB allBD (aCons (eLc (iSeq (eVar 0)) (gN 1) tYes' (eCall G (aCons (eVar 1) aNil)) [1]) aNil))) sNil) (sRet (eAnd (eIs2 .int .str (eVar 0)) (eNot (eIs .bool (eVar 0))))))
noncomputable def FP (G : Fx) : Fx := runF 1 2 (BP G)
theorem all_true {α : Type} (L : List α) : allBD [.lst (L.map fun _ => D.bl true)] = some (.v (.bl true)) := by
  have h : ∀ L : List α, allBl (L.map fun _ => D.bl true) = some (L.map fun _ => true) := fun L => by
    induction L with
    | nil => rfl
    | cons a L ih =>
      rw [List.map_cons, List.map_cons]
      unfold allBl
      rw [ih]; rfl
  show (some (L.map fun _ => D.bl true)).bind (fun ds => (allBl ds).bind fun bs => some (Pw.W.v (.bl (bs.all id)))) = _
  simp only [Option.bind_some, h]
  congr 3
  rw [List.all_eq_true]
  intro b hb
  obtain ⟨_, _, rfl⟩ := List.mem_map.mp hb
  rfl
theorem plainI (G : Fx) (i : Int) (m : Mem) : FP G [.v (.int i)] m = some (.v (.bl true), m) := by
  simp only [FP, runF, BP, startD]
  simp [sSeq, sIf, tTru, eIs, eVar, isD, truD, sNil, sRet, eAnd, eIs2, eNot, tVal, blD, outW]
theorem plainS (G : Fx) (i : Str) (m : Mem) : FP G [.v (.str i)] m = some (.v (.bl true), m) := by
  simp only [FP, runF, BP, startD]
  simp [sSeq, sIf, tTru, eIs, eVar, isD, truD, sNil, sRet, eAnd, eIs2, eNot, tVal, blD, outW]
theorem plainT {G : Fx} {ds : List D} (hl : ds.length ≤ 1000000) (m : Mem) (h : ∀ d ∈ ds, G [.v d] m = some (.v (.bl true), m)) : FP G [.v (.tup ds)] m = some (.v (.bl true), m) := by
  have e : eLc (iSeq (eVar 0)) (gN 1) tYes' (eCall G (aCons (eVar 1) aNil)) [1] [some (.v (.tup ds)), none] m = some (.f (.lst (ds.map fun _ => D.bl true)), m) := by
    have q := lc_map (src := iSeq (eVar 0)) (t := gN 1) (c := tYes') (f := eCall G (aCons (eVar 1) aNil)) (vs := [1]) (ρ := [some (.v (.tup ds)), none]) (m := m) (m1 := m) ds id (fun _ => true) (fun _ => D.bl true) (by simp [iSeq, eVar]) (fun d hd => ⟨_, rfl, rfl, fun _ => ⟨Pw.W.v (.bl true), call_at (ws := [.v d]) (m1 := m) (by simp [aCons, aNil, eVar]) (h d hd), rfl⟩⟩) hl
    rw [q, List.filter_eq_self.mpr (fun _ _ => rfl)]
  have a := all_true ds
  have it : isD .tuple (.tup ds) = true := rfl
  generalize ds.map (fun _ => D.bl true) = Q at e a
  generalize D.tup ds = T at e it
  simp only [FP, runF, BP, startD]
  have e' : eLc (iSeq (eVar 0)) (gN 1) tYes' (eCall G (aCons (eVar 1) aNil)) [1] [some (.v T), none] m = some (.f (.lst Q), m) := e
  generalize eLc (iSeq (eVar 0)) (gN 1) tYes' (eCall G (aCons (eVar 1) aNil)) [1] = E at e'
  simp [sSeq, sIf, tTru, eIs, eVar, it, truD, sRet, eCB, aCons, aNil, e', a, outW]
section
variable {O : List (List Nat)} {Ws : List (Nat × List Nat)} {m : Mem} {tn : List Nat}
theorem loop_test {S : SO} {A : List Nat} {k n : Nat} {M : Mem} : tVal (eOp (eqD true) (eVar 6) (eLst aNil)) (lE O Ws tn k n (Fl O tn S A) none none none none) M = some ((nextT O tn S A).isSome, M) := by
  have h : (nextT O tn S A).isSome = !(Fl O tn S A).isEmpty := by
    rw [← Fl_head]
    cases Fl O tn S A <;> rfl
  rw [h]
  have e : eLst aNil (lE O Ws tn k n (Fl O tn S A) none none none none) M = some (.f (.lst []), M) := by simp [eLst, aNil]
  exact val_at (op_at (var_v (ρ := lE O Ws tn k n (Fl O tn S A) none none none none) (i := 6) rfl M) e rfl rfl (ne_nil _))
theorem loop_L (ok : OkS O Ws) (lt : ∀ t ∈ tn, t < O.length) (hl : tn.length ≤ 1000) (s0 : Ga.TT) (I0 : InvT O Ws s0 ∧ Rch O Ws tn s0) :
    ∃ s : Ga.TT, InvT O Ws s ∧ Rch O Ws tn s ∧ nextT O tn s.S s.A = none ∧ sWhile (tVal (eOp (eqD true) (eVar 6) (eLst aNil))) L_asked_by_thrones_1 [7, 8, 9, 10] (lE O Ws tn m.length O.length (Fl O tn s0.S s0.A) none none none none) (lM m s0.S (lfs O s0.A) s0.Q) =
      some (.nx, lE O Ws tn m.length O.length (Fl O tn s.S s.A) none none none none, lM m s.S (lfs O s.A) s.Q) := by
  obtain ⟨s, I, tst, e⟩ := while_fold (t := tVal (eOp (eqD true) (eVar 6) (eLst aNil))) (b := L_asked_by_thrones_1) (dd := [7, 8, 9, 10]) (fun s : Ga.TT => lE O Ws tn m.length O.length (Fl O tn s.S s.A) none none none none) (fun s => lM m s.S (lfs O s.A) s.Q)
    (fun s => (nextT O tn s.S s.A).isSome) (fun s => nxs O Ws tn s) (fun s => InvT O Ws s ∧ Rch O Ws tn s) (fun s => rem O s.A)
    (fun s I => loop_test)
    (fun s I tst => by
      obtain ⟨t, hn⟩ := Option.isSome_iff_exists.mp tst
      obtain ⟨h1, h2, h3⟩ := next_some hn
      obtain ⟨I', r', _⟩ := I.1.step ok (lt t h1) h2 h3
      obtain ⟨Y, k⟩ := turn_L (m := m) ok lt hl I.1 hn
      have hr := I.2.step tst
      have hg : nxs O Ws tn s = stpT O Ws s t := by unfold nxs; rw [hn]; rfl
      rw [hg] at hr ⊢
      exact ⟨⟨I', hr⟩, r', _, k, rfl⟩) s0 I0
  exact ⟨s, I.1, I.2, by simpa using tst, e⟩
def liN (o : List Nat) : List Int := o.map fun n : Nat => (n : Int)
theorem liM_q (o : List Nat) : liM (liN o) = .lst (o.map nD) := by
  unfold liM liN
  rw [q_ints]
theorem ll_spec {a0 a1 a2 a3 : Option W} (m : Mem) : ∀ Os : List (List Nat), llX (gN 11) (eCB listD (aCons (eFg (eVar 11)) aNil)) [a0, a1, a2, a3, none, none, none, none, none, none, none, none] m (Os.map qN) = some (Os.map liN)
  | [] => rfl
  | o :: Os => by
    have ih := ll_spec (a0 := a0) (a1 := a1) (a2 := a2) (a3 := a3) m Os
    have g : gN 11 (qN o) [a0, a1, a2, a3, none, none, none, none, none, none, none, none] = some [a0, a1, a2, a3, none, none, none, none, none, none, none, some (.v (qN o))] := rfl
    have e : eCB listD (aCons (eFg (eVar 11)) aNil) [a0, a1, a2, a3, none, none, none, none, none, none, none, some (.v (qN o))] m = some (.f (.lst (o.map nD)), m) := rfl
    have a : allI (o.map nD) = some (liN o) := by rw [q_ints]; exact Ga.allI_of _
    rw [List.map_cons, llX, g]
    simp only [Option.bind_some]
    rw [e]
    simp only [Option.bind_some, if_true]
    rw [a, ih]
    rfl
theorem lfs_0 : (O.map liN).map liM = lfs O (List.replicate O.length 0) := by
  refine List.ext_getElem? fun i => ?_
  by_cases hi : i < O.length
  · rw [lfs_at hi, List.getElem?_map, List.getElem?_map, od_at hi]
    unfold lf
    have : (List.replicate O.length 0).getD i 0 = 0 := by
      rw [List.getD_eq_getElem?_getD, List.getElem?_replicate]
      split <;> rfl
    rw [this, List.drop_zero]
    show some (liM (liN (od O i))) = _
    rw [liM_q]
  · rw [List.getElem?_eq_none (by simpa using hi), List.getElem?_eq_none (by rw [lfs_len]; omega)]
theorem some_2 {Q : List Ga.Ask} (lt : ∀ t ∈ tn, t < O.length) (hl : tn.length ≤ 1000) :
    E_asked_by_thrones_2 [some (.v (oD O)), some (.v (wD Ws)), some (.v (.tup (tn.map nD))), some (.r m.length), some (.r (m.length + 1 + O.length)), some (.r (m.length + 2 + O.length)), none, none, none, none, none, none] (lM m (List.replicate O.length none) (lfs O (List.replicate O.length 0)) Q) = some (.f (.lst ((Fl O tn (List.replicate O.length none) (List.replicate O.length 0)).map nD)), lM m (List.replicate O.length none) (lfs O (List.replicate O.length 0)) Q) :=
  lc_map (src := iSeq (eVar 2)) (t := gN 7) (vs := [7]) (ρ := [some (.v (oD O)), some (.v (wD Ws)), some (.v (.tup (tn.map nD))), some (.r m.length), some (.r (m.length + 1 + O.length)), some (.r (m.length + 2 + O.length)), none, none, none, none, none, none]) tn nD (asksT O (List.replicate O.length none) (List.replicate O.length 0)) nD (by simp [iSeq, eVar])
    (fun t h => ⟨_, rfl, by
      have l := left_test (m := m) (O := O) (S := List.replicate O.length none) (A := List.replicate O.length 0) (Q := Q) (t := t) (ρ := [some (.v (oD O)), some (.v (wD Ws)), some (.v (.tup (tn.map nD))), some (.r m.length), some (.r (m.length + 1 + O.length)), some (.r (m.length + 2 + O.length)), none, some (.v (nD t)), none, none, none, none]) (by rw [lfs_len]; rfl) rfl (lt t h)
      have e : asksT O (List.replicate O.length none) (List.replicate O.length 0) t = decide ((List.replicate O.length 0).getD t 0 < (od O t).length) := by
        unfold asksT
        have : (List.replicate O.length (none : Option Nat)).getD t none = none := by
          rw [List.getD_eq_getElem?_getD, List.getElem?_replicate]
          split <;> rfl
        rw [this]; rfl
      rw [e]
      exact l, fun _ => ⟨.v (nD t), rfl, rfl⟩⟩) (by omega)
theorem asked_spec (ok : OkS O Ws) (lt : ∀ t ∈ tn, t < O.length) (hl : tn.length ≤ 1000) (m : Mem) :
    ∃ s : Ga.TT, InvT O Ws s ∧ Rch O Ws tn s ∧ nextT O tn s.S s.A = none ∧ F_asked_by_thrones [.v (oD O), .v (wD Ws), .v (.tup (tn.map nD))] m = some (.v (.tup [.tup (sL s.S), .tup (s.Q.map askD)]), m) := by
  obtain ⟨s, I, R, nn, e⟩ := loop_L (m := m) ok lt hl (st0 O) ⟨Ga.start_inv ok, Rch.start⟩
  refine ⟨s, I, R, nn, ?_⟩
  have q1 : sSet 3 (eOwn (eOp mulD (eLst (aCons (eUn negD (eC (.int 1))) aNil)) (eCB lenD (aCons (eVar 0) aNil)))) [some (.v (oD O)), some (.v (wD Ws)), some (.v (.tup (tn.map nD))), none, none, none, none, none, none, none, none, none] m =
      some (.nx, [some (.v (oD O)), some (.v (wD Ws)), some (.v (.tup (tn.map nD))), some (.r m.length), none, none, none, none, none, none, none, none], m ++ [.lst (sL (List.replicate O.length none))]) :=
    set_own (rep_at (n := O.length) (d := .int (-1)) (by simp [eLst, aCons, aNil, eUn, eC, negD]) (by simp [aCons, aNil, eCB, eVar]) (rep_n (by have := ok.n1; omega) (by show (List.replicate O.length none).map oN = _; rw [List.map_replicate]; rfl)))
  have q2 : sSet 4 (eLlI (iSeq (eVar 0)) (gN 11) (eCB listD (aCons (eFg (eVar 11)) aNil)) [11]) [some (.v (oD O)), some (.v (wD Ws)), some (.v (.tup (tn.map nD))), some (.r m.length), none, none, none, none, none, none, none, none] (m ++ [.lst (sL (List.replicate O.length none))]) =
      some (.nx, [some (.v (oD O)), some (.v (wD Ws)), some (.v (.tup (tn.map nD))), some (.r m.length), some (.r (m.length + 1 + O.length)), none, none, none, none, none, none, none], m ++ (.lst (sL (List.replicate O.length none)) :: (lfs O (List.replicate O.length 0) ++ [.rl (m.length + 1) O.length]))) := by
    have ls := ll_spec (a0 := some (.v (oD O))) (a1 := some (.v (wD Ws))) (a2 := some (.v (.tup (tn.map nD)))) (a3 := some (.r m.length)) (m ++ [.lst (sL (List.replicate O.length none))]) O
    have e1 : eLlI (iSeq (eVar 0)) (gN 11) (eCB listD (aCons (eFg (eVar 11)) aNil)) [11] [some (.v (oD O)), some (.v (wD Ws)), some (.v (.tup (tn.map nD))), some (.r m.length), none, none, none, none, none, none, none, none] (m ++ [.lst (sL (List.replicate O.length none))]) = some (.r (m.length + 1 + O.length), m ++ (.lst (sL (List.replicate O.length none)) :: (lfs O (List.replicate O.length 0) ++ [.rl (m.length + 1) O.length]))) := by
      have s1 : iSeq (eVar 0) [some (.v (oD O)), some (.v (wD Ws)), some (.v (.tup (tn.map nD))), some (.r m.length), none, none, none, none, none, none, none, none] (m ++ [.lst (sL (List.replicate O.length none))]) = some (.seq (O.map qN), m ++ [.lst (sL (List.replicate O.length none))]) := by simp [iSeq, eVar]
      have hn : (O.map qN).length ≤ 1000000 := by have := ok.n1; simp; omega
      unfold eLlI
      rw [s1]
      simp only [Option.bind_some, items_seq]
      refine (congrArg (fun x => Option.bind x _) ls).trans ?_
      simp only [Option.bind_some]
      rw [if_pos hn, lfs_0]
      simp
    exact set_at e1
  have q3 : sSet 5 (eOwn (eLst aNil)) [some (.v (oD O)), some (.v (wD Ws)), some (.v (.tup (tn.map nD))), some (.r m.length), some (.r (m.length + 1 + O.length)), none, none, none, none, none, none, none] (m ++ (.lst (sL (List.replicate O.length none)) :: (lfs O (List.replicate O.length 0) ++ [.rl (m.length + 1) O.length]))) =
      some (.nx, [some (.v (oD O)), some (.v (wD Ws)), some (.v (.tup (tn.map nD))), some (.r m.length), some (.r (m.length + 1 + O.length)), some (.r (m.length + 2 + O.length)), none, none, none, none, none, none], lM m (st0 O).S (lfs O (st0 O).A) (st0 O).Q) := by
    have := set_own (i := 5) (ρ := [some (.v (oD O)), some (.v (wD Ws)), some (.v (.tup (tn.map nD))), some (.r m.length), some (.r (m.length + 1 + O.length)), none, none, none, none, none, none, none]) (a := eLst aNil) (ds := []) (m := m ++ (.lst (sL (List.replicate O.length none)) :: (lfs O (List.replicate O.length 0) ++ [.rl (m.length + 1) O.length]))) (m1 := m ++ (.lst (sL (List.replicate O.length none)) :: (lfs O (List.replicate O.length 0) ++ [.rl (m.length + 1) O.length]))) (by simp [eLst, aNil])
    rw [this]
    have hlen : (m ++ (MO.lst (sL (List.replicate O.length none)) :: (lfs O (List.replicate O.length 0) ++ [.rl (m.length + 1) O.length]))).length = m.length + 2 + O.length := by
      simp only [List.length_append, List.length_cons, lfs_len, List.length_nil]; omega
    rw [hlen]
    unfold lM st0
    rw [lfs_len]
    simp
  have q4 := some_2 (O := O) (Ws := Ws) (m := m) (tn := tn) (Q := []) lt hl
  have q5 : sRet (eTup (aCons (eCB tupleD (aCons (eVar 3) aNil)) (aCons (eCB tupleD (aCons (eVar 5) aNil)) aNil))) (lE O Ws tn m.length O.length (Fl O tn s.S s.A) none none none none) (lM m s.S (lfs O s.A) s.Q) = some (.ret (.v (.tup [.tup (sL s.S), .tup (s.Q.map askD)])), lE O Ws tn m.length O.length (Fl O tn s.S s.A) none none none none, lM m s.S (lfs O s.A) s.Q) := by
    have g1 : gt (.r m.length) (lM m s.S (lfs O s.A) s.Q) = some (.lst (sL s.S)) := by rw [gt_r, g_S]; rfl
    have g2 : gt (.r (m.length + 2 + O.length)) (lM m s.S (lfs O s.A) s.Q) = some (.lst (s.Q.map askD)) := by
      have := g_Q (m := m) (S := s.S) (Ls := lfs O s.A) (Q := s.Q)
      rw [lfs_len] at this
      rw [gt_r, this]; rfl
    generalize lM m s.S (lfs O s.A) s.Q = M at *
    generalize s.Q.map askD = QD at *
    generalize sL s.S = SD at *
    simp [sRet, eTup, aCons, aNil, eCB, eVar, g1, g2, tupleD, vl, -gt_r]
  have tk : (lM m s.S (lfs O s.A) s.Q).take m.length = m := by unfold lM; simp
  refine run_at (ρ := lE O Ws tn m.length O.length (Fl O tn s.S s.A) none none none none) (M := lM m s.S (lfs O s.A) s.Q) rfl ?_ tk
  exact seq_at q1 (seq_at q2 (seq_at q3 (seq_at (set_at q4) (seq_at e q5))))
theorem itr_words : ∀ (k : Nat) (a : Ga.Ask), a ∈ (itr O Ws tn k).Q → a.2.2 = "no" ∨ a.2.2 = "takes" ∨ a.2.2 = "turns"
  | 0, a, h => nomatch h
  | k + 1, a, h => by
    rcases List.mem_append.mp h with z | z
    · exact itr_words k a z
    · rw [List.mem_singleton.mp z]
      exact Ga.word_of
theorem ask_gd {a : Ga.Ask} (h : a.2.2 = "no" ∨ a.2.2 = "takes" ∨ a.2.2 = "turns") : Lq.gd 1 (askD a) = true := by
  refine Lq.gd_t (Lq.gd_cons Lq.gd_i (Lq.gd_cons Lq.gd_i (Lq.gd_cons ?_ Lq.gd_nil)))
  obtain ⟨t, w, x⟩ := a
  dsimp only at h ⊢
  rcases h with rfl | rfl | rfl <;> (rw [Lq.gd]; decide +kernel)
theorem q_plain : K72.F_is_plain = FP (FP (FP (FP K72.F_is_plain_r0))) := rfl
theorem right_spec (ok : OkS O Ws) (lt : ∀ t ∈ tn, t < O.length) (hl : tn.length ≤ 1000) (m : Mem) : F_right [.v (oD O), .v (wD Ws), .v (.tup (tn.map nD))] m = some (.v (.bl true), m) := by
  obtain ⟨s, I, R, nn, e⟩ := by_thrones_spec ok lt m
  obtain ⟨s', I', R', nn', e'⟩ := asked_spec ok lt hl m
  obtain rfl := R.same R' nn nn'
  obtain ⟨k, hk, _⟩ := R
  have hw : ∀ a ∈ s.Q, a.2.2 = "no" ∨ a.2.2 = "takes" ∨ a.2.2 = "turns" := fun a ha => itr_words (O := O) (Ws := Ws) (tn := tn) k a (by rw [← hk]; exact ha)
  have g : Lq.gd 3 (.tup [.tup (sL s.S), .tup (s.Q.map askD)]) = true := Lq.gd_t (Lq.gd_cons (Lq.gd_t (Lq.gds_map fun _ _ => Lq.gd_i)) (Lq.gd_cons (Lq.gd_t (Lq.gds_map fun a ha => ask_gd (hw a ha))) Lq.gd_nil))
  have eq := Lq.eq_same (neg := false) g (by decide) rfl
  have p : F_is_plain [.v (.tup [.tup (sL s.S), .tup (s.Q.map askD)])] m = some (.v (.bl true), m) := by
    rw [q_plain]
    refine plainT (by simp) m fun d hd => ?_
    simp only [List.mem_cons, List.not_mem_nil, or_false] at hd
    rcases hd with rfl | rfl
    · refine plainT (by have := I.lS; have := ok.n1; simp; omega) m fun d hd => ?_
      obtain ⟨x, _, rfl⟩ := List.mem_map.mp hd
      exact plainI _ _ m
    · refine plainT (by have := I.hq; simp; omega) m fun d hd => ?_
      obtain ⟨x, _, rfl⟩ := List.mem_map.mp hd
      refine plainT (by simp) m fun d hd => ?_
      simp only [List.mem_cons, List.not_mem_nil, or_false] at hd
      rcases hd with rfl | rfl | rfl
      · exact plainI _ _ m
      · exact plainI _ _ m
      · exact plainS _ _ m
  generalize D.tup [.tup (sL s.S), .tup (s.Q.map askD)] = X at *
  simp only [oD, wD] at *
  generalize O.map qN = OD at *
  generalize Ws.map Ga.wE = WD at *
  generalize tn.map nD = TD at *
  have q1 : sSet 3 (eCall F_by_thrones (aCons (eVar 0) (aCons (eVar 1) (aCons (eVar 2) aNil)))) [some (.v (.tup OD)), some (.v (.tup WD)), some (.v (.tup TD)), none] m = some (.nx, [some (.v (.tup OD)), some (.v (.tup WD)), some (.v (.tup TD)), some (.v X)], m) :=
    set_at (w := .v X) (call_at (f := aCons (eVar 0) (aCons (eVar 1) (aCons (eVar 2) aNil))) (ws := [.v (.tup OD), .v (.tup WD), .v (.tup TD)]) rfl e)
  have q2 : eOp (eqD false) (eVar 3) (eCall F_asked_by_thrones (aCons (eVar 0) (aCons (eVar 1) (aCons (eVar 2) aNil)))) [some (.v (.tup OD)), some (.v (.tup WD)), some (.v (.tup TD)), some (.v X)] m = some (.v (.bl true), m) :=
    op_at (wa := .v X) (m1 := m) rfl (call_at (f := aCons (eVar 0) (aCons (eVar 1) (aCons (eVar 2) aNil))) (ws := [.v (.tup OD), .v (.tup WD), .v (.tup TD)]) rfl e') rfl rfl eq
  have q3 : eCall F_is_plain (aCons (eVar 3) aNil) [some (.v (.tup OD)), some (.v (.tup WD)), some (.v (.tup TD)), some (.v X)] m = some (.v (.bl true), m) := call_at (f := aCons (eVar 3) aNil) (ws := [.v X]) rfl p
  refine run_at (ρ := [some (.v (.tup OD)), some (.v (.tup WD)), some (.v (.tup TD)), some (.v X)]) (M := m) rfl (seq_at q1 ?_) (by simp)
  show sRet _ [some (.v (.tup OD)), some (.v (.tup WD)), some (.v (.tup TD)), some (.v X)] m = _
  unfold sRet eAnd
  rw [val_at q2]
  simp only [Option.bind_some, if_true]
  rw [q3]; rfl
end
end K72
end
section
set_option Elab.async false
set_option linter.all false
set_option maxRecDepth 100000
set_option maxHeartbeats 4000000
namespace K72
open PySem L2 Pw Pv Lx Ls
open Gs (At St Rest)
open Lg (kdA getA putA val_kdA put_kdA getA_put)
open Ga (qN oD wD sI oN sL SO OkS od wl InvT at_k getD_at od_at in_q in_S idx_q idx_SL run_at if_at if_no drop_at put_at Wis sI_inj sI_neg askD nextT stpT who wrd posOf swp ansW rem next_some rep_at rep_n dearer q_ints isLA_S x1_ x1s y1_ y2_ y2s)
section
variable {ns : List Int} {s : Lx.St} {m : Mem}
theorem take_int' {b : Int} (h : 0 < b) (h2 : b ≤ 1000000) (m : Mem) : ∃ (c : Int) (s' : Lx.St), K72.F_l_take [.r 0, .v (.int b)] (stD ns s :: m) = some (.v (.int c), stD ns s' :: m) ∧ 0 ≤ c ∧ c < b := Lo.take_int h h2 m
theorem take_nat' {n : Nat} (h : 1 ≤ n) (h2 : n ≤ 1000000) (m : Mem) : ∃ (c : Nat) (s' : Lx.St), K72.F_l_take [.r 0, .v (nD n)] (stD ns s :: m) = some (.v (nD c), stD ns s' :: m) ∧ c < n := Lo.take_nat h h2 m
theorem drawn_n {P : List Nat} (nd : P.Nodup) (hl : P.length ≤ 100) {many : Int} (h0 : 0 ≤ many) (h1 : many ≤ 100) (m : Mem) :
    ∃ (o : List Nat) (s' : Lx.St), K72.F_drawn_order [.r 0, .v (.lst (P.map nD)), .v (.int many)] (stD ns s :: m) = some (.v (qN o), stD ns s' :: m) ∧ o.Nodup ∧ (∀ x ∈ o, x ∈ P) ∧ o.length ≤ P.length ∧ ((P.length : Int) ≤ many → ∀ x ∈ P, x ∈ o) ∧ (o.length : Int) ≤ many := by
  obtain ⟨ys, rest, s', e, pm, hy⟩ := Lu.drawn_spec (ns := ns) (s := s) (xs := P.map fun n : Nat => (n : Int)) (by simp; omega) (pool := .lst (P.map nD)) (.inl (by rw [q_ints])) h0 (by omega) m
  have sub : ∀ y ∈ ys, y ∈ P.map fun n : Nat => (n : Int) := fun y hy => pm.mem_iff.mp (List.mem_append_left _ hy)
  obtain ⟨o, rfl⟩ := Ga.nat_of sub
  have inj : ∀ {L : List Nat}, (L.map fun n : Nat => (n : Int)).Nodup ↔ L.Nodup := fun {L} => by
    unfold List.Nodup
    rw [List.pairwise_map]
    constructor <;> intro h <;> refine h.imp fun z => ?_
    · intro y; exact z (by rw [y])
    · intro y; exact z (by omega)
  have nd2 : ((o.map fun n : Nat => (n : Int)) ++ rest).Nodup := pm.nodup_iff.mpr (inj.mpr nd)
  have nd3 : o.Nodup := inj.mp (List.nodup_append.mp nd2).1
  have sub2 : ∀ x ∈ o, x ∈ P := fun x hx => by
    obtain ⟨n, h1, h2⟩ := List.mem_map.mp (sub x (List.mem_map.mpr ⟨x, hx, rfl⟩))
    have : n = x := by omega
    exact this ▸ h1
  have le := Gs.len_sub nd3 sub2
  have e : K72.F_drawn_order [.r 0, .v (.lst (P.map nD)), .v (.int many)] (stD ns s :: m) = some (.v (Lu.tX (o.map fun n : Nat => (n : Int))), stD ns s' :: m) := e
  refine ⟨o, s', ?_, nd3, sub2, le, fun big => ?_, ?_⟩
  · rw [e]
    show some (W.v (.tx ((o.map fun n : Nat => (n : Int)).map D.int)), _) = _
    rw [← q_ints]
  · refine Gs.sub_eq nd3 sub2 ?_
    simp only [List.length_map] at hy
    omega
  · simp only [List.length_map] at hy
    omega
theorem order_turn {P : List Nat} (nd : P.Nodup) (hl : P.length ≤ 50) {a b : D} {i : Nat} {Os : List (List Nat)} (hO : Os.length ≤ 100) :
    ∃ (s' : Lx.St) (o : List Nat) (w : W), K72.L_thrones_2 [some (.r 0), some (.v a), some (.v b), some (.v (.lst (P.map nD))), some (.r (m.length + 1)), some (.v (nD i)), none, none, none] (stD ns s :: (m ++ [.lst (Os.map qN)])) =
      some (.nx, [some (.r 0), some (.v a), some (.v b), some (.v (.lst (P.map nD))), some (.r (m.length + 1)), some (.v (nD i)), none, none, some w], stD ns s' :: (m ++ [.lst ((Os ++ [o]).map qN)])) ∧ o.Nodup ∧ o.length ≤ P.length ∧ ∀ x ∈ o, x ∈ P := by
  obtain ⟨c1, s1, t1, l1, h1⟩ := take_int' (ns := ns) (s := s) (b := (P.length : Int) + 1) (by omega) (by omega) (m ++ [.lst (Os.map qN)])
  obtain ⟨j, s2, t2, l2, h2⟩ := take_int' (ns := ns) (s := s1) (b := 4) (by decide) (by decide) (m ++ [.lst (Os.map qN)])
  obtain ⟨z, hz, z0, z1⟩ : ∃ z : Int, atI [D.int (P.length : Int), .int (P.length : Int), .int c1, .int 1] j = some (.int z) ∧ 0 ≤ z ∧ z ≤ 100 := by
    have : j = 0 ∨ j = 1 ∨ j = 2 ∨ j = 3 := by omega
    rcases this with rfl | rfl | rfl | rfl
    · exact ⟨_, rfl, by omega, by omega⟩
    · exact ⟨_, rfl, by omega, by omega⟩
    · exact ⟨_, rfl, by omega, by omega⟩
    · exact ⟨_, rfl, by omega, by omega⟩
  obtain ⟨o, s3, e3, n3, m3, k3, _, _⟩ := drawn_n (ns := ns) (s := s2) nd (by omega) z0 z1 (m ++ [.lst (Os.map qN)])
  have ln : lenD [.lst (P.map nD)] = some (.v (.int (P.length : Int))) := by simp
  refine ⟨s3, o, .v (.int z), ?_, n3, k3, m3⟩
  have q1 : sSet 8 (eOp ixD (eLst (aCons (eCB lenD (aCons (eVar 3) aNil)) (aCons (eCB lenD (aCons (eVar 3) aNil)) (aCons (eCall K72.F_l_take (aCons (eVar 0) (aCons (eOp addD (eCB lenD (aCons (eVar 3) aNil)) (eC (.int 1))) aNil))) (aCons (eC (.int 1)) aNil))))) (eCall K72.F_l_take (aCons (eVar 0) (aCons (eC (.int 4)) aNil)))) [some (.r 0), some (.v a), some (.v b), some (.v (.lst (P.map nD))), some (.r (m.length + 1)), some (.v (nD i)), none, none, none] (stD ns s :: (m ++ [.lst (Os.map qN)])) =
      some (.nx, [some (.r 0), some (.v a), some (.v b), some (.v (.lst (P.map nD))), some (.r (m.length + 1)), some (.v (nD i)), none, none, some (.v (.int z))], stD ns s2 :: (m ++ [.lst (Os.map qN)])) := by
    generalize P.map nD = PD at *
    generalize m ++ [MO.lst (Os.map qN)] = M at *
    simp [sSet, eOp, eLst, aCons, aNil, eCB, eVar, ln, eCall, t1, eC, t2, hz]
  have q2 : sDrop (eMt isLst appD (eVar 4) (aCons (eCall K72.F_drawn_order (aCons (eVar 0) (aCons (eVar 3) (aCons (eVar 8) aNil)))) aNil)) [some (.r 0), some (.v a), some (.v b), some (.v (.lst (P.map nD))), some (.r (m.length + 1)), some (.v (nD i)), none, none, some (.v (.int z))] (stD ns s2 :: (m ++ [.lst (Os.map qN)])) =
      some (.nx, [some (.r 0), some (.v a), some (.v b), some (.v (.lst (P.map nD))), some (.r (m.length + 1)), some (.v (nD i)), none, none, some (.v (.int z))], stD ns s3 :: (m ++ [.lst ((Os ++ [o]).map qN)])) := by
    have il : isLst (.r (m.length + 1)) (stD ns s2 :: (m ++ [.lst (Os.map qN)])) = true := by rw [isl_r, x1_]
    have ap : appD (.r (m.length + 1)) [.v (qN o)] (stD ns s3 :: (m ++ [.lst (Os.map qN)])) = some (.v .non, stD ns s3 :: (m ++ [.lst ((Os ++ [o]).map qN)])) := by
      have hl' : (Os.map qN).length < 1000000 := by rw [List.length_map]; omega
      unfold appD
      simp only [x1_, vl, Option.bind_some]
      rw [if_pos hl', x1s, List.map_append]; rfl
    generalize stD ns s3 :: (m ++ [.lst ((Os ++ [o]).map qN)]) = M9 at *
    generalize stD ns s2 :: (m ++ [MO.lst (Os.map qN)]) = M at *
    refine drop_at (w := .v .non) ?_
    simp [eMt, eVar, il, aCons, eCall, aNil, e3, ap]
  exact seq_at q1 q2
theorem wish_turn {a b p : D} {w : Nat} {Os : List (List Nat)} {Wl : List (Nat × List Nat)} (hO : Os.length ≤ 50) (hW : Wl.length ≤ 1000) :
    ∃ (s' : Lx.St) (Wn : List (Nat × List Nat)) (ρ : Pw.Env), K72.L_thrones_1 [some (.r 0), some (.v a), some (.v b), some (.v p), some (.r (m.length + 1)), none, some (.r (m.length + 2)), some (.v (nD w)), none] (stD ns s :: (m ++ [.lst (Os.map qN), .lst (Wl.map Ga.wE)])) =
      some (.nx, ρ, stD ns s' :: (m ++ [.lst (Os.map qN), .lst ((Wl ++ Wn).map Ga.wE)])) ∧ wipeD ρ [7, 8] = [some (.r 0), some (.v a), some (.v b), some (.v p), some (.r (m.length + 1)), none, some (.r (m.length + 2)), none, none] ∧
      (Wn = [] ∨ ∃ ts, Wn = [(w, ts)] ∧ ts.Nodup ∧ ∀ t ∈ ts, t < Os.length) := by
  obtain ⟨c0, s0, t0, l0, h0⟩ := take_int' (ns := ns) (s := s) (b := 8) (by decide) (by decide) (m ++ [.lst (Os.map qN), .lst (Wl.map Ga.wE)])
  have z0 : (eCall K72.F_l_take (aCons (eVar 0) (aCons (eC (.int 8)) aNil))) [some (.r 0), some (.v a), some (.v b), some (.v p), some (.r (m.length + 1)), none, some (.r (m.length + 2)), some (.v (nD w)), none] (stD ns s :: (m ++ [.lst (Os.map qN), .lst (Wl.map Ga.wE)])) = some (.v (.int c0), stD ns s0 :: (m ++ [.lst (Os.map qN), .lst (Wl.map Ga.wE)])) :=
    call_at (f := aCons (eVar 0) (aCons (eC (.int 8)) aNil)) (ws := [.r 0, .v (.int 8)]) rfl t0
  have z1 : tVal (eOp (cmpD gtI) (eCall K72.F_l_take (aCons (eVar 0) (aCons (eC (.int 8)) aNil))) (eC (.int 0))) [some (.r 0), some (.v a), some (.v b), some (.v p), some (.r (m.length + 1)), none, some (.r (m.length + 2)), some (.v (nD w)), none] (stD ns s :: (m ++ [.lst (Os.map qN), .lst (Wl.map Ga.wE)])) = some (decide (c0 > 0), stD ns s0 :: (m ++ [.lst (Os.map qN), .lst (Wl.map Ga.wE)])) := by
    unfold tVal
    rw [op_at (wa := .v (.int c0)) (x := .int c0) (wb := .v (.int 0)) (y := .int 0) (w := .v (.bl (decide (c0 > 0)))) z0 rfl rfl rfl (by simp [cmpD, gtI])]
    rfl
  by_cases hc : c0 > 0
  · rw [decide_eq_true hc] at z1
    obtain ⟨c1, s1, t1, l1, h1⟩ := take_int' (ns := ns) (s := s0) (b := (Os.length : Int) + 1) (by omega) (by omega) (m ++ [.lst (Os.map qN), .lst (Wl.map Ga.wE)])
    obtain ⟨j, s2, t2, l2, h2⟩ := take_int' (ns := ns) (s := s1) (b := 3) (by decide) (by decide) (m ++ [.lst (Os.map qN), .lst (Wl.map Ga.wE)])
    obtain ⟨z, hz, zz0, zz1⟩ : ∃ z : Int, atI [D.int (Os.length : Int), .int (Os.length : Int), .int c1] j = some (.int z) ∧ 0 ≤ z ∧ z ≤ 100 := by
      have : j = 0 ∨ j = 1 ∨ j = 2 := by omega
      rcases this with rfl | rfl | rfl
      · exact ⟨_, rfl, by omega, by omega⟩
      · exact ⟨_, rfl, by omega, by omega⟩
      · exact ⟨_, rfl, by omega, by omega⟩
    obtain ⟨ts, s3, e3, n3, m3, k3, _, _⟩ := drawn_n (ns := ns) (s := s2) (P := List.range Os.length) List.nodup_range (by simp; omega) zz0 zz1 (m ++ [.lst (Os.map qN), .lst (Wl.map Ga.wE)])
    refine ⟨s3, [(w, ts)], [some (.r 0), some (.v a), some (.v b), some (.v p), some (.r (m.length + 1)), none, some (.r (m.length + 2)), some (.v (nD w)), none], ?_, rfl, .inr ⟨ts, rfl, n3, fun t ht => List.mem_range.mp (m3 t ht)⟩⟩
    have lr : lrgD (.int (Os.length : Int)) = some (.f (.lst ((List.range Os.length).map nD))) := by
      have : (Os.length : Int) ≤ 1000000 := by omega
      simp [lrgD, this]
    have ln : ∀ s, gt (.r (m.length + 1)) (stD ns s :: (m ++ [.lst (Os.map qN), .lst (Wl.map Ga.wE)])) = some (.lst (Os.map qN)) := fun s => by rw [gt_r, y1_]; rfl
    have ll : lenD [.lst (Os.map qN)] = some (.v (.int (Os.length : Int))) := by simp
    have q1 : sSet 8 (eOp ixD (eLst (aCons (eCB lenD (aCons (eVar 4) aNil)) (aCons (eCB lenD (aCons (eVar 4) aNil)) (aCons (eCall K72.F_l_take (aCons (eVar 0) (aCons (eOp addD (eCB lenD (aCons (eVar 4) aNil)) (eC (.int 1))) aNil))) aNil)))) (eCall K72.F_l_take (aCons (eVar 0) (aCons (eC (.int 3)) aNil)))) [some (.r 0), some (.v a), some (.v b), some (.v p), some (.r (m.length + 1)), none, some (.r (m.length + 2)), some (.v (nD w)), none] (stD ns s0 :: (m ++ [.lst (Os.map qN), .lst (Wl.map Ga.wE)])) =
        some (.nx, [some (.r 0), some (.v a), some (.v b), some (.v p), some (.r (m.length + 1)), none, some (.r (m.length + 2)), some (.v (nD w)), some (.v (.int z))], stD ns s2 :: (m ++ [.lst (Os.map qN), .lst (Wl.map Ga.wE)])) := by
      have l0 := ln s0
      generalize Os.map qN = OD at *
      generalize m ++ [MO.lst OD, .lst (Wl.map Ga.wE)] = M at *
      simp [sSet, eOp, eLst, aCons, aNil, eCB, eVar, l0, ll, eCall, t1, eC, t2, hz, -gt_r]
    have q2 : sDrop (eMt isLst appD (eVar 6) (aCons (eTup (aCons (eVar 7) (aCons (eCall K72.F_drawn_order (aCons (eVar 0) (aCons (eUn lrgD (eCB lenD (aCons (eVar 4) aNil))) (aCons (eVar 8) aNil)))) aNil))) aNil)) [some (.r 0), some (.v a), some (.v b), some (.v p), some (.r (m.length + 1)), none, some (.r (m.length + 2)), some (.v (nD w)), some (.v (.int z))] (stD ns s2 :: (m ++ [.lst (Os.map qN), .lst (Wl.map Ga.wE)])) =
        some (.nx, [some (.r 0), some (.v a), some (.v b), some (.v p), some (.r (m.length + 1)), none, some (.r (m.length + 2)), some (.v (nD w)), some (.v (.int z))], stD ns s3 :: (m ++ [.lst (Os.map qN), .lst ((Wl ++ [(w, ts)]).map Ga.wE)])) := by
      have il : isLst (.r (m.length + 2)) (stD ns s2 :: (m ++ [.lst (Os.map qN), .lst (Wl.map Ga.wE)])) = true := by rw [isl_r, y2_]
      have ap : appD (.r (m.length + 2)) [.v (.tup [nD w, qN ts])] (stD ns s3 :: (m ++ [.lst (Os.map qN), .lst (Wl.map Ga.wE)])) = some (.v .non, stD ns s3 :: (m ++ [.lst (Os.map qN), .lst ((Wl ++ [(w, ts)]).map Ga.wE)])) := by
        have hl' : (Wl.map Ga.wE).length < 1000000 := by rw [List.length_map]; omega
        unfold appD
        simp only [y2_, vl, Option.bind_some]
        rw [if_pos hl', y2s, List.map_append]; rfl
      have l2 := ln s2
      generalize stD ns s3 :: (m ++ [.lst (Os.map qN), .lst ((Wl ++ [(w, ts)]).map Ga.wE)]) = M9 at *
      generalize stD ns s3 :: (m ++ [.lst (Os.map qN), .lst (Wl.map Ga.wE)]) = M3 at *
      generalize stD ns s2 :: (m ++ [MO.lst (Os.map qN), .lst (Wl.map Ga.wE)]) = M at *
      refine drop_at (w := .v .non) ?_
      generalize Os.map qN = OD at *
      generalize (List.range Os.length).map nD = RD at *
      simp [eMt, eVar, il, aCons, eCall, aNil, eUn, eCB, l2, ll, lr, e3, eTup, vl, ap, -gt_r]
    unfold K72.L_thrones_1 sFog
    rw [if_at z1, seq_at q1 q2]
    rfl
  · rw [decide_eq_false hc] at z1
    refine ⟨s0, [], [some (.r 0), some (.v a), some (.v b), some (.v p), some (.r (m.length + 1)), none, some (.r (m.length + 2)), some (.v (nD w)), none], ?_, rfl, .inl rfl⟩
    unfold K72.L_thrones_1 sFog
    rw [if_no z1, List.append_nil]
    rfl
theorem thrones_spec {most many : Nat} (h1 : 1 ≤ most) (h2 : most ≤ 20) (h3 : many ≤ 20) (m : Mem) :
    ∃ (O : List (List Nat)) (Ws : List (Nat × List Nat)) (s' : Lx.St), K72.F_thrones [.r 0, .v (nD most), .v (nD many)] (stD ns s :: m) = some (.f (.lst [oD O, wD Ws]), stD ns s' :: m) ∧ OkS O Ws ∧ 1 ≤ O.length ∧ O.length ≤ most ∧ (∀ o ∈ O, o.length ≤ many) := by
  obtain ⟨o, s1, d1, ndo, _, _, _, lo⟩ := drawn_n (ns := ns) (s := s) (P := List.range 61) List.nodup_range (by simp) (many := (many : Int)) (by omega) (by omega) m
  obtain ⟨P, hP⟩ := Ga.nat_of (P := o) (ys := sortM iLt (liN o)) fun y hy => (sortM_perm _).mem_iff.mp hy
  have pm : (P.map fun n : Nat => (n : Int)).Perm (liN o) := by rw [← hP]; exact sortM_perm _
  have ndP : P.Nodup := by
    have inj : ∀ {L : List Nat}, (L.map fun n : Nat => (n : Int)).Nodup ↔ L.Nodup := fun {L} => by
      unfold List.Nodup
      rw [List.pairwise_map]
      constructor <;> intro h <;> refine h.imp fun z => ?_
      · intro y; exact z (by rw [y])
      · intro y; exact z (by omega)
    exact inj.mp (pm.nodup_iff.mpr (inj.mpr ndo))
  have lP : P.length ≤ many := by
    have := pm.length_eq
    unfold liN at this
    simp only [List.length_map] at this
    omega
  have so : sortBD [.tup (o.map nD)] = some (.f (.lst (P.map nD))) := by
    have := Lu.sort_ti (xs := liN o) (by unfold liN; rw [List.length_map]; omega)
    have e1 : Lq.tI (liN o) = .tup (o.map nD) := by show D.tup ((o.map fun n : Nat => (n : Int)).map D.int) = _; rw [← q_ints]
    have e2 : Lq.lI (sortM iLt (liN o)) = .lst (P.map nD) := by show D.lst ((sortM iLt (liN o)).map D.int) = _; rw [hP, ← q_ints]
    rw [e1, e2] at this
    exact this
  have q1 : sSet 3 (eCB sortBD (aCons (eFg (eCall F_drawn_order (aCons (eVar 0) (aCons (eUn lrgD (eC (.int 61))) (aCons (eVar 2) aNil))))) aNil)) [some (.r 0), some (.v (nD most)), some (.v (nD many)), none, none, none, none, none, none] (stD ns s :: m) =
      some (.nx, [some (.r 0), some (.v (nD most)), some (.v (nD many)), some (.v (.lst (P.map nD))), none, none, none, none, none], stD ns s1 :: m) := by
    have lr : lrgD (.int 61) = some (.f (.lst ((List.range 61).map nD))) := rfl
    have z1 : (aCons (eVar 0) (aCons (eUn lrgD (eC (.int 61))) (aCons (eVar 2) aNil))) [some (.r 0), some (.v (nD most)), some (.v (nD many)), none, none, none, none, none, none] (stD ns s :: m) = some ([.r 0, .v (.lst ((List.range 61).map nD)), .v (nD many)], stD ns s :: m) := by
      generalize (List.range 61).map nD = RD at *
      simp [aCons, aNil, eVar, eUn, eC, lr]
    have z2 : eFg (eCall F_drawn_order (aCons (eVar 0) (aCons (eUn lrgD (eC (.int 61))) (aCons (eVar 2) aNil)))) [some (.r 0), some (.v (nD most)), some (.v (nD many)), none, none, none, none, none, none] (stD ns s :: m) = some (.v (.tup (o.map nD)), stD ns s1 :: m) := by
      unfold eFg
      rw [call_at z1 d1]
      rfl
    have z3 : eCB sortBD (aCons (eFg (eCall F_drawn_order (aCons (eVar 0) (aCons (eUn lrgD (eC (.int 61))) (aCons (eVar 2) aNil))))) aNil) [some (.r 0), some (.v (nD most)), some (.v (nD many)), none, none, none, none, none, none] (stD ns s :: m) = some (.f (.lst (P.map nD)), stD ns s1 :: m) := by
      unfold eCB
      rw [Ga.one_at z2]
      simp only [Option.bind_some]
      rw [show gts [stl (W.v (.tup (o.map nD)))] (stD ns s1 :: m) = some [.tup (o.map nD)] from rfl]
      simp only [Option.bind_some]
      rw [so]; rfl
    exact set_at z3
  have q3 : sSet 4 (eOwn (eLst aNil)) [some (.r 0), some (.v (nD most)), some (.v (nD many)), some (.v (.lst (P.map nD))), none, none, none, none, none] (stD ns s1 :: m) =
      some (.nx, [some (.r 0), some (.v (nD most)), some (.v (nD many)), some (.v (.lst (P.map nD))), some (.r (m.length + 1)), none, none, none, none], stD ns s1 :: (m ++ [.lst []])) :=
    set_own (m1 := stD ns s1 :: m) (by simp [eLst, aNil])
  obtain ⟨c, s2, t2, lc⟩ := take_nat' (ns := ns) (s := s1) (n := most) h1 (by omega) (m ++ [.lst []])
  obtain ⟨ρ', m', e4, inv⟩ := for_inv (src := iRngA (aCons (eOp addD (eC (.int 1)) (eCall K72.F_l_take (aCons (eVar 0) (aCons (eVar 1) aNil)))) aNil)) (t := gN 5) (b := K72.L_thrones_2) (dd := [5, 8])
    (ρ := [some (.r 0), some (.v (nD most)), some (.v (nD many)), some (.v (.lst (P.map nD))), some (.r (m.length + 1)), none, none, none, none]) (m := stD ns s1 :: (m ++ [.lst []])) (m1 := stD ns s2 :: (m ++ [.lst []])) (List.range (1 + c)) nD
    (fun k ρ mm => ρ = [some (.r 0), some (.v (nD most)), some (.v (nD many)), some (.v (.lst (P.map nD))), some (.r (m.length + 1)), none, none, none, none] ∧ ∃ (s' : Lx.St) (Os : List (List Nat)), mm = stD ns s' :: (m ++ [.lst (Os.map qN)]) ∧ Os.length = k ∧ ∀ o ∈ Os, o.Nodup ∧ o.length ≤ many)
    (by
      have z1 : (eCall K72.F_l_take (aCons (eVar 0) (aCons (eVar 1) aNil))) [some (.r 0), some (.v (nD most)), some (.v (nD many)), some (.v (.lst (P.map nD))), some (.r (m.length + 1)), none, none, none, none] (stD ns s1 :: (m ++ [.lst []])) = some (.v (nD c), stD ns s2 :: (m ++ [.lst []])) := call_at (f := aCons (eVar 0) (aCons (eVar 1) aNil)) (ws := [.r 0, .v (nD most)]) rfl t2
      have z2 : (aCons (eOp addD (eC (.int 1)) (eCall K72.F_l_take (aCons (eVar 0) (aCons (eVar 1) aNil)))) aNil) [some (.r 0), some (.v (nD most)), some (.v (nD many)), some (.v (.lst (P.map nD))), some (.r (m.length + 1)), none, none, none, none] (stD ns s1 :: (m ++ [.lst []])) = some ([.v (.int ((1 + c : Nat) : Int))], stD ns s2 :: (m ++ [.lst []])) := by
        have z3 := op_at (g := addD) (a := eC (.int 1)) (wa := .v (.int 1)) (x := .int 1) (y := nD c) (w := .v (.int ((1 + c : Nat) : Int))) rfl z1 rfl rfl (by
          show some (W.v (.int (1 + (c : Int)))) = _
          congr 3)
        exact Ga.one_at z3
      exact Rt.rngA_at z2 rfl (Rt.rngA_nat (by omega)))
    ⟨rfl, s2, [], rfl, rfl, fun o h => nomatch h⟩
    (fun k a ha ρ mm inv => by
      obtain ⟨rfl, s', Os, rfl, hk, ok⟩ := inv
      have hk' : k < 1 + c := by have := (List.getElem?_eq_some_iff.mp ha).1; simpa using this
      obtain ⟨s3, o, w, q, n1, n2, _⟩ := order_turn (ns := ns) (s := s') (m := m) ndP (by omega) (a := nD most) (b := nD many) (i := a) (Os := Os) (by omega)
      refine ⟨_, _, _, rfl, q, rfl, s3, Os ++ [o], rfl, by simp [hk], fun x hx => ?_⟩
      rcases List.mem_append.mp hx with z | z
      · exact ok x z
      · rw [List.mem_singleton.mp z]; exact ⟨n1, by omega⟩)
  obtain ⟨rfl, s3, O, rfl, hO, okO⟩ := inv
  rw [List.length_range] at hO
  have q5 : sSet 6 (eOwn (eLst aNil)) [some (.r 0), some (.v (nD most)), some (.v (nD many)), some (.v (.lst (P.map nD))), some (.r (m.length + 1)), none, none, none, none] (stD ns s3 :: (m ++ [.lst (O.map qN)])) =
      some (.nx, [some (.r 0), some (.v (nD most)), some (.v (nD many)), some (.v (.lst (P.map nD))), some (.r (m.length + 1)), none, some (.r (m.length + 2)), none, none], stD ns s3 :: (m ++ [.lst (O.map qN), .lst []])) := by
    have := set_own (i := 6) (ρ := [some (.r 0), some (.v (nD most)), some (.v (nD many)), some (.v (.lst (P.map nD))), some (.r (m.length + 1)), none, none, none, none]) (m := stD ns s3 :: (m ++ [.lst (O.map qN)])) (m1 := stD ns s3 :: (m ++ [.lst (O.map qN)])) (a := eLst aNil) (ds := []) (by simp [eLst, aNil])
    rw [this]
    simp
  obtain ⟨ρ', m', e6, inv⟩ := for_inv (src := iSeq (eVar 3)) (t := gN 7) (b := K72.L_thrones_1) (dd := [7, 8])
    (ρ := [some (.r 0), some (.v (nD most)), some (.v (nD many)), some (.v (.lst (P.map nD))), some (.r (m.length + 1)), none, some (.r (m.length + 2)), none, none]) (m := stD ns s3 :: (m ++ [.lst (O.map qN), .lst []])) (m1 := stD ns s3 :: (m ++ [.lst (O.map qN), .lst []])) P nD
    (fun k ρ mm => ρ = [some (.r 0), some (.v (nD most)), some (.v (nD many)), some (.v (.lst (P.map nD))), some (.r (m.length + 1)), none, some (.r (m.length + 2)), none, none] ∧ ∃ (s' : Lx.St) (Wl : List (Nat × List Nat)), mm = stD ns s' :: (m ++ [.lst (O.map qN), .lst (Wl.map Ga.wE)]) ∧ Wl.length ≤ k ∧ (Wl.map Prod.fst).Nodup ∧ (∀ w ∈ Wl.map Prod.fst, w ∈ P.take k) ∧ ∀ p ∈ Wl, p.2.Nodup ∧ ∀ t ∈ p.2, t < O.length)
    (by simp [iSeq, eVar])
    ⟨rfl, s3, [], rfl, Nat.le_refl _, List.nodup_nil, (fun w (h : w ∈ ([] : List Nat)) => nomatch h), (fun p (h : p ∈ ([] : List (Nat × List Nat))) => nomatch h)⟩
    (fun k a ha ρ mm inv => by
      obtain ⟨rfl, s', Wl, rfl, hk, nd, sub, ok⟩ := inv
      have hkP : k < P.length := (List.getElem?_eq_some_iff.mp ha).1
      have haP : P[k] = a := (List.getElem?_eq_some_iff.mp ha).2
      obtain ⟨s4, Wn, ρ2, q, wp, or_⟩ := wish_turn (ns := ns) (s := s') (m := m) (a := nD most) (b := nD many) (p := .lst (P.map nD)) (w := a) (Os := O) (Wl := Wl) (by omega) (by omega)
      refine ⟨_, _, _, rfl, q, wp, s4, Wl ++ Wn, rfl, ?_⟩
      have tk : P.take (k + 1) = P.take k ++ [a] := by rw [List.take_succ, ha]; rfl
      rcases or_ with rfl | ⟨ts, rfl, z1, z2⟩
      · rw [List.append_nil]
        exact ⟨by omega, nd, fun w hw => by rw [tk]; exact List.mem_append_left _ (sub w hw), ok⟩
      · refine ⟨by simp; omega, ?_, fun w hw => ?_, fun p hp => ?_⟩
        · rw [List.map_append, List.nodup_append]
          refine ⟨nd, by simp, fun x hx y hy z => ?_⟩
          have hy' : y = a := by simpa using hy
          subst hy'; subst z
          obtain ⟨i, hi, e⟩ := List.mem_take_iff_getElem.mp (sub _ hx)
          have : i = k := by
            have := (List.getElem_inj (i := i) (j := k) ndP).mp (e.trans haP.symm)
            exact this
          omega
        · rw [tk]
          rw [List.map_append] at hw
          rcases List.mem_append.mp hw with y | y
          · exact List.mem_append_left _ (sub w y)
          · exact List.mem_append_right _ (by simpa using y)
        · rcases List.mem_append.mp hp with y | y
          · exact ok p y
          · rw [List.mem_singleton.mp y]; exact ⟨z1, z2⟩)
  obtain ⟨rfl, s4, Ws, rfl, hk, nd, sub, okW⟩ := inv
  refine ⟨O, Ws, s4, ?_, ⟨by omega, fun o h => (okO o h).1, fun o h => by have := (okO o h).2; omega, nd, by omega, fun p hp => (okW p hp).1, fun p hp => (okW p hp).2⟩, by omega, by omega, fun o h => (okO o h).2⟩
  have g1 : gt (.r (m.length + 1)) (stD ns s4 :: (m ++ [.lst (O.map qN), .lst (Ws.map Ga.wE)])) = some (.lst (O.map qN)) := by rw [gt_r, y1_]; rfl
  have g2 : gt (.r (m.length + 2)) (stD ns s4 :: (m ++ [.lst (O.map qN), .lst (Ws.map Ga.wE)])) = some (.lst (Ws.map Ga.wE)) := by rw [gt_r, y2_]; rfl
  have q7 : sRet (eLst (aCons (eCB tupleD (aCons (eVar 4) aNil)) (aCons (eCB tupleD (aCons (eVar 6) aNil)) aNil))) [some (.r 0), some (.v (nD most)), some (.v (nD many)), some (.v (.lst (P.map nD))), some (.r (m.length + 1)), none, some (.r (m.length + 2)), none, none] (stD ns s4 :: (m ++ [.lst (O.map qN), .lst (Ws.map Ga.wE)])) =
      some (.ret (.f (.lst [oD O, wD Ws])), [some (.r 0), some (.v (nD most)), some (.v (nD many)), some (.v (.lst (P.map nD))), some (.r (m.length + 1)), none, some (.r (m.length + 2)), none, none], stD ns s4 :: (m ++ [.lst (O.map qN), .lst (Ws.map Ga.wE)])) := by
    generalize stD ns s4 :: (m ++ [.lst (O.map qN), .lst (Ws.map Ga.wE)]) = M at *
    generalize P.map nD = PD at *
    simp [sRet, eLst, aCons, aNil, eCB, eVar, g1, g2, tupleD, -gt_r]
  have hb : K72.B_thrones (startD 9 [.r 0, .v (nD most), .v (nD many)]) (stD ns s :: m) = _ := seq_at q1 (seq_at q3 (seq_at e4 (seq_at q5 (seq_at e6 q7))))
  unfold K72.F_thrones runF
  rw [if_pos (show [W.r 0, .v (nD most), .v (nD many)].length = P_thrones.length from rfl)]
  refine (congrArg (fun x => Option.bind x _) hb).trans ?_
  simp [outW]
end
end K72
end
section
set_option Elab.async false
set_option linter.all false
set_option maxRecDepth 100000
set_option maxHeartbeats 4000000
namespace K72
open PySem L2 Pw Pv Lx Ls
open Ga (qN oD wD OkS run_at if_at if_no)
section
variable {ns : List Int} {s : Lx.St} {m : Mem} {O : List (List Nat)} {Ws : List (Nat × List Nat)}
theorem cut_sub {α : Type} (f : α → D) (a : List α) (lo hi : Option Int) : ∃ S : List α, cutD (a.map f) lo hi = S.map f ∧ (∀ x ∈ S, x ∈ a) ∧ S.length ≤ a.length := by
  unfold cutD
  rw [← List.map_drop, ← List.map_take]
  refine ⟨_, rfl, fun x hx => List.mem_of_mem_drop (List.mem_of_mem_take hx), ?_⟩
  rw [List.length_take, List.length_drop]; omega
def tnD (o : List Nat) : D := .tup (o.map nD)
abbrev eL (ns : List Int) (x2 x3 x4 x5 x6 x7 : Option W) : Pw.Env := [some (.v (.fl (ns.map .int))), some (.r 0), x2, x3, x4, x5, x6, x7, none]
noncomputable abbrev eT : Ex := eFg (eCall F_drawn_order (aCons (eVar 1) (aCons (eUn lrgD (eVar 3)) (aCons (eVar 3) aNil))))
theorem turns_spec (hn : O.length ≤ 50) {x2 x6 x7 : Option W} : ∃ (Ts : List (List Nat)) (s' : Lx.St), E_law_1 (eL ns x2 (some (.v (nD O.length))) none none x6 x7) [stD ns s] = some (.f (.lst (Ts.map tnD)), [stD ns s']) ∧ Ts.length = 2 ∧ ∀ o ∈ Ts, (∀ t ∈ o, t < O.length) ∧ o.length ≤ 50 := by
  obtain ⟨acc, m', e, Ts, s', rfl, rfl, hl, hok⟩ := lc_eff (src := iRngA (aCons (eC (.int 2)) aNil)) (t := gN 8) (c := tYes') (f := eT) (vs := [8])
    (ρ := eL ns x2 (some (.v (nD O.length))) none none x6 x7) (m := [stD ns s]) (m1 := [stD ns s]) (List.range 2) nD
    (fun i acc mm => ∃ (Ts : List (List Nat)) (s' : Lx.St), acc = Ts.map tnD ∧ mm = [stD ns s'] ∧ Ts.length = i ∧ ∀ o ∈ Ts, (∀ t ∈ o, t < O.length) ∧ o.length ≤ 50)
    (Rt.rngA_at (ws := [.v (.int ((2 : Nat) : Int))]) (by simp [aCons, aNil, eC]) rfl (Rt.rngA_nat (by decide))) ⟨[], s, rfl, rfl, rfl, fun o h => nomatch h⟩
    (fun i n acc mm inv => by
      obtain ⟨Ts, s', rfl, rfl, hl, hok⟩ := inv
      obtain ⟨o, s2, d1, _, sub, le, _, _⟩ := drawn_n (ns := ns) (s := s') (P := List.range O.length) List.nodup_range (by simp; omega) (many := (O.length : Int)) (by omega) (by omega) []
      have lr : lrgD (nD O.length) = some (.f (.lst ((List.range O.length).map nD))) := by
        have : (O.length : Int) ≤ 1000000 := by omega
        simp [lrgD, this]
      have z1 : (aCons (eVar 1) (aCons (eUn lrgD (eVar 3)) (aCons (eVar 3) aNil))) [some (.v (.fl (ns.map .int))), some (.r 0), x2, some (.v (nD O.length)), none, none, x6, x7, some (.v (nD n))] [stD ns s'] = some ([.r 0, .v (.lst ((List.range O.length).map nD)), .v (nD O.length)], [stD ns s']) := by
        generalize (List.range O.length).map nD = RD at *
        simp [aCons, aNil, eVar, eUn, lr]
      have z2 : eT [some (.v (.fl (ns.map .int))), some (.r 0), x2, some (.v (nD O.length)), none, none, x6, x7, some (.v (nD n))] [stD ns s'] = some (.v (tnD o), [stD ns s2]) := by
        show eFg _ _ _ = _
        unfold eFg
        rw [call_at z1 d1]
        rfl
      refine ⟨_, .v (tnD o), tnD o, _, rfl, rfl, z2, rfl, Ts ++ [o], s2, by simp, rfl, by simp [hl], fun p hp => ?_⟩
      rcases List.mem_append.mp hp with z | z
      · exact hok p z
      · rw [List.mem_singleton.mp z]
        exact ⟨fun t ht => List.mem_range.mp (sub t ht), by simp at le; omega⟩) (by simp)
  exact ⟨Ts, s', e, by simpa using hl, hok⟩
theorem turn_2 {i : Nat} : ∃ (ρ2 : Pw.Env) (s' : Lx.St), L_law_2 (eL ns (some (.v (nD i))) none none none none none) [stD ns s] = some (.nx, ρ2, [stD ns s']) ∧
    wipeD ρ2 [2, 3, 4, 5, 6, 7] = eL ns none none none none none none := by
  obtain ⟨O, Ws, s1, e1, ok, l1, l2, _⟩ := thrones_spec (ns := ns) (s := s) (most := 6) (many := 8) (by decide) (by decide) (by decide) []
  have e1' : F_thrones [.r 0, .v (.int 6), .v (.int 8)] [stD ns s] = some (.f (.lst [oD O, wD Ws]), [stD ns s1]) := e1
  have x1 : sAsg (gTL [gN 6, gN 7]) (eCall F_thrones (aCons (eVar 1) (aCons (eC (.int 6)) (aCons (eC (.int 8)) aNil)))) (eL ns (some (.v (nD i))) none none none none none) [stD ns s] =
      some (.nx, eL ns (some (.v (nD i))) none none none (some (.v (oD O))) (some (.v (wD Ws))), [stD ns s1]) := by
    have y : (eCall F_thrones (aCons (eVar 1) (aCons (eC (.int 6)) (aCons (eC (.int 8)) aNil)))) (eL ns (some (.v (nD i))) none none none none none) [stD ns s] = some (.f (.lst [oD O, wD Ws]), [stD ns s1]) := call_at (f := aCons (eVar 1) (aCons (eC (.int 6)) (aCons (eC (.int 8)) aNil))) (ws := [.r 0, .v (.int 6), .v (.int 8)]) rfl e1'
    generalize eCall F_thrones (aCons (eVar 1) (aCons (eC (.int 6)) (aCons (eC (.int 8)) aNil))) = f at y ⊢
    unfold sAsg
    rw [y]
    rfl
  have x2 : sSet 3 (eCB lenD (aCons (eVar 6) aNil)) (eL ns (some (.v (nD i))) none none none (some (.v (oD O))) (some (.v (wD Ws)))) [stD ns s1] = some (.nx, eL ns (some (.v (nD i))) (some (.v (nD O.length))) none none (some (.v (oD O))) (some (.v (wD Ws))), [stD ns s1]) := by
    have ln : (O.map qN).length = O.length := by simp
    simp only [eL, oD]
    generalize O.map qN = OD at *
    simp [sSet, eCB, aCons, eVar, aNil, ln]
  obtain ⟨Ts, s2, e3, l3, hT⟩ := turns_spec (ns := ns) (s := s1) (O := O) (by omega) (x2 := some (.v (nD i))) (x6 := some (.v (oD O))) (x7 := some (.v (wD Ws)))
  have x3 := set_at (i := 4) e3
  obtain ⟨S1, c1, h1, g1⟩ := cut_sub tnD Ts none (some 1)
  have hall : ∀ o ∈ Ts ++ S1, (∀ t ∈ o, t < O.length) ∧ o.length ≤ 50 := fun o ho => by
    rcases List.mem_append.mp ho with z | z
    · exact hT o z
    · exact hT o (h1 o z)
  obtain ⟨ρ', m', e4, rfl, rfl⟩ := for_inv (src := iSeq (eOp addD (eVar 4) (eSlc (eVar 4) oNone (oSome (eC (.int 1)))))) (t := gN 5) (b := L_law_1) (dd := [5]) (ρ := eL ns (some (.v (nD i))) (some (.v (nD O.length))) (some (.v (.lst (Ts.map tnD)))) none (some (.v (oD O))) (some (.v (wD Ws)))) (m := [stD ns s2]) (m1 := [stD ns s2]) (Ts ++ S1) tnD
    (fun _ ρ mm => ρ = eL ns (some (.v (nD i))) (some (.v (nD O.length))) (some (.v (.lst (Ts.map tnD)))) none (some (.v (oD O))) (some (.v (wD Ws))) ∧ mm = [stD ns s2])
    (by
      have b1 : Ts.length + S1.length ≤ 1000000 := by omega
      simp only [eL, oD, wD]
      generalize O.map qN = OD at *
      generalize Ws.map Ga.wE = WD at *
      simp [iSeq, eOp, eVar, eSlc, oNone, oSome, eC, slcD, c1, addD, b1]) ⟨rfl, rfl⟩
    (fun k o hk ρ mm inv => by
      obtain ⟨rfl, rfl⟩ := inv
      obtain ⟨q1, q2⟩ := hall o (List.mem_of_getElem? hk)
      have r := right_spec (tn := o) ok q1 (by omega) [stD ns s2]
      have z : sIf (tNot' (tTru (eCall F_right (aCons (eVar 6) (aCons (eVar 7) (aCons (eVar 5) aNil)))))) (sRet (eC (.bl false))) sNil (eL ns (some (.v (nD i))) (some (.v (nD O.length))) (some (.v (.lst (Ts.map tnD)))) (some (.v (tnD o))) (some (.v (oD O))) (some (.v (wD Ws)))) [stD ns s2] = some (.nx, eL ns (some (.v (nD i))) (some (.v (nD O.length))) (some (.v (.lst (Ts.map tnD)))) (some (.v (tnD o))) (some (.v (oD O))) (some (.v (wD Ws))), [stD ns s2]) :=
        if_no (not_at (tru_at (call_at (f := aCons (eVar 6) (aCons (eVar 7) (aCons (eVar 5) aNil))) (ws := [.v (oD O), .v (wD Ws), .v (.tup (o.map nD))]) rfl r)))
      exact ⟨_, _, _, rfl, z, rfl, rfl⟩)
  exact ⟨_, s2, seq_at x1 (seq_at x2 (seq_at x3 e4)), rfl⟩
theorem holds (ns : List Int) (hn : ns.length ≤ 63) : ∃ m', F_law [.v (.fl (ns.map .int))] [] = some (.v (.bl true), m') := by
  obtain ⟨ρ', m', e, rfl, s', rfl⟩ := for_inv (src := iRngA (aCons (eC (.int 4)) aNil)) (t := gN 2) (b := L_law_2) (dd := [2, 3, 4, 5, 6, 7]) (ρ := eL ns none none none none none none) (m := [stD ns ⟨0, 0, 72, by decide, by decide, by decide, by decide⟩]) (m1 := [stD ns ⟨0, 0, 72, by decide, by decide, by decide, by decide⟩])
    (List.range 4) nD (fun _ ρ mm => ρ = eL ns none none none none none none ∧ ∃ s, mm = [stD ns s])
    (Rt.rngA_at (ws := [.v (.int ((4 : Nat) : Int))]) (by simp [aCons, aNil, eC]) rfl (Rt.rngA_nat (by decide))) ⟨rfl, _, rfl⟩
    (fun k n hk ρ mm inv => by
      obtain ⟨rfl, s, rfl⟩ := inv
      obtain ⟨ρ2, s', q, w⟩ := turn_2 (ns := ns) (s := s) (i := n)
      exact ⟨_, ρ2, _, rfl, q, w, s', rfl⟩)
  have q0 : sSet 1 (eOwn (eLst (aCons (eVar 0) (aCons (eC (.int 0)) (aCons (eC (.int 0)) (aCons (eC (.int 72)) aNil)))))) [some (.v (.fl (ns.map .int))), none, none, none, none, none, none, none, none] [] =
      some (.nx, eL ns none none none none none none, [stD ns ⟨0, 0, 72, by decide, by decide, by decide, by decide⟩]) :=
    set_own (m1 := []) (ds := [.fl (ns.map .int), .int 0, .int 0, .int 72]) (by simp [eLst, aCons, eVar, eC, aNil])
  exact ⟨_, run_at (d := .bl true) rfl (seq_at q0 (seq_at e rfl)) (by simp)⟩
end
end K72
end
section
set_option Elab.async false
set_option linter.all false
set_option maxRecDepth 100000
set_option maxHeartbeats 4000000
namespace K72
open PySem PySem.Spec PyProof.Rows L2 Pw
theorem all_mk {l : PySem.W.OpenLaw} {w : World} {K : FRG} {h : Heap} {mg : Str → Option Value} {fa : Addr} (X : K.In h) (G : h.Ns mainGlobals mg) (hfa : mg "law" = some (.ref fa))
    {f0 : Addr} {od0 an0 : Option Addr} {sl0 : Array (Option Value)} {oc0 kV0 dc0 pm0 cd0 ct0 : Value}
    (a0 : PySem.W.nsIn K mainGlobals "_law_take" = some (some (.ref f0))) (l0 : K.lookup f0 = some ⟨oc0, od0, .func (PySem.W.fnOf "_law_take" "_law_take" (defArgs s_l_take) (defBody s_l_take) (defScope s_l_take) .none kV0 dc0 pm0 an0 cd0 ct0), sl0⟩) (c0 : PySem.W.codeIn K cd0 "_law_take" = true) (k0 : PySem.W.keepIn K (.ref f0) = true)
    {f1 : Addr} {od1 an1 : Option Addr} {sl1 : Array (Option Value)} {oc1 kV1 dc1 pm1 cd1 ct1 : Value}
    (a1 : PySem.W.nsIn K mainGlobals "_law_drawn_order" = some (some (.ref f1))) (l1 : K.lookup f1 = some ⟨oc1, od1, .func (PySem.W.fnOf "_law_drawn_order" "_law_drawn_order" (defArgs s_drawn_order) (defBody s_drawn_order) (defScope s_drawn_order) .none kV1 dc1 pm1 an1 cd1 ct1), sl1⟩) (c1 : PySem.W.codeIn K cd1 "_law_drawn_order" = true) (k1 : PySem.W.keepIn K (.ref f1) = true)
    {f2 : Addr} {od2 an2 : Option Addr} {sl2 : Array (Option Value)} {oc2 kV2 dc2 pm2 cd2 ct2 : Value}
    (a2 : PySem.W.nsIn K mainGlobals "_law_wished" = some (some (.ref f2))) (l2 : K.lookup f2 = some ⟨oc2, od2, .func (PySem.W.fnOf "_law_wished" "_law_wished" (defArgs s_wished) (defBody s_wished) (defScope s_wished) .none kV2 dc2 pm2 an2 cd2 ct2), sl2⟩) (c2 : PySem.W.codeIn K cd2 "_law_wished" = true) (k2 : PySem.W.keepIn K (.ref f2) = true)
    {f3 : Addr} {od3 an3 : Option Addr} {sl3 : Array (Option Value)} {oc3 kV3 dc3 pm3 cd3 ct3 : Value}
    (a3 : PySem.W.nsIn K mainGlobals "_law_asked_by_thrones" = some (some (.ref f3))) (l3 : K.lookup f3 = some ⟨oc3, od3, .func (PySem.W.fnOf "_law_asked_by_thrones" "_law_asked_by_thrones" (defArgs s_asked_by_thrones) (defBody s_asked_by_thrones) (defScope s_asked_by_thrones) .none kV3 dc3 pm3 an3 cd3 ct3), sl3⟩) (c3 : PySem.W.codeIn K cd3 "_law_asked_by_thrones" = true) (k3 : PySem.W.keepIn K (.ref f3) = true)
    {f4 : Addr} {od4 an4 : Option Addr} {sl4 : Array (Option Value)} {oc4 kV4 dc4 pm4 cd4 ct4 : Value}
    (a4 : PySem.W.nsIn K mainGlobals "_law_is_plain" = some (some (.ref f4))) (l4 : K.lookup f4 = some ⟨oc4, od4, .func (PySem.W.fnOf "_law_is_plain" "_law_is_plain" (defArgs s_is_plain) (defBody s_is_plain) (defScope s_is_plain) .none kV4 dc4 pm4 an4 cd4 ct4), sl4⟩) (c4 : PySem.W.codeIn K cd4 "_law_is_plain" = true) (k4 : PySem.W.keepIn K (.ref f4) = true)
    {f5 : Addr} {od5 an5 : Option Addr} {sl5 : Array (Option Value)} {oc5 kV5 dc5 pm5 cd5 ct5 : Value}
    (a5 : PySem.W.nsIn K mainGlobals "is_dearer" = some (some (.ref f5))) (l5 : K.lookup f5 = some ⟨oc5, od5, .func (PySem.W.fnOf "is_dearer" "is_dearer" (defArgs s_is_dearer) (defBody s_is_dearer) (defScope s_is_dearer) .none kV5 dc5 pm5 an5 cd5 ct5), sl5⟩) (c5 : PySem.W.codeIn K cd5 "is_dearer" = true) (k5 : PySem.W.keepIn K (.ref f5) = true)
    {f6 : Addr} {od6 an6 : Option Addr} {sl6 : Array (Option Value)} {oc6 kV6 dc6 pm6 cd6 ct6 : Value}
    (a6 : PySem.W.nsIn K mainGlobals "answer" = some (some (.ref f6))) (l6 : K.lookup f6 = some ⟨oc6, od6, .func (PySem.W.fnOf "answer" "answer" (defArgs s_answer) (defBody s_answer) (defScope s_answer) .none kV6 dc6 pm6 an6 cd6 ct6), sl6⟩) (c6 : PySem.W.codeIn K cd6 "answer" = true) (k6 : PySem.W.keepIn K (.ref f6) = true)
    {f7 : Addr} {od7 an7 : Option Addr} {sl7 : Array (Option Value)} {oc7 kV7 dc7 pm7 cd7 ct7 : Value}
    (a7 : PySem.W.nsIn K mainGlobals "asking_throne" = some (some (.ref f7))) (l7 : K.lookup f7 = some ⟨oc7, od7, .func (PySem.W.fnOf "asking_throne" "asking_throne" (defArgs s_asking_throne) (defBody s_asking_throne) (defScope s_asking_throne) .none kV7 dc7 pm7 an7 cd7 ct7), sl7⟩) (c7 : PySem.W.codeIn K cd7 "asking_throne" = true) (k7 : PySem.W.keepIn K (.ref f7) = true)
    {f8 : Addr} {od8 an8 : Option Addr} {sl8 : Array (Option Value)} {oc8 kV8 dc8 pm8 cd8 ct8 : Value}
    (a8 : PySem.W.nsIn K mainGlobals "take" = some (some (.ref f8))) (l8 : K.lookup f8 = some ⟨oc8, od8, .func (PySem.W.fnOf "take" "take" (defArgs s_take) (defBody s_take) (defScope s_take) .none kV8 dc8 pm8 an8 cd8 ct8), sl8⟩) (c8 : PySem.W.codeIn K cd8 "take" = true) (k8 : PySem.W.keepIn K (.ref f8) = true)
    {f9 : Addr} {od9 an9 : Option Addr} {sl9 : Array (Option Value)} {oc9 kV9 dc9 pm9 cd9 ct9 : Value}
    (a9 : PySem.W.nsIn K mainGlobals "throne_of" = some (some (.ref f9))) (l9 : K.lookup f9 = some ⟨oc9, od9, .func (PySem.W.fnOf "throne_of" "throne_of" (defArgs s_throne_of) (defBody s_throne_of) (defScope s_throne_of) .none kV9 dc9 pm9 an9 cd9 ct9), sl9⟩) (c9 : PySem.W.codeIn K cd9 "throne_of" = true) (k9 : PySem.W.keepIn K (.ref f9) = true)
    {f10 : Addr} {od10 an10 : Option Addr} {sl10 : Array (Option Value)} {oc10 kV10 dc10 pm10 cd10 ct10 : Value}
    (a10 : PySem.W.nsIn K mainGlobals "wishes_by" = some (some (.ref f10))) (l10 : K.lookup f10 = some ⟨oc10, od10, .func (PySem.W.fnOf "wishes_by" "wishes_by" (defArgs s_wishes_by) (defBody s_wishes_by) (defScope s_wishes_by) .none kV10 dc10 pm10 an10 cd10 ct10), sl10⟩) (c10 : PySem.W.codeIn K cd10 "wishes_by" = true) (k10 : PySem.W.keepIn K (.ref f10) = true)
    {f11 : Addr} {od11 an11 : Option Addr} {sl11 : Array (Option Value)} {oc11 kV11 dc11 pm11 cd11 ct11 : Value}
    (a11 : PySem.W.nsIn K mainGlobals "by_thrones" = some (some (.ref f11))) (l11 : K.lookup f11 = some ⟨oc11, od11, .func (PySem.W.fnOf "by_thrones" "by_thrones" (defArgs s_by_thrones) (defBody s_by_thrones) (defScope s_by_thrones) .none kV11 dc11 pm11 an11 cd11 ct11), sl11⟩) (c11 : PySem.W.codeIn K cd11 "by_thrones" = true) (k11 : PySem.W.keepIn K (.ref f11) = true)
    {f12 : Addr} {od12 an12 : Option Addr} {sl12 : Array (Option Value)} {oc12 kV12 dc12 pm12 cd12 ct12 : Value}
    (a12 : PySem.W.nsIn K mainGlobals "_law_right" = some (some (.ref f12))) (l12 : K.lookup f12 = some ⟨oc12, od12, .func (PySem.W.fnOf "_law_right" "_law_right" (defArgs s_right) (defBody s_right) (defScope s_right) .none kV12 dc12 pm12 an12 cd12 ct12), sl12⟩) (c12 : PySem.W.codeIn K cd12 "_law_right" = true) (k12 : PySem.W.keepIn K (.ref f12) = true)
    {f13 : Addr} {od13 an13 : Option Addr} {sl13 : Array (Option Value)} {oc13 kV13 dc13 pm13 cd13 ct13 : Value}
    (a13 : PySem.W.nsIn K mainGlobals "_law_thrones" = some (some (.ref f13))) (l13 : K.lookup f13 = some ⟨oc13, od13, .func (PySem.W.fnOf "_law_thrones" "_law_thrones" (defArgs s_thrones) (defBody s_thrones) (defScope s_thrones) .none kV13 dc13 pm13 an13 cd13 ct13), sl13⟩) (c13 : PySem.W.codeIn K cd13 "_law_thrones" = true) (k13 : PySem.W.keepIn K (.ref f13) = true)
    {f14 : Addr} {od14 an14 : Option Addr} {sl14 : Array (Option Value)} {oc14 kV14 dc14 pm14 cd14 ct14 : Value}
    (a14 : PySem.W.nsIn K mainGlobals "law" = some (some (.ref f14))) (l14 : K.lookup f14 = some ⟨oc14, od14, .func (PySem.W.fnOf "law" "law" (defArgs s_law) (defBody s_law) (defScope s_law) .none kV14 dc14 pm14 an14 cd14 ct14), sl14⟩) (c14 : PySem.W.codeIn K cd14 "law" = true) (k14 : PySem.W.keepIn K (.ref f14) = true)
    (z_all : PySem.W.nsIn K mainGlobals "all" = some none)
    (z_bool : PySem.W.nsIn K mainGlobals "bool" = some none)
    (z_int : PySem.W.nsIn K mainGlobals "int" = some none)
    (z_isinstance : PySem.W.nsIn K mainGlobals "isinstance" = some none)
    (z_len : PySem.W.nsIn K mainGlobals "len" = some none)
    (z_list : PySem.W.nsIn K mainGlobals "list" = some none)
    (z_min : PySem.W.nsIn K mainGlobals "min" = some none)
    (z_range : PySem.W.nsIn K mainGlobals "range" = some none)
    (z_sorted : PySem.W.nsIn K mainGlobals "sorted" = some none)
    (z_str : PySem.W.nsIn K mainGlobals "str" = some none)
    (z_tuple : PySem.W.nsIn K mainGlobals "tuple" = some none)
    : ∃ (fd : FuncData) (cs : List (Addr × Addr)), (∀ p ∈ cs, h.get? p.2 = some { cls := .none, data := .fields #[] }) ∧ (∀ p ∈ cs, K.lookup p.2 = none) ∧ (∀ p ∈ cs, PySem.W.CodeHd h p.1 p.2) ∧ (∀ (s : Shared) (u : Value), BindsTo s fd ⟨[u], []⟩ [("_law_script", u)]) ∧
      ∀ base : Heap, K.In base → base.Ns mainGlobals mg → (∀ p ∈ cs, GxR.TabB base mg p.1 p.2) → FnG l.prog w K mg base 6 fa fd ["_law_script"] (spF K (cs.map (·.2)) P_law.length F_law) := by
  have isLaw : fa = f14 := by
    have e := hfa.symm.trans (PySem.W.mg_of X G a14)
    cases e; rfl
  have F0 : FunC K "_law_take" "_law_take" s_l_take f0 _ cd0 := ⟨⟨oc0, od0, kV0, dc0, pm0, an0, ct0, sl0, rfl, l0, c0⟩, k0⟩
  have b0 := F0.binds (ps := P_l_take) fun _ _ _ _ _ us hl => match us, hl with | [_, _], _ => rfl
  have F1 : FunC K "_law_drawn_order" "_law_drawn_order" s_drawn_order f1 _ cd1 := ⟨⟨oc1, od1, kV1, dc1, pm1, an1, ct1, sl1, rfl, l1, c1⟩, k1⟩
  have b1 := F1.binds (ps := P_drawn_order) fun _ _ _ _ _ us hl => match us, hl with | [_, _, _], _ => rfl
  have F2 : FunC K "_law_wished" "_law_wished" s_wished f2 _ cd2 := ⟨⟨oc2, od2, kV2, dc2, pm2, an2, ct2, sl2, rfl, l2, c2⟩, k2⟩
  have b2 := F2.binds (ps := P_wished) fun _ _ _ _ _ us hl => match us, hl with | [_, _], _ => rfl
  have F3 : FunC K "_law_asked_by_thrones" "_law_asked_by_thrones" s_asked_by_thrones f3 _ cd3 := ⟨⟨oc3, od3, kV3, dc3, pm3, an3, ct3, sl3, rfl, l3, c3⟩, k3⟩
  have b3 := F3.binds (ps := P_asked_by_thrones) fun _ _ _ _ _ us hl => match us, hl with | [_, _, _], _ => rfl
  have F4 : FunC K "_law_is_plain" "_law_is_plain" s_is_plain f4 _ cd4 := ⟨⟨oc4, od4, kV4, dc4, pm4, an4, ct4, sl4, rfl, l4, c4⟩, k4⟩
  have b4 := F4.binds (ps := P_is_plain) fun _ _ _ _ _ us hl => match us, hl with | [_], _ => rfl
  have F5 : FunC K "is_dearer" "is_dearer" s_is_dearer f5 _ cd5 := ⟨⟨oc5, od5, kV5, dc5, pm5, an5, ct5, sl5, rfl, l5, c5⟩, k5⟩
  have b5 := F5.binds (ps := P_is_dearer) fun _ _ _ _ _ us hl => match us, hl with | [_, _, _], _ => rfl
  have F6 : FunC K "answer" "answer" s_answer f6 _ cd6 := ⟨⟨oc6, od6, kV6, dc6, pm6, an6, ct6, sl6, rfl, l6, c6⟩, k6⟩
  have b6 := F6.binds (ps := P_answer) fun _ _ _ _ _ us hl => match us, hl with | [_, _, _], _ => rfl
  have F7 : FunC K "asking_throne" "asking_throne" s_asking_throne f7 _ cd7 := ⟨⟨oc7, od7, kV7, dc7, pm7, an7, ct7, sl7, rfl, l7, c7⟩, k7⟩
  have b7 := F7.binds (ps := P_asking_throne) fun _ _ _ _ _ us hl => match us, hl with | [_, _, _, _], _ => rfl
  have F8 : FunC K "take" "take" s_take f8 _ cd8 := ⟨⟨oc8, od8, kV8, dc8, pm8, an8, ct8, sl8, rfl, l8, c8⟩, k8⟩
  have b8 := F8.binds (ps := P_take) fun _ _ _ _ _ us hl => match us, hl with | [_, _, _, _], _ => rfl
  have F9 : FunC K "throne_of" "throne_of" s_throne_of f9 _ cd9 := ⟨⟨oc9, od9, kV9, dc9, pm9, an9, ct9, sl9, rfl, l9, c9⟩, k9⟩
  have b9 := F9.binds (ps := P_throne_of) fun _ _ _ _ _ us hl => match us, hl with | [_, _], _ => rfl
  have F10 : FunC K "wishes_by" "wishes_by" s_wishes_by f10 _ cd10 := ⟨⟨oc10, od10, kV10, dc10, pm10, an10, ct10, sl10, rfl, l10, c10⟩, k10⟩
  have b10 := F10.binds (ps := P_wishes_by) fun _ _ _ _ _ us hl => match us, hl with | [_], _ => rfl
  have F11 : FunC K "by_thrones" "by_thrones" s_by_thrones f11 _ cd11 := ⟨⟨oc11, od11, kV11, dc11, pm11, an11, ct11, sl11, rfl, l11, c11⟩, k11⟩
  have b11 := F11.binds (ps := P_by_thrones) fun _ _ _ _ _ us hl => match us, hl with | [_, _, _], _ => rfl
  have F12 : FunC K "_law_right" "_law_right" s_right f12 _ cd12 := ⟨⟨oc12, od12, kV12, dc12, pm12, an12, ct12, sl12, rfl, l12, c12⟩, k12⟩
  have b12 := F12.binds (ps := P_right) fun _ _ _ _ _ us hl => match us, hl with | [_, _, _], _ => rfl
  have F13 : FunC K "_law_thrones" "_law_thrones" s_thrones f13 _ cd13 := ⟨⟨oc13, od13, kV13, dc13, pm13, an13, ct13, sl13, rfl, l13, c13⟩, k13⟩
  have b13 := F13.binds (ps := P_thrones) fun _ _ _ _ _ us hl => match us, hl with | [_, _, _], _ => rfl
  have F14 : FunC K "law" "law" s_law f14 _ cd14 := ⟨⟨oc14, od14, kV14, dc14, pm14, an14, ct14, sl14, rfl, l14, c14⟩, k14⟩
  have b14 := F14.binds (ps := P_law) fun _ _ _ _ _ us hl => match us, hl with | [_], _ => rfl
  let C : Ctx K mg (([] : List (Addr × Addr)).map (·.2)) := { f_l_take := f0, fd_l_take := _, cd_l_take := cd0, F_l_take := F0, b_l_take := b0, g_l_take := PySem.W.mg_of X G a0, f_drawn_order := f1, fd_drawn_order := _, cd_drawn_order := cd1, F_drawn_order := F1, b_drawn_order := b1, g_drawn_order := PySem.W.mg_of X G a1, f_wished := f2, fd_wished := _, cd_wished := cd2, F_wished := F2, b_wished := b2, g_wished := PySem.W.mg_of X G a2, f_asked_by_thrones := f3, fd_asked_by_thrones := _, cd_asked_by_thrones := cd3, F_asked_by_thrones := F3, b_asked_by_thrones := b3, g_asked_by_thrones := PySem.W.mg_of X G a3, f_is_plain := f4, fd_is_plain := _, cd_is_plain := cd4, F_is_plain := F4, b_is_plain := b4, g_is_plain := PySem.W.mg_of X G a4, f_is_dearer := f5, fd_is_dearer := _, cd_is_dearer := cd5, F_is_dearer := F5, b_is_dearer := b5, g_is_dearer := PySem.W.mg_of X G a5, f_answer := f6, fd_answer := _, cd_answer := cd6, F_answer := F6, b_answer := b6, g_answer := PySem.W.mg_of X G a6, f_asking_throne := f7, fd_asking_throne := _, cd_asking_throne := cd7, F_asking_throne := F7, b_asking_throne := b7, g_asking_throne := PySem.W.mg_of X G a7, f_take := f8, fd_take := _, cd_take := cd8, F_take := F8, b_take := b8, g_take := PySem.W.mg_of X G a8, f_throne_of := f9, fd_throne_of := _, cd_throne_of := cd9, F_throne_of := F9, b_throne_of := b9, g_throne_of := PySem.W.mg_of X G a9, f_wishes_by := f10, fd_wishes_by := _, cd_wishes_by := cd10, F_wishes_by := F10, b_wishes_by := b10, g_wishes_by := PySem.W.mg_of X G a10, f_by_thrones := f11, fd_by_thrones := _, cd_by_thrones := cd11, F_by_thrones := F11, b_by_thrones := b11, g_by_thrones := PySem.W.mg_of X G a11, f_right := f12, fd_right := _, cd_right := cd12, F_right := F12, b_right := b12, g_right := PySem.W.mg_of X G a12, f_thrones := f13, fd_thrones := _, cd_thrones := cd13, F_thrones := F13, b_thrones := b13, g_thrones := PySem.W.mg_of X G a13, f_law := f14, fd_law := _, cd_law := cd14, F_law := F14, b_law := b14, g_law := PySem.W.mg_of X G a14, z_all := PySem.W.mg_none_of X G z_all, z_bool := PySem.W.mg_none_of X G z_bool, z_int := PySem.W.mg_none_of X G z_int, z_isinstance := PySem.W.mg_none_of X G z_isinstance, z_len := PySem.W.mg_none_of X G z_len, z_list := PySem.W.mg_none_of X G z_list, z_min := PySem.W.mg_none_of X G z_min, z_range := PySem.W.mg_none_of X G z_range, z_sorted := PySem.W.mg_none_of X G z_sorted, z_str := PySem.W.mg_none_of X G z_str, z_tuple := PySem.W.mg_none_of X G z_tuple }
  exact ⟨_, [], (fun p hp => by cases hp), (fun p hp => by cases hp), (fun p hp => by cases hp), fun s u => .of_eq rfl, fun base _ _ hT => by rw [isLaw]; exact ok_law C⟩
end K72
open PySem PySem.W PyProof.Rows
set_option maxHeartbeats 0 in
theorem PySem.Challenge.cw_thronewalk_k72_thrones_ask_holds : PySem.Challenge.rw_thronewalk_k72_thrones_ask.Holds := by
  w_on; o_law; k_head; (case hw => w_witness2)
  k_fill
  refine Pw.walkG (l := PySem.Challenge.rw_thronewalk_k72_thrones_ask) (n := 63) (k := 6) (x := "_law_script") (F := K72.F_law) rfl (by decide) rfl ⟨rfl, by decide, by decide⟩ (fun w h Y => by first | exact PySem.W.kIn_of Y | exact PySem.W.km_in_of Y) ?F K72.holds
  case F =>
    intro w mg fa h KX G hmg tabs
    refine' K72.all_mk KX G hmg ?a0 ?l0 ?c0 ?k0 ?a1 ?l1 ?c1 ?k1 ?a2 ?l2 ?c2 ?k2 ?a3 ?l3 ?c3 ?k3 ?a4 ?l4 ?c4 ?k4 ?a5 ?l5 ?c5 ?k5 ?a6 ?l6 ?c6 ?k6 ?a7 ?l7 ?c7 ?k7 ?a8 ?l8 ?c8 ?k8 ?a9 ?l9 ?c9 ?k9 ?a10 ?l10 ?c10 ?k10 ?a11 ?l11 ?c11 ?k11 ?a12 ?l12 ?c12 ?k12 ?a13 ?l13 ?c13 ?k13 ?a14 ?l14 ?c14 ?k14 ?z_all ?z_bool ?z_int ?z_isinstance ?z_len ?z_list ?z_min ?z_range ?z_sorted ?z_str ?z_tuple
    (case a0 => k_is)
    (case l0 => k_is)
    (case c0 => k_is)
    (case k0 => k_is)
    (case a1 => k_is)
    (case l1 => k_is)
    (case c1 => k_is)
    (case k1 => k_is)
    (case a2 => k_is)
    (case l2 => k_is)
    (case c2 => k_is)
    (case k2 => k_is)
    (case a3 => k_is)
    (case l3 => k_is)
    (case c3 => k_is)
    (case k3 => k_is)
    (case a4 => k_is)
    (case l4 => k_is)
    (case c4 => k_is)
    (case k4 => k_is)
    (case a5 => k_is)
    (case l5 => k_is)
    (case c5 => k_is)
    (case k5 => k_is)
    (case a6 => k_is)
    (case l6 => k_is)
    (case c6 => k_is)
    (case k6 => k_is)
    (case a7 => k_is)
    (case l7 => k_is)
    (case c7 => k_is)
    (case k7 => k_is)
    (case a8 => k_is)
    (case l8 => k_is)
    (case c8 => k_is)
    (case k8 => k_is)
    (case a9 => k_is)
    (case l9 => k_is)
    (case c9 => k_is)
    (case k9 => k_is)
    (case a10 => k_is)
    (case l10 => k_is)
    (case c10 => k_is)
    (case k10 => k_is)
    (case a11 => k_is)
    (case l11 => k_is)
    (case c11 => k_is)
    (case k11 => k_is)
    (case a12 => k_is)
    (case l12 => k_is)
    (case c12 => k_is)
    (case k12 => k_is)
    (case a13 => k_is)
    (case l13 => k_is)
    (case c13 => k_is)
    (case k13 => k_is)
    (case a14 => k_is)
    (case l14 => k_is)
    (case c14 => k_is)
    (case k14 => k_is)
    (case z_all => k_is)
    (case z_bool => k_is)
    (case z_int => k_is)
    (case z_isinstance => k_is)
    (case z_len => k_is)
    (case z_list => k_is)
    (case z_min => k_is)
    (case z_range => k_is)
    (case z_sorted => k_is)
    (case z_str => k_is)
    (case z_tuple => k_is)
end
