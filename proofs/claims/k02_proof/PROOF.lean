import PyProof.Rows.All
import Wide.All
import OpenK.AllK
import Wide.FinOn
import KE.KStateDown
import HandS.ForMost
import HandS.ForExc
import HandS.Flow
import HandS.Defaults
import HandS.Lambda
import HandS.DeepEq
import HandS.Deep
import HandS.Wide
import HandS.WideMore
import HandS.IsInst
import HandS.TupAny
import HandS.TupMul
import HandS.Zip
import HandS.Conv
import HandS.Rev
import HandS.RevRange
import HandS.Style
import HandS.Sort
import HandS.SortKw
import HandS.SortInts
import HandS.Strs
import HandS.SetFor
import HandS.Gcd
import HandS.Small
import HandS.HeadEnd
import HandS.HeadHook1
import HandS.HeadHook2
import PyProof.ReprRoads
import KE.KMathGC
import PyProof.P3In
import PyProof.Rows.InDataRows
import KE.KTupSum
import KE.GoesEnumKw
import KE.GoesEnum
import HandS.RaiseMore
import HandS.TupSets
import KE.GoesZip
import HandS.ExcInit
import HandS.ExcField
import HandS.TryMany
import HandS.Ends
import HandS.HeadHook3
import HandS.Head0
import HandS.Head1
import HandS.Head2
import HandS.Head3
import PyProof.Rows.RegStrFacts
import PySem.Challenge.RW_unithouse_k02_whole_numbers_of_members
set_option Elab.async false -- ev
set_option linter.all false -- ev
set_option maxRecDepth 100000 -- ev
set_option maxHeartbeats 2000000 -- ev
set_option autoImplicit false -- ev
/-! Data without a heap, what stands for it in the heap, and the meaning of an expression as a plain function. -/
namespace Ev
open PySem PySem.Spec PyProof.Rows L2 -- ev

/-- a value of the program: a tuple and a list that nobody writes any more are their items; a cell is a list or a dict that several hands write -/
inductive D where
  | non | bl (b : Bool) | int (i : Int) | str (x : Str)
  | tup (ds : List D) | lst (ds : List D) | cell (k : Nat) | ty (n : String)
/-- what a cell holds -/
inductive Cell where
  | lst (ds : List D)
  | dct (kvs : List (Key × D))
abbrev Store := List Cell
/-- what a run comes to -/
inductive R (α : Type) where
  | ok (a : α) (st : Store)
  | exc (c : Str) (as : List D) (st : Store)
  | bad
def M (α : Type) : Type := Store → R α
def M.pure {α : Type} (a : α) : M α := fun st => .ok a st
def M.bind {α β : Type} (m : M α) (k : α → M β) : M β := fun st => match m st with
  | .ok a st' => k a st'
  | .exc c as st' => .exc c as st'
  | .bad => .bad
def M.bad {α : Type} : M α := fun _ => .bad
def M.opt {α : Type} : Option α → M α
  | some a => M.pure a
  | none => M.bad
/-- a slot: not bound; a value; a list of this frame alone, which it may write -/
inductive SV where
  | un | val (d : D) | own (ds : List D)
abbrev Env' := List SV
/-- what an expression gives: a value that stays; a new list; a list that is only looked at -/
inductive RV where
  | per (d : D) | fr (ds : List D) | bor (ds : List D)

/-! ### what stands for it -/
/-- a list that is never written any more -/
def KL (K : PySem.W.Frag) (a : Addr) (vs : List V) : Prop := ∃ (its : List Value) (n : Nat), K.lookup a = some { cls := .type "list", data := .seq its.toArray n } ∧ its.length ≤ sizeLine ∧ Vals vs its
theorem KL.sq {K : PySem.W.Frag} {H : Hp} {a : Addr} {vs : List V} (h : KL K a vs) : SqL K H a vs := by
  obtain ⟨its, n, e, z, r⟩ := h
  exact .inr ⟨_, its.toArray, n, e, rfl, rfl, rfl, by simpa using z, by simpa using r⟩
/-- a list that is there -/
def RdL (K : PySem.W.Frag) (H : Hp) (a : Addr) (vs : List V) : Prop := Rd H a (.lst vs) ∨ KL K a vs
theorem RdL.sq {K : PySem.W.Frag} {H : Hp} {a : Addr} {vs : List V} (h : RdL K H a vs) : SqL K H a vs := h.elim .inl KL.sq
theorem RdL.ok {X : Cx} {pins : List (Addr × Obj)} {σ : L2.St} {H : Hp} {s : Shared} {a : Addr} {vs : List V} (h : RdL X.K H a vs) (I : L2.Inv X pins σ H s) :
    ∃ (its : List Value) (n : Nat), Vals vs its ∧ s.heap.get? a = some { cls := .type "list", data := .seq its.toArray n } ∧ vs.length ≤ sizeLine := by
  rcases h with h | ⟨its, n, e, z, r⟩
  · obtain ⟨z, its, n, r, e⟩ := h.ok I.hok -- ev
    exact ⟨its, n, r, e, z⟩
  · exact ⟨its, n, r, I.kIn _ _ e, by rw [r.length]; exact z⟩
def FzL (K : PySem.W.Frag) (H : Hp) (a : Addr) (vs : List V) : Prop := (∃ o, H a = some (.frz o (.lst vs))) ∨ KL K a vs
def Fix : HO → Prop
  | .tup _ => True
  | .frz _ _ => True
  | _ => False
def NTb : HO → Prop
  | .tbl _ => False
  | _ => True
theorem FzL.rd {K : PySem.W.Frag} {H : Hp} {a : Addr} {vs : List V} (h : FzL K H a vs) : RdL K H a vs := h.elim (fun h => .inl (.inr h)) .inr
theorem FzL.sq {K : PySem.W.Frag} {H : Hp} {a : Addr} {vs : List V} (h : FzL K H a vs) : SqL K H a vs := h.rd.sq
mutual
def RelD (K : PySem.W.Frag) (H : Hp) (ca : List Addr) : D → V → Prop
  | .non, v => v = .non
  | .bl b, v => v = .bl b
  | .int i, v => v = .int i
  | .str x, v => v = .str x
  | .tup ds, v => ∃ a vs, v = .ref a ∧ SqT K H a vs ∧ RelDs K H ca ds vs
  | .lst ds, v => ∃ a vs, v = .ref a ∧ FzL K H a vs ∧ RelDs K H ca ds vs
  | .cell k, v => ∃ a, v = .ref a ∧ ca[k]? = some a
  | .ty n, v => v = .ty n
def RelDs (K : PySem.W.Frag) (H : Hp) (ca : List Addr) : List D → List V → Prop
  | [], vs => vs = []
  | d :: ds, vs => ∃ v r, vs = v :: r ∧ RelD K H ca d v ∧ RelDs K H ca ds r
end
/-- the heap goes on: what is fixed stays, what is no cell stays, new cells are new -/
structure Stp (ca ca' : List Addr) (H H' : Hp) : Prop where
  ext : ∃ l, ca' = ca ++ l ∧ ∀ a ∈ l, H a = none
  fix : ∀ a o, H a = some o → Fix o → H' a = some o
  keep : ∀ a o, H a = some o → a ∉ ca → NTb o → H' a = some o
  dom : ∀ a, H' a = none → H a = none
section
variable {K : PySem.W.Frag} {H H1 H2 : Hp} {ca ca1 ca2 : List Addr}
theorem Stp.refl : Stp ca ca H H := ⟨⟨[], by simp, fun a h => nomatch h⟩, fun _ _ h _ => h, fun _ _ h _ _ => h, fun _ h => h⟩
theorem Stp.trans (a : Stp ca ca1 H H1) (b : Stp ca1 ca2 H1 H2) : Stp ca ca2 H H2 := by
  obtain ⟨l, e1, n1⟩ := a.ext
  obtain ⟨m, e2, n2⟩ := b.ext
  refine ⟨⟨l ++ m, by rw [e2, e1, List.append_assoc], fun x hx => ?_⟩, fun x o h f => b.fix x o (a.fix x o h f) f, fun x o h n t => ?_, fun x h => a.dom x (b.dom x h)⟩
  · rcases List.mem_append.mp hx with hx | hx -- ev
    · exact n1 x hx
    · exact a.dom x (n2 x hx)
  · refine b.keep x o (a.keep x o h n t) (fun hx => ?_) t
    rw [e1] at hx
    rcases List.mem_append.mp hx with hx | hx -- ev
    · exact n hx
    · rw [n1 x hx] at h; cases h
theorem Stp.sub (a : Stp ca ca1 H H1) {k : Nat} {x : Addr} (h : ca[k]? = some x) : ca1[k]? = some x := by
  obtain ⟨l, e, _⟩ := a.ext
  rw [e, List.getElem?_append_left (List.getElem?_eq_some_iff.mp h).1]
  exact h
theorem Stp.notin (a : Stp ca ca1 H H1) {x : Addr} {o : HO} (h : H x = some o) (n : x ∉ ca) : x ∉ ca1 := by
  obtain ⟨l, e, f⟩ := a.ext
  rw [e]
  intro hx
  rcases List.mem_append.mp hx with hx | hx -- ev
  · exact n hx
  · rw [f x hx] at h; cases h
theorem SqT.fixed {a : Addr} {vs : List V} (f : ∀ a o, H a = some o → Fix o → H1 a = some o) (h : SqT K H a vs) : SqT K H1 a vs := by
  rcases h with (h | ⟨o, h⟩) | h -- ev
  · exact .inl (.inl (f a _ h trivial))
  · exact .inl (.inr ⟨o, f a _ h trivial⟩)
  · exact .inr h
theorem FzL.fixed {a : Addr} {vs : List V} (f : ∀ a o, H a = some o → Fix o → H1 a = some o) (h : FzL K H a vs) : FzL K H1 a vs := by
  rcases h with ⟨o, h⟩ | h
  · exact .inl ⟨o, f a _ h trivial⟩
  · exact .inr h
mutual
theorem RelD.fixed (f : ∀ a o, H a = some o → Fix o → H1 a = some o) (g : ∀ (k : Nat) (x : Addr), ca[k]? = some x → ca1[k]? = some x) : ∀ (d : D) (v : V), RelD K H ca d v → RelD K H1 ca1 d v
  | .non, _, h => h
  | .bl _, _, h => h
  | .int _, _, h => h
  | .str _, _, h => h
  | .tup ds, v, h => by
    obtain ⟨a, vs, e, q, r⟩ := h
    exact ⟨a, vs, e, SqT.fixed f q, RelDs.fixed f g ds vs r⟩
  | .lst ds, v, h => by
    obtain ⟨a, vs, e, q, r⟩ := h
    exact ⟨a, vs, e, FzL.fixed f q, RelDs.fixed f g ds vs r⟩
  | .cell k, v, h => by
    obtain ⟨a, e, q⟩ := h
    exact ⟨a, e, g k a q⟩
  | .ty _, _, h => h
theorem RelDs.fixed (f : ∀ a o, H a = some o → Fix o → H1 a = some o) (g : ∀ (k : Nat) (x : Addr), ca[k]? = some x → ca1[k]? = some x) : ∀ (ds : List D) (vs : List V), RelDs K H ca ds vs → RelDs K H1 ca1 ds vs
  | [], _, h => h
  | d :: ds, vs, h => by
    obtain ⟨v, r, e, q, t⟩ := h
    exact ⟨v, r, e, RelD.fixed f g d v q, RelDs.fixed f g ds r t⟩
end
theorem RelD.stp {d : D} {v : V} (s : Stp ca ca1 H H1) (h : RelD K H ca d v) : RelD K H1 ca1 d v := RelD.fixed s.fix (fun _ _ => s.sub) d v h
theorem RelDs.stp {ds : List D} {vs : List V} (s : Stp ca ca1 H H1) (h : RelDs K H ca ds vs) : RelDs K H1 ca1 ds vs := RelDs.fixed s.fix (fun _ _ => s.sub) ds vs h
theorem RelDs.length : ∀ {ds : List D} {vs : List V}, RelDs K H ca ds vs → vs.length = ds.length
  | [], _, h => by cases h; rfl
  | _ :: _, _, h => by
    obtain ⟨v, r, e, _, t⟩ := h
    subst e
    exact congrArg Nat.succ (RelDs.length t)
theorem RelDs.get : ∀ {ds : List D} {vs : List V} {i : Nat} {d : D}, RelDs K H ca ds vs → ds[i]? = some d → ∃ v, vs[i]? = some v ∧ RelD K H ca d v
  | [], _, _, _, _, h => by simp at h -- ev
  | _ :: _, _, 0, _, h, e => by
    obtain ⟨v, r, e1, q, t⟩ := h
    subst e1
    simp at e
    subst e
    exact ⟨v, rfl, q⟩
  | _ :: _, _, i + 1, _, h, e => by
    obtain ⟨v, r, e1, q, t⟩ := h
    subst e1
    obtain ⟨w, a, b⟩ := RelDs.get (i := i) t (by simpa using e)
    exact ⟨w, by simpa using a, b⟩
theorem RelDs.append : ∀ {ds es : List D} {vs ws : List V}, RelDs K H ca ds vs → RelDs K H ca es ws → RelDs K H ca (ds ++ es) (vs ++ ws)
  | [], _, _, _, h, g => by cases h; exact g
  | _ :: _, _, _, _, h, g => by
    obtain ⟨v, r, e, q, t⟩ := h
    subst e
    exact ⟨v, _, rfl, q, RelDs.append t g⟩
theorem RelDs.set {d : D} {v : V} (q : RelD K H ca d v) : ∀ {ds : List D} {vs : List V} (i : Nat), RelDs K H ca ds vs → RelDs K H ca (ds.set i d) (vs.set i v)
  | [], _, _, h => by cases h; rfl -- ev
  | _ :: _, _, 0, h => by
    obtain ⟨w, r, e, _, t⟩ := h
    subst e
    exact ⟨v, r, rfl, q, t⟩
  | _ :: _, _, i + 1, h => by
    obtain ⟨w, r, e, q', t⟩ := h
    subst e
    exact ⟨w, _, rfl, q', RelDs.set q i t⟩
theorem RelDs.take : ∀ {ds : List D} {vs : List V} (n : Nat), RelDs K H ca ds vs → RelDs K H ca (ds.take n) (vs.take n)
  | _, _, 0, _ => by simp [RelDs]
  | [], _, _ + 1, h => by cases h; rfl
  | _ :: _, _, n + 1, h => by
    obtain ⟨w, r, e, q', t⟩ := h
    subst e
    exact ⟨w, _, rfl, q', RelDs.take n t⟩
theorem RelDs.drop : ∀ {ds : List D} {vs : List V} (n : Nat), RelDs K H ca ds vs → RelDs K H ca (ds.drop n) (vs.drop n)
  | _, _, 0, h => h
  | [], _, _ + 1, h => by cases h; rfl
  | _ :: _, _, n + 1, h => by
    obtain ⟨w, r, e, q', t⟩ := h
    subst e
    exact RelDs.drop n t
theorem RelDs.snoc {ds : List D} {vs : List V} {d : D} {v : V} (h : RelDs K H ca ds vs) (q : RelD K H ca d v) : RelDs K H ca (ds ++ [d]) (vs ++ [v]) := RelDs.append h ⟨v, [], rfl, q, rfl⟩
theorem RelDs.nil : RelDs K H ca [] [] := rfl
theorem RelDs.cons {d : D} {v : V} {ds : List D} {vs : List V} (q : RelD K H ca d v) (h : RelDs K H ca ds vs) : RelDs K H ca (d :: ds) (v :: vs) := ⟨v, vs, rfl, q, h⟩
end

/-! ### cells, slots -/
def KvR (K : PySem.W.Frag) (H : Hp) (ca : List Addr) : List (Key × D) → List (Key × V) → Prop
  | [], vs => vs = []
  | (k, d) :: r, vs => ∃ v s, vs = (k, v) :: s ∧ RelD K H ca d v ∧ KvR K H ca r s
def CellR (K : PySem.W.Frag) (H : Hp) (ca : List Addr) : Cell → Addr → Prop
  | .lst ds, a => ∃ vs, H a = some (.lst vs) ∧ RelDs K H ca ds vs
  | .dct kvs, a => ∃ vs, H a = some (.dK vs) ∧ KvR K H ca kvs vs
structure SR (K : PySem.W.Frag) (st : Store) (ca : List Addr) (H : Hp) : Prop where
  len : ca.length = st.length
  nd : ca.Nodup
  cell : ∀ (k : Nat) (c : Cell) (a : Addr), st[k]? = some c → ca[k]? = some a → CellR K H ca c a
def SVR (K : PySem.W.Frag) (H : Hp) (ca : List Addr) : SV → Option V → Prop
  | .un, _ => True
  | .val d, o => ∃ v, o = some v ∧ RelD K H ca d v
  | .own ds, o => ∃ a vs, o = some (.ref a) ∧ H a = some (.lst vs) ∧ a ∉ ca ∧ RelDs K H ca ds vs
structure EnvR (K : PySem.W.Frag) (H : Hp) (ca : List Addr) (ρ : Env') (σ : L2.St) : Prop where
  len : ρ.length = σ.length
  at_ : ∀ (i : Nat) (s : SV), ρ[i]? = some s → ∃ o, σ[i]? = some o ∧ SVR K H ca s o
  sep : ∀ (i j : Nat) (ds es : List D) (a : Addr), i ≠ j → ρ[i]? = some (.own ds) → ρ[j]? = some (.own es) → σ[i]? = some (some (.ref a)) → σ[j]? ≠ some (some (.ref a))
/-- what an expression gave: H0 the heap ahead of it -/
def RelRV (K : PySem.W.Frag) (H0 H : Hp) (ca : List Addr) : RV → V → Prop
  | .per d, v => RelD K H ca d v
  | .fr ds, v => ∃ a vs, v = .ref a ∧ H a = some (.lst vs) ∧ H0 a = none ∧ a ∉ ca ∧ RelDs K H ca ds vs
  | .bor ds, v => ∃ a vs, v = .ref a ∧ H a = some (.lst vs) ∧ a ∉ ca ∧ RelDs K H ca ds vs
/-- an error of the program's own: its class by its name, its fields -/
def ExR (K : PySem.W.Frag) (fld : Str → List Str) (H : Hp) (ca : List Addr) (c : Str) (as : List D) (cls : Value) (dd : Option Addr) : Prop :=
  cls = .ref (He.ga K c) ∧ ∃ d kvs vs, dd = some d ∧ H d = some (.xd kvs) ∧ (∀ (i : Nat) (f : Str) (v : V), (fld c)[i]? = some f → vs[i]? = some v → kvs.lookup f = some v) ∧ vs.length = (fld c).length ∧ RelDs K H ca as vs
section
variable {K : PySem.W.Frag} {H H1 H2 : Hp} {ca ca1 ca2 : List Addr}
theorem KvR.stp (s : Stp ca ca1 H H1) : ∀ {kvs : List (Key × D)} {vs : List (Key × V)}, KvR K H ca kvs vs → KvR K H1 ca1 kvs vs
  | [], _, h => h
  | (k, d) :: r, _, h => by
    obtain ⟨v, t, e, q, g⟩ := h
    exact ⟨v, t, e, q.stp s, KvR.stp s g⟩
theorem SVR.stp {s : SV} {o : Option V} (t : Stp ca ca1 H H1) (h : SVR K H ca s o) : SVR K H1 ca1 s o := by
  cases s with
  | un => trivial
  | val d =>
    obtain ⟨v, e, q⟩ := h
    exact ⟨v, e, q.stp t⟩
  | own ds =>
    obtain ⟨a, vs, e, q, n, r⟩ := h
    exact ⟨a, vs, e, t.keep a _ q n trivial, t.notin q n, r.stp t⟩
theorem EnvR.stp {ρ : Env'} {σ : L2.St} (t : Stp ca ca1 H H1) (h : EnvR K H ca ρ σ) : EnvR K H1 ca1 ρ σ :=
  ⟨h.len, fun i s e => let ⟨o, a, b⟩ := h.at_ i s e; ⟨o, a, b.stp t⟩, h.sep⟩
/-- a thing is laid at a new place -/
theorem Stp.laid {p : Addr} {o : HO} (hp : H p = none) : Stp ca ca H (upd H p o) := by
  have h1 : ∀ a u, H a = some u → upd H p o a = some u := fun a u e => by rw [upd_ne (ne_of_none e hp)]; exact e
  refine ⟨⟨[], by simp, fun a h => nomatch h⟩, fun a u e _ => h1 a u e, fun a u e _ _ => h1 a u e, fun a e => ?_⟩
  by_cases z : a = p
  · rw [z]; exact hp
  · rw [upd_ne z] at e; exact e
theorem SR.notnew {st : Store} (h : SR K st ca H) {p : Addr} (hp : H p = none) : p ∉ ca := by
  intro hm
  obtain ⟨k, hk⟩ := List.getElem?_of_mem hm
  have hl : k < st.length := by rw [← h.len]; exact (List.getElem?_eq_some_iff.mp hk).1
  have := h.cell k st[k] p (List.getElem?_eq_getElem hl) hk
  cases hc : st[k] with
  | lst ds => rw [hc] at this; obtain ⟨vs, e, _⟩ := this; rw [hp] at e; cases e
  | dct kvs => rw [hc] at this; obtain ⟨vs, e, _⟩ := this; rw [hp] at e; cases e
/-- the cells stay as they are -/
theorem SR.stay {st : Store} (h : SR K st ca H) (t : Stp ca ca H H1) (k : ∀ a ∈ ca, H1 a = H a) : SR K st ca H1 := by
  refine ⟨h.len, h.nd, fun i c a e1 e2 => ?_⟩
  have q := h.cell i c a e1 e2
  have ea := k a (List.mem_of_getElem? e2)
  cases c with
  | lst ds => obtain ⟨vs, e, r⟩ := q; exact ⟨vs, by rw [ea]; exact e, r.stp t⟩
  | dct kvs => obtain ⟨vs, e, r⟩ := q; exact ⟨vs, by rw [ea]; exact e, r.stp t⟩
theorem SR.laid {st : Store} (h : SR K st ca H) {p : Addr} {o : HO} (hp : H p = none) : SR K st ca (upd H p o) :=
  h.stay (Stp.laid hp) fun a ha => upd_ne fun z => h.notnew hp (z ▸ ha)
/-- a list of nobody is written no more -/
theorem Stp.froze {p : Addr} {vs : List V} {o : Obj} (hp : H p = some (.lst vs)) (h0 : H1 p = none) (s : Stp ca ca1 H1 H) : Stp ca ca1 H1 (upd H p (.frz o (.lst vs))) := by
  refine ⟨s.ext, fun a u e f => ?_, fun a u e n f => ?_, fun a e => ?_⟩
  · have := s.fix a u e f
    rw [upd_ne]
    · exact this
    · rintro rfl
      rw [h0] at e; cases e
  · have := s.keep a u e n f
    rw [upd_ne]
    · exact this
    · rintro rfl
      rw [h0] at e; cases e
  · by_cases z : a = p
    · rw [z, upd_same] at e; cases e
    · rw [upd_ne z] at e; exact s.dom a e
theorem Stp.froze0 {p : Addr} {vs : List V} {o : Obj} (hp : H p = some (.lst vs)) : ∀ a u, H a = some u → Fix u → upd H p (.frz o (.lst vs)) a = some u := fun a u e f => by
  rw [upd_ne]
  · exact e
  · rintro rfl
    rw [hp] at e; cases e; exact f.elim
theorem SR.froze {st : Store} {p : Addr} {vs : List V} {o : Obj} (h : SR K st ca H) (hp : H p = some (.lst vs)) (n : p ∉ ca) : SR K st ca (upd H p (.frz o (.lst vs))) := by
  have f := Stp.froze0 (o := o) hp
  refine ⟨h.len, h.nd, fun i c a e1 e2 => ?_⟩
  have q := h.cell i c a e1 e2
  have ne : a ≠ p := fun z => n (z ▸ List.mem_of_getElem? e2)
  have kv : ∀ (kvs : List (Key × D)) (ws : List (Key × V)), KvR K H ca kvs ws → KvR K (upd H p (.frz o (.lst vs))) ca kvs ws := by
    intro kvs
    induction kvs with
    | nil => intro ws h; exact h
    | cons x r ih =>
      intro ws h
      obtain ⟨v, t, e, q, g⟩ := h
      exact ⟨v, t, e, RelD.fixed f (fun _ _ z => z) _ _ q, ih t g⟩
  cases c with
  | lst ds => obtain ⟨ws, e, r⟩ := q; exact ⟨ws, by rw [upd_ne ne]; exact e, RelDs.fixed f (fun _ _ z => z) _ _ r⟩
  | dct kvs => obtain ⟨ws, e, r⟩ := q; exact ⟨ws, by rw [upd_ne ne]; exact e, kv _ _ r⟩
end
/-- an expression's list, where it is one, is fixed at once -/
theorem pe_frz {X : Cx} {e : Expr} {t : TE} (h : PE X e t) :
    PE X e (fun σ H Q => t σ H fun v H1 => Q v H1 ∨ ∃ a vs, v = .ref a ∧ H1 a = some (.lst vs) ∧ ∀ o, Q v (upd H1 a (.frz o (.lst vs)))) := by
  refine ⟨fun pins s σ H Q I hq => thn (h.run pins s σ H _ I hq) fun u s1 ⟨v, H1, I1, r, q⟩ => ?_⟩
  rcases q with q | ⟨a, vs, e, ha, q⟩
  · exact ⟨v, H1, I1, r, q⟩
  · obtain ⟨o, I2⟩ := I1.lock ha trivial
    exact ⟨v, _, I2, r, q o⟩
/-- a weaker reading -/
theorem PE.imp {X : Cx} {e : Expr} {t u : TE} (h : PE X e t) (i : ∀ σ H Q, u σ H Q → t σ H Q) : PE X e u := ⟨fun pins s σ H Q I q => h.run pins s σ H Q I (i σ H Q q)⟩
theorem PT.imp {X : Cx} {e : Expr} {t u : TT} (h : PT X e t) (i : ∀ σ H Q, u σ H Q → t σ H Q) : PT X e u := ⟨fun pins s σ H Q I q => h.run pins s σ H Q I (i σ H Q q)⟩
theorem PS.imp {X : Cx} {e : Stmt} {t u : TS} (h : PS X e t) (i : ∀ D σ H, u D σ H → t D σ H) : PS X e u := ⟨fun pins s σ H D I q => h.run pins s σ H D I (i D σ H q)⟩
theorem PSs.imp {X : Cx} {e : List Stmt} {t u : TS} (h : PSs X e t) (i : ∀ D σ H, u D σ H → t D σ H) : PSs X e u := ⟨fun pins s σ H D I q => h.run pins s σ H D I (i D σ H q)⟩
theorem PA.imp {X : Cx} {e : List Expr} {t u : TA} (h : PA X e t) (i : ∀ σ H Q, u σ H Q → t σ H Q) : PA X e u := ⟨fun pos pins s σ H Q I q => h.run pos pins s σ H Q I (i σ H Q q)⟩
end Ev
set_option Elab.async false -- ev
set_option linter.all false -- ev
set_option maxRecDepth 100000 -- ev
set_option maxHeartbeats 2000000 -- ev
set_option autoImplicit false -- ev
/-! The rules' frame: how a run's end is wished, readings of expressions as functions. -/
namespace Ev
open PySem PySem.Spec PyProof.Rows L2 -- ev

/-- what is wanted of a run's end -/
def Post {α : Type} (K : PySem.W.Frag) (fld : Str → List Str) (W : WX) (σ : L2.St) (H : Hp) (ca : List Addr) (k : α → Store → List Addr → Hp → Prop) : R α → Prop
  | .ok a st => ∀ ca' H', Stp ca ca' H H' → SR K st ca' H' → k a st ca' H'
  | .exc c as st => ∀ cls dd ca' H', Stp ca ca' H H' → SR K st ca' H' → ExR K fld H' ca' c as cls dd → W cls dd σ H'
  | .bad => False
section
variable {α β : Type} {K : PySem.W.Frag} {fld : Str → List Str} {W : WX} {σ : L2.St} {H : Hp} {ca : List Addr} {st : Store}
theorem Post.bind {m : M α} {g : α → M β} {k : β → Store → List Addr → Hp → Prop} (h : Post K fld W σ H ca k (M.bind m g st)) :
    Post K fld W σ H ca (fun a st1 ca1 H1 => Post K fld W σ H1 ca1 k (g a st1)) (m st) := by
  unfold M.bind at h
  cases e : m st with
  | bad => rw [e] at h; exact h
  | exc c as st1 => rw [e] at h; exact h
  | ok a st1 =>
    rw [e] at h
    have h : Post K fld W σ H ca k (g a st1) := h
    intro ca1 H1 t1 s1
    show Post K fld W σ H1 ca1 k (g a st1)
    cases e2 : g a st1 with
    | bad => rw [e2] at h; exact h
    | exc c as st2 => rw [e2] at h; exact fun cls dd ca2 H2 t2 s2 x => h cls dd ca2 H2 (t1.trans t2) s2 x
    | ok b st2 => rw [e2] at h; exact fun ca2 H2 t2 s2 => h ca2 H2 (t1.trans t2) s2
theorem Post.mono {k k' : α → Store → List Addr → Hp → Prop} {r : R α} (h : Post K fld W σ H ca k r) (i : ∀ a st' ca' H', Stp ca ca' H H' → SR K st' ca' H' → k a st' ca' H' → k' a st' ca' H') : Post K fld W σ H ca k' r := by
  cases r with
  | bad => exact h
  | exc c as st1 => exact h
  | ok a st1 => exact fun ca' H' t s => i _ _ _ _ t s (h ca' H' t s)
/-- from here -/
theorem Post.now {k : α → Store → List Addr → Hp → Prop} {a : α} (h : Post K fld W σ H ca k (.ok a st)) (s : SR K st ca H) : k a st ca H := h ca H Stp.refl s
end

/-! ### values that are read -/
/-- a list that is there to be read, and stays so while only cells are written -/
def LR (K : PySem.W.Frag) (H : Hp) (ca : List Addr) (a : Addr) (vs : List V) : Prop := FzL K H a vs ∨ (H a = some (.lst vs) ∧ a ∉ ca)
def RelR (K : PySem.W.Frag) (H : Hp) (ca : List Addr) : D → V → Prop
  | .lst ds, v => ∃ a vs, v = .ref a ∧ LR K H ca a vs ∧ RelDs K H ca ds vs
  | d, v => RelD K H ca d v
/-- a value that is read now -/
def RelX (K : PySem.W.Frag) (H : Hp) (ca : List Addr) : D → V → Prop
  | .lst ds, v => ∃ a vs, v = .ref a ∧ RdL K H a vs ∧ RelDs K H ca ds vs
  | d, v => RelD K H ca d v
def RelRs (K : PySem.W.Frag) (H : Hp) (ca : List Addr) : List D → List V → Prop
  | [], vs => vs = []
  | d :: ds, vs => ∃ v r, vs = v :: r ∧ RelR K H ca d v ∧ RelRs K H ca ds r
def RelXs (K : PySem.W.Frag) (H : Hp) (ca : List Addr) : List D → List V → Prop
  | [], vs => vs = []
  | d :: ds, vs => ∃ v r, vs = v :: r ∧ RelX K H ca d v ∧ RelXs K H ca ds r
/-- a cell's list is read off the store -/
def deref (st : Store) : D → D
  | .cell k => match st[k]? with
    | some (.lst ds) => .lst ds
    | _ => .cell k
  | d => d
def RV.d : RV → D
  | .per d => d
  | .fr ds => .lst ds
  | .bor ds => .lst ds
section
variable {K : PySem.W.Frag} {H H1 : Hp} {ca ca1 : List Addr}
theorem RelD.r : ∀ {d : D} {v : V}, RelD K H ca d v → RelR K H ca d v
  | .non, _, h => h
  | .bl _, _, h => h
  | .int _, _, h => h
  | .str _, _, h => h
  | .ty _, _, h => h
  | .tup _, _, h => h
  | .cell _, _, h => h
  | .lst _, _, h => by
    obtain ⟨a, vs, e, q, r⟩ := h
    exact ⟨a, vs, e, .inl q, r⟩
theorem RelR.stp (t : Stp ca ca1 H H1) : ∀ {d : D} {v : V}, RelR K H ca d v → RelR K H1 ca1 d v
  | .non, _, h => h
  | .bl _, _, h => h
  | .int _, _, h => h
  | .str _, _, h => h
  | .ty _, _, h => h
  | .tup ds, v, h => RelD.stp (K := K) (d := .tup ds) (v := v) t h
  | .cell k, v, h => RelD.stp (K := K) (d := .cell k) (v := v) t h
  | .lst _, _, h => by
    obtain ⟨a, vs, e, q, r⟩ := h
    refine ⟨a, vs, e, ?_, r.stp t⟩
    rcases q with q | ⟨q, n⟩
    · exact .inl (FzL.fixed t.fix q)
    · exact .inr ⟨t.keep a _ q n trivial, t.notin q n⟩
theorem RelR.x {st : Store} (s : SR K st ca H) : ∀ {d : D} {v : V}, RelR K H ca d v → RelX K H ca (deref st d) v
  | .non, _, h => h
  | .bl _, _, h => h
  | .int _, _, h => h
  | .str _, _, h => h
  | .ty _, _, h => h
  | .tup _, _, h => h
  | .lst _, _, h => by
    obtain ⟨a, vs, e, q, r⟩ := h
    refine ⟨a, vs, e, ?_, r⟩
    rcases q with q | ⟨q, _⟩
    · exact q.rd
    · exact .inl (.inl q)
  | .cell k, v, h => by
    obtain ⟨a, e, q⟩ := h
    cases hc : st[k]? with
    | none =>
      rw [show deref st (.cell k) = .cell k by simp only [deref, hc]]
      exact ⟨a, e, q⟩
    | some c =>
      cases c with
      | dct kvs =>
        rw [show deref st (.cell k) = .cell k by simp only [deref, hc]]
        exact ⟨a, e, q⟩
      | lst ds =>
        rw [show deref st (.cell k) = .lst ds by simp only [deref, hc]]
        obtain ⟨vs, e1, r⟩ := s.cell k _ a hc q
        exact ⟨a, vs, e, .inl (.inl e1), r⟩
theorem RelRV.r {H0 : Hp} : ∀ {r : RV} {v : V}, RelRV K H0 H ca r v → RelR K H ca r.d v
  | .per d, v, h => RelD.r h
  | .fr _, _, h => by
    obtain ⟨a, vs, e, q, _, n, r⟩ := h
    exact ⟨a, vs, e, .inr ⟨q, n⟩, r⟩
  | .bor _, _, h => by
    obtain ⟨a, vs, e, q, n, r⟩ := h
    exact ⟨a, vs, e, .inr ⟨q, n⟩, r⟩
theorem RelRV.back {H0 H2 : Hp} {ca2 : List Addr} (t : Stp ca2 ca H2 H0) : ∀ {r : RV} {v : V}, RelRV K H0 H ca1 r v → RelRV K H2 H ca1 r v
  | .per d, v, h => h
  | .fr _, _, h => by
    obtain ⟨a, vs, e, q, n0, n, r⟩ := h
    exact ⟨a, vs, e, q, t.dom a n0, n, r⟩
  | .bor _, _, h => h
theorem RelRs.stp (t : Stp ca ca1 H H1) : ∀ {ds : List D} {vs : List V}, RelRs K H ca ds vs → RelRs K H1 ca1 ds vs
  | [], _, h => h
  | _ :: _, _, h => by
    obtain ⟨v, r, e, q, g⟩ := h
    exact ⟨v, r, e, q.stp t, RelRs.stp t g⟩
theorem RelRs.x {st : Store} (s : SR K st ca H) : ∀ {ds : List D} {vs : List V}, RelRs K H ca ds vs → RelXs K H ca (ds.map (deref st)) vs
  | [], _, h => h
  | _ :: _, _, h => by
    obtain ⟨v, r, e, q, g⟩ := h
    exact ⟨v, r, e, q.x s, RelRs.x s g⟩
theorem RelD.x {d : D} {v : V} (h : RelD K H ca d v) : RelX K H ca d v := by
  cases d with
  | lst ds =>
    obtain ⟨a, vs, e, q, r⟩ := h
    exact ⟨a, vs, e, q.rd, r⟩
  | _ => exact h
end

/-! ### readings -/
section
variable (K : PySem.W.Frag) (fld : Str → List Str) (W : WX)
def TN (f : Env' → M RV) : TE := fun σ H Q => ∃ ρ st ca, EnvR K H ca ρ σ ∧ SR K st ca H ∧ Post K fld W σ H ca (fun r _ ca' H' => ∀ v, RelRV K H H' ca' r v → Q v H') (f ρ st)
def TS' (f : Env' → M D) : TE := fun σ H Q => ∃ ρ st ca, EnvR K H ca ρ σ ∧ SR K st ca H ∧ Post K fld W σ H ca (fun r _ ca' H' => ∀ v, RelD K H' ca' r v → Q v H') (f ρ st)
def TR (f : Env' → M D) : TE := fun σ H Q => ∃ ρ st ca, EnvR K H ca ρ σ ∧ SR K st ca H ∧ Post K fld W σ H ca (fun r _ ca' H' => ∀ v, RelR K H' ca' r v → Q v H') (f ρ st)
def TT' (f : Env' → M Bool) : TT := fun σ H Q => ∃ ρ st ca, EnvR K H ca ρ σ ∧ SR K st ca H ∧ Post K fld W σ H ca (fun b _ _ H' => Q b H') (f ρ st)
def TAs (f : Env' → M (List D)) : TA := fun σ H Q => ∃ ρ st ca, EnvR K H ca ρ σ ∧ SR K st ca H ∧ Post K fld W σ H ca (fun ds _ ca' H' => ∀ vs, RelDs K H' ca' ds vs → Q vs H') (f ρ st)
def TAr (f : Env' → M (List D)) : TA := fun σ H Q => ∃ ρ st ca, EnvR K H ca ρ σ ∧ SR K st ca H ∧ Post K fld W σ H ca (fun ds _ ca' H' => ∀ vs, RelRs K H' ca' ds vs → Q vs H') (f ρ st)
end
/-- looked at -/
def rd (f : Env' → M RV) : Env' → M D := fun ρ => M.bind (f ρ) fun r => M.pure r.d
/-- kept: a new list is written no more -/
def kp (f : Env' → M RV) : Env' → M D := fun ρ => M.bind (f ρ) fun r => match r with
  | .per d => M.pure d
  | .fr ds => M.pure (.lst ds)
  | .bor _ => M.bad
section
variable {K : PySem.W.Frag} {fld : Str → List Str} {W : WX} {X : Cx} {e : Expr}
theorem TN.rd {f : Env' → M RV} (h : PE X e (TN K fld W f)) : PE X e (TR K fld W (rd f)) := by
  refine PE.imp h fun σ H Q ⟨ρ, st, ca, he, hs, hp⟩ => ⟨ρ, st, ca, he, hs, (Post.bind hp).mono fun r st1 ca1 H1 t1 s1 q v hv => ?_⟩
  exact Post.now q s1 v hv.r
theorem TN.kp {f : Env' → M RV} (h : PE X e (TN K fld W f)) : PE X e (TS' K fld W (kp f)) := by
  refine PE.imp (pe_frz h) fun σ H Q ⟨ρ, st, ca, he, hs, hp⟩ => ⟨ρ, st, ca, he, hs, ?_⟩
  have hp : Post K fld W σ H ca (fun r _ ca' H' => ∀ v, RelD K H' ca' r v → Q v H') (M.bind (f ρ) (fun r => match r with
    | .per d => M.pure d
    | .fr ds => M.pure (.lst ds)
    | .bor _ => M.bad) st) := hp
  unfold M.bind at hp
  cases hr : f ρ st with
  | bad => rw [hr] at hp; exact hp
  | exc c as st1 => rw [hr] at hp; exact hp
  | ok r st1 =>
    rw [hr] at hp
    intro ca1 H1 t1 s1 v hv
    cases r with
    | per d => exact .inl (hp ca1 H1 t1 s1 v hv)
    | bor ds => exact (show False from hp).elim
    | fr ds =>
      obtain ⟨a, vs, e1, q1, n0, n1, r1⟩ := hv
      refine .inr ⟨a, vs, e1, q1, fun o => ?_⟩
      refine (show ∀ ca' H', Stp ca ca' H H' → SR K st1 ca' H' → ∀ v, RelD K H' ca' (.lst ds) v → Q v H' from hp) ca1 _ (Stp.froze q1 n0 t1) (s1.froze q1 n1) v ⟨a, vs, e1, Or.inl ⟨o, upd_same⟩, RelDs.fixed (Stp.froze0 q1) (fun _ _ z => z) _ _ r1⟩
end
end Ev
set_option Elab.async false -- ev
set_option linter.all false -- ev
set_option maxRecDepth 100000 -- ev
set_option maxHeartbeats 2000000 -- ev
set_option autoImplicit false -- ev
/-! Operators, tests, displays, subscripts: by values. -/
namespace Ev
open PySem PySem.Spec PyProof.Rows L2 -- ev

/-- an operation's result is handed on -/
def Gv (K : PySem.W.Frag) (H : Hp) (ca : List Addr) (st : Store) (r : RV) (Q : VK) : Prop := ∀ v H', Stp ca ca H H' → SR K st ca H' → RelRV K H H' ca r v → Q v H'
section
variable {K : PySem.W.Frag} {H : Hp} {ca : List Addr} {st : Store} {Q : VK}
theorem Gv.here {d : D} {v : V} (g : Gv K H ca st (.per d) Q) (s : SR K st ca H) (h : RelD K H ca d v) : Q v H := g v H Stp.refl s h
theorem Gv.newL {ds : List D} {vs : List V} {p : Addr} (g : Gv K H ca st (.fr ds) Q) (s : SR K st ca H) (h : RelDs K H ca ds vs) (hp : H p = none) : Q (.ref p) (upd H p (.lst vs)) :=
  g _ _ (Stp.laid hp) (s.laid hp) ⟨p, vs, rfl, upd_same, hp, s.notnew hp, h.stp (Stp.laid hp)⟩
theorem Gv.newT {ds : List D} {vs : List V} {p : Addr} (g : Gv K H ca st (.per (.tup ds)) Q) (s : SR K st ca H) (h : RelDs K H ca ds vs) (hp : H p = none) : Q (.ref p) (upd H p (.tup vs)) :=
  g _ _ (Stp.laid hp) (s.laid hp) ⟨p, vs, rfl, SqT.of upd_same, h.stp (Stp.laid hp)⟩
end
def rO (K : PySem.W.Frag) (op : D → D → Option RV) : R2 := fun x y H Q => ∃ ca st a b r, SR K st ca H ∧ RelX K H ca a x ∧ RelX K H ca b y ∧ op a b = some r ∧ Gv K H ca st r Q
def rU1 (K : PySem.W.Frag) (op : D → Option RV) : V → Hp → VK → Prop := fun x H Q => ∃ ca st a r, SR K st ca H ∧ RelX K H ca a x ∧ op a = some r ∧ Gv K H ca st r Q
def rCl (K : PySem.W.Frag) (op : List D → Option RV) : List V → Hp → VK → Prop := fun xs H Q => ∃ ca st as r, SR K st ca H ∧ RelXs K H ca as xs ∧ op as = some r ∧ Gv K H ca st r Q
def rMe (K : PySem.W.Frag) (op : D → List D → Option RV) : V → List V → Hp → VK → Prop := fun x xs H Q => ∃ ca st a as r, SR K st ca H ∧ RelX K H ca a x ∧ RelXs K H ca as xs ∧ op a as = some r ∧ Gv K H ca st r Q
section
variable {X : Cx}
theorem opi {f : Value → Value → Sem Value} {r r' : R2} (h : OpR X f r) (i : ∀ x y H Q, r' x y H Q → r x y H Q) : OpR X f r' := fun pins s σ H x y v u Q I rx ry q => h pins s σ H x y v u Q I rx ry (i x y H Q q)
theorem uni {f : Value → Sem Value} {r r' : V → Hp → VK → Prop} (h : UnR X f r) (i : ∀ x H Q, r' x H Q → r x H Q) : UnR X f r' := fun pins s σ H x v Q I rx q => h pins s σ H x v Q I rx (i x H Q q)
theorem cai {f : Value} {r r' : List V → Hp → VK → Prop} (h : CallR X f r) (i : ∀ xs H Q, r' xs H Q → r xs H Q) : CallR X f r' := fun pins s σ H xs us Q I rx q => h pins s σ H xs us Q I rx (i xs H Q q)
theorem mti {f : String} {r r' : V → List V → Hp → VK → Prop} (h : MtR X f r) (i : ∀ x xs H Q, r' x xs H Q → r x xs H Q) : MtR X f r' := fun pins s σ H x xs v us Q I rx rs q => h pins s σ H x xs v us Q I rx rs (i x xs H Q q)
theorem ixi {r r' : R2} (h : IxR X r) (i : ∀ x y H Q, r' x y H Q → r x y H Q) : IxR X r' := fun a b pins s σ H x y v u Q I rx ry q => h a b pins s σ H x y v u Q I rx ry (i x y H Q q)
end
def M.rdr (o : Store → Option RV) : M RV := fun st => match o st with
  | some r => .ok r st
  | none => .bad
theorem Post.rdr {K : PySem.W.Frag} {fld : Str → List Str} {W : WX} {σ : L2.St} {H0 H : Hp} {ca0 ca : List Addr} {st : Store} {o : Store → Option RV} {Q : VK}
    (h : Post K fld W σ H ca (fun r _ ca' H' => ∀ v, RelRV K H0 H' ca' r v → Q v H') (M.rdr o st)) (t0 : Stp ca0 ca H0 H) : ∃ r, o st = some r ∧ Gv K H ca st r Q := by
  unfold M.rdr at h
  cases e : o st with
  | none => rw [e] at h; exact h.elim
  | some r =>
    rw [e] at h
    exact ⟨r, rfl, fun v H' t s q => h ca H' t s v (q.back t0)⟩

/-! ### expressions, by what their parts mean -/
def sVar (i : Nat) : Env' → M RV := fun ρ => match ρ[i]? with
  | some (.val d) => M.pure (.per d)
  | some (.own ds) => M.pure (.bor ds)
  | _ => M.bad
def sC (d : D) : Env' → M RV := fun _ => M.pure (.per d)
def sNil : Env' → M (List D) := fun _ => M.pure []
def sCons (f : Env' → M D) (g : Env' → M (List D)) : Env' → M (List D) := fun ρ => M.bind (f ρ) fun d => M.bind (g ρ) fun ds => M.pure (d :: ds)
def sTup (g : Env' → M (List D)) : Env' → M RV := fun ρ => M.bind (g ρ) fun ds => if ds.length ≤ sizeLine then M.pure (.per (.tup ds)) else M.bad
def sLst (g : Env' → M (List D)) : Env' → M RV := fun ρ => M.bind (g ρ) fun ds => if ds.length ≤ sizeLine then M.pure (.fr ds) else M.bad
def M.cell (c : Cell) : M RV := fun st => .ok (.per (.cell st.length)) (st ++ [c])
/-- a list that several hands will write -/
def sLstC (g : Env' → M (List D)) : Env' → M RV := fun ρ => M.bind (g ρ) fun ds => if ds.length ≤ sizeLine then M.cell (.lst ds) else M.bad
def sBin (op : D → D → Option RV) (f g : Env' → M D) : Env' → M RV := fun ρ => M.bind (f ρ) fun a => M.bind (g ρ) fun b => M.rdr fun st => op (deref st a) (deref st b)
def sUn (op : D → Option RV) (f : Env' → M D) : Env' → M RV := fun ρ => M.bind (f ρ) fun a => M.rdr fun st => op (deref st a)
def sCall (op : List D → Option RV) (g : Env' → M (List D)) : Env' → M RV := fun ρ => M.bind (g ρ) fun as => M.rdr fun st => op (as.map (deref st))
def sMeth (op : D → List D → Option RV) (f : Env' → M D) (g : Env' → M (List D)) : Env' → M RV := fun ρ => M.bind (f ρ) fun a => M.bind (g ρ) fun as => M.rdr fun st => op (deref st a) (as.map (deref st))
def isT : Option RV → Option Bool
  | some (.per (.bl b)) => some b
  | _ => none
def M.opt' {α : Type} (o : Store → Option α) : M α := fun st => match o st with
  | some r => .ok r st
  | none => .bad
def sChain (op op' : D → D → Option RV) (f g k : Env' → M D) : Env' → M RV := fun ρ => M.bind (f ρ) fun a => M.bind (g ρ) fun b => M.bind (M.opt' fun st => isT (op (deref st a) (deref st b))) fun c =>
  if c = true then M.bind (k ρ) fun d => M.rdr fun st => op' (deref st b) (deref st d) else M.pure (.per (.bl false))
/-- a value's truth -/
def tru (st : Store) : D → Option Bool
  | .non => some false
  | .bl b => some b
  | .int i => some (i != 0)
  | .str y => if y.length ≤ sizeLine then some ((y.length : Int) != 0) else none
  | .tup ds => some (!ds.isEmpty)
  | .lst ds => some (!ds.isEmpty)
  | .cell k => match st[k]? with
    | some (.lst ds) => some (!ds.isEmpty)
    | some (.dct kvs) => some (!kvs.isEmpty)
    | none => none
  | .ty _ => none
def sTru (f : Env' → M RV) : Env' → M Bool := fun ρ => M.bind (f ρ) fun r => M.opt' fun st => tru st r.d
def sAndT (f g : Env' → M Bool) : Env' → M Bool := fun ρ => M.bind (f ρ) fun b => if b = true then g ρ else M.pure false
def sOrT (f g : Env' → M Bool) : Env' → M Bool := fun ρ => M.bind (f ρ) fun b => if b = true then M.pure true else g ρ
def sNotT (f : Env' → M Bool) : Env' → M Bool := fun ρ => M.bind (f ρ) fun b => M.pure !b
def sAndV (f g : Env' → M RV) : Env' → M RV := fun ρ => M.bind (f ρ) fun r => M.bind (M.opt' fun st => tru st r.d) fun b => if b = true then g ρ else M.pure r
def sOrV (f g : Env' → M RV) : Env' → M RV := fun ρ => M.bind (f ρ) fun r => M.bind (M.opt' fun st => tru st r.d) fun b => if b = true then M.pure r else g ρ
def sNotV (f : Env' → M RV) : Env' → M RV := fun ρ => M.bind (f ρ) fun r => M.bind (M.opt' fun st => tru st r.d) fun b => M.pure (.per (.bl !b))
def sIf {α : Type} (c : Env' → M Bool) (f g : Env' → M α) : Env' → M α := fun ρ => M.bind (c ρ) fun b => if b = true then f ρ else g ρ
def sBoolT (f : Env' → M RV) : Env' → M Bool := fun ρ => M.bind (f ρ) fun r => M.opt' fun _ => isT (some r)

section
variable {K : PySem.W.Frag} {fld : Str → List Str} {W : WX} {σ : L2.St} {H : Hp} {ca : List Addr} {st : Store}
theorem Post.opt' {α : Type} {k : α → Store → List Addr → Hp → Prop} {o : Store → Option α} (h : Post K fld W σ H ca k (M.opt' o st)) (s : SR K st ca H) : ∃ a, o st = some a ∧ k a st ca H := by
  unfold M.opt' at h
  cases e : o st with
  | none => rw [e] at h; exact h.elim
  | some r => rw [e] at h; exact ⟨r, rfl, Post.now h s⟩
theorem Post.opt2 {α : Type} {k : α → Store → List Addr → Hp → Prop} {o : Store → Option α} (h : Post K fld W σ H ca k (M.opt' o st)) : ∃ a, o st = some a ∧ Post K fld W σ H ca k (.ok a st) := by
  unfold M.opt' at h
  cases e : o st with
  | none => rw [e] at h; exact h.elim
  | some r => rw [e] at h; exact ⟨r, rfl, h⟩
theorem tru_of {r : RV} {v : V} {k : Bool} {H0 : Hp} (s : SR K st ca H) (h : RelRV K H0 H ca r v) (e : tru st r.d = some k) : TruV K v H k := by
  have hx := RelR.x s h.r
  have seq : ∀ (ds : List D) (a : Addr) (vs : List V), RdL K H a vs → RelDs K H ca ds vs → TruV K (.ref a) H (!ds.isEmpty) := fun ds a vs q r => by
    refine .inl ⟨vs, q.sq, ?_⟩
    cases ds with
    | nil => cases r; rfl
    | cons d ds => obtain ⟨_, _, e, _⟩ := r; subst e; rfl
  cases hd : r.d with
  | non => rw [hd] at hx e; cases (show v = .non from hx); cases e; rfl
  | bl b => rw [hd] at hx e; cases (show v = .bl b from hx); cases e; rfl
  | int i => rw [hd] at hx e; cases (show v = .int i from hx); cases e; rfl
  | str y =>
    rw [hd] at hx e
    cases (show v = .str y from hx)
    have e : (if y.length ≤ sizeLine then some ((y.length : Int) != 0) else none) = some k := e
    by_cases hl : y.length ≤ sizeLine
    · rw [if_pos hl] at e
      cases e
      exact ⟨hl, rfl⟩
    · rw [if_neg hl] at e
      cases e
  | tup ds =>
    rw [hd] at hx e
    obtain ⟨a, vs, rfl, q, r1⟩ := hx
    cases e
    refine .inr (.inl ⟨vs, q, ?_⟩)
    cases ds with
    | nil => cases r1; rfl
    | cons d ds => obtain ⟨_, _, e, _⟩ := r1; subst e; rfl
  | lst ds =>
    rw [hd] at hx e
    obtain ⟨a, vs, rfl, q, r1⟩ := hx
    cases e
    exact seq ds a vs q r1
  | ty n => rw [hd] at e; cases e
  | cell j =>
    rw [hd] at hx e
    have hr : RelD K H ca (.cell j) v := by
      have := h.r
      rw [hd] at this
      exact this
    obtain ⟨a, rfl, q⟩ := hr
    have e : (match st[j]? with
      | some (.lst ds) => some (!ds.isEmpty)
      | some (.dct kvs) => some (!kvs.isEmpty)
      | none => none) = some k := e
    cases hc : st[j]? with
    | none => rw [hc] at e; cases e
    | some c =>
      rw [hc] at e
      have q1 := s.cell j c a hc q
      cases c with
      | lst ds =>
        cases e
        obtain ⟨vs, h1, r1⟩ := q1
        exact seq ds a vs (.inl (.inl h1)) r1
      | dct kvs =>
        cases e
        obtain ⟨vs, h1, r1⟩ := q1
        refine .inr (.inr ⟨vs, h1, ?_⟩)
        cases kvs with
        | nil => cases r1; rfl
        | cons d ds => obtain ⟨_, _, e, _⟩ := r1; subst e; rfl
end

section
variable {K : PySem.W.Frag} {fld : Str → List Str} {W : WX} {X : Cx} {e a b c : Expr} {es rest : List Expr} {pos : Pos}
theorem se_var {i : Nat} {x : Str} (hN : X.N[i]? = some x) (hv : Vis X.env.scope x) (hd : (x == ("__debug__" : Str)) = false) (hcd : (x == ("__classdict__" : Str)) = false) : PE X (.Name x pos) (TN K fld W (sVar i)) := by
  refine PE.imp (pe_var hN hv hd hcd) fun σ H Q ⟨ρ, st, ca, he, hs, hp⟩ => ?_
  unfold sVar at hp
  cases hr : ρ[i]? with
  | none => rw [hr] at hp; exact hp.elim
  | some s =>
    obtain ⟨o, h1, h2⟩ := he.at_ i s hr
    rw [hr] at hp
    cases s with
    | un => exact hp.elim
    | val d =>
      obtain ⟨v, e, q⟩ := h2
      subst e
      exact ⟨v, h1, Post.now hp hs v q⟩
    | own ds =>
      obtain ⟨p, vs, e, q, n, r⟩ := h2
      subst e
      exact ⟨_, h1, Post.now hp hs _ ⟨p, vs, rfl, q, n, r⟩⟩
theorem se_c {d : D} {v : V} (h : PE X e (tC v)) (r : ∀ H ca, RelD K H ca d v) : PE X e (TN K fld W (sC d)) := by
  refine PE.imp h fun σ H Q ⟨ρ, st, ca, he, hs, hp⟩ => ?_
  exact Post.now hp hs v (r H ca)
theorem se_nil : PA X [] (TAs K fld W sNil) := PA.imp pa_nil fun σ H Q ⟨ρ, st, ca, he, hs, hp⟩ => Post.now hp hs [] rfl
theorem se_nilr : PA X [] (TAr K fld W sNil) := PA.imp pa_nil fun σ H Q ⟨ρ, st, ca, he, hs, hp⟩ => Post.now hp hs [] rfl
theorem se_cons {f : Env' → M D} {g : Env' → M (List D)} (ha : PE X e (TS' K fld W f)) (hr : PA X es (TAs K fld W g)) (hs : starEach (e :: es) X.env = (false, eval e X.env) :: starEach es X.env) : PA X (e :: es) (TAs K fld W (sCons f g)) := by
  refine PA.imp (pa_cons ha hr hs) fun σ H Q ⟨ρ, st, ca, he, hs, hp⟩ => ⟨ρ, st, ca, he, hs, (Post.bind hp).mono fun d st1 ca1 H1 t1 s1 q v hv => ?_⟩
  refine ⟨ρ, st1, ca1, he.stp t1, s1, (Post.bind q).mono fun ds st2 ca2 H2 t2 s2 q vs hvs => ?_⟩
  exact Post.now q s2 _ ⟨v, vs, rfl, hv.stp t2, hvs⟩
theorem se_consr {f : Env' → M D} {g : Env' → M (List D)} (ha : PE X e (TR K fld W f)) (hr : PA X es (TAr K fld W g)) (hs : starEach (e :: es) X.env = (false, eval e X.env) :: starEach es X.env) : PA X (e :: es) (TAr K fld W (sCons f g)) := by
  refine PA.imp (pa_cons ha hr hs) fun σ H Q ⟨ρ, st, ca, he, hs, hp⟩ => ⟨ρ, st, ca, he, hs, (Post.bind hp).mono fun d st1 ca1 H1 t1 s1 q v hv => ?_⟩
  refine ⟨ρ, st1, ca1, he.stp t1, s1, (Post.bind q).mono fun ds st2 ca2 H2 t2 s2 q vs hvs => ?_⟩
  exact Post.now q s2 _ ⟨v, vs, rfl, hv.stp t2, hvs⟩
theorem se_tup {k : Nat} {g : Env' → M (List D)} (h : PA X es (TAs K fld W g)) : PE X (.Tuple es k pos) (TN K fld W (sTup g)) := by
  refine PE.imp (pe_tup h) fun σ H Q ⟨ρ, st, ca, he, hs, hp⟩ => ⟨ρ, st, ca, he, hs, (Post.bind hp).mono fun ds st1 ca1 H1 t1 s1 q vs hvs => ?_⟩
  split at q
  · rename_i hl
    refine ⟨by rw [hvs.length]; exact hl, fun p hp => ?_⟩
    have t2 := Stp.laid (ca := ca1) (o := .tup vs) hp
    exact q ca1 _ t2 (s1.laid hp) _ ⟨p, vs, rfl, SqT.of upd_same, hvs.stp t2⟩
  · exact q.elim
theorem se_lst {g : Env' → M (List D)} (h : PA X es (TAs K fld W g)) : PE X (.List es pos) (TN K fld W (sLst g)) := by
  refine PE.imp (pe_lst h) fun σ H Q ⟨ρ, st, ca, he, hs, hp⟩ => ⟨ρ, st, ca, he, hs, (Post.bind hp).mono fun ds st1 ca1 H1 t1 s1 q vs hvs => ?_⟩
  split at q
  · rename_i hl
    refine ⟨by rw [hvs.length]; exact hl, fun p hp => ?_⟩
    have t2 := Stp.laid (ca := ca1) (o := .lst vs) hp
    exact q ca1 _ t2 (s1.laid hp) _ ⟨p, vs, rfl, upd_same, t1.dom p hp, s1.notnew hp, hvs.stp t2⟩
  · exact q.elim
/-- a new cell -/
theorem SR.push {st : Store} {H : Hp} {ca : List Addr} {c : Cell} {p : Addr} {o : HO} (s : SR K st ca H) (hp : H p = none) (hc : CellR K (upd H p o) (ca ++ [p]) c p) :
    Stp ca (ca ++ [p]) H (upd H p o) ∧ SR K (st ++ [c]) (ca ++ [p]) (upd H p o) := by
  have t0 := Stp.laid (ca := ca) (o := o) hp
  have t : Stp ca (ca ++ [p]) H (upd H p o) := ⟨⟨[p], rfl, fun a ha => by rw [List.mem_singleton.mp ha]; exact hp⟩, t0.fix, t0.keep, t0.dom⟩
  refine ⟨t, by rw [List.length_append, List.length_append, s.len]; rfl, ?_, fun k c' a e1 e2 => ?_⟩
  · rw [List.nodup_append]
    refine ⟨s.nd, by simp, fun x hx y hy => ?_⟩
    rw [List.mem_singleton.mp hy]
    rintro rfl
    exact s.notnew hp hx
  · by_cases hk : k < st.length
    · rw [List.getElem?_append_left hk] at e1
      rw [List.getElem?_append_left (by rw [s.len]; exact hk)] at e2
      have q := s.cell k c' a e1 e2
      have ne : a ≠ p := fun z => s.notnew hp (z ▸ List.mem_of_getElem? e2)
      cases c' with
      | lst ds => obtain ⟨vs, h1, r⟩ := q; exact ⟨vs, by rw [upd_ne ne]; exact h1, r.stp t⟩
      | dct ds => obtain ⟨vs, h1, r⟩ := q; exact ⟨vs, by rw [upd_ne ne]; exact h1, r.stp t⟩
    · have hk1 : k = st.length := by
        have := (List.getElem?_eq_some_iff.mp e1).1
        rw [List.length_append, List.length_singleton] at this
        omega
      subst hk1
      rw [List.getElem?_append_right (Nat.le_refl _)] at e1
      rw [List.getElem?_append_right (by rw [s.len]; exact Nat.le_refl _)] at e2
      simp at e1
      rw [s.len] at e2
      simp at e2
      subst e1 e2
      exact hc
theorem se_lstC {g : Env' → M (List D)} (h : PA X es (TAs K fld W g)) : PE X (.List es pos) (TN K fld W (sLstC g)) := by
  refine PE.imp (pe_lst h) fun σ H Q ⟨ρ, st, ca, he, hs, hp⟩ => ⟨ρ, st, ca, he, hs, (Post.bind hp).mono fun ds st1 ca1 H1 t1 s1 q vs hvs => ?_⟩
  split at q
  · rename_i hl
    refine ⟨by rw [hvs.length]; exact hl, fun p hpn => ?_⟩
    have hx : Stp ca1 (ca1 ++ [p]) H1 (upd H1 p (.lst vs)) := by
      have t0 := Stp.laid (ca := ca1) (o := .lst vs) hpn
      exact ⟨⟨[p], rfl, fun a ha => by rw [List.mem_singleton.mp ha]; exact hpn⟩, t0.fix, t0.keep, t0.dom⟩
    obtain ⟨t2, s2⟩ := s1.push (c := .lst ds) (o := .lst vs) hpn ⟨vs, upd_same, hvs.stp hx⟩
    refine q _ _ t2 s2 _ ⟨p, rfl, ?_⟩
    rw [← s1.len, List.getElem?_append_right (Nat.le_refl _)]
    simp
  · exact q.elim
theorem se_bin {o : Operator} {op : D → D → Option RV} {f g : Env' → M D} (ho : OpR X (binaryOp o) (rO K op)) (ha : PE X a (TR K fld W f)) (hb : PE X b (TR K fld W g)) : PE X (.BinOp a o b pos) (TN K fld W (sBin op f g)) := by
  refine PE.imp (pe_op ho ha hb) fun σ H Q ⟨ρ, st, ca, he, hs, hp⟩ => ⟨ρ, st, ca, he, hs, (Post.bind hp).mono fun d st1 ca1 H1 t1 s1 q v hv => ?_⟩
  refine ⟨ρ, st1, ca1, he.stp t1, s1, (Post.bind q).mono fun d2 st2 ca2 H2 t2 s2 q w hw => ?_⟩
  obtain ⟨r, e, g⟩ := q.rdr (t1.trans t2)
  exact ⟨ca2, st2, _, _, r, s2, (hv.stp t2).x s2, hw.x s2, e, g⟩
theorem se_un {o : UnaryOp} {op : D → Option RV} {f : Env' → M D} (ho : UnR X (unaryOp o) (rU1 K op)) (ha : PE X a (TR K fld W f)) : PE X (.UnaryOp o a pos) (TN K fld W (sUn op f)) := by
  refine PE.imp (pe_un ho ha) fun σ H Q ⟨ρ, st, ca, he, hs, hp⟩ => ⟨ρ, st, ca, he, hs, (Post.bind hp).mono fun d st1 ca1 H1 t1 s1 q v hv => ?_⟩
  obtain ⟨r, e, g⟩ := q.rdr t1
  exact ⟨ca1, st1, _, r, s1, hv.x s1, e, g⟩
theorem se_cmp {o : CmpOp} {op : D → D → Option RV} {f g : Env' → M D} (ho : OpR X (compareOp o) (rO K op)) (ha : PE X a (TR K fld W f)) (hb : PE X b (TR K fld W g)) (hm : behindInMarks o b = false) : PE X (.Compare a [o] [b] pos) (TN K fld W (sBin op f g)) := by
  refine PE.imp (pe_cmpR ho ha hb hm) fun σ H Q ⟨ρ, st, ca, he, hs, hp⟩ => ⟨ρ, st, ca, he, hs, (Post.bind hp).mono fun d st1 ca1 H1 t1 s1 q v hv => ?_⟩
  refine ⟨ρ, st1, ca1, he.stp t1, s1, (Post.bind q).mono fun d2 st2 ca2 H2 t2 s2 q w hw => ?_⟩
  obtain ⟨r, e, g⟩ := q.rdr (t1.trans t2)
  exact ⟨ca2, st2, _, _, r, s2, (hv.stp t2).x s2, hw.x s2, e, g⟩
/-- the result is a bool -/
def BoolOp' (op : D → D → Option RV) : Prop := ∀ a b r, op a b = some r → ∃ k, r = .per (.bl k)
theorem st_bool {t : TE} {f : Env' → M RV} (h : PT X e (tTest t)) (i : ∀ σ H Q, TN K fld W f σ H Q → t σ H Q) : PT X e (TT' K fld W (sBoolT f)) := by
  refine PT.imp h fun σ H Q ⟨ρ, st, ca, he, hs, hp⟩ => ?_
  refine i σ H _ ⟨ρ, st, ca, he, hs, (Post.bind hp).mono fun r st1 ca1 H1 t1 s1 q v hv => ?_⟩
  obtain ⟨k, e1, q2⟩ := q.opt' s1
  cases r with
  | per d =>
    cases d with
    | bl b =>
      have e2 : b = k := Option.some.inj e1
      have e3 : v = .bl b := hv
      rw [e2] at e3
      exact ⟨k, e3, q2⟩
    | _ => cases e1
  | _ => cases e1
theorem st_cmp {o : CmpOp} {op : D → D → Option RV} {f g : Env' → M D} (ho : OpR X (compareOp o) (rO K op)) (ha : PE X a (TR K fld W f)) (hb : PE X b (TR K fld W g)) (hm : behindInMarks o b = false) : PT X (.Compare a [o] [b] pos) (TT' K fld W (sBoolT (sBin op f g))) := by
  refine st_bool (pt_cmpR ho ha hb hm) fun σ H Q ⟨ρ, st, ca, he, hs, hp⟩ => ⟨ρ, st, ca, he, hs, (Post.bind hp).mono fun d st1 ca1 H1 t1 s1 q v hv => ?_⟩
  refine ⟨ρ, st1, ca1, he.stp t1, s1, (Post.bind q).mono fun d2 st2 ca2 H2 t2 s2 q w hw => ?_⟩
  obtain ⟨r, e, g⟩ := q.rdr (t1.trans t2)
  exact ⟨ca2, st2, _, _, r, s2, (hv.stp t2).x s2, hw.x s2, e, g⟩
theorem tn_chain {op op' : D → D → Option RV} {f g k : Env' → M D} {r r' : R2} (h1 : r = rO K op) (h2 : r' = rO K op') : ∀ σ H Q, TN K fld W (sChain op op' f g k) σ H Q → tChain r r' (TR K fld W f) (TR K fld W g) (TR K fld W k) σ H Q := by
  subst h1 h2
  intro σ H Q ⟨ρ, st, ca, he, hs, hp⟩
  refine ⟨ρ, st, ca, he, hs, (Post.bind hp).mono fun d st1 ca1 H1 t1 s1 q v hv => ?_⟩
  refine ⟨ρ, st1, ca1, he.stp t1, s1, (Post.bind q).mono fun d2 st2 ca2 H2 t2 s2 q w hw => ?_⟩
  obtain ⟨b, hb, q3⟩ := (Post.bind q).opt2
  cases hr : op (deref st2 d) (deref st2 d2) with
  | none => rw [hr] at hb; cases hb
  | some r =>
    rw [hr] at hb
    refine ⟨ca2, st2, _, _, r, s2, (hv.stp t2).x s2, hw.x s2, hr, fun z H3 t3 s3 rz => ?_⟩
    cases r with
    | per dd =>
      cases dd with
      | bl b' =>
        have e2 : b' = b := Option.some.inj hb
        have e3 : z = .bl b' := rz
        rw [e2] at e3
        refine ⟨b, e3, ?_⟩
        have q4 := q3 ca2 H3 t3 s3
        cases b with
        | false => exact Post.now q4 s3 _ rfl
        | true =>
          refine ⟨ρ, st2, ca2, ((he.stp t1).stp t2).stp t3, s3, (Post.bind q4).mono fun d3 st3 ca3 H4 t4 s4 q5 y hy => ?_⟩
          obtain ⟨r2, e2, g2⟩ := q5.rdr (((t1.trans t2).trans t3).trans t4)
          exact ⟨ca3, st3, _, _, r2, s4, ((hw.stp t3).stp t4).x s4, hy.x s4, e2, g2⟩
      | _ => cases hb
    | _ => cases hb
theorem se_chain {o o' : CmpOp} {op op' : D → D → Option RV} {f g k : Env' → M D} (ho : OpR X (compareOp o) (rO K op)) (ho' : OpR X (compareOp o') (rO K op')) (ha : PE X a (TR K fld W f)) (hb : PE X b (TR K fld W g)) (hc : PE X c (TR K fld W k))
    (hm : lastMarks [o, o'] [b, c] = false) : PE X (.Compare a [o, o'] [b, c] pos) (TN K fld W (sChain op op' f g k)) := PE.imp (pe_chain ho ho' ha hb hc hm) (tn_chain rfl rfl)
theorem st_chain {o o' : CmpOp} {op op' : D → D → Option RV} {f g k : Env' → M D} (ho : OpR X (compareOp o) (rO K op)) (ho' : OpR X (compareOp o') (rO K op')) (ha : PE X a (TR K fld W f)) (hb : PE X b (TR K fld W g)) (hc : PE X c (TR K fld W k))
    (hm : lastMarks [o, o'] [b, c] = false) : PT X (.Compare a [o, o'] [b, c] pos) (TT' K fld W (sBoolT (sChain op op' f g k))) := st_bool (pt_chain ho ho' ha hb hc hm) (tn_chain rfl rfl)
/-! ### tests -/
theorem st_tru {f : Env' → M RV} (ha : PE X e (TN X.K fld W f)) (he : ∀ whole, isTrue e X.env whole = (do let v ← whole; standAt e.pos; holding [v] (truthy v))) : PT X e (TT' X.K fld W (sTru f)) := by
  refine PT.imp (pt_truth ha he) fun σ H Q ⟨ρ, st, ca, he, hs, hp⟩ => ⟨ρ, st, ca, he, hs, (Post.bind hp).mono fun r st1 ca1 H1 t1 s1 q v hv => ?_⟩
  obtain ⟨k, e, q⟩ := q.opt' s1
  exact ⟨k, tru_of s1 hv e, q⟩
theorem sw_and1 {f : Env' → M Bool} (h : PT X a (TT' K fld W f)) : PW X (.BoolOp .And [a] pos) (TT' K fld W f) := pw_and1 h
theorem sw_or1 {f : Env' → M Bool} (h : PT X a (TT' K fld W f)) : PW X (.BoolOp .Or [a] pos) (TT' K fld W f) := pw_or1 h
theorem PW.imp {t u : TT} (h : PW X e t) (i : ∀ σ H Q, u σ H Q → t σ H Q) : PW X e u := ⟨fun wh pins s σ H Q I q => h.run wh pins s σ H Q I (i σ H Q q)⟩
theorem sw_and {f g : Env' → M Bool} (ha : PT X a (TT' K fld W f)) (hb : PW X (.BoolOp .And (b :: rest) pos) (TT' K fld W g)) : PW X (.BoolOp .And (a :: b :: rest) pos) (TT' K fld W (sAndT f g)) := by
  refine PW.imp (pw_and ha hb) fun σ H Q ⟨ρ, st, ca, he, hs, hp⟩ => ⟨ρ, st, ca, he, hs, (Post.bind hp).mono fun k st1 ca1 H1 t1 s1 q => ?_⟩
  cases k with
  | true => exact ⟨ρ, st1, ca1, he.stp t1, s1, q⟩
  | false => exact Post.now q s1
theorem sw_or {f g : Env' → M Bool} (ha : PT X a (TT' K fld W f)) (hb : PW X (.BoolOp .Or (b :: rest) pos) (TT' K fld W g)) : PW X (.BoolOp .Or (a :: b :: rest) pos) (TT' K fld W (sOrT f g)) := by
  refine PW.imp (pw_or ha hb) fun σ H Q ⟨ρ, st, ca, he, hs, hp⟩ => ⟨ρ, st, ca, he, hs, (Post.bind hp).mono fun k st1 ca1 H1 t1 s1 q => ?_⟩
  cases k with
  | false => exact ⟨ρ, st1, ca1, he.stp t1, s1, q⟩
  | true => exact Post.now q s1
theorem st_not {f : Env' → M Bool} (ha : PT X a (TT' K fld W f)) : PT X (.UnaryOp .Not a pos) (TT' K fld W (sNotT f)) := by
  refine PT.imp (pt_not ha) fun σ H Q ⟨ρ, st, ca, he, hs, hp⟩ => ⟨ρ, st, ca, he, hs, (Post.bind hp).mono fun k st1 ca1 H1 t1 s1 q => ?_⟩
  exact Post.now q s1
/-! ### and, or, not as values; a if t else b -/
theorem se_one {o : BoolOp} {f : Env' → M RV} (h : PE X a (TN K fld W f)) : PE X (.BoolOp o [a] pos) (TN K fld W f) := pe_one h
theorem se_and {f g : Env' → M RV} (ha : PE X a (TN X.K fld W f)) (hb : PE X (.BoolOp .And (b :: rest) pos) (TN X.K fld W g)) : PE X (.BoolOp .And (a :: b :: rest) pos) (TN X.K fld W (sAndV f g)) := by
  refine PE.imp (pe_andT ha hb) fun σ H Q ⟨ρ, st, ca, he, hs, hp⟩ => ⟨ρ, st, ca, he, hs, (Post.bind hp).mono fun r st1 ca1 H1 t1 s1 q v hv => ?_⟩
  obtain ⟨k, e, q⟩ := (Post.bind q).opt' s1
  refine ⟨k, tru_of s1 hv e, ?_⟩
  cases k with
  | true => exact ⟨ρ, st1, ca1, he.stp t1, s1, q.mono fun r2 st2 ca2 H2 t2 s2 q w hw => q w (hw.back t1)⟩
  | false => exact Post.now q s1 v hv
theorem se_or {f g : Env' → M RV} (ha : PE X a (TN X.K fld W f)) (hb : PE X (.BoolOp .Or (b :: rest) pos) (TN X.K fld W g)) : PE X (.BoolOp .Or (a :: b :: rest) pos) (TN X.K fld W (sOrV f g)) := by
  refine PE.imp (pe_orT ha hb) fun σ H Q ⟨ρ, st, ca, he, hs, hp⟩ => ⟨ρ, st, ca, he, hs, (Post.bind hp).mono fun r st1 ca1 H1 t1 s1 q v hv => ?_⟩
  obtain ⟨k, e, q⟩ := (Post.bind q).opt' s1
  refine ⟨k, tru_of s1 hv e, ?_⟩
  cases k with
  | false => exact ⟨ρ, st1, ca1, he.stp t1, s1, q.mono fun r2 st2 ca2 H2 t2 s2 q w hw => q w (hw.back t1)⟩
  | true => exact Post.now q s1 v hv
theorem se_not {f : Env' → M RV} (ha : PE X a (TN X.K fld W f)) : PE X (.UnaryOp .Not a pos) (TN X.K fld W (sNotV f)) := by
  refine PE.imp (pe_notT ha) fun σ H Q ⟨ρ, st, ca, he, hs, hp⟩ => ⟨ρ, st, ca, he, hs, (Post.bind hp).mono fun r st1 ca1 H1 t1 s1 q v hv => ?_⟩
  obtain ⟨k, e, q⟩ := (Post.bind q).opt' s1
  exact ⟨k, tru_of s1 hv e, Post.now q s1 _ rfl⟩
theorem se_if {t : Env' → M Bool} {f g : Env' → M RV} (hc : PT X c (TT' K fld W t)) (ha : PE X a (TN K fld W f)) (hb : PE X b (TN K fld W g)) : PE X (.IfExp c a b pos) (TN K fld W (sIf t f g)) := by
  refine PE.imp (pe_ifExp hc ha hb) fun σ H Q ⟨ρ, st, ca, he, hs, hp⟩ => ⟨ρ, st, ca, he, hs, (Post.bind hp).mono fun k st1 ca1 H1 t1 s1 q => ?_⟩
  cases k with
  | true => exact ⟨ρ, st1, ca1, he.stp t1, s1, q.mono fun r2 st2 ca2 H2 t2 s2 q w hw => q w (hw.back t1)⟩
  | false => exact ⟨ρ, st1, ca1, he.stp t1, s1, q.mono fun r2 st2 ca2 H2 t2 s2 q w hw => q w (hw.back t1)⟩
/-! ### calls of built-ins, their methods, subscripts -/
theorem se_callB {id : String} {x : Str} {p : Pos} {op : List D → Option RV} {g : Env' → M (List D)} (hc : CallR X (.builtin id) (rCl K op)) (hg : Gl X x) (hm : X.mg x = none) (hv : bootBuiltins x = some (.builtin id)) (ha : PA X (e :: es) (TAr K fld W g))
    (hn : x ≠ "__name__") (hdb : (x == ("__debug__" : Str)) = false) (he : starEach (e :: es) X.env = (false, eval e X.env) :: starEach es X.env) (hpl : (backTo pos (starEach es X.env)).any (·.1) = false) : PE X (.Call (.Name x p) (e :: es) [] pos) (TN K fld W (sCall op g)) := by
  refine PE.imp (pe_callB hc hg hm hv ha hn hdb he hpl) fun σ H Q ⟨ρ, st, ca, he, hs, hp⟩ => ⟨ρ, st, ca, he, hs, (Post.bind hp).mono fun ds st1 ca1 H1 t1 s1 q vs hvs => ?_⟩
  obtain ⟨r, e, g⟩ := q.rdr t1
  exact ⟨ca1, st1, _, r, s1, hvs.x s1, e, g⟩
theorem se_callTy {T : String} {x : Str} {p : Pos} {op : List D → Option RV} {g : Env' → M (List D)} (hc : CallR X (.type T) (rCl K op)) (hg : Gl X x) (hm : X.mg x = none) (hv : bootBuiltins x = some (.type T)) (ha : PA X (e :: es) (TAr K fld W g))
    (hn : x ≠ "__name__") (hdb : (x == ("__debug__" : Str)) = false) (he : starEach (e :: es) X.env = (false, eval e X.env) :: starEach es X.env) (hpl : (backTo pos (starEach es X.env)).any (·.1) = false) : PE X (.Call (.Name x p) (e :: es) [] pos) (TN K fld W (sCall op g)) := by
  refine PE.imp (pe_callTy hc hg hm hv ha hn hdb he hpl) fun σ H Q ⟨ρ, st, ca, he, hs, hp⟩ => ⟨ρ, st, ca, he, hs, (Post.bind hp).mono fun ds st1 ca1 H1 t1 s1 q vs hvs => ?_⟩
  obtain ⟨r, e, g⟩ := q.rdr t1
  exact ⟨ca1, st1, _, r, s1, hvs.x s1, e, g⟩
theorem se_ix {op : D → D → Option RV} {f g : Env' → M D} (hr : IxR X (rO K op)) (ha : PE X a (TR K fld W f)) (hb : PE X b (TR K fld W g)) (hs : PlainIx b) : PE X (.Subscript a b pos) (TN K fld W (sBin op f g)) := by
  refine PE.imp (pe_ix hr ha hb hs) fun σ H Q ⟨ρ, st, ca, he, hs, hp⟩ => ⟨ρ, st, ca, he, hs, (Post.bind hp).mono fun d st1 ca1 H1 t1 s1 q v hv => ?_⟩
  refine ⟨ρ, st1, ca1, he.stp t1, s1, (Post.bind q).mono fun d2 st2 ca2 H2 t2 s2 q w hw => ?_⟩
  obtain ⟨r, e, g⟩ := q.rdr (t1.trans t2)
  exact ⟨ca2, st2, _, _, r, s2, (hv.stp t2).x s2, hw.x s2, e, g⟩
end
end Ev
set_option Elab.async false -- ev
set_option linter.all false -- ev
set_option maxRecDepth 100000 -- ev
set_option maxHeartbeats 2000000 -- ev
set_option autoImplicit false -- ev
/-! Operations by values: numbers, texts, tuples, lists. -/
namespace Ev
open PySem PySem.Spec PyProof.Rows L2 -- ev

/-! ### plain data -/
mutual
def D.py : D → PyData
  | .non => .none
  | .bl b => .bool b
  | .int i => .int i
  | .str x => .str x
  | .tup ds => .tuple (D.pys ds)
  | .lst ds => .list (D.pys ds)
  | .cell _ => .none
  | .ty _ => .none
def D.pys : List D → List PyData
  | [] => []
  | d :: ds => D.py d :: D.pys ds
end
mutual
/-- plain data of few levels: l levels -/
def D.pl : Nat → D → Bool
  | _, .non => true
  | _, .bl _ => true
  | _, .int _ => true
  | _, .str x => PyData.strOk x -- ev
  | 0, .tup _ => false
  | l + 1, .tup ds => D.pls l ds
  | 0, .lst _ => false
  | l + 1, .lst ds => D.pls l ds
  | _, .cell _ => false
  | _, .ty _ => false
def D.pls : Nat → List D → Bool
  | _, [] => true
  | l, d :: ds => D.pl l d && D.pls l ds
end
mutual
def D.eqv : D → D → Bool
  | .non, .non => true
  | .bl a, .bl b => a == b
  | .bl a, .int j => (if a then 1 else 0) == j
  | .int i, .bl b => i == (if b then 1 else 0)
  | .int i, .int j => i == j -- ev
  | .str x, .str y => x == y -- ev
  | .tup a, .tup b => D.eqvs a b
  | .lst a, .lst b => D.eqvs a b
  | _, _ => false
def D.eqvs : List D → List D → Bool
  | [], [] => true
  | x :: xs, y :: ys => D.eqv x y && D.eqvs xs ys
  | _, _ => false
end
section
variable {K : PySem.W.Frag} {H : Hp} {ca : List Addr}
mutual
theorem D.pl_lay : ∀ (l : Nat) (d : D), D.pl l d = true → d.py.canLay0 = true ∧ d.py.depth ≤ l
  | l, .non, _ => by cases l <;> simp [D.py, PyData.canLay0, PyData.depth]
  | l, .bl _, _ => by cases l <;> simp [D.py, PyData.canLay0, PyData.depth]
  | l, .int _, _ => by cases l <;> simp [D.py, PyData.canLay0, PyData.depth]
  | l, .str x, h => by cases l <;> (simp only [D.pl] at h; simp [D.py, PyData.canLay0, PyData.depth, h])
  | 0, .tup _, h => by simp [D.pl] at h
  | l + 1, .tup ds, h => by
    simp only [D.pl] at h
    obtain ⟨a, b⟩ := D.pls_lay l ds h
    simp only [D.py, PyData.canLay0, PyData.depth]
    exact ⟨a, by omega⟩
  | 0, .lst _, h => by simp [D.pl] at h
  | l + 1, .lst ds, h => by
    simp only [D.pl] at h
    obtain ⟨a, b⟩ := D.pls_lay l ds h
    simp only [D.py, PyData.canLay0, PyData.depth]
    exact ⟨a, by omega⟩
  | l, .cell _, h => by cases l <;> simp [D.pl] at h
  | l, .ty _, h => by cases l <;> simp [D.pl] at h
theorem D.pls_lay : ∀ (l : Nat) (ds : List D), D.pls l ds = true → PyData.canLayAll0 (D.pys ds) = true ∧ PyData.depthAll (D.pys ds) ≤ l
  | l, [], _ => by simp [D.pys, PyData.canLayAll0, PyData.depthAll]
  | l, d :: ds, h => by
    simp only [D.pls, Bool.and_eq_true] at h
    obtain ⟨a, b⟩ := D.pl_lay l d h.1
    obtain ⟨a2, b2⟩ := D.pls_lay l ds h.2
    simp only [D.pys, PyData.canLayAll0, PyData.depthAll, a, a2, Bool.and_self, true_and]
    omega
end
theorem D.shaped {d : D} (h : D.pl 60 d = true) : SeqAt.shaped d.py = true := by
  obtain ⟨a, b⟩ := D.pl_lay 60 d h
  unfold SeqAt.shaped
  rw [a, Bool.true_and]
  exact decide_eq_true (by omega) -- ev
mutual
theorem RelD.dp : ∀ (l : Nat) (d : D) (v : V), D.pl l d = true → RelD K H ca d v → Dp K H v d.py
  | _, .non, _, _, h => by cases (show _ = V.non from h); exact .non
  | _, .bl b, _, _, h => by cases (show _ = V.bl b from h); exact .bl b
  | _, .int i, _, _, h => by cases (show _ = V.int i from h); exact .int i
  | _, .str x, _, _, h => by cases (show _ = V.str x from h); exact .str x
  | 0, .tup _, _, h, _ => by simp [D.pl] at h
  | l + 1, .tup ds, v, h, r => by
    obtain ⟨a, vs, e, q, t⟩ := r
    subst e
    simp only [D.pl] at h
    simp only [D.py]
    exact .tup q (RelDs.dp l ds vs h t)
  | 0, .lst _, _, h, _ => by simp [D.pl] at h
  | l + 1, .lst ds, v, h, r => by
    obtain ⟨a, vs, e, q, t⟩ := r
    subst e
    simp only [D.pl] at h
    simp only [D.py]
    exact .lst q.sq (RelDs.dp l ds vs h t)
  | l, .cell _, _, h, _ => by cases l <;> simp [D.pl] at h
  | l, .ty _, _, h, _ => by cases l <;> simp [D.pl] at h
theorem RelDs.dp : ∀ (l : Nat) (ds : List D) (vs : List V), D.pls l ds = true → RelDs K H ca ds vs → DpAll K H vs (D.pys ds)
  | _, [], _, _, h => by cases (show _ = [] from h); simp only [D.pys]; exact .nil
  | l, d :: ds, _, h, r => by
    obtain ⟨v, s, e, q, t⟩ := r
    subst e
    simp only [D.pls, Bool.and_eq_true] at h
    simp only [D.pys]
    exact .cons (RelD.dp l d v h.1 q) (RelDs.dp l ds s h.2 t)
end
theorem RelX.dp {l : Nat} {d : D} {v : V} (h : D.pl l d = true) (r : RelX K H ca d v) : Dp K H v d.py := by
  cases d with
  | lst ds =>
    obtain ⟨a, vs, e, q, t⟩ := r
    subst e
    cases l with
    | zero => simp [D.pl] at h
    | succ l =>
      simp only [D.pl] at h
      simp only [D.py]
      exact .lst q.sq (RelDs.dp l ds vs h t)
  | _ => exact RelD.dp (ca := ca) l _ v h r
mutual
theorem D.eqv_py : ∀ (l m : Nat) (a b : D), D.pl l a = true → D.pl m b = true → PyData.eqv a.py b.py = D.eqv a b
  | l, m, a, b, ha, hb => by
    cases a <;> cases b <;> first -- ev
      | (cases l <;> simp [D.pl] at ha; done)
      | (cases m <;> simp [D.pl] at hb; done)
      | (simp [D.py, PyData.eqv, D.eqv]; done)
      | skip
    · rename_i xs ys
      cases l with
      | zero => simp [D.pl] at ha
      | succ l =>
        cases m with
        | zero => simp [D.pl] at hb
        | succ m =>
          simp only [D.pl] at ha hb
          simp only [D.py, PyData.eqv, D.eqv]
          exact D.eqvs_py l m xs ys ha hb
    · rename_i xs ys
      cases l with
      | zero => simp [D.pl] at ha
      | succ l =>
        cases m with
        | zero => simp [D.pl] at hb
        | succ m =>
          simp only [D.pl] at ha hb
          simp only [D.py, PyData.eqv, D.eqv]
          exact D.eqvs_py l m xs ys ha hb
theorem D.eqvs_py : ∀ (l m : Nat) (a b : List D), D.pls l a = true → D.pls m b = true → PyData.eqvAll (D.pys a) (D.pys b) = D.eqvs a b
  | _, _, [], [], _, _ => by simp [D.pys, PyData.eqvAll, D.eqvs]
  | _, _, [], _ :: _, _, _ => by simp [D.pys, PyData.eqvAll, D.eqvs]
  | _, _, _ :: _, [], _, _ => by simp [D.pys, PyData.eqvAll, D.eqvs]
  | l, m, x :: xs, y :: ys, ha, hb => by
    simp only [D.pls, Bool.and_eq_true] at ha hb
    simp only [D.pys, PyData.eqvAll, D.eqvs, D.eqv_py l m x y ha.1 hb.1, D.eqvs_py l m xs ys ha.2 hb.2]
end
end
/-! ### the operations -/
def per (d : D) : Option RV := some (.per d)
def yes (b : Bool) : Option RV := some (.per (.bl b))
def dAdd : D → D → Option RV
  | .int i, .int j => per (.int (i + j))
  | .str a, .str b => if a.length + b.length ≤ sizeLine then per (.str (a ++ b)) else none
  | .tup a, .tup b => if a.length + b.length ≤ sizeLine then per (.tup (a ++ b)) else none
  | .lst a, .lst b => if a.length + b.length ≤ sizeLine then some (.fr (a ++ b)) else none
  | _, _ => none
def dSub : D → D → Option RV
  | .int i, .int j => per (.int (i - j))
  | _, _ => none
def dMul : D → D → Option RV
  | .int i, .int j => if i.natAbs.log2 + j.natAbs.log2 < 1000000 then per (.int (i * j)) else none
  | .lst a, .int k => if -(2 ^ 63) ≤ k ∧ k < 2 ^ 63 ∧ a.length * k.toNat ≤ sizeLine then some (.fr (List.replicate k.toNat a).flatten) else none
  | .tup a, .int k => if a ≠ [] ∧ 2 ≤ k ∧ k ≤ 1000 ∧ a.length ≤ 1000 then per (.tup (List.replicate k.toNat a).flatten) else none
  | _, _ => none
def dDiv : D → D → Option RV
  | .int i, .int j => if 0 < j ∧ j.natAbs.log2 < 9000 then per (.int (i / j)) else none
  | _, _ => none
def dMod : D → D → Option RV
  | .int i, .int j => if 0 < j then per (.int (i % j)) else none
  | _, _ => none
def dPow : D → D → Option RV
  | .int i, .int j => if 0 ≤ j ∧ j ≤ 1000000 ∧ i.natAbs < 2 ^ 64 then per (.int (i ^ j.toNat)) else none
  | _, _ => none
def dNeg : D → Option RV
  | .int i => per (.int (-i))
  | _ => none
def dEq : D → D → Option RV
  | .int i, .int j => yes (i == j)
  | .str i, .str j => yes (decide (i = j))
  | a, b => if D.pl 60 a = true ∧ D.pl 60 b = true then yes (D.eqv a b) else none
def dNe : D → D → Option RV
  | .int i, .int j => yes (!(i == j))
  | .str i, .str j => yes (!decide (i = j))
  | a, b => if D.pl 60 a = true ∧ D.pl 60 b = true then yes (!D.eqv a b) else none
def dLt : D → D → Option RV
  | .int i, .int j => yes (decide (i < j))
  | _, _ => none
def dLe : D → D → Option RV
  | .int i, .int j => yes (decide (i ≤ j))
  | _, _ => none
def dGt : D → D → Option RV
  | .int i, .int j => yes (decide (j < i))
  | _, _ => none
def dGe : D → D → Option RV
  | .int i, .int j => yes (decide (j ≤ i))
  | _, _ => none
def dInB (x : D) : D → Option Bool
  | .lst ds => if D.pl 60 x = true ∧ D.pls 59 ds = true then some (ds.any fun z => D.eqv z x) else none
  | .tup ds => if D.pl 60 x = true ∧ D.pls 59 ds = true then some (ds.any fun z => D.eqv z x) else none
  | _ => none
def dIn (x y : D) : Option RV := (dInB x y).bind yes
def dNotIn (x y : D) : Option RV := (dInB x y).bind fun b => yes (!b)
def D.isN : D → Bool
  | .non => true
  | _ => false
def dIs : D → D → Option RV
  | x, .non => yes x.isN
  | _, _ => none
def dIsNot : D → D → Option RV
  | x, .non => yes (!x.isN)
  | _, _ => none
def dIx : D → D → Option RV
  | .tup ds, .int i => (atI ds i).map .per
  | .lst ds, .int i => (atI ds i).map .per
  | .str z, .int i => if z.length ≤ sizeLine then (atI z.cps.toList i).map fun c => .per (.str ⟨#[c]⟩) else none
  | _, _ => none
section
variable {X : Cx}
theorem op_dSub : OpR X (binaryOp .Sub) (rO X.K dSub) := opi op_sub fun x y H Q h => by
  obtain ⟨ca, st, a, b, r, s, ra, rb, e, g⟩ := h
  cases a <;> first | cases e | skip
  cases b <;> first | cases e | skip
  exact ⟨_, _, ra, rb, g.here s rfl⟩
theorem op_dDiv : OpR X (binaryOp .FloorDiv) (rO X.K dDiv) := opi op_fdivW fun x y H Q h => by
  obtain ⟨ca, st, a, b, r, s, ra, rb, e, g⟩ := h
  cases a <;> first | cases e | skip
  cases b <;> first | cases e | skip
  rename_i i j
  have e : (if 0 < j ∧ j.natAbs.log2 < 9000 then per (.int (i / j)) else none) = some r := e
  split at e
  · rename_i hc
    cases e
    exact ⟨_, _, ra, rb, hc, g.here s rfl⟩
  · cases e
theorem op_dMod : OpR X (binaryOp .Mod) (rO X.K dMod) := opi op_mod fun x y H Q h => by
  obtain ⟨ca, st, a, b, r, s, ra, rb, e, g⟩ := h
  cases a <;> first | cases e | skip
  cases b <;> first | cases e | skip
  rename_i i j
  have e : (if 0 < j then per (.int (i % j)) else none) = some r := e
  split at e
  · rename_i hc
    cases e
    exact ⟨_, _, ra, rb, hc, g.here s rfl⟩
  · cases e
theorem op_dPow : OpR X (binaryOp .Pow) (rO X.K dPow) := opi op_pow fun x y H Q h => by
  obtain ⟨ca, st, a, b, r, s, ra, rb, e, g⟩ := h
  cases a <;> first | cases e | skip
  cases b <;> first | cases e | skip
  rename_i i j
  have e : (if 0 ≤ j ∧ j ≤ 1000000 ∧ i.natAbs < 2 ^ 64 then per (.int (i ^ j.toNat)) else none) = some r := e
  split at e
  · rename_i hc
    cases e
    exact ⟨_, _, ra, rb, hc, g.here s rfl⟩
  · cases e
theorem un_dNeg : UnR X (unaryOp .USub) (rU1 X.K dNeg) := uni un_neg fun x H Q h => by
  obtain ⟨ca, st, a, r, s, ra, e, g⟩ := h
  cases a <;> first | cases e | skip
  exact ⟨_, ra, g.here s rfl⟩
/-- two lists that are read, joined -/
theorem op_catR : OpR X (binaryOp .Add) (fun x y H Q => ∃ l b xs zs, x = .ref l ∧ y = .ref b ∧ RdL X.K H l xs ∧ RdL X.K H b zs ∧ xs.length + zs.length ≤ sizeLine ∧ ∀ p, H p = none → Q (.ref p) (upd H p (.lst (xs ++ zs)))) := by
  intro pins s σ H x y v u Q I rx ry h -- ev
  obtain ⟨l, b, xs, zs, rfl, rfl, h1, h2, hz, q⟩ := h
  cases rx
  cases ry
  obtain ⟨i1, n1, r1, e1, _⟩ := h1.ok I
  obtain ⟨i2, n2, r2, e2, _⟩ := h2.ok I
  have l1 := r1.length
  have l2 := r2.length
  refine PySem.P.add_list e1 e2 ?_ (by simp only [List.size_toArray]; omega)
  rw [show i1.toArray ++ i2.toArray = (i1 ++ i2).toArray by simp]
  exact ⟨.ref _, _, I.lnew (t' := s.toks) (r1.append r2) (by simp only [List.length_append]; omega), rfl, q _ I.fresh⟩
theorem op_dAdd : OpR X (binaryOp .Add) (rO X.K dAdd) := opi (OpR.or (OpR.or (OpR.or op_add op_add_str) op_catA) op_catR) fun x y H Q h => by
  obtain ⟨ca, st, a, b, r, s, ra, rb, e, g⟩ := h
  cases a <;> cases b <;> first | cases e | skip
  · exact .inl (.inl (.inl ⟨_, _, ra, rb, g.here s rfl⟩))
  · rename_i a b
    have e : (if a.length + b.length ≤ sizeLine then per (.str (a ++ b)) else none) = some r := e
    split at e
    · rename_i hl
      cases e
      exact .inl (.inl (.inr ⟨_, _, ra, rb, hl, g.here s rfl⟩))
    · cases e
  · rename_i as bs
    have e : (if as.length + bs.length ≤ sizeLine then per (.tup (as ++ bs)) else none) = some r := e
    split at e
    · rename_i hl
      cases e
      obtain ⟨p, vs, rfl, q1, r1⟩ := ra
      obtain ⟨p2, ws, rfl, q2, r2⟩ := rb
      refine .inl (.inr ⟨p, p2, vs, ws, rfl, rfl, q1, q2, by rw [r1.length, r2.length]; exact hl, fun z => ?_, fun _ z => ?_, fun _ _ p3 hp => g.newT s (r1.append r2) hp⟩)
      · subst z
        have : as = [] := List.length_eq_zero_iff.mp (by rw [← r1.length]; rfl)
        subst this
        exact g.here s ⟨p2, ws, rfl, q2, r2⟩
      · subst z
        have : bs = [] := List.length_eq_zero_iff.mp (by rw [← r2.length]; rfl)
        subst this
        exact g.here s ⟨p, vs, rfl, q1, by rw [List.append_nil]; exact r1⟩
    · cases e
  · rename_i as bs
    have e : (if as.length + bs.length ≤ sizeLine then some (.fr (as ++ bs)) else none) = some r := e
    split at e
    · rename_i hl
      cases e
      obtain ⟨p, vs, rfl, q1, r1⟩ := ra
      obtain ⟨p2, ws, rfl, q2, r2⟩ := rb
      exact .inr ⟨p, p2, vs, ws, rfl, rfl, q1, q2, by rw [r1.length, r2.length]; exact hl, fun p3 hp => g.newL s (r1.append r2) hp⟩
    · cases e
theorem op_dEq (hu : X.A.units + 65 < cLine) : OpR X (compareOp .Eq) (rO X.K dEq) := opi (OpR.or op_eq (op_eqD (X := X) (by omega))) fun x y H Q h => by
  obtain ⟨ca, st, a, b, r, s, ra, rb, e, g⟩ := h
  have hp : (∃ i j, a = .str i ∧ b = .str j ∧ r = .per (.bl (decide (i = j)))) ∨ (D.pl 60 a = true ∧ D.pl 60 b = true ∧ r = .per (.bl (D.eqv a b))) := by
    unfold dEq at e
    split at e
    · cases e
      exact .inr ⟨by simp [D.pl], by simp [D.pl], by simp [D.eqv]⟩
    · cases e
      exact .inl ⟨_, _, rfl, rfl, rfl⟩
    · split at e
      · rename_i h
        cases e
        exact .inr ⟨h.1, h.2, rfl⟩
      · cases e
  rcases hp with ⟨i, j, rfl, rfl, rfl⟩ | ⟨h1, h2, rfl⟩
  · cases (show x = .str i from ra)
    cases (show y = .str j from rb)
    refine .inl ⟨rfl, ?_⟩
    have q := g.here s rfl
    simpa using q
  refine .inr ?_
  refine ⟨_, _, ra.dp h1, rb.dp h2, D.shaped h1, D.shaped h2, ?_⟩
  rw [D.eqv_py 60 60 a b h1 h2]
  exact g.here s rfl
theorem op_dNe (hu : X.A.units + 65 < cLine) : OpR X (compareOp .NotEq) (rO X.K dNe) := opi (OpR.or op_ne (op_neD (X := X) (by omega))) fun x y H Q h => by
  obtain ⟨ca, st, a, b, r, s, ra, rb, e, g⟩ := h
  have hp : (∃ i j, a = .str i ∧ b = .str j ∧ r = .per (.bl (!decide (i = j)))) ∨ (D.pl 60 a = true ∧ D.pl 60 b = true ∧ r = .per (.bl (!D.eqv a b))) := by
    unfold dNe at e
    split at e
    · cases e
      exact .inr ⟨by simp [D.pl], by simp [D.pl], by simp [D.eqv]⟩
    · cases e
      exact .inl ⟨_, _, rfl, rfl, rfl⟩
    · split at e
      · rename_i h
        cases e
        exact .inr ⟨h.1, h.2, rfl⟩
      · cases e
  rcases hp with ⟨i, j, rfl, rfl, rfl⟩ | ⟨h1, h2, rfl⟩
  · cases (show x = .str i from ra)
    cases (show y = .str j from rb)
    refine .inl ⟨rfl, ?_⟩
    have q := g.here s rfl
    simpa using q
  refine .inr ?_
  refine ⟨_, _, ra.dp h1, rb.dp h2, D.shaped h1, D.shaped h2, ?_⟩
  rw [D.eqv_py 60 60 a b h1 h2]
  exact g.here s rfl
theorem op_dLt : OpR X (compareOp .Lt) (rO X.K dLt) := opi op_lt fun x y H Q h => by
  obtain ⟨ca, st, a, b, r, s, ra, rb, e, g⟩ := h
  cases a <;> first | cases e | skip
  cases b <;> first | cases e | skip
  exact ⟨_, _, ra, rb, g.here s rfl⟩
theorem op_dLe : OpR X (compareOp .LtE) (rO X.K dLe) := opi op_le fun x y H Q h => by
  obtain ⟨ca, st, a, b, r, s, ra, rb, e, g⟩ := h
  cases a <;> first | cases e | skip
  cases b <;> first | cases e | skip
  exact ⟨_, _, ra, rb, g.here s rfl⟩
theorem op_dGt : OpR X (compareOp .Gt) (rO X.K dGt) := opi op_gt fun x y H Q h => by
  obtain ⟨ca, st, a, b, r, s, ra, rb, e, g⟩ := h
  cases a <;> first | cases e | skip
  cases b <;> first | cases e | skip
  exact ⟨_, _, ra, rb, g.here s rfl⟩
theorem op_dGe : OpR X (compareOp .GtE) (rO X.K dGe) := opi op_ge fun x y H Q h => by
  obtain ⟨ca, st, a, b, r, s, ra, rb, e, g⟩ := h
  cases a <;> first | cases e | skip
  cases b <;> first | cases e | skip
  exact ⟨_, _, ra, rb, g.here s rfl⟩
theorem RelX.non_iff {K : PySem.W.Frag} {H : Hp} {ca : List Addr} {a : D} {x : V} (r : RelX K H ca a x) : decide (x = .non) = a.isN := by
  cases a with
  | non => cases (show x = .non from r); rfl
  | bl b => cases (show x = .bl b from r); rfl
  | int b => cases (show x = .int b from r); rfl
  | str b => cases (show x = .str b from r); rfl
  | ty b => cases (show x = .ty b from r); rfl
  | tup ds => obtain ⟨_, _, e, _⟩ := r; subst e; rfl
  | lst ds => obtain ⟨_, _, e, _⟩ := r; subst e; rfl
  | cell ds => obtain ⟨_, e, _⟩ := r; subst e; rfl
theorem op_dIs : OpR X (compareOp .Is) (rO X.K dIs) := opi op_isN fun x y H Q h => by
  obtain ⟨ca, st, a, b, r, s, ra, rb, e, g⟩ := h
  cases b <;> first | cases e | skip
  refine ⟨rb, ?_⟩
  rw [ra.non_iff]
  exact g.here s rfl
theorem op_dIsNot : OpR X (compareOp .IsNot) (rO X.K dIsNot) := opi op_notN fun x y H Q h => by
  obtain ⟨ca, st, a, b, r, s, ra, rb, e, g⟩ := h
  cases b <;> first | cases e | skip
  refine ⟨rb, ?_⟩
  rw [ra.non_iff]
  exact g.here s rfl
theorem D.any_py {x : D} {l m : Nat} (hx : D.pl l x = true) : ∀ {ds : List D}, D.pls m ds = true → (D.pys ds).any (fun z => PyData.eqv z x.py) = ds.any fun z => D.eqv z x
  | [], _ => rfl
  | d :: ds, h => by
    simp only [D.pls, Bool.and_eq_true] at h
    simp only [D.pys, List.any_cons, D.eqv_py m l d x h.1 hx, D.any_py hx h.2]
theorem op_inT (hu : X.A.units + 65 < cLine) (neg : Bool) : OpR X (compareOp (if neg then .NotIn else .In)) (fun x y H Q => ∃ d ds, Dp X.K H x d ∧ Dp X.K H y (.tuple ds) ∧ SeqAt.shaped d = true ∧ SeqAt.shaped (.tuple ds) = true ∧
    Q (.bl (if neg then !(ds.any fun z => PyData.eqv z d) else ds.any fun z => PyData.eqv z d)) H) := by
  intro pins s σ H x y v u Q I rx ry h -- ev
  obtain ⟨d, ds, hd, he, sd, se, q⟩ := h -- ev
  obtain ⟨as, r1⟩ := Dp.reads I d x v hd rx -- ev
  obtain ⟨bs, r2⟩ := Dp.reads I (.tuple ds) y u he ry
  cases neg with
  | false => exact SeqAt.in_tuple_reads r2 r1 (SeqAt.canLay_of_shaped se) (SeqAt.canLay_of_shaped sd) (room_in_shaped sd hu) ⟨.bl _, H, I, rfl, q⟩
  | true => exact SeqAt.notIn_tuple_reads r2 r1 (SeqAt.canLay_of_shaped se) (SeqAt.canLay_of_shaped sd) (room_in_shaped sd hu) ⟨.bl _, H, I, rfl, q⟩
theorem op_dIn (hu : X.A.units + 65 < cLine) : OpR X (compareOp .In) (rO X.K dIn) := opi (OpR.or (op_inD hu) (op_inT hu false)) fun x y H Q h => by
  obtain ⟨ca, st, a, b, r, s, ra, rb, e, g⟩ := h
  unfold dIn dInB at e
  cases b <;> first | cases e | skip
  · rename_i ds
    dsimp only at e
    split at e
    · rename_i hc
      have h2 : D.pl 60 (.tup ds) = true := by simp only [D.pl]; exact hc.2
      cases e
      refine .inr ⟨_, _, ra.dp hc.1, by have := rb.dp h2; simpa only [D.py] using this, D.shaped hc.1, by have := D.shaped h2; simpa only [D.py] using this, ?_⟩
      rw [D.any_py hc.1 hc.2]
      exact g.here s rfl
    · cases e
  · rename_i ds
    dsimp only at e
    split at e
    · rename_i hc
      have h2 : D.pl 60 (.lst ds) = true := by simp only [D.pl]; exact hc.2
      cases e
      refine .inl ⟨_, _, ra.dp hc.1, by have := rb.dp h2; simpa only [D.py] using this, D.shaped hc.1, by have := D.shaped h2; simpa only [D.py] using this, ?_⟩
      rw [D.any_py hc.1 hc.2]
      exact g.here s rfl
    · cases e
theorem op_dNotIn (hu : X.A.units + 65 < cLine) : OpR X (compareOp .NotIn) (rO X.K dNotIn) := opi (OpR.or (op_notInD hu) (op_inT hu true)) fun x y H Q h => by
  obtain ⟨ca, st, a, b, r, s, ra, rb, e, g⟩ := h
  unfold dNotIn dInB at e
  cases b <;> first | cases e | skip
  · rename_i ds
    dsimp only at e
    split at e
    · rename_i hc
      have h2 : D.pl 60 (.tup ds) = true := by simp only [D.pl]; exact hc.2
      cases e
      refine .inr ⟨_, _, ra.dp hc.1, by have := rb.dp h2; simpa only [D.py] using this, D.shaped hc.1, by have := D.shaped h2; simpa only [D.py] using this, ?_⟩
      rw [D.any_py hc.1 hc.2]
      exact g.here s rfl
    · cases e
  · rename_i ds
    dsimp only at e
    split at e
    · rename_i hc
      have h2 : D.pl 60 (.lst ds) = true := by simp only [D.pl]; exact hc.2
      cases e
      refine .inl ⟨_, _, ra.dp hc.1, by have := rb.dp h2; simpa only [D.py] using this, D.shaped hc.1, by have := D.shaped h2; simpa only [D.py] using this, ?_⟩
      rw [D.any_py hc.1 hc.2]
      exact g.here s rfl
    · cases e
theorem atI_rel {K : PySem.W.Frag} {H : Hp} {ca : List Addr} {ds : List D} {vs : List V} {i : Int} {d : D} (h : RelDs K H ca ds vs) (e : atI ds i = some d) : ∃ v, atI vs i = some v ∧ RelD K H ca d v := by
  unfold atI at e ⊢
  rw [h.length]
  cases hx : ixN ds.length i with
  | none => rw [hx] at e; cases e
  | some j =>
    rw [hx] at e
    exact h.get e
theorem ix_dIx : IxR X (rO X.K dIx) := ixi (IxR.or (IxR.or ix_list ix_tup) ix_str) fun x y H Q h => by
  obtain ⟨ca, st, a, b, r, s, ra, rb, e, g⟩ := h
  cases b <;> first | (cases a <;> cases e; done) | skip
  rename_i i
  cases a <;> first | cases e | skip
  · rename_i z
    have e : (if z.length ≤ sizeLine then (atI z.cps.toList i).map fun c => RV.per (.str ⟨#[c]⟩) else none) = some r := e
    split at e
    · rename_i hl
      cases hc : atI z.cps.toList i with
      | none => rw [hc] at e; cases e
      | some c =>
        rw [hc] at e
        cases e
        exact .inr ⟨_, _, c, ra, rb, hl, hc, g.here s rfl⟩
    · cases e
  · rename_i ds
    cases hc : atI ds i with
    | none => rw [show dIx (.tup ds) (.int i) = (atI ds i).map .per from rfl, hc] at e; cases e
    | some d =>
      rw [show dIx (.tup ds) (.int i) = (atI ds i).map .per from rfl, hc] at e
      cases e
      obtain ⟨p, vs, rfl, q1, r1⟩ := ra
      obtain ⟨v, h1, h2⟩ := atI_rel r1 hc
      exact .inl (.inr ⟨p, vs, i, v, rfl, rb, q1, h1, g.here s h2⟩)
  · rename_i ds
    cases hc : atI ds i with
    | none => rw [show dIx (.lst ds) (.int i) = (atI ds i).map .per from rfl, hc] at e; cases e
    | some d =>
      rw [show dIx (.lst ds) (.int i) = (atI ds i).map .per from rfl, hc] at e
      cases e
      obtain ⟨p, vs, rfl, q1, r1⟩ := ra
      obtain ⟨v, h1, h2⟩ := atI_rel r1 hc
      exact .inl (.inl ⟨p, vs, i, v, rfl, rb, q1.sq, h1, g.here s h2⟩)
end
end Ev
set_option Elab.async false -- ev
set_option linter.all false -- ev
set_option maxRecDepth 100000 -- ev
set_option maxHeartbeats 2000000 -- ev
set_option autoImplicit false -- ev
/-! Built-in functions by values. -/
namespace Ev
open PySem PySem.Spec PyProof.Rows L2 -- ev

def ints? : List D → Option (List Int)
  | [] => some []
  | .int i :: r => (ints? r).map (i :: ·)
  | _ :: _ => none
def bools? : List D → Option (List Bool)
  | [] => some []
  | .bl i :: r => (bools? r).map (i :: ·)
  | _ :: _ => none
def dLen : List D → Option RV
  | [.tup ds] => per (.int ds.length)
  | [.lst ds] => per (.int ds.length)
  | [.str z] => if z.length ≤ sizeLine then per (.int z.length) else none
  | _ => none
/-- isinstance of the built-in types that the programs name -/
def isiB (d : D) (n : String) : Option Bool :=
  match d with
  | .non => if n = "int" ∨ n = "bool" ∨ n = "tuple" ∨ n = "str" ∨ n = "list" ∨ n = "dict" then some false else none
  | .bl _ => if n = "int" ∨ n = "bool" then some true else if n = "tuple" ∨ n = "str" ∨ n = "list" ∨ n = "dict" then some false else none
  | .int _ => if n = "int" then some true else if n = "bool" ∨ n = "tuple" ∨ n = "str" ∨ n = "list" ∨ n = "dict" then some false else none
  | .str _ => if n = "str" then some true else if n = "bool" ∨ n = "tuple" ∨ n = "int" ∨ n = "list" ∨ n = "dict" then some false else none
  | .tup _ => if n = "tuple" then some true else if n = "bool" ∨ n = "str" ∨ n = "int" ∨ n = "list" ∨ n = "dict" then some false else none
  | .lst _ => if n = "list" then some true else if n = "bool" ∨ n = "str" ∨ n = "int" ∨ n = "tuple" ∨ n = "dict" then some false else none
  | _ => none
def dIsi : List D → Option RV
  | [d, .ty n] => (isiB d n).bind yes
  | _ => none
def dAll : List D → Option RV
  | [.lst ds] => (bools? ds).bind fun bs => yes (bs.all id)
  | _ => none
def dAny : List D → Option RV
  | [.lst ds] => (bools? ds).bind fun bs => yes (bs.any id)
  | _ => none
def dSum : List D → Option RV
  | [.lst ds] => (ints? ds).bind fun ns => per (.int ns.sum)
  | [.tup ds] => (ints? ds).bind fun ns => per (.int ns.sum)
  | _ => none
def maxI : List Int → Int
  | [] => 0
  | [a] => a
  | a :: r => max a (maxI r)
def minI : List Int → Int
  | [] => 0
  | [a] => a
  | a :: r => min a (minI r)
def dMax : List D → Option RV
  | [.int i, .int j] => per (.int (max i j))
  | [.lst ds] => (ints? ds).bind fun ns => if ns.isEmpty then none else per (.int (maxI ns))
  | _ => none
def dMin : List D → Option RV
  | [.int i, .int j] => per (.int (min i j))
  | [.lst ds] => (ints? ds).bind fun ns => if ns.isEmpty then none else per (.int (minI ns))
  | _ => none
def dAbs : List D → Option RV
  | [.int i] => per (.int (if i < 0 then -i else i))
  | _ => none
def dInt : List D → Option RV
  | [.int i] => per (.int i)
  | _ => none
def dList : List D → Option RV
  | [.lst ds] => some (.fr ds)
  | [.tup ds] => some (.fr ds)
  | _ => none
def dTuple : List D → Option RV
  | [.lst ds] => per (.tup ds)
  | [.tup ds] => per (.tup ds)
  | _ => none
def dComb : List D → Option RV
  | [.int a, .int b] => if 0 ≤ a ∧ 0 ≤ b ∧ a < 2 ^ 64 ∧ b ≤ 9000 then per (.int (PySem.W.mcComb a b)) else none
  | _ => none
def dDivmod : List D → Option RV
  | [.int i, .int j] => if 0 < j ∧ j < 1073741824 then per (.tup [.int (i / j), .int (i % j)]) else none
  | _ => none
section
variable {K : PySem.W.Frag} {H : Hp} {ca : List Addr}
theorem ints_vs : ∀ {ds : List D} {vs : List V} {ns : List Int}, RelDs K H ca ds vs → ints? ds = some ns → vs = ns.map V.int
  | [], _, _, h, e => by cases h; cases e; rfl
  | .int i :: r, _, _, h, e => by
    obtain ⟨v, t, rfl, q, g⟩ := h
    cases hr : ints? r with
    | none => simp [ints?, hr] at e
    | some ms =>
      simp [ints?, hr] at e
      subst e
      cases (show v = .int i from q)
      rw [ints_vs g hr]
      rfl
  | .non :: _, _, _, _, e => by cases e
  | .bl _ :: _, _, _, _, e => by cases e
  | .str _ :: _, _, _, _, e => by cases e
  | .tup _ :: _, _, _, _, e => by cases e
  | .lst _ :: _, _, _, _, e => by cases e
  | .cell _ :: _, _, _, _, e => by cases e
  | .ty _ :: _, _, _, _, e => by cases e
theorem bools_vs : ∀ {ds : List D} {vs : List V} {ns : List Bool}, RelDs K H ca ds vs → bools? ds = some ns → vs = ns.map V.bl
  | [], _, _, h, e => by cases h; cases e; rfl
  | .bl i :: r, _, _, h, e => by
    obtain ⟨v, t, rfl, q, g⟩ := h
    cases hr : bools? r with
    | none => simp [bools?, hr] at e
    | some ms =>
      simp [bools?, hr] at e
      subst e
      cases (show v = .bl i from q)
      rw [bools_vs g hr]
      rfl
  | .non :: _, _, _, _, e => by cases e
  | .int _ :: _, _, _, _, e => by cases e
  | .str _ :: _, _, _, _, e => by cases e
  | .tup _ :: _, _, _, _, e => by cases e
  | .lst _ :: _, _, _, _, e => by cases e
  | .cell _ :: _, _, _, _, e => by cases e
  | .ty _ :: _, _, _, _, e => by cases e
end
theorem ints_map : ∀ ns : List Int, ints? (ns.map D.int) = some ns
  | [] => rfl
  | i :: r => by simp [ints?, ints_map r]
theorem bools_map : ∀ ns : List Bool, bools? (ns.map D.bl) = some ns
  | [] => rfl
  | i :: r => by simp [bools?, bools_map r]
theorem maxI_mem : ∀ (ns : List Int), ns ≠ [] → maxI ns ∈ ns ∧ ∀ y ∈ ns, y ≤ maxI ns
  | [], h => absurd rfl h
  | [a], _ => by simp [maxI]
  | a :: b :: r, _ => by
    obtain ⟨h1, h2⟩ := maxI_mem (b :: r) (by simp)
    show max a (maxI (b :: r)) ∈ _ ∧ ∀ y ∈ a :: b :: r, y ≤ max a (maxI (b :: r))
    refine ⟨?_, fun y hy => ?_⟩
    · by_cases h : a ≤ maxI (b :: r)
      · rw [show max a (maxI (b :: r)) = maxI (b :: r) by omega]; exact List.mem_cons_of_mem _ h1
      · rw [show max a (maxI (b :: r)) = a by omega]; exact List.mem_cons_self
    · rcases List.mem_cons.mp hy with rfl | hy -- ev
      · omega
      · have := h2 y hy; omega
theorem minI_mem : ∀ (ns : List Int), ns ≠ [] → minI ns ∈ ns ∧ ∀ y ∈ ns, minI ns ≤ y
  | [], h => absurd rfl h
  | [a], _ => by simp [minI]
  | a :: b :: r, _ => by
    obtain ⟨h1, h2⟩ := minI_mem (b :: r) (by simp)
    show min a (minI (b :: r)) ∈ _ ∧ ∀ y ∈ a :: b :: r, min a (minI (b :: r)) ≤ y
    refine ⟨?_, fun y hy => ?_⟩
    · by_cases h : a ≤ minI (b :: r)
      · rw [show min a (minI (b :: r)) = a by omega]; exact List.mem_cons_self
      · rw [show min a (minI (b :: r)) = minI (b :: r) by omega]; exact List.mem_cons_of_mem _ h1
    · rcases List.mem_cons.mp hy with rfl | hy -- ev
      · omega
      · have := h2 y hy; omega
section
variable {X : Cx}
theorem bk {α β : Type} {o : Option α} {f : α → Option β} {r : β} (h : o.bind f = some r) : ∃ a, o = some a ∧ f a = some r := by
  cases o with
  | none => cases h
  | some a => exact ⟨a, rfl, h⟩ -- ev
theorem cl_len : CallR X (.builtin "len") (rCl X.K dLen) := cai call_len fun xs H Q h => by
  obtain ⟨ca, st, as, r, s, ra, e, g⟩ := h
  unfold dLen at e
  split at e <;> first | (cases e; done) | skip
  · obtain ⟨v, t, rfl, ⟨p, vs, rfl, q, q2⟩, q3⟩ := ra
    cases q3
    cases e
    exact ⟨_, _, rfl, .inr ⟨vs, q, rfl⟩, by rw [q2.length]; exact g.here s rfl⟩
  · obtain ⟨v, t, rfl, ⟨p, vs, rfl, q, q2⟩, q3⟩ := ra
    cases q3
    cases e
    exact ⟨_, _, rfl, .inl ⟨vs, q.sq, rfl⟩, by rw [q2.length]; exact g.here s rfl⟩
  · obtain ⟨v, t, rfl, q, q3⟩ := ra
    cases q3
    rename_i z
    cases (show v = .str z from q)
    split at e
    · rename_i hl
      cases e
      exact ⟨_, _, rfl, ⟨hl, rfl⟩, g.here s rfl⟩
    · cases e
theorem cl_all (hc : X.calm = true) : CallR X (.builtin "all") (rCl X.K dAll) := cai (cr_all hc) fun xs H Q h => by
  obtain ⟨ca, st, as, r, s, ra, e, g⟩ := h
  unfold dAll at e
  split at e <;> first | (cases e; done) | skip
  obtain ⟨v, t, rfl, ⟨p, vs, rfl, q, q2⟩, q3⟩ := ra
  cases q3
  obtain ⟨bs, h1, h2⟩ := bk e
  cases h2
  have := bools_vs q2 h1
  subst this
  exact ⟨p, bs, rfl, q.sq, g.here s rfl⟩
theorem cl_any (hc : X.calm = true) : CallR X (.builtin "any") (rCl X.K dAny) := cai (cr_any hc) fun xs H Q h => by
  obtain ⟨ca, st, as, r, s, ra, e, g⟩ := h
  unfold dAny at e
  split at e <;> first | (cases e; done) | skip
  obtain ⟨v, t, rfl, ⟨p, vs, rfl, q, q2⟩, q3⟩ := ra
  cases q3
  obtain ⟨bs, h1, h2⟩ := bk e
  cases h2
  have := bools_vs q2 h1
  subst this
  exact ⟨p, bs, rfl, q.sq, g.here s rfl⟩
def rSumT (K : PySem.W.Frag) : List V → Hp → VK → Prop := fun vs H Q => ∃ (a : Addr) (ns : List Int), vs = [V.ref a] ∧ SqT K H a (ns.map V.int) ∧ Q (.int ns.sum) H
theorem cr_sumT (hc : X.calm = true) : CallR X (.builtin "sum") (rSumT X.K) := by
  intro pn s σ H vs us Q I r h
  obtain ⟨a, ns, rfl, hs, q⟩ := h -- ev
  obtain ⟨its, rv, ht, _⟩ := I.tuple hs
  have hi : IntsAre its ns := rv.ints
  obtain ⟨xs, hx⟩ := hi.allInts.items -- ev
  have hn : numsOf its.toArray.toList = ns := by rw [show its.toArray.toList = its from rfl, hi.numsOf]
  have ht2 : s.heap.IsTuple a its.toArray := ht
  rw [hx] at ht2 hn
  rw [nums_intItems] at hn
  rw [Vals.ref1 r]
  refine PySem.W.ktm_sumG (I.ok.hd hc) ht2 fun h' tk t' hk => ⟨.int _, H, I.kept hk, ⟨t', ?_⟩, q⟩
  rw [preSum_eq, List.take_of_length_le (by simp), hn] -- ev
theorem cl_sum (hc : X.calm = true) : CallR X (.builtin "sum") (rCl X.K dSum) := cai (CallR.or (cr_sum hc) (cr_sumT hc)) fun xs H Q h => by
  obtain ⟨ca, st, as, r, s, ra, e, g⟩ := h
  unfold dSum at e
  split at e <;> first | (cases e; done) | skip
  · obtain ⟨v, t, rfl, ⟨p, vs, rfl, q, q2⟩, q3⟩ := ra
    cases q3
    obtain ⟨bs, h1, h2⟩ := bk e
    cases h2
    have := ints_vs q2 h1
    subst this
    exact .inl ⟨p, bs, rfl, q.sq, g.here s rfl⟩
  · obtain ⟨v, t, rfl, ⟨p, vs, rfl, q, q2⟩, q3⟩ := ra
    cases q3
    obtain ⟨bs, h1, h2⟩ := bk e
    cases h2
    have := ints_vs q2 h1
    subst this
    exact .inr ⟨p, bs, rfl, q, g.here s rfl⟩
theorem cl_max (hc : X.calm = true) : CallR X (.builtin "max") (rCl X.K dMax) := cai (CallR.or (call_max2 hc) (cr_max hc)) fun xs H Q h => by
  obtain ⟨ca, st, as, r, s, ra, e, g⟩ := h
  unfold dMax at e
  split at e <;> first | (cases e; done) | skip
  · rename_i i j
    obtain ⟨v, t, rfl, q, v2, t2, rfl, q2, q3⟩ := ra
    cases q3
    cases (show v = .int i from q)
    cases (show v2 = .int j from q2)
    cases e
    refine .inl ⟨i, j, rfl, ?_⟩
    rw [show (if j > i then j else i) = max i j by split <;> omega]
    exact g.here s rfl
  · obtain ⟨v, t, rfl, ⟨p, vs, rfl, q, q2⟩, q3⟩ := ra
    cases q3
    obtain ⟨ns, h1, h2⟩ := bk e
    split at h2
    · cases h2
    · rename_i hne
      have hne : ns ≠ [] := fun z => hne (by rw [z]; rfl)
      cases h2
      have := ints_vs q2 h1
      subst this
      obtain ⟨m1, m2⟩ := maxI_mem ns hne
      refine .inr ⟨p, ns, rfl, q.sq, List.length_pos_iff.mpr hne, fun m a b => ?_⟩
      have : m = maxI ns := Int.le_antisymm (m2 m a) (b _ m1)
      subst this
      exact g.here s rfl
theorem cl_min (hc : X.calm = true) : CallR X (.builtin "min") (rCl X.K dMin) := cai (CallR.or (call_min2 hc) (cr_min hc)) fun xs H Q h => by
  obtain ⟨ca, st, as, r, s, ra, e, g⟩ := h
  unfold dMin at e
  split at e <;> first | (cases e; done) | skip
  · rename_i i j
    obtain ⟨v, t, rfl, q, v2, t2, rfl, q2, q3⟩ := ra
    cases q3
    cases (show v = .int i from q)
    cases (show v2 = .int j from q2)
    cases e
    refine .inl ⟨i, j, rfl, ?_⟩
    rw [show (if j < i then j else i) = min i j by split <;> omega]
    exact g.here s rfl
  · obtain ⟨v, t, rfl, ⟨p, vs, rfl, q, q2⟩, q3⟩ := ra
    cases q3
    obtain ⟨ns, h1, h2⟩ := bk e
    split at h2
    · cases h2
    · rename_i hne
      have hne : ns ≠ [] := fun z => hne (by rw [z]; rfl)
      cases h2
      have := ints_vs q2 h1
      subst this
      obtain ⟨m1, m2⟩ := minI_mem ns hne
      refine .inr ⟨p, ns, rfl, q.sq, List.length_pos_iff.mpr hne, fun m a b => ?_⟩
      have : m = minI ns := Int.le_antisymm (b _ m1) (m2 m a)
      subst this
      exact g.here s rfl
theorem cl_abs : CallR X (.builtin "abs") (rCl X.K dAbs) := cai call_abs fun xs H Q h => by
  obtain ⟨ca, st, as, r, s, ra, e, g⟩ := h
  unfold dAbs at e
  split at e <;> first | (cases e; done) | skip
  rename_i i
  obtain ⟨v, t, rfl, q, q3⟩ := ra
  cases q3
  cases (show v = .int i from q)
  cases e
  exact ⟨i, rfl, g.here s rfl⟩
theorem cl_int : CallR X (.type "int") (rCl X.K dInt) := cai call_int1 fun xs H Q h => by
  obtain ⟨ca, st, as, r, s, ra, e, g⟩ := h
  unfold dInt at e
  split at e <;> first | (cases e; done) | skip
  rename_i i
  obtain ⟨v, t, rfl, q, q3⟩ := ra
  cases q3
  cases (show v = .int i from q)
  cases e
  exact .inl ⟨i, rfl, g.here s rfl⟩
theorem cl_list : CallR X (.type "list") (rCl X.K dList) := cai call_list_of fun xs H Q h => by
  obtain ⟨ca, st, as, r, s, ra, e, g⟩ := h
  unfold dList at e
  split at e <;> first | (cases e; done) | skip
  · obtain ⟨v, t, rfl, ⟨p, vs, rfl, q, q2⟩, q3⟩ := ra
    cases q3
    cases e
    exact ⟨p, vs, rfl, .inl (q.sq), fun l hl => g.newL s q2 hl⟩
  · obtain ⟨v, t, rfl, ⟨p, vs, rfl, q, q2⟩, q3⟩ := ra
    cases q3
    cases e
    exact ⟨p, vs, rfl, .inr q, fun l hl => g.newL s q2 hl⟩
theorem cl_tuple : CallR X (.type "tuple") (rCl X.K dTuple) := cai call_tuple_of fun xs H Q h => by
  obtain ⟨ca, st, as, r, s, ra, e, g⟩ := h
  unfold dTuple at e
  split at e <;> first | (cases e; done) | skip
  · obtain ⟨v, t, rfl, ⟨p, vs, rfl, q, q2⟩, q3⟩ := ra
    cases q3
    cases e
    exact ⟨p, vs, rfl, .inl ⟨q.sq, fun l hl => g.newT s q2 hl⟩⟩
  · obtain ⟨v, t, rfl, ⟨p, vs, rfl, q, q2⟩, q3⟩ := ra
    cases q3
    cases e
    exact ⟨p, vs, rfl, .inr ⟨q, g.here s ⟨p, vs, rfl, q, q2⟩⟩⟩
theorem cl_comb : CallR X (.builtin "math.comb") (rCl X.K dComb) := by
  intro pins s σ H xs us Q I rx h -- ev
  obtain ⟨ca, st, as, r, sr, ra, e, g⟩ := h
  unfold dComb at e
  split at e <;> first | (cases e; done) | skip
  rename_i a b
  obtain ⟨v, t, rfl, q, v2, t2, rfl, q2, q3⟩ := ra
  cases q3
  cases (show v = .int a from q)
  cases (show v2 = .int b from q2)
  split at e
  · rename_i hc
    cases e
    obtain ⟨t1, u1, rfl⟩ := Vals.int2 rx
    exact PySem.W.mc_comb hc.1 hc.2.1 hc.2.2.1 (.inl hc.2.2.2) fun _ => ⟨.int _, H, I.tok _, ⟨_, rfl⟩, g.here sr rfl⟩
  · cases e
theorem cl_divmod : CallR X (.builtin "divmod") (rCl X.K dDivmod) := cai call_divmod fun xs H Q h => by
  obtain ⟨ca, st, as, r, s, ra, e, g⟩ := h
  unfold dDivmod at e
  split at e <;> first | (cases e; done) | skip
  rename_i i j
  obtain ⟨v, t, rfl, q, v2, t2, rfl, q2, q3⟩ := ra
  cases q3
  cases (show v = .int i from q)
  cases (show v2 = .int j from q2)
  split at e
  · rename_i hc
    cases e
    exact ⟨i, j, rfl, hc, fun p hp => g.newT (ds := [.int (i / j), .int (i % j)]) s ⟨_, _, rfl, rfl, _, _, rfl, rfl, rfl⟩ hp⟩
  · cases e
theorem ty_tup {K : PySem.W.Frag} {H : Hp} {a : Addr} {vs : List V} (h : SqT K H a vs) : TyX K H (.ref a) (.type "tuple") := by
  rcases h with (h | ⟨o, h⟩) | ⟨o, its, n, hk, hc, _⟩
  · exact .base (.tup h)
  · exact .fTuple h
  · exact .kTuple hk hc
theorem ty_lst {K : PySem.W.Frag} {H : Hp} {a : Addr} {vs : List V} (h : RdL K H a vs) : TyX K H (.ref a) (.type "list") := by
  rcases h with (h | ⟨o, h⟩) | ⟨its, n, h, _⟩
  · exact .base (.lst h)
  · exact .base (.frz h)
  · exact .kList h rfl
theorem isi_ok {K : PySem.W.Frag} {H : Hp} {ca : List Addr} {d : D} {v : V} {n : String} {b : Bool} (r : RelX K H ca d v) (e : isiB d n = some b) : ∃ t, TyX K H v t ∧ PySem.W.kitOne K t (.type n) = some b := by
  unfold isiB at e
  cases d with
  | non =>
    cases (show v = .non from r)
    refine ⟨_, .base .non, ?_⟩
    dsimp only at e
    split at e
    · rename_i h
      cases e
      rcases h with rfl | rfl | rfl | rfl | rfl | rfl <;> exact kit_ty (by decide +kernel)
    · cases e
  | bl x =>
    cases (show v = .bl x from r)
    refine ⟨_, .base (.bl x), ?_⟩
    dsimp only at e
    split at e
    · rename_i h
      cases e
      rcases h with rfl | rfl <;> exact kit_ty (by decide +kernel)
    · split at e
      · rename_i h
        cases e
        rcases h with rfl | rfl | rfl | rfl <;> exact kit_ty (by decide +kernel)
      · cases e
  | int x =>
    cases (show v = .int x from r)
    refine ⟨_, .base (.int x), ?_⟩
    dsimp only at e
    split at e
    · rename_i h
      cases e
      subst h
      exact kit_ty (by decide +kernel)
    · split at e
      · rename_i h
        cases e
        rcases h with rfl | rfl | rfl | rfl | rfl <;> exact kit_ty (by decide +kernel)
      · cases e
  | str x =>
    cases (show v = .str x from r)
    refine ⟨_, .base (.str x), ?_⟩
    dsimp only at e
    split at e
    · rename_i h
      cases e
      subst h
      exact kit_ty (by decide +kernel)
    · split at e
      · rename_i h
        cases e
        rcases h with rfl | rfl | rfl | rfl | rfl <;> exact kit_ty (by decide +kernel)
      · cases e
  | tup ds =>
    obtain ⟨a, vs, rfl, q, _⟩ := r
    refine ⟨_, ty_tup q, ?_⟩
    dsimp only at e
    split at e
    · rename_i h
      cases e
      subst h
      exact kit_ty (by decide +kernel)
    · split at e
      · rename_i h
        cases e
        rcases h with rfl | rfl | rfl | rfl | rfl <;> exact kit_ty (by decide +kernel)
      · cases e
  | lst ds =>
    obtain ⟨a, vs, rfl, q, _⟩ := r
    refine ⟨_, ty_lst q, ?_⟩
    dsimp only at e
    split at e
    · rename_i h
      cases e
      subst h
      exact kit_ty (by decide +kernel)
    · split at e
      · rename_i h
        cases e
        rcases h with rfl | rfl | rfl | rfl | rfl <;> exact kit_ty (by decide +kernel)
      · cases e
  | cell k => cases e
  | ty k => cases e
theorem cl_isi : CallR X (.builtin "isinstance") (rCl X.K dIsi) := cai call_isi fun xs H Q h => by
  obtain ⟨ca, st, as, r, s, ra, e, g⟩ := h
  unfold dIsi at e
  split at e <;> first | (cases e; done) | skip
  rename_i d n
  obtain ⟨v, t, rfl, q, v2, t2, rfl, q2, q3⟩ := ra
  cases q3
  cases (show v2 = .ty n from q2)
  obtain ⟨b, h1, h2⟩ := bk e
  cases h2
  obtain ⟨ty, h3, h4⟩ := isi_ok q h1
  exact ⟨v, .ty n, ty, .type n, b, rfl, .ty n, h3, h4, g.here s rfl⟩
end
end Ev
set_option Elab.async false -- ev
set_option linter.all false -- ev
set_option maxRecDepth 100000 -- ev
set_option maxHeartbeats 2000000 -- ev
set_option autoImplicit false -- ev
/-! Statements as functions of the slots and the cells. -/
namespace Ev
open PySem PySem.Spec PyProof.Rows L2 -- ev

/-- what a statement comes to -/
inductive RS where
  | nx (ρ : Env') (st : Store)
  | rt (d : D) (st : Store)
  | bk (ρ : Env') (st : Store)
  | ct (ρ : Env') (st : Store)
  | exc (c : Str) (as : List D) (ρ : Env') (st : Store)
  | bad
abbrev SS := Env' → Store → RS
/-- an expression, then .. -/
def thenS {α : Type} (f : Env' → M α) (k : α → SS) : SS := fun ρ st => match f ρ st with
  | .ok a st' => k a ρ st'
  | .exc c as st' => .exc c as ρ st'
  | .bad => .bad
def sSkip : SS := fun ρ st => .nx ρ st
def sSeq (f g : SS) : SS := fun ρ st => match f ρ st with
  | .nx ρ' st' => g ρ' st'
  | r => r
def slot : RV → Option SV
  | .per d => some (.val d)
  | .fr ds => some (.own ds)
  | .bor _ => none
def sSet (i : Nat) (f : Env' → M RV) : SS := thenS f fun r ρ st => match slot r with
  | some s => .nx (ρ.set i s) st
  | none => .bad
def sRet (f : Env' → M RV) : SS := thenS (kp f) fun d _ st => .rt d st
def sRetN : SS := fun _ st => .rt .non st
def sDrop (f : Env' → M RV) : SS := thenS f fun _ ρ st => .nx ρ st
def sIfS (c : Env' → M Bool) (f g : SS) : SS := thenS c fun b => if b = true then f else g
def sBrk : SS := fun ρ st => .bk ρ st
def sCnt : SS := fun ρ st => .ct ρ st
def thaw : SV → SV
  | .own ds => .val (.lst ds)
  | s => s
/-- the lists at these slots are written no more -/
def sFrz (is : List Nat) (f : SS) : SS := fun ρ st => f (is.foldl (fun ρ i => ρ.modify i thaw) ρ) st

/-! ### the frame as it stands -/
structure FrR (K : PySem.W.Frag) (H0 : Hp) (ca0 : List Addr) (H : Hp) (ca : List Addr) (ρ : Env') (σ : L2.St) : Prop where
  env : EnvR K H ca ρ σ
  stp : Stp ca0 ca H0 H
  fresh : ∀ (i : Nat) (ds : List D) (a : Addr), ρ[i]? = some (.own ds) → σ[i]? = some (some (.ref a)) → H0 a = none
/-- what is fixed stays, cells stay cells -/
structure Fx (H : Hp) (ca : List Addr) (H' : Hp) (ca' : List Addr) : Prop where
  fix : ∀ a o, H a = some o → Fix o → H' a = some o
  sub : ∀ (k : Nat) (x : Addr), ca[k]? = some x → ca'[k]? = some x
theorem Fx.refl {H : Hp} {ca : List Addr} : Fx H ca H ca := ⟨fun _ _ h _ => h, fun _ _ h => h⟩
theorem Fx.trans {H H1 H2 : Hp} {ca ca1 ca2 : List Addr} (a : Fx H ca H1 ca1) (b : Fx H1 ca1 H2 ca2) : Fx H ca H2 ca2 := ⟨fun x o h f => b.fix x o (a.fix x o h f) f, fun k x h => b.sub k x (a.sub k x h)⟩
theorem Stp.fx {H H1 : Hp} {ca ca1 : List Addr} (a : Stp ca ca1 H H1) : Fx H ca H1 ca1 := ⟨a.fix, fun _ _ => a.sub⟩
/-- Hs, cs: the heap and the cells ahead of the statement -/
def PostS (K : PySem.W.Frag) (fld : Str → List Str) (W : WX) (H0 : Hp) (ca0 : List Addr) (Hs : Hp) (cs : List Addr) (E : Ends) : RS → Prop
  | .nx ρ st => ∀ σ ca H, Fx Hs cs H ca → FrR K H0 ca0 H ca ρ σ → SR K st ca H → E.nx σ H
  | .bk ρ st => ∀ σ ca H, Fx Hs cs H ca → FrR K H0 ca0 H ca ρ σ → SR K st ca H → E.bk σ H
  | .ct ρ st => ∀ σ ca H, Fx Hs cs H ca → FrR K H0 ca0 H ca ρ σ → SR K st ca H → E.ct σ H
  | .rt d st => ∀ v ca H, Stp ca0 ca H0 H → SR K st ca H → RelD K H ca d v → E.rt v H
  | .exc c as ρ st => ∀ cls dd σ ca H, Fx Hs cs H ca → FrR K H0 ca0 H ca ρ σ → SR K st ca H → ExR K fld H ca c as cls dd → W cls dd σ H
  | .bad => False
def TSt (K : PySem.W.Frag) (fld : Str → List Str) (W : WX) (H0 : Hp) (ca0 : List Addr) (f : SS) : TS := fun E σ H =>
  ∃ ρ st ca, FrR K H0 ca0 H ca ρ σ ∧ SR K st ca H ∧ PostS K fld W H0 ca0 H ca E (f ρ st)
section
variable {K : PySem.W.Frag} {fld : Str → List Str} {W : WX} {H0 : Hp} {ca0 : List Addr} {σ : L2.St} {H H1 : Hp} {ca ca1 : List Addr} {st : Store} {ρ : Env'} {E : Ends}
theorem FrR.go (h : FrR K H0 ca0 H ca ρ σ) (t : Stp ca ca1 H H1) : FrR K H0 ca0 H1 ca1 ρ σ := ⟨h.env.stp t, h.stp.trans t, h.fresh⟩
theorem PostS.mv {r : RS} (x : Fx H ca H1 ca1) (h : PostS K fld W H0 ca0 H ca E r) : PostS K fld W H0 ca0 H1 ca1 E r := by
  cases r with
  | nx ρ st => exact fun σ ca' H2 y => h σ ca' H2 (x.trans y)
  | bk ρ st => exact fun σ ca' H2 y => h σ ca' H2 (x.trans y)
  | ct ρ st => exact fun σ ca' H2 y => h σ ca' H2 (x.trans y)
  | rt d st => exact h
  | exc c as ρ st => exact fun cls dd σ ca' H2 y => h cls dd σ ca' H2 (x.trans y)
  | bad => exact h
theorem PostS.then {α : Type} {f : Env' → M α} {k : α → SS} (h : FrR K H0 ca0 H ca ρ σ) (hp : PostS K fld W H0 ca0 H ca E (thenS f k ρ st)) :
    Post K fld W σ H ca (fun a st' ca' H' => FrR K H0 ca0 H' ca' ρ σ ∧ PostS K fld W H0 ca0 H' ca' E (k a ρ st')) (f ρ st) := by
  unfold thenS at hp
  cases hr : f ρ st with
  | bad => rw [hr] at hp; exact hp
  | exc c as st1 => rw [hr] at hp; exact fun cls dd ca' H' t s x => hp cls dd σ ca' H' t.fx (h.go t) s x
  | ok a st1 => rw [hr] at hp; exact fun ca' H' t s => ⟨h.go t, PostS.mv t.fx hp⟩
/-- a slot is bound -/
theorem FrR.put {i : Nat} {d : D} {v : V} (h : FrR K H0 ca0 H ca ρ σ) (r : RelD K H ca d v) : FrR K H0 ca0 H ca (ρ.set i (.val d)) (σ.set i (some v)) := by
  have own : ∀ (j : Nat) (ds : List D), (ρ.set i (.val d))[j]? = some (.own ds) → j ≠ i ∧ ρ[j]? = some (.own ds) := fun j ds e => by
    by_cases hj : i = j
    · subst hj
      rw [List.getElem?_set] at e
      simp at e
    · rw [List.getElem?_set_ne hj] at e
      exact ⟨fun z => hj z.symm, e⟩
  refine ⟨⟨by simp [h.env.len], fun j s e => ?_, fun j k ds es a hjk e1 e2 e3 => ?_⟩, h.stp, fun j ds a e1 e2 => ?_⟩
  · by_cases hj : i = j
    · subst hj
      by_cases hl : i < ρ.length
      · rw [List.getElem?_set_self hl] at e
        cases e
        exact ⟨some v, List.getElem?_set_self (by rw [← h.env.len]; exact hl), v, rfl, r⟩
      · rw [List.getElem?_eq_none (by simp; omega)] at e
        cases e
    · rw [List.getElem?_set_ne hj] at e ⊢
      exact h.env.at_ j s e
  · obtain ⟨n1, f1⟩ := own j ds e1
    obtain ⟨n2, f2⟩ := own k es e2
    rw [List.getElem?_set_ne (Ne.symm n1)] at e3
    rw [List.getElem?_set_ne (Ne.symm n2)]
    exact h.env.sep j k ds es a hjk f1 f2 e3
  · obtain ⟨n1, f1⟩ := own j ds e1
    rw [List.getElem?_set_ne (Ne.symm n1)] at e2
    exact h.fresh j ds a f1 e2
/-- a slot gets a new list -/
theorem FrR.putNew {i : Nat} {ds : List D} {a : Addr} {vs : List V} (h : FrR K H0 ca0 H ca ρ σ) (ha : H a = some (.lst vs)) (h0 : H0 a = none) (hn : a ∉ ca) (r : RelDs K H ca ds vs)
    (sep : ∀ (j : Nat) (es : List D), j ≠ i → ρ[j]? = some (.own es) → σ[j]? ≠ some (some (.ref a))) : FrR K H0 ca0 H ca (ρ.set i (.own ds)) (σ.set i (some (.ref a))) := by
  refine ⟨⟨by simp [h.env.len], fun j s e => ?_, fun j k ds1 es b hjk e1 e2 e3 => ?_⟩, h.stp, fun j ds1 b e1 e2 => ?_⟩
  · by_cases hj : i = j
    · subst hj
      by_cases hl : i < ρ.length
      · rw [List.getElem?_set_self hl] at e
        cases e
        exact ⟨_, List.getElem?_set_self (by rw [← h.env.len]; exact hl), a, vs, rfl, ha, hn, r⟩
      · rw [List.getElem?_eq_none (by simp; omega)] at e
        cases e
    · rw [List.getElem?_set_ne hj] at e ⊢
      exact h.env.at_ j s e
  · by_cases hj : i = j
    · subst hj
      rw [List.getElem?_set_ne hjk] at e2 ⊢
      rw [List.getElem?_set] at e3
      simp only [if_true] at e3
      split at e3
      · cases e3
        exact sep k es (Ne.symm hjk) e2
      · cases e3
    · rw [List.getElem?_set_ne hj] at e1 e3
      by_cases hk : i = k
      · subst hk
        intro z
        rw [List.getElem?_set] at z
        simp only [if_true] at z
        split at z
        · cases z
          exact sep j ds1 (Ne.symm hj) e1 e3
        · cases z
      · rw [List.getElem?_set_ne hk] at e2 ⊢
        exact h.env.sep j k ds1 es b hjk e1 e2 e3
  · by_cases hj : i = j
    · subst hj
      rw [List.getElem?_set] at e2
      simp only [if_true] at e2
      split at e2
      · cases e2; exact h0
      · cases e2
    · rw [List.getElem?_set_ne hj] at e1 e2
      exact h.fresh j ds1 b e1 e2
/-- a list that was not there ahead of an expression is at no slot -/
theorem EnvR.apart {H' : Hp} {ρ : Env'} {σ : L2.St} (h : EnvR K H ca ρ σ) {a : Addr} (ha : H a = none) : ∀ (j : Nat) (es : List D), ρ[j]? = some (.own es) → σ[j]? ≠ some (some (.ref a)) := fun j es e z => by
  obtain ⟨o, h1, h2⟩ := h.at_ j _ e
  obtain ⟨b, vs, e1, q, _⟩ := h2
  subst e1
  rw [h1] at z
  cases z
  rw [ha] at q
  cases q
end
section
variable {X : Cx} {K : PySem.W.Frag} {fld : Str → List Str} {W : WX} {H0 : Hp} {ca0 : List Addr} {e c : Expr} {s : Stmt} {ss a b : List Stmt} {pos : Pos}
theorem ss_skip : PSs X [] (TSt K fld W H0 ca0 sSkip) := PSs.imp pss_nil fun D σ H ⟨ρ, st, ca, hf, hs, hp⟩ => hp σ ca H Fx.refl hf hs
theorem ss_seq {f g : SS} (h1 : PS X s (TSt K fld W H0 ca0 f)) (h2 : PSs X ss (TSt K fld W H0 ca0 g)) : PSs X (s :: ss) (TSt K fld W H0 ca0 (sSeq f g)) := by
  refine PSs.imp (pss_cons h1 h2) fun D σ H ⟨ρ, st, ca, hf, hs, hp⟩ => ⟨ρ, st, ca, hf, hs, ?_⟩
  unfold sSeq at hp
  cases hr : f ρ st with
  | nx ρ' st' => rw [hr] at hp; exact fun σ' ca' H' x hf' hs' => ⟨ρ', st', ca', hf', hs', PostS.mv x hp⟩
  | _ => rw [hr] at hp; exact hp
theorem ss_pass : PS X (.Pass pos) (TSt K fld W H0 ca0 sSkip) := PS.imp ps_pass fun D σ H ⟨ρ, st, ca, hf, hs, hp⟩ => hp σ ca H Fx.refl hf hs
theorem ss_brk : PS X (.Break pos) (TSt K fld W H0 ca0 sBrk) := PS.imp ps_break fun D σ H ⟨ρ, st, ca, hf, hs, hp⟩ => hp σ ca H Fx.refl hf hs
theorem ss_cnt : PS X (.Continue pos) (TSt K fld W H0 ca0 sCnt) := PS.imp ps_continue fun D σ H ⟨ρ, st, ca, hf, hs, hp⟩ => hp σ ca H Fx.refl hf hs
theorem ss_retN : PS X (.Return none pos) (TSt K fld W H0 ca0 sRetN) := PS.imp ps_retN fun D σ H ⟨ρ, st, ca, hf, hs, hp⟩ => hp .non ca H hf.stp hs rfl
theorem ss_ret {f : Env' → M RV} (he : PE X e (TN K fld W f)) : PS X (.Return (some e) pos) (TSt K fld W H0 ca0 (sRet f)) := by
  refine PS.imp (ps_ret (TN.kp he)) fun D σ H ⟨ρ, st, ca, hf, hs, hp⟩ => ⟨ρ, st, ca, hf.env, hs, (PostS.then hf hp).mono fun d st1 ca1 H1 t1 s1 q v hv => ?_⟩
  exact q.2 v ca1 H1 q.1.stp s1 hv
theorem ss_drop {f : Env' → M RV} (he : PE X e (TN K fld W f)) (hw : swapsWith e none pos.line X.env = pure false) : PS X (.Expr e pos) (TSt K fld W H0 ca0 (sDrop f)) := by
  refine PS.imp (ps_expr he hw) fun D σ H ⟨ρ, st, ca, hf, hs, hp⟩ => ⟨ρ, st, ca, hf.env, hs, (PostS.then hf hp).mono fun d st1 ca1 H1 t1 s1 q v hv => ?_⟩
  exact q.2 σ ca1 H1 Fx.refl q.1 s1
theorem ss_if {t : Env' → M Bool} {f g : SS} (hc : PT X c (TT' K fld W t)) (ha : PSs X a (TSt K fld W H0 ca0 f)) (hb : PSs X b (TSt K fld W H0 ca0 g)) : PS X (.If c a b pos) (TSt K fld W H0 ca0 (sIfS t f g)) := by
  refine PS.imp (ps_if hc ha hb) fun D σ H ⟨ρ, st, ca, hf, hs, hp⟩ => ⟨ρ, st, ca, hf.env, hs, (PostS.then hf hp).mono fun k st1 ca1 H1 t1 s1 q => ?_⟩
  cases k with
  | true => exact ⟨ρ, st1, ca1, q.1, s1, q.2⟩
  | false => exact ⟨ρ, st1, ca1, q.1, s1, q.2⟩
/-- what is stored at a slot -/
theorem FrR.store {i : Nat} {r : RV} {v : V} {H H1 : Hp} {ca ca1 : List Addr} {ρ : Env'} {σ : L2.St} {s : SV} (h0 : FrR K H0 ca0 H ca ρ σ) (t : Stp ca ca1 H H1) (hv : RelRV K H H1 ca1 r v) (e : slot r = some s) : FrR K H0 ca0 H1 ca1 (ρ.set i s) (σ.set i (some v)) := by
  cases r with
  | per d => cases e; exact (h0.go t).put hv
  | bor ds => cases e
  | fr ds =>
    cases e
    obtain ⟨a, vs, rfl, ha, hn, hc, q⟩ := hv
    exact (h0.go t).putNew ha (h0.stp.dom a hn) hc q fun j es _ e1 => EnvR.apart (H' := H1) h0.env hn j es e1
theorem ss_set {i : Nat} {x : Str} {pos' : Pos} {f : Env' → M RV} (hN : X.N.Nodup) (hi : X.N[i]? = some x) (hx : Loc X.env.scope x) (he : PE X e (TN K fld W f)) (hw : swapsWith e (some (.Name x pos')) pos.line X.env = pure false)
    (hf : X.fn x = true ∨ X.env.scope.names.lookup x = some .local) : PS X (.Assign [.Name x pos'] e pos) (TSt K fld W H0 ca0 (sSet i f)) := by
  refine PS.imp (ps_set hN hi hx he hw hf) fun D σ H ⟨ρ, st, ca, hf, hs, hp⟩ => ⟨ρ, st, ca, hf.env, hs, (PostS.then hf hp).mono fun r st1 ca1 H1 t1 s1 q v hv => ?_⟩
  obtain ⟨q1, q2⟩ := q
  cases hr : slot r with
  | none => rw [hr] at q2; exact q2.elim
  | some sv =>
    rw [hr] at q2
    exact q2 _ ca1 H1 Fx.refl (hf.store t1 hv hr) s1
/-! ### freezing -/
theorem ps_pre {t : TS} (h : PS X s t) : PS X s (fun D σ H => t D σ H ∨ ∃ a vs, H a = some (.lst vs) ∧ ∀ o, t D σ (upd H a (.frz o (.lst vs)))) := by
  refine ⟨fun pins s1 σ H D I hq => ?_⟩
  rcases hq with q | ⟨a, vs, ha, q⟩
  · exact h.run pins s1 σ H D I q
  · obtain ⟨o, I2⟩ := I.lock ha trivial
    exact h.run pins s1 σ _ D I2 (q o)
theorem modify_get {ρ : Env'} {i j : Nat} : (ρ.modify i thaw)[j]? = if i = j then (ρ[j]?).map thaw else ρ[j]? := by
  rw [List.getElem?_modify]
  by_cases h : i = j
  · simp [h]
  · simp [h]
theorem FrR.thaw {i : Nat} {H : Hp} {ca : List Addr} {ρ : Env'} {σ : L2.St} {st : Store} (h : FrR K H0 ca0 H ca ρ σ) (s : SR K st ca H) :
    (FrR K H0 ca0 H ca (ρ.modify i thaw) σ) ∨ ∃ a vs, H a = some (.lst vs) ∧ ∀ o, FrR K H0 ca0 (upd H a (.frz o (.lst vs))) ca (ρ.modify i thaw) σ ∧ SR K st ca (upd H a (.frz o (.lst vs))) ∧ Fx H ca (upd H a (.frz o (.lst vs))) ca := by
  by_cases hw : ∃ ds, ρ[i]? = some (.own ds)
  · obtain ⟨ds, hds⟩ := hw
    obtain ⟨o1, h1, a, vs, e1, ha, hn, hr⟩ := h.env.at_ i _ hds
    subst e1
    refine .inr ⟨a, vs, ha, fun o => ?_⟩
    have f0 := Stp.froze0 (o := o) ha
    have g0 : ∀ (k : Nat) (x : Addr), ca[k]? = some x → ca[k]? = some x := fun _ _ z => z
    have hnew : H0 a = none := h.fresh i ds a hds h1
    refine ⟨⟨⟨by simp [h.env.len], fun j sv e => ?_, fun j k ds1 es b hjk e2 e3 e4 => ?_⟩, Stp.froze ha hnew h.stp, fun j ds1 b e2 e3 => ?_⟩, s.froze ha hn, ⟨f0, g0⟩⟩
    · rw [modify_get] at e
      by_cases hj : i = j
      · subst hj
        rw [if_pos rfl, hds] at e
        cases e
        exact ⟨_, h1, _, rfl, a, vs, rfl, .inl ⟨o, upd_same⟩, RelDs.fixed f0 g0 _ _ hr⟩
      · rw [if_neg hj] at e
        obtain ⟨o2, h2, r2⟩ := h.env.at_ j sv e
        refine ⟨o2, h2, ?_⟩
        cases sv with
        | un => trivial
        | val d => obtain ⟨v, e5, q⟩ := r2; exact ⟨v, e5, RelD.fixed f0 g0 _ _ q⟩
        | own es =>
          obtain ⟨b, ws, e5, q, n2, r3⟩ := r2
          refine ⟨b, ws, e5, ?_, n2, RelDs.fixed f0 g0 _ _ r3⟩
          rw [upd_ne]
          · exact q
          · rintro rfl
            exact h.env.sep i j ds es b hj hds e h1 (by rw [h2, e5])
    · rw [modify_get] at e2 e3
      have hj : i ≠ j := fun z => by subst z; rw [if_pos rfl, hds] at e2; cases e2
      have hk : i ≠ k := fun z => by subst z; rw [if_pos rfl, hds] at e3; cases e3
      rw [if_neg hj] at e2
      rw [if_neg hk] at e3
      exact h.env.sep j k ds1 es b hjk e2 e3 e4
    · rw [modify_get] at e2
      have hj : i ≠ j := fun z => by subst z; rw [if_pos rfl, hds] at e2; cases e2
      rw [if_neg hj] at e2
      exact h.fresh j ds1 b e2 e3
  · refine .inl ?_
    have e : ρ.modify i Ev.thaw = ρ := by
      apply List.ext_getElem?
      intro j
      rw [modify_get]
      by_cases hj : i = j
      · subst hj
        rw [if_pos rfl]
        cases hv : ρ[i]? with
        | none => rfl
        | some sv =>
          cases sv with
          | own ds => exact absurd ⟨ds, hv⟩ hw
          | _ => rfl
      · rw [if_neg hj]
    rw [e]
    exact h
theorem ss_frz {f : SS} : ∀ (is : List Nat), PS X s (TSt K fld W H0 ca0 f) → PS X s (TSt K fld W H0 ca0 (sFrz is f))
  | [], h => h
  | i :: is, h => by
    refine PS.imp (ps_pre (ss_frz is h)) fun D σ H ⟨ρ, st, ca, hf, hs, hp⟩ => ?_
    rcases hf.thaw (i := i) hs with hq | ⟨a, vs, ha, hq⟩
    · exact .inl ⟨_, st, ca, hq, hs, hp⟩
    · exact .inr ⟨a, vs, ha, fun o => ⟨_, st, ca, (hq o).1, (hq o).2.1, PostS.mv (hq o).2.2 hp⟩⟩
end
end Ev
set_option Elab.async false -- ev
set_option linter.all false -- ev
set_option maxRecDepth 100000 -- ev
set_option maxHeartbeats 2000000 -- ev
set_option autoImplicit false -- ev
/-! What is walked; for; comprehensions. -/
namespace Ev
open PySem PySem.Spec PyProof.Rows L2 -- ev

/-- an object more or none -/
def Lay (H H' : Hp) : Prop := ∀ a o, H a = some o → H' a = some o
section
variable {K : PySem.W.Frag} {H H1 H2 : Hp} {ca ca1 ca2 : List Addr} {st : Store}
theorem Lay.refl : Lay H H := fun _ _ h => h
theorem Lay.stp (h : Lay H H1) : Stp ca ca H H1 := ⟨⟨[], by simp, fun a h => nomatch h⟩, fun a o e _ => h a o e, fun a o e _ _ => h a o e, fun a e => by
  cases q : H a with
  | none => rfl
  | some o => rw [h a o q] at e; cases e⟩
theorem Lay.sr (h : Lay H H1) (s : SR K st ca H) : SR K st ca H1 := s.stay h.stp fun a ha => by
  obtain ⟨k, hk⟩ := List.getElem?_of_mem ha
  have hl : k < st.length := by rw [← s.len]; exact (List.getElem?_eq_some_iff.mp hk).1
  have := s.cell k st[k] a (List.getElem?_eq_getElem hl) hk
  cases hc : st[k] with
  | lst ds => rw [hc] at this; obtain ⟨vs, e, _⟩ := this; rw [e, h _ _ e]
  | dct kvs => rw [hc] at this; obtain ⟨vs, e, _⟩ := this; rw [e, h _ _ e]
theorem Lay.upd {p : Addr} {o : HO} (hp : H p = none) : Lay H (upd H p o) := fun a u e => by rw [upd_ne (ne_of_none e hp)]; exact e
end
/-- J walks ds, as long as what is fixed stays -/
def Wk (K : PySem.W.Frag) (J : It) (ds : List D) (H : Hp) (ca : List Addr) : Prop := ∀ H1 ca1, Fx H ca H1 ca1 →
  (∀ i, i < ds.length → J.go i H1) ∧ J.stop ds.length H1 ∧ ∀ i x H2, J.yld i H1 x H2 → i < ds.length → ∃ d, ds[i]? = some d ∧ Lay H1 H2 ∧ RelD K H2 ca1 d x
def TWk (K : PySem.W.Frag) (fld : Str → List Str) (W : WX) (f : Env' → M (List D)) : TI := fun σ H R => ∃ ρ st ca, EnvR K H ca ρ σ ∧ SR K st ca H ∧ Post K fld W σ H ca (fun ds _ ca' H' => ∀ J, Wk K J ds H' ca' → R J H') (f ρ st)
theorem PI.imp {X : Cx} {tg e : Expr} {t u : TI} (h : PI X tg e t) (i : ∀ σ H R, u σ H R → t σ H R) : PI X tg e u := ⟨fun pins s σ H R I q => h.run pins s σ H R I (i σ H R q)⟩
theorem PG.imp {X : Cx} {e : Expr} {t u : TG} (h : PG X e t) (i : ∀ v σ H R, u v σ H R → t v σ H R) : PG X e u := ⟨fun pins s σ H v w Q I r q => h.run pins s σ H v w Q I r (i v σ H Q q)⟩
theorem PGs.imp {X : Cx} {e : List Expr} {t u : TGs} (h : PGs X e t) (i : ∀ v σ H R, u v σ H R → t v σ H R) : PGs X e u := ⟨fun pins s σ H v w Q I r q => h.run pins s σ H v w Q I r (i v σ H Q q)⟩

/-! ### targets -/
/-- the frame behind a store to names: at these places alone -/
structure Bd (K : PySem.W.Frag) (H : Hp) (ca : List Addr) (is : List Nat) (ρ ρ' : Env') (σ σ' : L2.St) : Prop where
  env : EnvR K H ca ρ' σ'
  own : ∀ (j : Nat) (ds : List D), ρ'[j]? = some (.own ds) → ρ[j]? = some (.own ds) ∧ σ'[j]? = σ[j]?
  wip : ∀ vs : List Nat, (∀ i ∈ is, i ∈ vs) → wipe σ' vs = wipe σ vs
def TGd (K : PySem.W.Frag) (is : List Nat) (g : D → Env' → Option Env') : TG := fun x σ H R => ∃ ρ d ca ρ', EnvR K H ca ρ σ ∧ RelD K H ca d x ∧ g d ρ = some ρ' ∧ ∀ σ', Bd K H ca is ρ ρ' σ σ' → R σ' H
def TGds (K : PySem.W.Frag) (is : List Nat) (g : List D → Env' → Option Env') : TGs := fun x σ H R => ∃ ρ d ca ρ', EnvR K H ca ρ σ ∧ RelDs K H ca d x ∧ g d ρ = some ρ' ∧ ∀ σ', Bd K H ca is ρ ρ' σ σ' → R σ' H
def gN (i : Nat) : D → Env' → Option Env' := fun d ρ => some (ρ.set i (.val d))
def gsNil : List D → Env' → Option Env' := fun ds ρ => match ds with
  | [] => some ρ
  | _ => none
def gsCons (g : D → Env' → Option Env') (h : List D → Env' → Option Env') : List D → Env' → Option Env' := fun ds ρ => match ds with
  | d :: ds => (g d ρ).bind (h ds)
  | [] => none
def gT (h : List D → Env' → Option Env') : D → Env' → Option Env' := fun d ρ => match d with
  | .tup ds => h ds ρ
  | _ => none
theorem wipe_set (σ : L2.St) (i : Nat) (o : Option V) : ∀ vs : List Nat, i ∈ vs → wipe (σ.set i o) vs = wipe σ vs
  | [], h => nomatch h
  | v :: vs, h => by
    unfold wipe
    by_cases hv : i ∈ vs
    · rw [wipe_set σ i o vs hv]
    · have e : v = i := by
        rcases List.mem_cons.mp h with h | h
        · exact h.symm
        · exact absurd h hv
      subst e
      have : ∀ ws : List Nat, v ∉ ws → wipe (σ.set v o) ws = (wipe σ ws).set v o := by
        intro ws
        induction ws with
        | nil => intro _; rfl
        | cons w ws ih =>
          intro hn
          simp only [List.mem_cons, not_or] at hn
          unfold wipe
          rw [ih hn.2, List.set_comm _ _ (fun z => hn.1 z)]
      rw [this vs hv, List.set_set]
section
variable {K : PySem.W.Frag} {H : Hp} {ca : List Addr} {ρ ρ1 ρ2 : Env'} {σ σ1 σ2 : L2.St}
theorem EnvR.put {i : Nat} {d : D} {v : V} (h : EnvR K H ca ρ σ) (r : RelD K H ca d v) : Bd K H ca [i] ρ (ρ.set i (.val d)) σ (σ.set i (some v)) := by
  have own : ∀ (j : Nat) (ds : List D), (ρ.set i (.val d))[j]? = some (.own ds) → ρ[j]? = some (.own ds) ∧ (σ.set i (some v))[j]? = σ[j]? := fun j ds e => by
    by_cases hj : i = j
    · subst hj
      rw [List.getElem?_set] at e
      simp at e
    · rw [List.getElem?_set_ne hj] at e
      exact ⟨e, List.getElem?_set_ne hj⟩
  refine ⟨⟨by simp [h.len], fun j s e => ?_, fun j k ds es a hjk e1 e2 e3 => ?_⟩, own, fun vs hv => wipe_set σ i _ vs (hv i (by simp))⟩
  · by_cases hj : i = j
    · subst hj
      by_cases hl : i < ρ.length
      · rw [List.getElem?_set_self hl] at e
        cases e
        exact ⟨some v, List.getElem?_set_self (by rw [← h.len]; exact hl), v, rfl, r⟩
      · rw [List.getElem?_eq_none (by simp; omega)] at e
        cases e
    · rw [List.getElem?_set_ne hj] at e ⊢
      exact h.at_ j s e
  · obtain ⟨f1, g1⟩ := own j ds e1
    obtain ⟨f2, g2⟩ := own k es e2
    rw [g1] at e3
    rw [g2]
    exact h.sep j k ds es a hjk f1 f2 e3
theorem Bd.refl (h : EnvR K H ca ρ σ) : Bd K H ca [] ρ ρ σ σ := ⟨h, fun _ _ e => ⟨e, rfl⟩, fun _ _ => rfl⟩
theorem Bd.trans {is js : List Nat} (a : Bd K H ca is ρ ρ1 σ σ1) (b : Bd K H ca js ρ1 ρ2 σ1 σ2) : Bd K H ca (is ++ js) ρ ρ2 σ σ2 :=
  ⟨b.env, fun j ds e => let ⟨x, y⟩ := b.own j ds e; let ⟨z, w⟩ := a.own j ds x; ⟨z, y.trans w⟩, fun vs hv => (b.wip vs fun i hi => hv i (List.mem_append_right _ hi)).trans (a.wip vs fun i hi => hv i (List.mem_append_left _ hi))⟩
theorem FrR.bd {H0 : Hp} {ca0 : List Addr} {is : List Nat} (h : FrR K H0 ca0 H ca ρ σ) (b : Bd K H ca is ρ ρ1 σ σ1) : FrR K H0 ca0 H ca ρ1 σ1 :=
  ⟨b.env, h.stp, fun i ds a e1 e2 => let ⟨x, y⟩ := b.own i ds e1; h.fresh i ds a x (y ▸ e2)⟩
end
section
variable {X : Cx} {K : PySem.W.Frag} {pos : Pos}
theorem sg_name {i : Nat} {x : Str} (hN : X.N.Nodup) (hi : X.N[i]? = some x) (hx : Loc X.env.scope x) (hf : X.fn x = true ∨ X.env.scope.names.lookup x = some .local) : PG X (.Name x pos) (TGd K [i] (gN i)) := by
  refine PG.imp (pg_name hN hi hx hf) fun v σ H R ⟨ρ, d, ca, ρ', he, hd, e, hr⟩ => ?_
  cases e
  exact hr _ (he.put hd)
theorem sg_nil : PGs X [] (TGds K [] gsNil) := PGs.imp pgs_nil fun v σ H R ⟨ρ, d, ca, ρ', he, hd, e, hr⟩ => by
  cases d with
  | cons d ds => cases e
  | nil => cases e; cases hd; exact ⟨rfl, hr σ (Bd.refl he)⟩
theorem sg_cons {e : Expr} {es : List Expr} {is js : List Nat} {g : D → Env' → Option Env'} {h : List D → Env' → Option Env'} (h1 : PG X e (TGd K is g)) (h2 : PGs X es (TGds K js h))
    (hs : (assignEach (e :: es) X.env).map (·.2) = assign e X.env :: (assignEach es X.env).map (·.2)) : PGs X (e :: es) (TGds K (is ++ js) (gsCons g h)) := by
  refine PGs.imp (pgs_cons h1 h2 hs) fun v σ H R ⟨ρ, d, ca, ρ', he, hd, e, hr⟩ => ?_
  cases d with
  | nil => cases e
  | cons d ds =>
    obtain ⟨x, r, rfl, q, qs⟩ := hd
    have e : (g d ρ).bind (h ds) = some ρ' := e
    cases hg : g d ρ with
    | none => rw [hg] at e; cases e
    | some ρ1 =>
      rw [hg] at e
      exact ⟨x, r, rfl, ρ, d, ca, ρ1, he, q, hg, fun σ1 b1 => ⟨ρ1, ds, ca, ρ', b1.env, qs, e, fun σ2 b2 => hr σ2 (b1.trans b2)⟩⟩
theorem gs_len {es : List Expr} {is : List Nat} {h : List D → Env' → Option Env'} : True := trivial
theorem sg_tup {es : List Expr} {k n : Nat} {is : List Nat} {h : List D → Env' → Option Env'} (hc : X.calm = true) (hg : PGs X es (TGds X.K is h)) (hl : ∀ ds ρ ρ', h ds ρ = some ρ' → ds.length = n)
    (hn : (assignEach es X.env).length = n) (hst : (assignEach es X.env).findIdx? (·.1) = none) : PG X (.Tuple es k pos) (TGd X.K is (gT h)) := by
  refine PG.imp (pg_tup hc hg hn hst) fun v σ H R ⟨ρ, d, ca, ρ', he, hd, e, hr⟩ => ?_
  cases d with
  | tup ds =>
    obtain ⟨a, vs, rfl, q, r⟩ := hd
    exact ⟨a, vs, rfl, q, by rw [r.length]; exact hl ds ρ ρ' e, ρ, ds, ca, ρ', he, r, e, hr⟩
  | _ => cases e
theorem len_nil : ∀ ds ρ ρ', gsNil ds ρ = some ρ' → ds.length = 0 := fun ds ρ ρ' e => by
  cases ds with
  | nil => rfl
  | cons _ _ => cases e
theorem len_cons {g : D → Env' → Option Env'} {h : List D → Env' → Option Env'} {n : Nat} (hl : ∀ ds ρ ρ', h ds ρ = some ρ' → ds.length = n) : ∀ ds ρ ρ', gsCons g h ds ρ = some ρ' → ds.length = n + 1 := fun ds ρ ρ' e => by
  cases ds with
  | nil => cases e
  | cons d ds =>
    have e : (g d ρ).bind (h ds) = some ρ' := e
    cases hg : g d ρ with
    | none => rw [hg] at e; cases e
    | some ρ1 => rw [hg] at e; exact congrArg Nat.succ (hl ds ρ1 ρ' e)
end

/-! ### for -/
def sForL (g : D → Env' → Option Env') (f : SS) : List D → SS
  | [] => fun ρ st => .nx ρ st
  | d :: ds => fun ρ st => match g d ρ with
    | none => .bad
    | some ρ1 => match f ρ1 st with
      | .nx ρ2 st2 => sForL g f ds ρ2 st2
      | .ct ρ2 st2 => sForL g f ds ρ2 st2
      | .bk ρ2 st2 => .nx ρ2 st2
      | r => r
def sFor (it : Env' → M (List D)) (g : D → Env' → Option Env') (f : SS) : SS := thenS it fun ds => sForL g f ds
section
variable {X : Cx} {K : PySem.W.Frag} {fld : Str → List Str} {W : WX} {H0 : Hp} {ca0 : List Addr} {tg iter : Expr} {body : List Stmt} {pos : Pos}
theorem ss_for {it : Env' → M (List D)} {is : List Nat} {g : D → Env' → Option Env'} {f : SS} (hp : PassesOwn (model X.prog X.w) X.A X.env X.xe) (hc : X.calm = true) (hi : PI X tg iter (TWk K fld W it)) (hg : PG X tg (TGd K is g)) (hb : PSs X body (TSt K fld W H0 ca0 f))
    (hs : ∀ x, foldedSetIterable iter X.env x = pure x) : PS X (.For tg iter body [] pos) (TSt K fld W H0 ca0 (sFor it g f)) := by
  refine PS.imp (ps_for hp hc hi hg hb hs) fun E σ H ⟨ρ, st, ca, hf, hsr, hp⟩ => ⟨ρ, st, ca, hf.env, hsr, (PostS.then hf hp).mono fun ds st1 ca1 H1 t1 s1 q J wk => ?_⟩
  obtain ⟨hf1, hq⟩ := q
  refine ⟨fun i m σ' H' => m = ds.length - i ∧ i ≤ ds.length ∧ ∃ ρ' st' ca', Fx H1 ca1 H' ca' ∧ FrR K H0 ca0 H' ca' ρ' σ' ∧ SR K st' ca' H' ∧ PostS K fld W H0 ca0 H' ca' E (sForL g f (ds.drop i) ρ' st'), ⟨_, rfl, Nat.zero_le _, ρ, st1, ca1, Fx.refl, hf1, s1, hq⟩, ?_⟩
  rintro i m σ' H' ⟨rfl, hle, ρ', st', ca', fx, hf', hs', hq'⟩
  obtain ⟨w1, w2, w3⟩ := wk H' ca' fx
  by_cases hlt : i < ds.length
  · have ed : ds.drop i = ds[i] :: ds.drop (i + 1) := (List.getElem_cons_drop hlt).symm
    rw [ed] at hq'
    refine .inr ⟨w1 i hlt, fun σ2 H2 => ∃ ρ2 st2 ca2, Fx H1 ca1 H2 ca2 ∧ FrR K H0 ca0 H2 ca2 ρ2 σ2 ∧ SR K st2 ca2 H2 ∧ PostS K fld W H0 ca0 H2 ca2 E (sForL g f (ds.drop (i + 1)) ρ2 st2), fun σ2 H2 ⟨ρ2, st2, ca2, x2, y2, z2, q2⟩ => ⟨ds.length - (i + 1), by omega, rfl, hlt, ρ2, st2, ca2, x2, y2, z2, q2⟩, fun x H2 y => ?_⟩
    obtain ⟨d, hd, ly, rd⟩ := w3 i x H2 y hlt
    have e : ds[i] = d := by rw [List.getElem?_eq_getElem hlt] at hd; exact Option.some.inj hd
    rw [e] at hq'
    have hq' : PostS K fld W H0 ca0 H' ca' E (match g d ρ' with
      | none => .bad
      | some ρ1 => match f ρ1 st' with
        | .nx ρ2 st2 => sForL g f (ds.drop (i + 1)) ρ2 st2
        | .ct ρ2 st2 => sForL g f (ds.drop (i + 1)) ρ2 st2
        | .bk ρ2 st2 => .nx ρ2 st2
        | r => r) := hq'
    have t2 : Stp ca' ca' H' H2 := ly.stp
    have hf2 := hf'.go t2
    have hs2 := ly.sr hs'
    cases hgd : g d ρ' with
    | none => rw [hgd] at hq'; exact hq'.elim
    | some ρ1 =>
      rw [hgd] at hq'
      dsimp only at hq'
      refine ⟨ρ', d, ca', ρ1, hf2.env, rd, hgd, fun σ1 b1 => ⟨ρ1, st', ca', hf2.bd b1, hs2, ?_⟩⟩
      have fx2 := fx.trans t2.fx
      cases hr : f ρ1 st' with
      | nx ρ2 st2 => rw [hr] at hq'; exact fun σ3 ca3 H3 x3 f3 s3 => ⟨ρ2, st2, ca3, fx2.trans x3, f3, s3, PostS.mv (t2.fx.trans x3) hq'⟩
      | ct ρ2 st2 => rw [hr] at hq'; exact fun σ3 ca3 H3 x3 f3 s3 => ⟨ρ2, st2, ca3, fx2.trans x3, f3, s3, PostS.mv (t2.fx.trans x3) hq'⟩
      | bk ρ2 st2 => rw [hr] at hq'; exact fun σ3 ca3 H3 x3 f3 s3 => hq' σ3 ca3 H3 (t2.fx.trans x3) f3 s3
      | rt d2 st2 => rw [hr] at hq'; exact hq'
      | exc c as ρ2 st2 => rw [hr] at hq'; exact fun cls dd σ3 ca3 H3 x3 => hq' cls dd σ3 ca3 H3 (t2.fx.trans x3)
      | bad => rw [hr] at hq'; exact hq'
  · have e : i = ds.length := by omega
    subst e
    rw [List.drop_length] at hq'
    exact .inl ⟨w2, hq' σ' ca' H' Fx.refl hf' hs'⟩
end
end Ev
set_option Elab.async false -- ev
set_option linter.all false -- ev
set_option maxRecDepth 100000 -- ev
set_option maxHeartbeats 2000000 -- ev
set_option autoImplicit false -- ev
/-! List comprehensions. -/
namespace Ev
open PySem PySem.Spec PyProof.Rows L2 -- ev

def M.ne {α : Type} (m : M α) : M α := fun st => match m st with
  | .ok a st' => .ok a st'
  | _ => .bad
def wipeE (ρ : Env') : List Nat → Env'
  | [] => ρ
  | v :: vs => (wipeE ρ vs).set v .un
def sLcL (g : D → Env' → Option Env') (c : Env' → M Bool) (el : Env' → M D) (ρ : Env') : List D → List D → M (List D)
  | [], acc => M.pure acc
  | d :: ds, acc => match g d ρ with
    | none => M.bad
    | some ρ1 => M.bind (M.ne (c ρ1)) fun b => if b = true then M.bind (M.ne (el ρ1)) fun e => if acc.length < sizeLine then sLcL g c el ρ ds (acc ++ [e]) else M.bad else sLcL g c el ρ ds acc
def sLc (it : Env' → M (List D)) (g : D → Env' → Option Env') (c : Env' → M Bool) (el : Env' → M D) (vs : List Nat) : Env' → M RV := fun ρ => M.bind (it ρ) fun ds => M.bind (sLcL g c el (wipeE ρ vs) ds []) fun acc => M.pure (.fr acc)
def sYes : Env' → M Bool := fun _ => M.pure true
def WF : WX := fun _ _ _ _ => False

section
variable {K : PySem.W.Frag} {fld : Str → List Str} {W : WX} {σ σ' : L2.St} {H H1 H2 : Hp} {ca ca1 ca2 : List Addr} {st : Store} {ρ : Env'}
theorem Post.ne {α β : Type} {m : M α} {g : α → M β} {k : β → Store → List Addr → Hp → Prop} (h : Post K fld W σ H ca k (M.bind (M.ne m) g st)) :
    Post K fld WF σ' H ca (fun a st1 ca1 H1 => Post K fld W σ H1 ca1 k (g a st1)) (m st) := by
  have h := Post.bind h
  unfold M.ne at h
  cases e : m st with
  | bad => rw [e] at h; exact h
  | exc c as st1 => rw [e] at h; exact h.elim
  | ok a st1 => rw [e] at h; exact h
theorem wipeE_length : ∀ vs : List Nat, (wipeE ρ vs).length = ρ.length
  | [] => rfl
  | v :: vs => by unfold wipeE; rw [List.length_set, wipeE_length vs]
theorem wipeE_get : ∀ {vs : List Nat} {i : Nat} {s : SV}, (wipeE ρ vs)[i]? = some s → s = .un ∨ (ρ[i]? = some s ∧ i ∉ vs)
  | [], i, s, h => .inr ⟨h, by simp⟩
  | v :: vs, i, s, h => by
    unfold wipeE at h
    by_cases hi : v = i
    · subst hi
      rw [List.getElem?_set] at h
      simp only [if_true] at h
      split at h
      · cases h; exact .inl rfl
      · cases h
    · rw [List.getElem?_set_ne hi] at h -- ev
      rcases wipeE_get h with e | ⟨e, n⟩
      · exact .inl e
      · exact .inr ⟨e, by simp only [List.mem_cons, not_or]; exact ⟨fun z => hi z.symm, n⟩⟩
theorem wipe_get {σ : L2.St} : ∀ {vs : List Nat} {i : Nat}, i ∉ vs → (wipe σ vs)[i]? = σ[i]?
  | [], i, h => rfl
  | v :: vs, i, h => by
    simp only [List.mem_cons, not_or] at h
    unfold wipe
    rw [List.getElem?_set_ne (fun z => h.1 z.symm)]
    exact wipe_get h.2
theorem EnvR.wipe (h : EnvR K H ca ρ σ) (vs : List Nat) : EnvR K H ca (wipeE ρ vs) (L2.wipe σ vs) := by
  refine ⟨by rw [wipeE_length, wipe_length]; exact h.len, fun i s e => ?_, fun i j ds es a hij e1 e2 e3 => ?_⟩
  · rcases wipeE_get e with rfl | ⟨e, n⟩
    · have hl : i < (L2.wipe σ vs).length := by rw [wipe_length, ← h.len, ← wipeE_length (ρ := ρ) vs]; exact (List.getElem?_eq_some_iff.mp e).1
      exact ⟨_, List.getElem?_eq_getElem hl, trivial⟩
    · obtain ⟨o, a, b⟩ := h.at_ i s e
      exact ⟨o, by rw [wipe_get n]; exact a, b⟩
  · rcases wipeE_get e1 with z | ⟨e1, n1⟩
    · cases z
    · rcases wipeE_get e2 with z | ⟨e2, n2⟩
      · cases z
      · rw [wipe_get n1] at e3
        rw [wipe_get n2]
        exact h.sep i j ds es a hij e1 e2 e3
theorem wipe_comm (σ : L2.St) (i : Nat) : ∀ vs : List Nat, L2.wipe (σ.set i none) vs = (L2.wipe σ vs).set i none
  | [] => rfl
  | v :: vs => by
    unfold L2.wipe
    rw [wipe_comm σ i vs]
    by_cases h : i = v
    · subst h; rfl
    · rw [List.set_comm _ _ h]
theorem wipe_idem (σ : L2.St) : ∀ vs : List Nat, L2.wipe (L2.wipe σ vs) vs = L2.wipe σ vs
  | [] => rfl
  | v :: vs => by
    show (L2.wipe ((L2.wipe σ vs).set v none) vs).set v none = (L2.wipe σ vs).set v none
    rw [wipe_comm, List.set_set, wipe_idem σ vs]
/-- a list of nobody is written -/
theorem Stp.wr {p : Addr} {o : HO} (h0 : H1 p = none) (s : Stp ca ca1 H1 H) : Stp ca ca1 H1 (upd H p o) := by
  refine ⟨s.ext, fun a u e f => ?_, fun a u e n f => ?_, fun a e => ?_⟩
  · rw [upd_ne]
    · exact s.fix a u e f
    · rintro rfl
      rw [h0] at e; cases e
  · rw [upd_ne]
    · exact s.keep a u e n f
    · rintro rfl
      rw [h0] at e; cases e
  · by_cases z : a = p
    · rw [z, upd_same] at e; cases e
    · rw [upd_ne z] at e; exact s.dom a e
theorem fix_wr {p : Addr} {vs : List V} {o : HO} (hp : H p = some (.lst vs)) : ∀ a u, H a = some u → Fix u → upd H p o a = some u := fun a u e f => by
  rw [upd_ne]
  · exact e
  · rintro rfl
    rw [hp] at e; cases e; exact f.elim
theorem KvR.fixed (f : ∀ a o, H a = some o → Fix o → H1 a = some o) (g : ∀ (k : Nat) (x : Addr), ca[k]? = some x → ca1[k]? = some x) : ∀ {kvs : List (Key × D)} {ws : List (Key × V)}, KvR K H ca kvs ws → KvR K H1 ca1 kvs ws
  | [], _, h => h
  | x :: r, _, h => by
    obtain ⟨v, t, e, q, g'⟩ := h
    exact ⟨v, t, e, RelD.fixed f g _ _ q, KvR.fixed f g g'⟩
theorem SR.wr {p : Addr} {vs : List V} {o : HO} (h : SR K st ca H) (hp : H p = some (.lst vs)) (n : p ∉ ca) : SR K st ca (upd H p o) := by
  have f := fix_wr (o := o) hp
  refine ⟨h.len, h.nd, fun i c a e1 e2 => ?_⟩
  have q := h.cell i c a e1 e2
  have ne : a ≠ p := fun z => n (z ▸ List.mem_of_getElem? e2)
  cases c with
  | lst ds => obtain ⟨ws, e, r⟩ := q; exact ⟨ws, by rw [upd_ne ne]; exact e, RelDs.fixed f (fun _ _ z => z) _ _ r⟩
  | dct kvs => obtain ⟨ws, e, r⟩ := q; exact ⟨ws, by rw [upd_ne ne]; exact e, KvR.fixed f (fun _ _ z => z) r⟩
end
/-- a block's context -/
abbrev bX (X : Cx) (scope : Scope) (s : Shared) (H : Hp) (C : Addr) (cl : List (Str × Addr)) (fp : List Addr) : Cx := X.blk s H scope (compEnvC scope cl C X.env) fp
section
variable {X : Cx} {K : PySem.W.Frag} {fld : Str → List Str} {W : WX} {σ : L2.St} {H : Hp} {elt tg iter : Expr} {ifs : List Expr} {scope : Scope} {own : List (Str × Nat)} {pos : Pos} {Q : VK}
/-- the rule's frame is met -/
theorem Post.ne' {α β : Type} {m : M α} {g : α → M β} {k : β → Store → List Addr → Hp → Prop} {H1 : Hp} {ca ca1 : List Addr} {st : Store} {σ' : L2.St} (h : Post K fld W σ H1 ca1 k (M.bind (M.ne m) g st)) :
    Post K fld WF σ' H ca (fun a st1 _ _ => Post K fld W σ H1 ca1 k (g a st1)) (m st) := by
  unfold M.bind M.ne at h
  cases e : m st with
  | bad => rw [e] at h; exact h
  | exc c as st1 => rw [e] at h; exact h.elim
  | ok a st1 => rw [e] at h; exact fun _ _ _ _ => h
theorem lc_tr {it : Env' → M (List D)} {is vs : List Nat} {g : D → Env' → Option Env'} {c : Env' → M Bool} {el : Env' → M D} (hsub : ∀ i ∈ is, i ∈ vs)
    (h : TN K fld W (sLc it g c el vs) σ H Q) : tLc (TWk K fld W it) (TGd K is g) (TT' K fld WF c) (TS' K fld WF el) vs σ H Q := by
  obtain ⟨ρ, st, ca, he, hs, hp⟩ := h
  refine ⟨ρ, st, ca, he, hs, (Post.bind hp).mono fun ds st1 ca1 H1 t1 s1 q J wk => fun L hL => ?_⟩
  have q := Post.bind q
  have hn : L ∉ ca1 := s1.notnew hL
  have he1 := he.stp t1
  refine ⟨fun i m H' => m = ds.length - i ∧ i ≤ ds.length ∧ ∃ st' ca' acc ws, Stp ca1 ca' H1 H' ∧ SR K st' ca' H' ∧ H' L = some (.lst ws) ∧ L ∉ ca' ∧ RelDs K H' ca' acc ws ∧
    Post K fld W σ H1 ca1 (fun a st1 ca1 H1 => Post K fld W σ H1 ca1 (fun r _ ca' H' => ∀ v, RelRV K H H' ca' r v → Q v H') (M.pure (.fr a) st1)) (sLcL g c el (wipeE ρ vs) (ds.drop i) acc st'),
    ⟨_, rfl, Nat.zero_le _, st1, ca1, [], [], Stp.laid hL, s1.laid hL, upd_same, hn, rfl, q⟩, ?_⟩
  rintro i m H' ⟨rfl, hle, st', ca', acc, ws, t, s, hl, nl, ra, q⟩
  obtain ⟨w1, w2, w3⟩ := wk H' ca' t.fx
  by_cases hlt : i < ds.length
  · have ed : ds.drop i = ds[i] :: ds.drop (i + 1) := (List.getElem_cons_drop hlt).symm
    rw [ed] at q
    refine .inr ⟨w1 i hlt, fun H2 => ∃ st' ca' acc ws, Stp ca1 ca' H1 H2 ∧ SR K st' ca' H2 ∧ H2 L = some (.lst ws) ∧ L ∉ ca' ∧ RelDs K H2 ca' acc ws ∧
      Post K fld W σ H1 ca1 (fun a st1 ca1 H1 => Post K fld W σ H1 ca1 (fun r _ ca' H' => ∀ v, RelRV K H H' ca' r v → Q v H') (M.pure (.fr a) st1)) (sLcL g c el (wipeE ρ vs) (ds.drop (i + 1)) acc st'),
      fun H2 hx => ⟨ds.length - (i + 1), by omega, rfl, hlt, hx⟩, fun x H2 y => ?_⟩
    obtain ⟨d, hd, ly, rd⟩ := w3 i x H2 y hlt
    have e : ds[i] = d := by rw [List.getElem?_eq_getElem hlt] at hd; exact Option.some.inj hd
    rw [e] at q
    unfold sLcL at q
    have t2 : Stp ca' ca' H' H2 := ly.stp
    have s2 := ly.sr s
    have l2 := ly L _ hl
    have ra2 := ra.stp t2
    have tt := t.trans t2
    have he2 := (he1.stp tt).wipe vs
    cases hg : g d (wipeE ρ vs) with
    | none => rw [hg] at q; exact q.elim
    | some ρ1 =>
      rw [hg] at q
      dsimp only at q
      refine ⟨wipeE ρ vs, d, ca', ρ1, he2, rd, hg, fun σ1 b1 => ⟨(b1.wip vs hsub).trans (wipe_idem σ vs), ρ1, st', ca', b1.env, s2, ?_⟩⟩
      refine (Post.ne' (σ' := σ1) (H := H2) (ca := ca') q).mono fun b st3 ca3 H3 t3 s3 q4 => ?_
      have tt3 := tt.trans t3
      have l3 := t3.keep L _ l2 nl trivial
      have nl3 := t3.notin l2 nl
      have ra3 := ra2.stp t3
      cases b with
      | false => exact ⟨st3, ca3, acc, ws, tt3, s3, l3, nl3, ra3, q4⟩
      | true =>
        refine ⟨ρ1, st3, ca3, b1.env.stp t3, s3, (Post.ne' (σ' := σ1) (H := H3) (ca := ca3) q4).mono fun z st4 ca4 H4 t4 s4 q5 v hv => ?_⟩
        have l4 := t4.keep L _ l3 nl3 trivial
        have nl4 := t4.notin l3 nl3
        have ra4 := ra3.stp t4
        split at q5
        · rename_i hz
          have tw := (tt3.trans t4).wr (o := .lst (ws ++ [v])) hL
          have fw := fix_wr (o := .lst (ws ++ [v])) l4
          exact ⟨ws, l4, by rw [ra4.length]; exact hz, st4, ca4, acc ++ [z], ws ++ [v], tw, s4.wr l4 nl4, upd_same, nl4, RelDs.fixed fw (fun _ _ z => z) _ _ (ra4.snoc hv), q5⟩
        · exact q5.elim
  · have e : i = ds.length := by omega
    subst e
    rw [List.drop_length] at q
    refine .inl ⟨w2, ?_⟩
    have q2 : Post K fld W σ H' ca' (fun r _ ca' H' => ∀ v, RelRV K H H' ca' r v → Q v H') (M.pure (.fr acc) st') := (show ∀ ca2 H2, Stp ca1 ca2 H1 H2 → SR K st' ca2 H2 → _ from q) ca' H' t s
    exact Post.now q2 s _ ⟨L, ws, rfl, hl, t1.dom L hL, nl, ra⟩
variable {is : List Nat} {it : Env' → M (List D)} {g : D → Env' → Option Env'} {c : Env' → M Bool} {el : Env' → M D}
theorem se_lc (hc : X.calm = true) (hN : X.N.Nodup) (hi : PI X tg iter (TWk K fld W it)) (ok : BlkOk X.N X.env.scope scope own) (hsub : ∀ i ∈ is, i ∈ own.map (·.2))
    (hg : ∀ s H C cl fp, PG (bX X scope s H C cl fp) tg (TGd K is g)) (ht : ∀ s H C cl fp, PTs (bX X scope s H C cl fp) ifs (TT' K fld WF c)) (he : ∀ s H C cl fp, PE (bX X scope s H C cl fp) elt (TS' K fld WF el))
    (hs : ∀ x, foldedSetIterable iter X.env x = pure x) : PE X (.ListComp elt [⟨tg, iter, ifs, 0⟩] scope pos) (TN K fld W (sLc it g c el (own.map (·.2)))) :=
  PE.imp (pe_lc hc hN hi ok hg ht he hs) fun σ H Q h => lc_tr hsub h
theorem sp_nil : PTs X [] (TT' K fld W sYes) := by
  refine ⟨fun pins s σ H Q I ⟨ρ, st, ca, he, hs, hp⟩ => pts_nil.run pins s σ H Q I ?_⟩
  exact Post.now hp hs
theorem sp_one {e : Expr} (h : PT X e (TT' K fld W c)) : PTs X [e] (TT' K fld W c) := pts_one h
/-- name = [..] -/
theorem ss_setLc {H0 : Hp} {ca0 : List Addr} {i : Nat} {y : Str} {py spos : Pos} (hc : X.calm = true) (hN : X.N.Nodup) (hy : X.N[i]? = some y) (hyl : X.env.scope.names.lookup y = some .local)
    (hsw : swapsWith (.ListComp elt [⟨tg, iter, ifs, 0⟩] scope pos) (some (.Name y py)) spos.line X.env = pure true) (hi : PI X tg iter (TWk K fld W it)) (ok : BlkOk X.N X.env.scope scope own) (hsub : ∀ i ∈ is, i ∈ own.map (·.2))
    (hg : ∀ s H C cl fp, PG (bX X scope s H C cl fp) tg (TGd K is g)) (ht : ∀ s H C cl fp, PTs (bX X scope s H C cl fp) ifs (TT' K fld WF c)) (he : ∀ s H C cl fp, PE (bX X scope s H C cl fp) elt (TS' K fld WF el))
    (hs : ∀ x, foldedSetIterable iter X.env x = pure x) : PS X (.Assign [.Name y py] (.ListComp elt [⟨tg, iter, ifs, 0⟩] scope pos) spos) (TSt K fld W H0 ca0 (sSet i (sLc it g c el (own.map (·.2))))) := by
  refine PS.imp (ps_setLc hc hN hy hyl hsw hi ok hg ht he hs) fun D σ H ⟨ρ, st, ca, hf, hsr, hp⟩ => ?_
  show tLc _ _ _ _ _ σ H (fun v H1 => gName i v σ H1 D.nx)
  refine lc_tr hsub ⟨ρ, st, ca, hf.env, hsr, (PostS.then hf hp).mono fun r st1 ca1 H1 t1 s1 q v hv => ?_⟩
  obtain ⟨q1, q2⟩ := q
  cases hr : slot r with
  | none => rw [hr] at q2; exact q2.elim
  | some sv =>
    rw [hr] at q2
    exact q2 _ ca1 H1 Fx.refl (hf.store t1 hv hr) s1
end
end Ev
set_option Elab.async false -- ev
set_option linter.all false -- ev
set_option maxRecDepth 100000 -- ev
set_option maxHeartbeats 2100000
set_option autoImplicit false -- ev
/-! What a loop goes over: a list or a tuple, enumerate, zip, range, reversed. -/
namespace Ev
open PySem PySem.Spec PyProof.Rows L2 -- ev

/-- a list (k) or a tuple -/
def SqB (k : Bool) (K : PySem.W.Frag) (H : Hp) (a : Addr) (xs : List V) : Prop := if k = true then SqL K H a xs else SqT K H a xs
def IsB (k : Bool) (h : Heap) (a : Addr) (its : Array Value) : Prop := if k = true then h.IsList a its else h.IsTuple a its
def ItB (k : Bool) (h : Heap) (it a : Addr) (i : Nat) : Prop := if k = true then h.IsListIter it a i else h.IsTupleIter it a i
section
variable {X : Cx} {pins : List (Addr × Obj)} {σ : L2.St} {H : Hp} {s : Shared} {a : Addr} {xs : List V} {k : Bool}
theorem Inv.seqB (I : Inv X pins σ H s) (h : SqB k X.K H a xs) : ∃ its : List Value, Vals xs its ∧ IsB k s.heap a its.toArray ∧ xs.length ≤ sizeLine := by
  cases k with
  | true => obtain ⟨its, r, p, z⟩ := I.list h; exact ⟨its, r, p.isList, z⟩
  | false => obtain ⟨its, r, p, z⟩ := I.tuple h; exact ⟨its, r, p, z⟩
theorem Inv.seqB_inj {ys : List V} (I : Inv X pins σ H s) (h : SqB k X.K H a xs) (g : SqB k X.K H a ys) : xs = ys := by
  cases k with
  | true => exact I.list_inj h g
  | false => exact I.tuple_inj h g
theorem drawsB {prog : Program} {w : World} {A : Around} (hh : A.handled = none) (k : Bool) (it l : Addr) (hne : l ≠ it) (items : Array Value) :
    Draws prog w A it [it, l] items.size (fun i v => items[i]? = some v) (fun i h => ItB k h it l i ∧ IsB k h l items) := by
  cases k with
  | true => exact Draws.list hh it l hne items
  | false => exact Draws.tuple hh it l hne items
theorem ItB.get {h : Heap} {it a : Addr} {i : Nat} (t : ItB k h it a i) : ∃ o, h.get? it = some o ∧ (o.cls = .type "list_iterator" ∨ o.cls = .type "tuple_iterator") ∧ ∃ vs, o.data = .fields vs := by
  cases k with
  | true => obtain ⟨o, e, c, d⟩ := t; exact ⟨o, e, .inl c, _, d⟩
  | false => obtain ⟨o, e, c, d⟩ := t; exact ⟨o, e, .inr c, _, d⟩
theorem IsB.get {h : Heap} {a : Addr} {its : Array Value} (t : IsB k h a its) : ∃ o, h.get? a = some o ∧ ∃ n, o.data = .seq its n := by
  cases k with
  | true => obtain ⟨o, e, c, n, d⟩ := t; exact ⟨o, e, n, d⟩
  | false => obtain ⟨o, e, c, n, d⟩ := t; exact ⟨o, e, n, d⟩
theorem ItB.at' {h h' : Heap} {it a : Addr} {i : Nat} (t : ItB k h it a i) (q : ∀ o, h.get? it = some o → h'.get? it = some o) : ItB k h' it a i := by
  cases k with
  | true => exact Heap.IsListIter.at t q
  | false => exact Heap.IsTupleIter.at t q
end
/-- the things at a, each in a new pair with its number -/
def ItnB (k : Bool) (K : PySem.W.Frag) (a : Addr) (lo : Int) : It :=
  ⟨fun i H => ∃ (xs : List V) (x : V), SqB k K H a xs ∧ xs[i]? = some x, fun i H v H' => ∃ T x, v = .ref T ∧ H T = none ∧ H' = upd H T (.tup [.int (lo + (i : Nat)), x]) ∧ ∀ xs, SqB k K H a xs → xs[i]? = some x, fun i H => ∃ xs : List V, SqB k K H a xs ∧ xs.length = i⟩
theorem turn_enB {P : Program} {w : World} {K : PySem.W.Frag} {elts : List Expr} {kk : Nat} {tpos : Pos} (k : Bool) (lo : Int) (a e it : Addr) :
    Turn P w K (.Tuple elts kk tpos) (ItnB k K a lo) [e, it] e (fun i h => (∃ prev, IsEnum h e it (lo + (i : Nat)) prev) ∧ ItB k h it a i ∧ e ≠ it) where
  mem := by simp
  obj := fun i h now b bm => by
    obtain ⟨⟨prev, hen⟩, hi, _⟩ := now
    obtain ⟨o, hout, calm, vs, hd⟩ := hi.get
    have eq1 : b = e ∨ b = it := by simpa using bm
    rcases eq1 with z | z
    · rw [z]; exact ⟨_, hen, fun v q => nomatch q⟩
    · rw [z]; exact ⟨o, hout, fun v q => by rw [hd] at q; cases q⟩
  keep := fun i h h' now k => let ⟨⟨prev, hen⟩, hi, nei⟩ := now; ⟨⟨prev, k e (by simp) _ hen⟩, hi.at' fun o q => k it (by simp) o q, nei⟩
  item := by
    intro X eP eW eK calm i pins s σ H E I fOk now gOk
    subst eP eW eK
    obtain ⟨⟨prev, hen⟩, hin, nei⟩ := now
    obtain ⟨xs, x, sq0, xat⟩ := gOk
    obtain ⟨us, rel, p, lenOk⟩ := Inv.seqB I sq0
    obtain ⟨u, uat, urel⟩ := rel.get xat
    have eLt : e < s.heap.objs.size := Heap.lt_size hen
    obtain ⟨oi, hoi, hci, vsi, hdi⟩ := hin.get
    obtain ⟨oa, hoa, na, hda⟩ := p.get
    have iLt : it < s.heap.objs.size := Heap.lt_size hoi
    have hae : a ≠ e := by
      rintro rfl
      have he' : s.heap.get? a = some _ := hen
      rw [he'] at hoa
      cases hoa
      cases hda
    have hai : a ≠ it := by
      rintro rfl
      rw [hoi] at hoa
      cases hoa
      rw [hdi] at hda
      cases hda
    have hlt : i < us.toArray.size := by
      have := (List.getElem?_eq_some_iff.mp uat).1
      simpa using this
    refine wpAny_pyNext_enum_itemC (fp := [it, a]) (drawsB (A := X.A.in1) (show X.A.in1.handled = none from I.ok.hd calm) k it a hai us.toArray) hen ⟨hin, p⟩ hlt nei (by simp only [List.mem_cons, List.not_mem_nil, or_false, not_or]; exact ⟨nei, fun z => hae z.symm⟩) fun y h' tk1 hy hout hst' tupAt szEq kp => ?_
    have hyu : y = u := by
      have hy : us[i]? = some y := by simpa using hy
      rw [uat] at hy
      exact (Option.some.inj hy).symm
    subst hyu
    refine ⟨_, rfl, wpAny_letOwnedTupleGo_enum (s := { s with heap := h', toks := tk1 + 1 }) hout fun h'' he' but => ?_⟩
    have tupAt2 : h''.get? s.heap.objs.size = some { cls := .type "tuple", data := .seq #[.int (lo + (i : Nat)) tk1, y] } := (but.2 _ (Nat.ne_of_gt eLt)).trans tupAt
    have fresh1 : ObjOk X.prog X.w (upd H s.heap.objs.size (.tup [.int (lo + (i : Nat)), x])) h'' s.heap.objs.size (.tup [.int (lo + (i : Nat)), x]) :=
      ⟨by show 2 ≤ sizeLine; decide, [.int (lo + (i : Nat)) tk1, y], .cons ⟨_, rfl⟩ (.cons urel .nil), ⟨_, tupAt2, rfl, _, rfl⟩⟩
    have J1 : Inv X pins σ (upd H s.heap.objs.size (.tup [.int (lo + (i : Nat)), x])) { s with heap := h'', toks := tk1 + 1 } :=
      I.turnedNew (ch := [e, it]) (fun b ob1 bm q => (but.2 b (fun z => bm (by simp [z]))).trans (kp b ob1 (fun z => bm (by simp [z])) (fun z => bm (by simp [z])) q)) fOk (Nat.le_refl _) fresh1
    refine ⟨.ref s.heap.objs.size, _, J1, rfl, ⟨_, x, rfl, I.hok.fresh (Nat.le_refl _), rfl, fun ys hy => by rw [Inv.seqB_inj I hy sq0]; exact xat⟩, ⟨⟨y, ?_⟩, hst'.1.at' fun o q => (but.2 it (Ne.symm nei)).trans q, nei⟩, fun b bm => ?_⟩
    · have e1 : lo + ((i + 1 : Nat) : Int) = lo + (i : Nat) + 1 := by omega
      rw [e1]; exact he'
    · have blt : b < s.heap.objs.size := by
        have eq1 : b = e ∨ b = it := by simpa using bm
        rcases eq1 with z | z
        · rw [z]; exact eLt
        · rw [z]; exact iLt
      rw [upd_ne (Nat.ne_of_lt blt)]
      exact (fOk b bm).1
  done := by
    intro X eP eW eK calm i pins s σ H E I fOk now gOk
    subst eP eW eK
    obtain ⟨⟨prev, hen⟩, hin, nei⟩ := now
    obtain ⟨xs, sq0, xat⟩ := gOk
    obtain ⟨us, rel, p, lenOk⟩ := Inv.seqB I sq0
    obtain ⟨g0, g1, g2, g3, g4, g5⟩ := fOk it (by simp)
    have lenE := rel.length
    obtain ⟨oi, hoi, hci, vsi, hdi⟩ := hin.get
    obtain ⟨oa, hoa, na, hda⟩ := p.get
    have hai : a ≠ it := by
      rintro rfl
      rw [hoi] at hoa
      cases hoa
      rw [hdi] at hda
      cases hda
    have en : i = us.toArray.size := by simp; omega
    subst en
    exact wpAny_pyNext_enum_endD (drawsB (A := X.A.in1) (show X.A.in1.handled = none from I.ok.hd calm) k it a hai us.toArray) hen ⟨hin, p⟩ fun h' but1 => ⟨rfl, I.turned (t' := s.toks) (fun b o bm q => but1 b o bm q) g0 g1 g3 g4 g5⟩
  self := fun A i s Q E now h => let ⟨⟨_, hen⟩, _⟩ := now; wpAny_pyIter_enum hen h

/-! ### creation -/
section
variable {M : Model} {A : Around} {E : Value → Shared → Prop} {s : Shared} {env : Env} -- ev
theorem callWith_typeK {pos : Pos} {T : String} {args : List (Bool × Sem Value)} {keywords : List (Option Str × Sem Value)} {Q : Value → Shared → Prop}
    (noStar : args.any (·.1) = false) (noKw : keywords.any (·.1.isNone) = false) (h : wpAny M A (evalArgs (.type T) true args keywords) (fun a sB => wpAny M A (call (.type T) a.pos a.kw) Q E sB) E s) :
    wpAny M A (callWith pos (.type T) [] args keywords) Q E s := by
  unfold callWith
  refine wpAny_bind (wpAny_holding (wpAny_mono h (fun a sB h1 => wpAny_bind (wpAny_standAt ?_)) fun _ _ x => x))
  simp only [noStar, noKw, Bool.or_false]
  refine wpAny_bind (wpAny_pure ?_) -- ev
  exact wpAny_bind (wpAny_mono h1 (fun r s2 hr => wpAny_bind (wpAny_holding (wpAny_point (wpAny_pure hr)))) fun _ _ x => x)
theorem beginsB (k : Bool) (a : Addr) (us : Array Value) : ∃ o, Begins (.ref a) o (fun h => IsB k h a us) ∧ ∀ h it, h.get? it = some o → ItB k h it a 0 := by
  cases k with
  | true => exact ⟨_, begins_list a us, fun h it e => ⟨_, e, rfl, rfl⟩⟩
  | false => exact ⟨_, begins_tuple a us, fun h it e => ⟨_, e, rfl, rfl⟩⟩
end
section
variable {X : Cx} {tg : Expr} -- ev
def iSeqB (K : PySem.W.Frag) (tl : TE) : TI := fun σ H R => tl σ H fun x H1 => ∃ a k xs, x = .ref a ∧ SqB k K H1 a xs ∧ R (if k = true then Itl K a else Itt K a) H1
theorem pi_seqB {l : Expr} {tl : TE} (hL : PE X l tl) : PI X tg l (iSeqB X.K tl) := by
  refine ⟨fun pn s σ H R I h => ?_⟩
  refine thn (hL.run pn s σ H _ I h) fun v sB ⟨x, H1, J1, rel1, fin1⟩ => ?_
  obtain ⟨a, k, xs, e, sq0, q⟩ := fin1
  subst e
  cases rel1
  have fo : ∀ b ∈ [sB.heap.objs.size], FpOk X pn H1 b := fun b bm => by
    have e : b = sB.heap.objs.size := by simpa using bm
    subst e
    exact J1.fpOk (Nat.le_refl _) (J1.hok.fresh (Nat.le_refl _))
  cases k with
  | true =>
    obtain ⟨us, rel, p, lenOk⟩ := J1.list sq0
    refine wpAny_pyIter_list p.isList ?_ -- ev
    exact ⟨sB.heap.objs.size, [sB.heap.objs.size], _, _, H1, rfl, J1.kept (t' := sB.toks) fun b o e => Heap.get?_push_of_some _ e, turn_list a _, ⟨_, Heap.get?_push_size _ rfl, rfl, rfl⟩, fo, q⟩
  | false =>
    obtain ⟨us, rel, p, lenOk⟩ := J1.tuple sq0
    refine wpAny_pyIter_tuple (show sB.heap.IsTuple a us.toArray from p) ?_
    exact ⟨sB.heap.objs.size, [sB.heap.objs.size], _, _, H1, rfl, J1.kept (t' := sB.toks) fun b o e => Heap.get?_push_of_some _ e, turn_tuple a _, ⟨_, Heap.get?_push_size _ rfl, rfl, rfl⟩, fo, q⟩
/-- enumerate(e, start=j) -/
def iEnB (K : PySem.W.Frag) (j : Int) (ta : TA) : TI := fun σ H R => ta σ H fun vs H1 => ∃ a k xs, vs = [.ref a] ∧ SqB k K H1 a xs ∧ R (ItnB k K a j) H1
theorem en_made {pn : List (Addr × Obj)} {σ : L2.St} {H1 : Hp} {sB : Shared} {R : It → Hp → Prop} {elts : List Expr} {kk : Nat} {tpos : Pos} {k : Bool} {a : Addr} {j : Int} (J1 : Inv X pn σ H1 sB) (q : R (ItnB k X.K a j) H1) {h' : Heap} {o : Obj}
    (he : IsEnum h' (sB.heap.objs.size + 1) sB.heap.objs.size j .none) (hit : ItB k h' sB.heap.objs.size a 0) (kp : ∀ b o, sB.heap.get? b = some o → h'.get? b = some o) :
    PIE X pn σ (.Tuple elts kk tpos) R (.ref (sB.heap.objs.size + 1)) { sB with heap := h' } := by
  have J2 : Inv X pn σ H1 { sB with heap := h' } := J1.kept (t' := sB.toks) kp
  refine ⟨sB.heap.objs.size + 1, [sB.heap.objs.size + 1, sB.heap.objs.size], _, _, H1, rfl, J2, turn_enB k j a (sB.heap.objs.size + 1) sB.heap.objs.size, ⟨⟨.none, by simpa using he⟩, hit, Nat.succ_ne_self _⟩, fun b bm => ?_, q⟩
  have eq1 : b = sB.heap.objs.size + 1 ∨ b = sB.heap.objs.size := by simpa using bm
  have oLe : sB.heap.objs.size ≤ b := by
    rcases eq1 with z | z
    · rw [z]; exact Nat.le_add_right _ _ -- ev
    · rw [z]; exact Nat.le_refl _ -- ev
  exact J1.fpOk oLe (J1.hok.fresh oLe)
theorem pi_enKw {e : Expr} {ta : TA} {p pos tpos jp kp : Pos} {elts : List Expr} {kk : Nat} {j : Int} {jk : Nat} (hg : Gl X "enumerate") (hm : X.mg "enumerate" = none) (ha : PA X [e] ta) (hs : starEach [e] X.env = [(false, eval e X.env)]) (hj : -(2 ^ 62) ≤ j) (hj2 : j < 2 ^ 62) :
    PI X (.Tuple elts kk tpos) (.Call (.Name "enumerate" p) [e] [⟨some "start", .Constant (.int j) jk jp, kp⟩] pos) (iEnB X.K j ta) := by
  refine ⟨fun pn s σ H R I h => ?_⟩
  refine wpAny_Call_Name_kw (ld_blt I hg hm boot_enumerate (callWith_typeK (by rw [hs]; rfl) rfl ?_))
  have h0 := ha.run pos pn s σ H _ I h
  rw [hs] at h0 ⊢
  refine evalArgs_kwB rfl (thn h0 fun us sB ⟨vs, H1, J1, rel1, a, k, xs, ex, sq0, q⟩ => ?_)
  subst ex
  cases rel1 with
  | cons r rr =>
    cases rr
    cases r
    refine kws_cons (wpAny_Constant_int (kws_nil ?_))
    have J2 : Inv X pn σ H1 { sB with toks := sB.toks + 1 } := J1.tok _
    obtain ⟨us, rel, p', lenOk⟩ := Inv.seqB J2 sq0
    obtain ⟨o, B, hB⟩ := beginsB k a us.toArray
    refine enum_begins_start B p' (by omega) (by omega) fun h' he ho hsz kp => wpAny_pyIter_enum he ?_
    exact en_made (o := o) J2 q he (hB _ _ ho) kp
end

/-! ### as plain data -/
def itS (f : Env' → M D) : Env' → M (List D) := fun ρ => M.bind (f ρ) fun d => match d with
  | .lst ds => M.pure ds
  | .tup ds => M.pure ds
  | _ => M.bad
def enD (lo : Int) : List D → List D
  | [] => []
  | d :: ds => .tup [.int lo, d] :: enD (lo + 1) ds
def itEn (lo : Int) (g : Env' → M (List D)) : Env' → M (List D) := fun ρ => M.bind (g ρ) fun as => match as with
  | [.lst ds] => M.pure (enD lo ds)
  | [.tup ds] => M.pure (enD lo ds)
  | _ => M.bad
def zipD : List D → List D → List D
  | d :: ds, e :: es => .tup [d, e] :: zipD ds es
  | _, _ => []
def itZip (g : Env' → M (List D)) : Env' → M (List D) := fun ρ => M.bind (g ρ) fun as => match as with
  | [.lst ds, .lst es] => M.pure (zipD ds es)
  | [.tup ds, .tup es] => M.pure (zipD ds es)
  | _ => M.bad
def rngD (lo : Int) (n : Nat) : List D := (List.range n).map fun (i : Nat) => .int (lo + i)
def rngDn (lo : Int) (n : Nat) : List D := (List.range n).map fun (i : Nat) => .int (lo - i)
def bnd (i : Int) : Bool := decide (-(2 ^ 62) ≤ i) && decide (i < 2 ^ 62)
theorem bnd_of {i : Int} (h : bnd i = true) : -(2 ^ 62) ≤ i ∧ i < 2 ^ 62 := by simpa [bnd] using h
def itR1 (g : Env' → M (List D)) : Env' → M (List D) := fun ρ => M.bind (g ρ) fun as => match as with
  | [.int j] => if bnd j = true then M.pure (rngD 0 j.toNat) else M.bad
  | _ => M.bad
def itR2 (g : Env' → M (List D)) : Env' → M (List D) := fun ρ => M.bind (g ρ) fun as => match as with
  | [.int i, .int j] => if (bnd i && bnd j) = true then M.pure (rngD i (j - i).toNat) else M.bad
  | _ => M.bad
def itR3 (g : Env' → M (List D)) : Env' → M (List D) := fun ρ => M.bind (g ρ) fun as => match as with
  | [.int i, .int j, .int c] => if (bnd i && bnd j && c == -1) = true then M.pure (rngDn i (i - j).toNat) else M.bad
  | _ => M.bad
def itRev (f : Env' → M D) : Env' → M (List D) := fun ρ => M.bind (f ρ) fun d => match d with
  | .lst ds => M.pure ds.reverse
  | .tup ds => M.pure ds.reverse
  | _ => M.bad
theorem enD_get : ∀ (ds : List D) (lo : Int) (i : Nat) (d : D), ds[i]? = some d → (enD lo ds)[i]? = some (.tup [.int (lo + i), d])
  | [], _, _, _, h => by simp at h -- ev
  | _ :: ds, lo, 0, d, h => by
    simp at h
    subst h
    simp [enD]
  | _ :: ds, lo, i + 1, d, h => by
    have := enD_get ds (lo + 1) i d (by simpa using h)
    have e : lo + ((i + 1 : Nat) : Int) = lo + 1 + (i : Nat) := by omega
    rw [e]
    simpa [enD] using this
theorem enD_length : ∀ (ds : List D) (lo : Int), (enD lo ds).length = ds.length
  | [], _ => rfl
  | _ :: ds, lo => congrArg Nat.succ (enD_length ds (lo + 1))
theorem zipD_get : ∀ (ds es : List D) (i : Nat) (d e : D), ds[i]? = some d → es[i]? = some e → (zipD ds es)[i]? = some (.tup [d, e])
  | [], _, _, _, _, h, _ => by simp at h -- ev
  | _ :: _, [], _, _, _, _, h => by simp at h -- ev
  | _ :: _, _ :: _, 0, _, _, h, h2 => by
    simp at h h2
    subst h h2
    rfl
  | _ :: ds, _ :: es, i + 1, d, e, h, h2 => by
    simpa [zipD] using zipD_get ds es i d e (by simpa using h) (by simpa using h2)
theorem zipD_length : ∀ (ds es : List D), (zipD ds es).length = min ds.length es.length
  | [], _ => by simp [zipD]
  | _ :: _, [] => by simp [zipD]
  | _ :: ds, _ :: es => by simp [zipD, zipD_length ds es] <;> omega

section
variable {K : PySem.W.Frag} {H H1 : Hp} {ca ca1 : List Addr} {a b : Addr} {ds es : List D}
theorem wk_seq {k : Bool} (h : ∀ H1 ca1, Fx H ca H1 ca1 → ∃ vs, SqB k K H1 a vs ∧ RelDs K H1 ca1 ds vs) : Wk K (if k = true then Itl K a else Itt K a) ds H ca := by
  intro H1 ca1 f
  obtain ⟨vs, q, r⟩ := h H1 ca1 f
  have hl := r.length
  cases k with
  | true =>
    refine ⟨fun i hi => ?_, ⟨vs, q, by omega⟩, fun i x H2 y hi => ?_⟩
    · obtain ⟨v, hv, _⟩ := r.get (List.getElem?_eq_getElem hi)
      exact ⟨vs, v, q, hv⟩
    · obtain ⟨rfl, y⟩ := y
      obtain ⟨v, hv, rv⟩ := r.get (List.getElem?_eq_getElem hi)
      have e : v = x := Option.some.inj (hv.symm.trans (y vs q))
      subst e
      exact ⟨_, List.getElem?_eq_getElem hi, Lay.refl, rv⟩
  | false =>
    refine ⟨fun i hi => ?_, ⟨vs, q, by omega⟩, fun i x H2 y hi => ?_⟩
    · obtain ⟨v, hv, _⟩ := r.get (List.getElem?_eq_getElem hi)
      exact ⟨vs, v, q, hv⟩
    · obtain ⟨rfl, y⟩ := y
      obtain ⟨v, hv, rv⟩ := r.get (List.getElem?_eq_getElem hi)
      have e : v = x := Option.some.inj (hv.symm.trans (y vs q))
      subst e
      exact ⟨_, List.getElem?_eq_getElem hi, Lay.refl, rv⟩
theorem wk_enB {k : Bool} {lo : Int} (h : ∀ H1 ca1, Fx H ca H1 ca1 → ∃ vs, SqB k K H1 a vs ∧ RelDs K H1 ca1 ds vs) : Wk K (ItnB k K a lo) (enD lo ds) H ca := by
  intro H1 ca1 f
  obtain ⟨vs, q, r⟩ := h H1 ca1 f
  have hl := r.length
  rw [enD_length]
  refine ⟨fun i hi => ?_, ⟨vs, q, hl⟩, fun i x H2 y hi => ?_⟩
  · obtain ⟨v, hv, _⟩ := r.get (List.getElem?_eq_getElem hi)
    exact ⟨vs, v, q, hv⟩
  · obtain ⟨T, z, rfl, hT, rfl, y⟩ := y
    obtain ⟨v, hv, rv⟩ := r.get (List.getElem?_eq_getElem hi)
    have e : v = z := Option.some.inj (hv.symm.trans (y vs q))
    subst e
    have t := Stp.laid (ca := ca1) (o := .tup [.int (lo + (i : Nat)), v]) hT
    exact ⟨_, enD_get ds lo i _ (List.getElem?_eq_getElem hi), Lay.upd hT, T, _, rfl, SqT.of upd_same, _, _, rfl, rfl, _, _, rfl, rv.stp t, rfl⟩
theorem wk_zip (h : ∀ H1 ca1, Fx H ca H1 ca1 → ∃ vs ws, SqL K H1 a vs ∧ SqL K H1 b ws ∧ RelDs K H1 ca1 ds vs ∧ RelDs K H1 ca1 es ws) : Wk K (Itz K a b) (zipD ds es) H ca := by
  intro H1 ca1 f
  obtain ⟨vs, ws, q, p, r, s⟩ := h H1 ca1 f
  have hl := r.length
  have hl2 := s.length
  rw [zipD_length]
  refine ⟨fun i hi => ?_, ⟨vs, ws, q, p, by omega⟩, fun i x H2 y hi => ?_⟩
  · obtain ⟨v, hv, _⟩ := r.get (List.getElem?_eq_getElem (show i < ds.length by omega))
    obtain ⟨w, hw, _⟩ := s.get (List.getElem?_eq_getElem (show i < es.length by omega))
    exact ⟨vs, ws, v, w, q, p, hv, hw⟩
  · obtain ⟨T, z, u, rfl, hT, rfl, y, y2⟩ := y
    obtain ⟨v, hv, rv⟩ := r.get (List.getElem?_eq_getElem (show i < ds.length by omega))
    obtain ⟨w, hw, rw'⟩ := s.get (List.getElem?_eq_getElem (show i < es.length by omega))
    have e : v = z := Option.some.inj (hv.symm.trans (y vs q))
    have e2 : w = u := Option.some.inj (hw.symm.trans (y2 ws p))
    subst e e2
    have t := Stp.laid (ca := ca1) (o := .tup [v, w]) hT
    exact ⟨_, zipD_get ds es i _ _ (List.getElem?_eq_getElem (show i < ds.length by omega)) (List.getElem?_eq_getElem (show i < es.length by omega)), Lay.upd hT, T, _, rfl, SqT.of upd_same, _, _, rfl, rv.stp t, _, _, rfl, rw'.stp t, rfl⟩
theorem wk_zipT (h : ∀ H1 ca1, Fx H ca H1 ca1 → ∃ vs ws, SqT K H1 a vs ∧ SqT K H1 b ws ∧ RelDs K H1 ca1 ds vs ∧ RelDs K H1 ca1 es ws) : Wk K (RZ.ItzT K a b) (zipD ds es) H ca := by
  intro H1 ca1 f
  obtain ⟨vs, ws, q, p, r, s⟩ := h H1 ca1 f
  have hl := r.length
  have hl2 := s.length
  rw [zipD_length]
  refine ⟨fun i hi => ?_, ⟨vs, ws, q, p, by omega⟩, fun i x H2 y hi => ?_⟩
  · obtain ⟨v, hv, _⟩ := r.get (List.getElem?_eq_getElem (show i < ds.length by omega))
    obtain ⟨w, hw, _⟩ := s.get (List.getElem?_eq_getElem (show i < es.length by omega))
    exact ⟨vs, ws, v, w, q, p, hv, hw⟩
  · obtain ⟨T, z, u, rfl, hT, rfl, y, y2⟩ := y
    obtain ⟨v, hv, rv⟩ := r.get (List.getElem?_eq_getElem (show i < ds.length by omega))
    obtain ⟨w, hw, rw'⟩ := s.get (List.getElem?_eq_getElem (show i < es.length by omega))
    have e : v = z := Option.some.inj (hv.symm.trans (y vs q))
    have e2 : w = u := Option.some.inj (hw.symm.trans (y2 ws p))
    subst e e2
    have t := Stp.laid (ca := ca1) (o := .tup [v, w]) hT
    exact ⟨_, zipD_get ds es i _ _ (List.getElem?_eq_getElem (show i < ds.length by omega)) (List.getElem?_eq_getElem (show i < es.length by omega)), Lay.upd hT, T, _, rfl, SqT.of upd_same, _, _, rfl, rv.stp t, _, _, rfl, rw'.stp t, rfl⟩
theorem wk_rng {lo : Int} {n : Nat} : Wk K (Itr lo n) (rngD lo n) H ca := by
  intro H1 ca1 f
  have e : (rngD lo n).length = n := by simp [rngD]
  rw [e]
  exact ⟨fun i hi => hi, Nat.le_refl _, fun i x H2 y hi => by
    obtain ⟨rfl, rfl⟩ := y
    exact ⟨.int (lo + (i : Nat)), by simp only [rngD, List.getElem?_map]; rw [List.getElem?_range hi]; rfl, Lay.refl, rfl⟩⟩
theorem wk_rngD {lo : Int} {n : Nat} : Wk K (Itc lo (-1) n) (rngDn lo n) H ca := by
  intro H1 ca1 f
  have e : (rngDn lo n).length = n := by simp [rngDn]
  rw [e]
  exact ⟨fun i hi => hi, Nat.le_refl _, fun i x H2 y hi => by
    obtain ⟨rfl, rfl⟩ := y
    refine ⟨.int (lo - (i : Nat)), by simp only [rngDn, List.getElem?_map]; rw [List.getElem?_range hi]; rfl, Lay.refl, ?_⟩
    show V.int _ = V.int _
    congr 1
    omega⟩
end
section
variable {X : Cx} {fld : Str → List Str} {W : WX} {tg e e2 : Expr} {p pos tpos : Pos} {elts : List Expr} {kk : Nat}
theorem RelD.sq {K : PySem.W.Frag} {H : Hp} {ca : List Addr} {ds : List D} {v : V} (h : RelD K H ca (.lst ds) v ∨ RelD K H ca (.tup ds) v) : ∃ a k, v = .ref a ∧ ∀ H1 ca1, Fx H ca H1 ca1 → ∃ vs, SqB k K H1 a vs ∧ RelDs K H1 ca1 ds vs := by
  rcases h with h | h
  · obtain ⟨a, vs, e, q, r⟩ := h
    exact ⟨a, true, e, fun H1 ca1 f => ⟨vs, (FzL.fixed f.fix q).sq, RelDs.fixed f.fix f.sub _ _ r⟩⟩
  · obtain ⟨a, vs, e, q, r⟩ := h
    exact ⟨a, false, e, fun H1 ca1 f => ⟨vs, SqT.fixed f.fix q, RelDs.fixed f.fix f.sub _ _ r⟩⟩
theorem si_seq {f : Env' → M D} (h : PE X e (TS' X.K fld W f)) : PI X tg e (TWk X.K fld W (itS f)) := by
  refine PI.imp (pi_seqB h) fun σ H R ⟨ρ, st, ca, he, hs, hp⟩ => ⟨ρ, st, ca, he, hs, (Post.bind hp).mono fun d st1 ca1 H1 t1 s1 q v hv => ?_⟩
  cases d with
  | lst ds =>
    have q := Post.now q s1
    obtain ⟨a, k, rfl, f⟩ := RelD.sq (.inl hv)
    obtain ⟨vs, q1, _⟩ := f H1 ca1 Fx.refl
    exact ⟨a, k, vs, rfl, q1, q _ (wk_seq f)⟩
  | tup ds =>
    have q := Post.now q s1
    obtain ⟨a, k, rfl, f⟩ := RelD.sq (.inr hv)
    obtain ⟨vs, q1, _⟩ := f H1 ca1 Fx.refl
    exact ⟨a, k, vs, rfl, q1, q _ (wk_seq f)⟩
  | _ => exact q.elim
theorem si_en {j : Int} {jk : Nat} {jp kp : Pos} {g : Env' → M (List D)} (hg : Gl X "enumerate") (hm : X.mg "enumerate" = none) (ha : PA X [e] (TAs X.K fld W g)) (hs : starEach [e] X.env = [(false, eval e X.env)]) (hj : bnd j = true) :
    PI X (.Tuple elts kk tpos) (.Call (.Name "enumerate" p) [e] [⟨some "start", .Constant (.int j) jk jp, kp⟩] pos) (TWk X.K fld W (itEn j g)) := by
  refine PI.imp (pi_enKw hg hm ha hs (bnd_of hj).1 (bnd_of hj).2) fun σ H R ⟨ρ, st, ca, he, hs, hp⟩ => ⟨ρ, st, ca, he, hs, (Post.bind hp).mono fun as st1 ca1 H1 t1 s1 q vs hv => ?_⟩
  split at q
  · obtain ⟨v, r, rfl, hv, rfl⟩ := hv
    have q := Post.now q s1
    obtain ⟨a, k, rfl, f⟩ := RelD.sq (.inl hv)
    obtain ⟨vs, q1, _⟩ := f H1 ca1 Fx.refl
    exact ⟨a, k, vs, rfl, q1, q _ (wk_enB f)⟩
  · obtain ⟨v, r, rfl, hv, rfl⟩ := hv
    have q := Post.now q s1
    obtain ⟨a, k, rfl, f⟩ := RelD.sq (.inr hv)
    obtain ⟨vs, q1, _⟩ := f H1 ca1 Fx.refl
    exact ⟨a, k, vs, rfl, q1, q _ (wk_enB f)⟩
  · exact q.elim
theorem si_zip {g : Env' → M (List D)} (hg : Gl X "zip") (hm : X.mg "zip" = none) (ha : PA X [e, e2] (TAs X.K fld W g)) (hs : starEach [e, e2] X.env = (false, eval e X.env) :: starEach [e2] X.env) (hpl : (backTo pos (starEach [e2] X.env)).any (·.1) = false) :
    PI X (.Tuple elts kk tpos) (.Call (.Name "zip" p) [e, e2] [] pos) (TWk X.K fld W (itZip g)) := by
  refine PI.imp (RZ.pi_zipA hg hm ha hs hpl) fun σ H R ⟨ρ, st, ca, he, hs, hp⟩ => ⟨ρ, st, ca, he, hs, (Post.bind hp).mono fun as st1 ca1 H1 t1 s1 q vs hv => ?_⟩
  split at q
  · obtain ⟨v, r, rfl, hv, w, r2, rfl, hw, rfl⟩ := hv
    have q := Post.now q s1
    obtain ⟨a, xs, rfl, q1, r1⟩ := hv
    obtain ⟨b, ys, rfl, q2, r2⟩ := hw
    exact ⟨a, b, xs, ys, rfl, .inl ⟨q1.sq, q2.sq, q _ (wk_zip fun H2 ca2 f => ⟨xs, ys, (FzL.fixed f.fix q1).sq, (FzL.fixed f.fix q2).sq, RelDs.fixed f.fix f.sub _ _ r1, RelDs.fixed f.fix f.sub _ _ r2⟩)⟩⟩
  · obtain ⟨v, r, rfl, hv, w, r2, rfl, hw, rfl⟩ := hv
    have q := Post.now q s1
    obtain ⟨a, xs, rfl, q1, r1⟩ := hv
    obtain ⟨b, ys, rfl, q2, r2⟩ := hw
    exact ⟨a, b, xs, ys, rfl, .inr ⟨q1, q2, q _ (wk_zipT fun H2 ca2 f => ⟨xs, ys, SqT.fixed f.fix q1, SqT.fixed f.fix q2, RelDs.fixed f.fix f.sub _ _ r1, RelDs.fixed f.fix f.sub _ _ r2⟩)⟩⟩
  · exact q.elim
theorem si_r1 {a : Expr} {g : Env' → M (List D)} (hg : Gl X "range") (hm : X.mg "range" = none) (ha : PA X [a] (TAs X.K fld W g)) (hs : starEach [a] X.env = [(false, eval a X.env)]) :
    PI X tg (.Call (.Name "range" p) [a] [] pos) (TWk X.K fld W (itR1 g)) := by
  refine PI.imp (pi_range1 hg hm ha hs) fun σ H R ⟨ρ, st, ca, he, hs, hp⟩ => ⟨ρ, st, ca, he, hs, (Post.bind hp).mono fun as st1 ca1 H1 t1 s1 q vs hv => ?_⟩
  split at q
  · split at q
    · rename_i hb
      obtain ⟨v, r, rfl, rfl, rfl⟩ := hv
      exact ⟨_, rfl, (bnd_of hb).1, (bnd_of hb).2, Post.now q s1 _ wk_rng⟩
    · exact q.elim
  · exact q.elim
theorem si_r2 {a b : Expr} {g : Env' → M (List D)} (hg : Gl X "range") (hm : X.mg "range" = none) (ha : PA X [a, b] (TAs X.K fld W g)) (hs : starEach [a, b] X.env = [(false, eval a X.env), (false, eval b X.env)]) (hs2 : starEach [b] X.env = [(false, eval b X.env)]) :
    PI X tg (.Call (.Name "range" p) [a, b] [] pos) (TWk X.K fld W (itR2 g)) := by
  refine PI.imp (pi_range2 hg hm ha hs hs2) fun σ H R ⟨ρ, st, ca, he, hs, hp⟩ => ⟨ρ, st, ca, he, hs, (Post.bind hp).mono fun as st1 ca1 H1 t1 s1 q vs hv => ?_⟩
  split at q
  · split at q
    · rename_i hb
      rw [Bool.and_eq_true] at hb
      obtain ⟨v, r, rfl, rfl, w, r2, rfl, rfl, rfl⟩ := hv
      exact ⟨_, _, rfl, ⟨(bnd_of hb.1).1, (bnd_of hb.1).2, (bnd_of hb.2).1, (bnd_of hb.2).2⟩, Post.now q s1 _ wk_rng⟩
    · exact q.elim
  · exact q.elim
theorem si_r3 {a b c : Expr} {g : Env' → M (List D)} (hg : Gl X "range") (hm : X.mg "range" = none) (ha : PA X [a, b, c] (TAs X.K fld W g)) (hs : starEach [a, b, c] X.env = (false, eval a X.env) :: starEach [b, c] X.env) (hpl : (backTo pos (starEach [b, c] X.env)).any (·.1) = false) :
    PI X tg (.Call (.Name "range" p) [a, b, c] [] pos) (TWk X.K fld W (itR3 g)) := by
  refine PI.imp (pi_range3 hg hm ha hs hpl) fun σ H R ⟨ρ, st, ca, he, hs, hp⟩ => ⟨ρ, st, ca, he, hs, (Post.bind hp).mono fun as st1 ca1 H1 t1 s1 q vs hv => ?_⟩
  split at q
  · split at q
    · rename_i hb
      rw [Bool.and_eq_true, Bool.and_eq_true] at hb
      obtain ⟨⟨h1, h2⟩, h3⟩ := hb
      have h3 := eq_of_beq h3
      subst h3
      obtain ⟨v, r, rfl, rfl, w, r2, rfl, rfl, u, r3, rfl, rfl, rfl⟩ := hv
      exact ⟨_, _, _, _, rfl, RgC.neg (bnd_of h1).1 (bnd_of h1).2 (bnd_of h2).1 (bnd_of h2).2, Post.now q s1 _ wk_rngD⟩
    · exact q.elim
  · exact q.elim
end
end Ev
set_option Elab.async false -- ev
set_option linter.all false -- ev
set_option maxRecDepth 100000 -- ev
set_option maxHeartbeats 2000000 -- ev
set_option autoImplicit false -- ev
/-! Writes: own lists, cells. -/
namespace Ev
open PySem PySem.Spec PyProof.Rows L2 -- ev

section
variable {K : PySem.W.Frag} {st : Store} {H H0 : Hp} {ca ca0 : List Addr} {ρ : Env'} {σ : L2.St} {a : Addr}
theorem fix_wr' {u o : HO} (hp : H a = some u) (hu : ¬ Fix u) : ∀ b v, H b = some v → Fix v → upd H a o b = some v := fun b v e f => by
  rw [upd_ne]
  · exact e
  · rintro rfl
    rw [hp] at e; cases e; exact hu f
theorem stp_wr {u o : HO} (hp : H a = some u) (hu : ¬ Fix u) (hm : a ∈ ca) : Stp ca ca H (upd H a o) :=
  ⟨⟨[], by simp, fun a h => nomatch h⟩, fix_wr' hp hu, fun b v e n f => by rw [upd_ne]; exact e; rintro rfl; exact n hm, fun b e => by
    by_cases z : b = a
    · rw [z, upd_same] at e; cases e
    · rw [upd_ne z] at e; exact e⟩
/-- a cell is written -/
theorem SR.set {k : Nat} {u o : HO} {c' : Cell} (s : SR K st ca H) (e2 : ca[k]? = some a) (hp : H a = some u) (hu : ¬ Fix u) (hc : CellR K (upd H a o) ca c' a) : SR K (st.set k c') ca (upd H a o) := by
  have f := fix_wr' (o := o) hp hu
  refine ⟨by rw [List.length_set]; exact s.len, s.nd, fun i c b e1 e3 => ?_⟩
  by_cases hi : k = i
  · subst hi
    have e : b = a := by rw [e2] at e3; exact (Option.some.inj e3).symm
    subst e
    rw [List.getElem?_set] at e1
    simp only [if_true] at e1
    split at e1
    · cases e1; exact hc
    · cases e1
  · rw [List.getElem?_set_ne hi] at e1
    have q := s.cell i c b e1 e3
    have ne : b ≠ a := by
      rintro rfl
      have h1 := (List.getElem?_eq_some_iff.mp e2)
      have h2 := (List.getElem?_eq_some_iff.mp e3)
      obtain ⟨l1, h1⟩ := h1
      obtain ⟨l2, h2⟩ := h2
      exact hi ((List.getElem_inj s.nd).mp (h1.trans h2.symm))
    cases c with
    | lst ds => obtain ⟨ws, e, r⟩ := q; exact ⟨ws, by rw [upd_ne ne]; exact e, RelDs.fixed f (fun _ _ z => z) _ _ r⟩
    | dct kvs => obtain ⟨ws, e, r⟩ := q; exact ⟨ws, by rw [upd_ne ne]; exact e, KvR.fixed f (fun _ _ z => z) r⟩
/-- the frame's own list is written -/
theorem FrR.ownWr {i : Nat} {ds ds' : List D} {vs vs' : List V} (h : FrR K H0 ca0 H ca ρ σ) (s : SR K st ca H) (e : ρ[i]? = some (.own ds)) (ei : σ[i]? = some (some (.ref a))) (ha : H a = some (.lst vs)) (n : a ∉ ca) (r : RelDs K H ca ds' vs') :
    FrR K H0 ca0 (upd H a (.lst vs')) ca (ρ.set i (.own ds')) σ ∧ SR K st ca (upd H a (.lst vs')) ∧ Fx H ca (upd H a (.lst vs')) ca := by
  have f0 := fix_wr' (o := .lst vs') ha (fun z => z)
  have g0 : ∀ (k : Nat) (x : Addr), ca[k]? = some x → ca[k]? = some x := fun _ _ z => z
  have hnew : H0 a = none := h.fresh i ds a e ei
  have il : i < ρ.length := (List.getElem?_eq_some_iff.mp e).1
  have own : ∀ (j : Nat) (es : List D), (ρ.set i (.own ds'))[j]? = some (.own es) → ∃ fs, ρ[j]? = some (.own fs) := fun j es q => by
    by_cases hj : i = j
    · subst hj; exact ⟨_, e⟩
    · rw [List.getElem?_set_ne hj] at q; exact ⟨_, q⟩
  refine ⟨⟨⟨by simp [h.env.len], fun j sv q => ?_, fun j k es fs b hjk e2 e3 e4 => ?_⟩, h.stp.wr hnew, fun j es b e2 e3 => ?_⟩, s.wr ha n, ⟨f0, g0⟩⟩
  · by_cases hj : i = j
    · subst hj
      rw [List.getElem?_set_self il] at q
      cases q
      exact ⟨_, ei, a, vs', rfl, upd_same, n, RelDs.fixed f0 g0 _ _ r⟩
    · rw [List.getElem?_set_ne hj] at q
      obtain ⟨o2, h2, r2⟩ := h.env.at_ j sv q
      refine ⟨o2, h2, ?_⟩
      cases sv with
      | un => trivial
      | val d => obtain ⟨v, e5, q⟩ := r2; exact ⟨v, e5, RelD.fixed f0 g0 _ _ q⟩
      | own es =>
        obtain ⟨b, ws, e5, q5, n2, r3⟩ := r2
        refine ⟨b, ws, e5, ?_, n2, RelDs.fixed f0 g0 _ _ r3⟩
        rw [upd_ne]
        · exact q5
        · rintro rfl
          exact h.env.sep i j ds es b hj e q ei (by rw [h2, e5])
  · obtain ⟨fs1, q1⟩ := own j es e2
    obtain ⟨fs2, q2⟩ := own k fs e3
    exact h.env.sep j k fs1 fs2 b hjk q1 q2 e4
  · obtain ⟨fs1, q1⟩ := own j es e2
    exact h.fresh j fs1 b q1 e3
end

/-! ### methods that write a list -/
abbrev LOp := List D → List D → Option (D × List D)
def LopOk (K : PySem.W.Frag) (r : V → List V → Hp → VK → Prop) (lop : LOp) : Prop := ∀ (H : Hp) (ca : List Addr) (a : Addr) (vs xs : List V) (ds as ds' : List D) (d : D) (Q : VK), H a = some (.lst vs) → RelDs K H ca ds vs → RelDs K H ca as xs → lop ds as = some (d, ds') →
  (∀ v vs', RelD K H ca d v → RelDs K H ca ds' vs' → Q v (upd H a (.lst vs'))) → r (.ref a) xs H Q
def lAppend : LOp := fun ds as => match as with
  | [d] => if ds.length < sizeLine then some (.non, ds ++ [d]) else none
  | _ => none
theorem ok_append {K : PySem.W.Frag} : LopOk K rAppend lAppend := fun H ca a vs xs ds as ds' d Q ha r ra e q => by
  unfold lAppend at e
  split at e
  · split at e
    · rename_i hl
      cases e
      obtain ⟨x, y, rfl, rx, rfl⟩ := ra
      exact ⟨a, vs, x, rfl, rfl, ha, by rw [r.length]; exact hl, q _ _ rfl (r.snoc rx)⟩
    · cases e
  · cases e
/-- name.method(..), the value left -/
def sMut (i : Nat) (lop : LOp) (g : Env' → M (List D)) : SS := fun ρ st => match ρ[i]? with
  | some (.own ds) => thenS g (fun as ρ st => match lop ds as with
    | some p => .nx (ρ.set i (.own p.2)) st
    | none => .bad) ρ st
  | some (.val (.cell k)) => match st[k]? with
    | some (.lst _) => thenS g (fun as ρ st => match st[k]? with
      | some (.lst ds) => match lop ds as with
        | some p => .nx ρ (st.set k (.lst p.2))
        | none => .bad
      | _ => .bad) ρ st
    | _ => .bad
  | _ => .bad
/-- on a cell -/
def M.act {α : Type} (o : Store → Option (α × Store)) : M α := fun st => match o st with
  | some (r, st') => .ok r st'
  | none => .bad
def cellMut (lop : LOp) (d : D) (as : List D) (st : Store) : Option (RV × Store) := match d with
  | .cell k => match st[k]? with
    | some (.lst ds) => (lop ds as).map fun (r, ds') => (.per r, st.set k (.lst ds'))
    | _ => none
  | _ => none
def lstAt (d : D) (st : Store) : Option Unit := match d with
  | .cell k => match st[k]? with
    | some (.lst _) => some ()
    | _ => none
  | _ => none
def sMutC (lop : LOp) (f : Env' → M D) (g : Env' → M (List D)) : Env' → M RV := fun ρ => M.bind (f ρ) fun d => M.bind (M.opt' (lstAt d)) fun _ => M.bind (g ρ) fun as => M.act (cellMut lop d as)
theorem lstAt_of {K : PySem.W.Frag} {st : Store} {H : Hp} {ca : List Addr} {d : D} {v : V} (s : SR K st ca H) (r : RelR K H ca d v) (e : lstAt d st = some ()) : ∃ k a ds vs, d = .cell k ∧ v = .ref a ∧ ca[k]? = some a ∧ st[k]? = some (.lst ds) ∧ H a = some (.lst vs) ∧ RelDs K H ca ds vs := by
  unfold lstAt at e
  split at e
  · rename_i k
    split at e
    · rename_i ds hk
      obtain ⟨a, rfl, ek⟩ := r
      obtain ⟨vs, q, rr⟩ := s.cell k _ a hk ek
      exact ⟨k, a, ds, vs, rfl, rfl, ek, hk, q, rr⟩
    · cases e
  · cases e
section
variable {X : Cx} {fld : Str → List Str} {W : WX} {H0 : Hp} {ca0 : List Addr} {o e : Expr} {es : List Expr} {pos apos cpos xp : Pos} {name : Str} {id : String} {r : V → List V → Hp → VK → Prop} {lop : LOp}
/-- a write of a cell's list -/
theorem cellW {K : PySem.W.Frag} {st : Store} {H : Hp} {ca : List Addr} {k : Nat} {a : Addr} {ds' : List D} {vs vs' : List V} (s : SR K st ca H) (ek : ca[k]? = some a) (ha : H a = some (.lst vs)) (r : RelDs K H ca ds' vs') :
    SR K (st.set k (.lst ds')) ca (upd H a (.lst vs')) ∧ Stp ca ca H (upd H a (.lst vs')) :=
  ⟨s.set ek ha (fun z => z) ⟨vs', upd_same, RelDs.fixed (fix_wr' ha (fun z => z)) (fun _ _ z => z) _ _ r⟩, stp_wr ha (fun z => z) (List.mem_of_getElem? ek)⟩
theorem ss_mut {i : Nat} {x : Str} {g : Env' → M (List D)} (hN : X.N[i]? = some x) (hv : Vis X.env.scope x) (hd : (x == ("__debug__" : Str)) = false) (hcd : (x == ("__classdict__" : Str)) = false)
    (slot : Slot "list" name id) (hty : typeOf (.builtin id) = pure (.type "method_descriptor")) (hm : MtR X id r) (hop : LopOk X.K r lop) (ha : PA X (e :: es) (TAs X.K fld W g))
    (hbase : attributeBase (.Name x xp) name X.env (eval (.Name x xp) X.env) = eval (.Name x xp) X.env)
    (hfew : ((backTo cpos (starEach (e :: es) X.env)).all (fun x => !x.1) && (backToKw cpos (keywordEach [] X.env)).all (fun x => x.1.isSome) -- ev
      && decide ((e :: es).length + ([] : List Keyword).length + (if ([] : List Keyword).isEmpty then 0 else 1) < 30)) = true)
    (hline : (apos.endLine == cpos.line) = true) (hs : starEach (e :: es) X.env = (false, eval e X.env) :: starEach es X.env) (hplain : (backTo cpos (starEach es X.env)).any (·.1) = false)
    (hw : swapsWith (.Call (.Attribute (.Name x xp) name apos) (e :: es) [] cpos) none pos.line X.env = pure false) :
    PS X (.Expr (.Call (.Attribute (.Name x xp) name apos) (e :: es) [] cpos) pos) (TSt X.K fld W H0 ca0 (sMut i lop g)) := by
  refine PS.imp (ps_expr (pe_bm F.plainAttrs_list slot hty hm (pe_var hN hv hd hcd) ha hbase hfew hline hs hplain) hw) fun E σ H ⟨ρ, st, ca, hf, hsr, hp⟩ => ?_
  unfold sMut at hp
  split at hp
  · rename_i ds hr
    obtain ⟨o, h1, a, vs, e1, q, n, rr⟩ := hf.env.at_ i _ hr
    subst e1
    refine ⟨.ref a, h1, .inl ⟨rfl, vs, .inl (.inl q)⟩, ρ, st, ca, hf.env, hsr, (PostS.then hf hp).mono fun as st1 ca1 H1 t1 s1 hq xs hxs => ?_⟩
    obtain ⟨hf1, hq⟩ := hq
    have q1 := t1.keep a _ q n trivial
    have n1 := t1.notin q n
    cases hl : lop ds as with
    | none => rw [hl] at hq; exact hq.elim
    | some p =>
      rw [hl] at hq
      refine hop H1 ca1 a vs xs ds as p.2 p.1 _ q1 (rr.stp t1) hxs hl fun v vs' _ rv => ?_
      obtain ⟨w1, w2, w3⟩ := hf1.ownWr s1 hr h1 q1 n1 rv
      exact hq _ _ _ w3 w1 w2
  · rename_i k hr
    split at hp
    · rename_i ds0 hk
      obtain ⟨o, h1, v, e1, a, rfl, ek⟩ := hf.env.at_ i _ hr
      subst e1
      obtain ⟨vs0, q0, _⟩ := hsr.cell k _ a hk ek
      refine ⟨.ref a, h1, .inl ⟨rfl, vs0, .inl (.inl q0)⟩, ρ, st, ca, hf.env, hsr, (PostS.then hf hp).mono fun as st1 ca1 H1 t1 s1 hq xs hxs => ?_⟩
      obtain ⟨hf1, hq⟩ := hq
      split at hq
      · rename_i ds hk1
        have ek1 := t1.sub ek
        obtain ⟨vs, q1, rr⟩ := s1.cell k _ a hk1 ek1
        cases hl : lop ds as with
        | none => rw [hl] at hq; exact hq.elim
        | some p =>
          rw [hl] at hq
          refine hop H1 ca1 a vs xs ds as p.2 p.1 _ q1 rr hxs hl fun v vs' _ rv => ?_
          obtain ⟨w1, w2⟩ := cellW s1 ek1 q1 rv
          exact hq _ _ _ w2.fx (hf1.go w2) w1
      · exact hq.elim
    · exact hp.elim
  · exact hp.elim
/-- the same of an expression that gives a cell -/
theorem Post.act {α : Type} {K : PySem.W.Frag} {σ : L2.St} {H : Hp} {ca : List Addr} {st : Store} {k : α → Store → List Addr → Hp → Prop} {o : Store → Option (α × Store)} (h : Post K fld W σ H ca k (M.act o st)) : ∃ p, o st = some p ∧ Post K fld W σ H ca k (.ok p.1 p.2) := by
  unfold M.act at h
  cases e : o st with
  | none => rw [e] at h; exact h.elim
  | some p => rw [e] at h; exact ⟨p, rfl, h⟩
theorem se_mutC {f : Env' → M D} {g : Env' → M (List D)} (hf : PE X o (TR X.K fld W f)) (slot : Slot "list" name id) (hty : typeOf (.builtin id) = pure (.type "method_descriptor")) (hm : MtR X id r) (hop : LopOk X.K r lop) (ha : PA X (e :: es) (TAs X.K fld W g))
    (hbase : attributeBase o name X.env (eval o X.env) = eval o X.env)
    (hfew : ((backTo cpos (starEach (e :: es) X.env)).all (fun x => !x.1) && (backToKw cpos (keywordEach [] X.env)).all (fun x => x.1.isSome) -- ev
      && decide ((e :: es).length + ([] : List Keyword).length + (if ([] : List Keyword).isEmpty then 0 else 1) < 30)) = true)
    (hline : (apos.endLine == cpos.line) = true) (hs : starEach (e :: es) X.env = (false, eval e X.env) :: starEach es X.env) (hplain : (backTo cpos (starEach es X.env)).any (·.1) = false) :
    PE X (.Call (.Attribute o name apos) (e :: es) [] cpos) (TN X.K fld W (sMutC lop f g)) := by
  refine PE.imp (pe_bm F.plainAttrs_list slot hty hm hf ha hbase hfew hline hs hplain) fun σ H Q ⟨ρ, st, ca, he, hsr, hp⟩ => ⟨ρ, st, ca, he, hsr, (Post.bind hp).mono fun d st1 ca1 H1 t1 s1 q v hv => ?_⟩
  obtain ⟨_, e1, q⟩ := (Post.bind q).opt2
  have q := Post.now q s1
  obtain ⟨k, a, ds0, vs0, rfl, rfl, ek, hk, q0, r0⟩ := lstAt_of s1 hv e1
  refine ⟨.inl ⟨rfl, vs0, .inl (.inl q0)⟩, ρ, st1, ca1, he.stp t1, s1, (Post.bind q).mono fun as st2 ca2 H2 t2 s2 q xs hxs => ?_⟩
  obtain ⟨p, e2, q⟩ := Post.act q
  unfold cellMut at e2
  simp only at e2
  split at e2
  · rename_i ds hk2
    cases hl : lop ds as with
    | none => rw [hl] at e2; cases e2
    | some z =>
      rw [hl] at e2
      cases e2
      have ek2 := t2.sub ek
      obtain ⟨vs, q2, rr⟩ := s2.cell k _ a hk2 ek2
      refine hop H2 ca2 a vs xs ds as z.2 z.1 _ q2 rr hxs hl fun v vs' rv rvs => ?_
      obtain ⟨w1, w2⟩ := cellW s2 ek2 q2 rvs
      exact (show ∀ ca' H', Stp ca2 ca' H2 H' → SR X.K (st2.set k (.lst z.2)) ca' H' → ∀ v, RelD X.K H' ca' z.1 v → Q v H' from q) ca2 _ w2 w1 v (rv.stp w2)
  · cases e2
end
end Ev
set_option Elab.async false -- ev
set_option linter.all false -- ev
set_option maxRecDepth 100000 -- ev
set_option maxHeartbeats 2000000 -- ev
set_option autoImplicit false -- ev
/-! Cells made, dicts, stores, slices, pairs of names. -/
namespace Ev
open PySem PySem.Spec PyProof.Rows L2 -- ev

/-- a new list that several hands will write -/
def toCell (f : Env' → M RV) : Env' → M RV := fun ρ => M.bind (f ρ) fun r => match r with
  | .fr ds => M.cell (.lst ds)
  | _ => M.bad
section
variable {K : PySem.W.Frag} {st : Store} {H H1 : Hp} {ca ca1 : List Addr} {a : Addr}
/-- a place that is no cell becomes one -/
theorem SR.own {c : Cell} (s : SR K st ca H) (n : a ∉ ca) (hc : CellR K H (ca ++ [a]) c a) : SR K (st ++ [c]) (ca ++ [a]) H := by
  have g0 : ∀ (k : Nat) (x : Addr), ca[k]? = some x → (ca ++ [a])[k]? = some x := fun k x h => by rw [List.getElem?_append_left (List.getElem?_eq_some_iff.mp h).1]; exact h
  have f0 : ∀ (b : Addr) (o : HO), H b = some o → Fix o → H b = some o := fun _ _ h _ => h
  refine ⟨by rw [List.length_append, List.length_append, s.len]; rfl, ?_, fun k c' b e1 e2 => ?_⟩
  · rw [List.nodup_append]
    refine ⟨s.nd, by simp, fun x hx y hy => ?_⟩
    rw [List.mem_singleton.mp hy]
    rintro rfl
    exact n hx
  · by_cases hk : k < st.length
    · rw [List.getElem?_append_left hk] at e1
      rw [List.getElem?_append_left (by rw [s.len]; exact hk)] at e2
      have q := s.cell k c' b e1 e2
      cases c' with
      | lst ds => obtain ⟨vs, h1, r⟩ := q; exact ⟨vs, h1, RelDs.fixed f0 g0 _ _ r⟩
      | dct ds => obtain ⟨vs, h1, r⟩ := q; exact ⟨vs, h1, KvR.fixed f0 g0 r⟩
    · have hk1 : k = st.length := by
        have := (List.getElem?_eq_some_iff.mp e1).1
        simp at this
        omega
      subst hk1
      rw [List.getElem?_append_right (Nat.le_refl _)] at e1
      rw [List.getElem?_append_right (by rw [s.len]; exact Nat.le_refl _), s.len] at e2
      simp at e1 e2
      subst e1 e2
      exact hc
theorem Stp.own (t : Stp ca ca1 H H1) (n : H a = none) : Stp ca (ca1 ++ [a]) H H1 := by
  obtain ⟨l, e, q⟩ := t.ext
  refine ⟨⟨l ++ [a], by rw [e, List.append_assoc], fun x hx => ?_⟩, t.fix, t.keep, t.dom⟩
  rcases List.mem_append.mp hx with hx | hx -- ev
  · exact q x hx
  · rw [List.mem_singleton.mp hx]; exact n
theorem RelDs.own {ds : List D} {vs : List V} (r : RelDs K H ca ds vs) : RelDs K H (ca ++ [a]) ds vs :=
  RelDs.fixed (fun _ _ h _ => h) (fun k x h => by rw [List.getElem?_append_left (List.getElem?_eq_some_iff.mp h).1]; exact h) _ _ r
end
section
variable {K : PySem.W.Frag} {fld : Str → List Str} {W : WX} {X : Cx} {e : Expr}
theorem se_cell {f : Env' → M RV} (h : PE X e (TN K fld W f)) : PE X e (TN K fld W (toCell f)) := by
  refine PE.imp h fun σ H Q ⟨ρ, st, ca, he, hs, hp⟩ => ⟨ρ, st, ca, he, hs, ?_⟩
  unfold toCell M.bind at hp
  cases hr : f ρ st with
  | bad => rw [hr] at hp; exact hp
  | exc c as st1 => rw [hr] at hp; exact hp
  | ok r st1 =>
    rw [hr] at hp
    intro ca1 H1 t1 s1 v hv
    cases r with
    | per d => exact hp.elim
    | bor ds => exact hp.elim
    | fr ds =>
      obtain ⟨a, vs, rfl, q1, n0, n1, r1⟩ := hv
      have t2 := t1.own n0
      have s2 := s1.own (c := .lst ds) n1 ⟨vs, q1, r1.own⟩
      refine (show ∀ ca' H', Stp ca ca' H H' → SR K (st1 ++ [.lst ds]) ca' H' → ∀ v, RelRV K H H' ca' (.per (.cell st1.length)) v → Q v H' from hp) _ H1 t2 s2 _ ⟨a, rfl, ?_⟩
      rw [← s1.len]
      simp
end

/-! ### dicts -/
def getKD (kvs : List (Key × D)) (k : Key) : Option D := (kvs.find? fun kv => decide (kv.1 = k)).map (·.2)
def putKD (kvs : List (Key × D)) (k : Key) (v : D) : List (Key × D) :=
  if (kvs.any fun kv => decide (kv.1 = k)) = true then kvs.map (fun kv => if kv.1 = k then (kv.1, v) else kv) else kvs ++ [(k, v)] -- ev
def dKey : D → Option Key
  | .int i => some (.inl i)
  | .str x => some (.inr x)
  | _ => none
section
variable {K : PySem.W.Frag} {H : Hp} {ca : List Addr}
theorem KvR.get {k : Key} : ∀ {kvs : List (Key × D)} {vs : List (Key × V)} {d : D}, KvR K H ca kvs vs → getKD kvs k = some d → ∃ v, valV vs k = some v ∧ RelD K H ca d v
  | [], _, _, _, e => by cases e
  | (j, d) :: r, _, d', h, e => by
    obtain ⟨v, t, rfl, q, g⟩ := h
    by_cases hj : j = k
    · simp only [getKD, List.find?_cons, hj, decide_true, Option.map_some, Option.some.injEq] at e
      subst e
      exact ⟨v, valV_pos (p := (j, v)) hj, q⟩
    · have e2 : getKD r k = some d' := by
        unfold getKD at e ⊢
        rw [List.find?_cons] at e
        simpa only [hj, decide_false] using e
      obtain ⟨w, h1, h2⟩ := KvR.get g e2
      exact ⟨w, by rw [valV_neg (p := (j, v)) hj]; exact h1, h2⟩
theorem KvR.any {k : Key} : ∀ {kvs : List (Key × D)} {vs : List (Key × V)}, KvR K H ca kvs vs → (kvs.any fun kv => decide (kv.1 = k)) = vs.any fun kv => decide (kv.1 = k)
  | [], _, h => by cases h; rfl
  | (j, d) :: r, _, h => by
    obtain ⟨v, t, rfl, q, g⟩ := h
    simp only [List.any_cons, KvR.any g]
theorem KvR.map {k : Key} {d : D} {v : V} (q : RelD K H ca d v) : ∀ {kvs : List (Key × D)} {vs : List (Key × V)}, KvR K H ca kvs vs → KvR K H ca (kvs.map (fun kv => if kv.1 = k then (kv.1, d) else kv)) (vs.map (fun kv => if kv.1 = k then (kv.1, v) else kv))
  | [], _, h => by cases h; rfl
  | (j, d') :: r, _, h => by
    obtain ⟨w, t, rfl, q', g⟩ := h
    have ih := KvR.map (k := k) q g
    simp only [List.map_cons]
    by_cases hj : j = k
    · rw [if_pos hj, if_pos hj] -- ev
      exact ⟨v, _, rfl, q, ih⟩
    · rw [if_neg hj, if_neg hj] -- ev
      exact ⟨w, _, rfl, q', ih⟩
theorem KvR.snoc {k : Key} {d : D} {v : V} (q : RelD K H ca d v) : ∀ {kvs : List (Key × D)} {vs : List (Key × V)}, KvR K H ca kvs vs → KvR K H ca (kvs ++ [(k, d)]) (vs ++ [(k, v)])
  | [], _, h => by cases h; exact ⟨v, [], rfl, q, rfl⟩
  | (j, d') :: r, _, h => by
    obtain ⟨w, t, rfl, q', g⟩ := h
    exact ⟨w, _, rfl, q', KvR.snoc q g⟩
theorem KvR.put {k : Key} {d : D} {v : V} {kvs : List (Key × D)} {vs : List (Key × V)} (h : KvR K H ca kvs vs) (q : RelD K H ca d v) : KvR K H ca (putKD kvs k d) (putK vs k v) := by
  unfold putKD putK
  rw [h.any]
  split
  · exact h.map q
  · exact h.snoc q
theorem KvR.length : ∀ {kvs : List (Key × D)} {vs : List (Key × V)}, KvR K H ca kvs vs → vs.length = kvs.length
  | [], _, h => by cases h; rfl
  | (j, d) :: r, _, h => by
    obtain ⟨v, t, rfl, q, g⟩ := h
    exact congrArg Nat.succ (KvR.length g)
theorem RelR.key {d : D} {v : V} {k : Key} (r : RelR K H ca d v) (e : dKey d = some k) : v = kV k := by
  cases d with
  | int i => cases e; exact r
  | str x => cases e; exact r
  | _ => cases e
end
/-- a[b]: a list's, a tuple's, a text's, a dict's -/
def ixSt (st : Store) (a b : D) : Option RV := match deref st a with
  | .cell k => match st[k]? with
    | some (.dct kvs) => ((dKey b).bind (getKD kvs)).bind per
    | _ => none
  | d => dIx d (deref st b)
def sBinS (op : Store → D → D → Option RV) (f g : Env' → M D) : Env' → M RV := fun ρ => M.bind (f ρ) fun a => M.bind (g ρ) fun b => M.rdr fun st => op st a b
def rOS (K : PySem.W.Frag) (op : Store → D → D → Option RV) : R2 := fun x y H Q => ∃ ca st a b r, SR K st ca H ∧ RelR K H ca a x ∧ RelR K H ca b y ∧ op st a b = some r ∧ Gv K H ca st r Q
section
variable {X : Cx} {fld : Str → List Str} {W : WX}
theorem ix_dK (hu : X.A.units + 1 < cLine) : IxR X (fun x y H Q => ∃ a v, x = .ref a ∧ DGet H a y (some v) ∧ Q v H) := by
  intro value slice pins s σ H x y v u Q I rx ry h hs -- ev
  obtain ⟨a, w, rfl, g, q⟩ := h
  obtain rfl : v = .ref a := rx
  exact tail_any (dict_typeIs I g) PySem.F.slot_dict_getitem.lookup (d_getItem hu I g ry fun w' s3 I3 rw' => ⟨w, H, I3, rw', q⟩) hs
theorem ix_all (hu : X.A.units + 1 < cLine) : IxR X (rOS X.K ixSt) := ixi (IxR.or ix_dIx (ix_dK hu)) fun x y H Q ⟨ca, st, a, b, r, s, ra, rb, e, g⟩ => by
  unfold ixSt at e
  have rx := ra.x s
  split at e
  · rename_i k hk
    split at e
    · rename_i kvs hc
      cases hb : dKey b with
      | none => rw [hb] at e; cases e
      | some key =>
        rw [hb] at e
        have e : (getKD kvs key).bind per = some r := e
        cases hg : getKD kvs key with
        | none => rw [hg] at e; cases e
        | some d =>
          rw [hg] at e
          cases e
          rw [hk] at rx
          obtain ⟨p, rfl, ek⟩ := rx
          obtain ⟨vs, hH, kv⟩ := s.cell k _ p hc ek
          obtain ⟨v, hv, rv⟩ := kv.get hg
          refine .inr ⟨p, v, rfl, ?_, g.here s rv⟩
          rw [rb.key hb]
          exact .inl ⟨vs, key, .inl hH, rfl, hv.symm⟩
    · cases e
  · exact .inl ⟨ca, st, _, _, r, s, rx, rb.x s, e, g⟩
theorem se_ixS {op : Store → D → D → Option RV} {a b : Expr} {pos : Pos} {f g : Env' → M D} (hr : IxR X (rOS X.K op)) (ha : PE X a (TR X.K fld W f)) (hb : PE X b (TR X.K fld W g)) (hs : PlainIx b) : PE X (.Subscript a b pos) (TN X.K fld W (sBinS op f g)) := by
  refine PE.imp (pe_ix hr ha hb hs) fun σ H Q ⟨ρ, st, ca, he, hs, hp⟩ => ⟨ρ, st, ca, he, hs, (Post.bind hp).mono fun d st1 ca1 H1 t1 s1 q v hv => ?_⟩
  refine ⟨ρ, st1, ca1, he.stp t1, s1, (Post.bind q).mono fun d2 st2 ca2 H2 t2 s2 q w hw => ?_⟩
  obtain ⟨r, e, g⟩ := q.rdr (t1.trans t2)
  exact ⟨ca2, st2, _, _, r, s2, hv.stp t2, hw, e, g⟩

/-! ### o[i] = v -/
def setSt (o i d : D) (st : Store) : Option (Unit × Store) := match o with
  | .cell k => match st[k]? with
    | some (.lst ds) => match i with
      | .int j => (ixN ds.length j).map fun n => ((), st.set k (.lst (ds.set n d)))
      | _ => none
    | some (.dct kvs) => match dKey i with
      | some key => if kvs.length < sizeLine then some ((), st.set k (.dct (putKD kvs key d))) else none
      | none => none
    | none => none
  | _ => none
theorem PSet.or {t u : TSet} (h : PSet X t) (g : PSet X u) : PSet X (fun o i v H Q => t o i v H Q ∨ u o i v H Q) := fun pins s σ H o i v ov iv w Q I ro ri rv q => by
  rcases q with q | q
  · exact h pins s σ H o i v ov iv w Q I ro ri rv q
  · exact g pins s σ H o i v ov iv w Q I ro ri rv q
theorem set_dK (hu : X.A.units + 1 < cLine) : PSet X (fun o i v H Q => ∃ a H', o = .ref a ∧ DPut H a i v H' ∧ Q H') := by
  intro pins s σ H o i v ov iv u Q I ro ri rv h -- ev
  obtain ⟨a, H', rfl, g, q⟩ := h
  obtain rfl : ov = .ref a := ro
  exact d_setItem hu I g ri rv fun s4 I4 => ⟨H', I4, q⟩
def rSet : TSet := fun o i v H Q => rSetL o i v H Q ∨ ∃ a H', o = .ref a ∧ DPut H a i v H' ∧ Q H'
theorem set_all (hu : X.A.units + 1 < cLine) : PSet X rSet := PSet.or set_list (set_dK hu)
theorem setSt_of {K : PySem.W.Frag} {st : Store} {H : Hp} {ca : List Addr} {o i d : D} {x y v : V} {p : Unit × Store} {Q : Hp → Prop} (s : SR K st ca H) (ro : RelR K H ca o x) (ri : RelR K H ca i y) (rd : RelD K H ca d v) (e : setSt o i d st = some p)
    (q : ∀ H', Stp ca ca H H' → SR K p.2 ca H' → Q H') : rSet x y v H Q := by
  unfold setSt at e
  split at e
  · rename_i k
    obtain ⟨a, rfl, ek⟩ := ro
    split at e
    · rename_i ds hc
      obtain ⟨vs, hH, r⟩ := s.cell k _ a hc ek
      split at e
      · rename_i j
        cases hn : ixN ds.length j with
        | none => rw [hn] at e; cases e
        | some n =>
          rw [hn] at e
          cases e
          obtain ⟨w1, w2⟩ := cellW s ek hH (RelDs.set rd n r)
          exact .inl ⟨a, vs, j, n, rfl, ri, hH, by rw [r.length]; exact hn, q _ w2 w1⟩
      · cases e
    · rename_i kvs hc
      obtain ⟨vs, hH, kv⟩ := s.cell k _ a hc ek
      split at e
      · rename_i key hk
        split at e
        · rename_i hl
          cases e
          have hu : ¬ Fix (.dK vs) := fun z => z
          have w1 := s.set (c' := .dct (putKD kvs key d)) (o := .dK (putK vs key v)) ek hH hu ⟨_, upd_same, KvR.fixed (fix_wr' hH hu) (fun _ _ z => z) (kv.put rd)⟩
          refine .inr ⟨a, _, rfl, ?_, q _ (stp_wr hH hu (List.mem_of_getElem? ek)) w1⟩
          rw [ri.key hk]
          exact .inl ⟨vs, key, hH, rfl, by rw [kv.length]; exact hl, rfl⟩
        · cases e
      · cases e
    · cases e
  · cases e
def sSetIx (f fo fi : Env' → M D) : SS := thenS (fun ρ => M.bind (f ρ) fun d => M.bind (fo ρ) fun o => M.bind (fi ρ) fun i => M.act (setSt o i d)) fun _ ρ st => .nx ρ st
theorem ss_setIx {H0 : Hp} {ca0 : List Addr} {o i e : Expr} {tpos pos : Pos} {f fo fi : Env' → M D} (hu : X.A.units + 1 < cLine) (he : PE X e (TS' X.K fld W f)) (ho : PE X o (TR X.K fld W fo)) (hi : PE X i (TR X.K fld W fi))
    (hs : swapsWithSole [.Subscript o i tpos] e pos.line X.env = pure false) (hw : swappedStores [.Subscript o i tpos] e X.env = pure none) (h1 : (assignEach [.Subscript o i tpos] X.env).map (·.2) = [assign (.Subscript o i tpos) X.env])
    (ha : ∀ v, assign (.Subscript o i tpos) X.env v = (do
      let ov ← holding [v] (eval o X.env) -- ev
      let iv ← holding [v, ov] (eval i X.env) -- ev
      standAt tpos
      holding [v, ov, iv] (setItem ov iv v) -- ev
      release [v, ov, iv] [])) : PS X (.Assign [.Subscript o i tpos] e pos) (TSt X.K fld W H0 ca0 (sSetIx f fo fi)) := by
  refine PS.imp (ps_asg he (pg_sub ho hi (set_all hu) ha) hs hw h1) fun E σ H ⟨ρ, st, ca, hf, hsr, hp⟩ => ⟨ρ, st, ca, hf.env, hsr, ?_⟩
  have hp := PostS.then hf hp
  refine (Post.bind hp).mono fun d st1 ca1 H1 t1 s1 q v hv => ⟨ρ, st1, ca1, hf.env.stp t1, s1, (Post.bind q).mono fun od st2 ca2 H2 t2 s2 q x hx => ⟨ρ, st2, ca2, hf.env.stp (t1.trans t2), s2, (Post.bind q).mono fun id st3 ca3 H3 t3 s3 q y hy => ?_⟩⟩
  obtain ⟨p, ep, q⟩ := Post.act q
  refine setSt_of s3 (hx.stp t3) hy ((hv.stp t2).stp t3) ep fun H4 t4 s4 => ?_
  obtain ⟨q1, q2⟩ := (show ∀ ca' H', Stp ca3 ca' H3 H' → SR X.K p.2 ca' H' → _ from q) ca3 H4 t4 s4
  exact q2 σ ca3 H4 Fx.refl q1 s4
/-- of the frame's own list -/
def sSetOwn (k : Nat) (f fi : Env' → M D) : SS := fun ρ st => match ρ[k]? with
  | some (.own _) => thenS (fun ρ => M.bind (f ρ) fun d => M.bind (fi ρ) fun i => M.pure (d, i)) (fun p ρ st => match ρ[k]?, p.2 with
    | some (.own ds), .int j => match ixN ds.length j with
      | some n => .nx (ρ.set k (.own (ds.set n p.1))) st
      | none => .bad
    | _, _ => .bad) ρ st
  | _ => .bad
theorem ss_setOwn {H0 : Hp} {ca0 : List Addr} {k : Nat} {x : Str} {xp : Pos} {i e : Expr} {tpos pos : Pos} {f fi : Env' → M D} (hN : X.N[k]? = some x) (hv : Vis X.env.scope x) (hd : (x == ("__debug__" : Str)) = false) (hcd : (x == ("__classdict__" : Str)) = false)
    (he : PE X e (TS' X.K fld W f)) (hi : PE X i (TR X.K fld W fi))
    (hs : swapsWithSole [.Subscript (.Name x xp) i tpos] e pos.line X.env = pure false) (hw : swappedStores [.Subscript (.Name x xp) i tpos] e X.env = pure none) (h1 : (assignEach [.Subscript (.Name x xp) i tpos] X.env).map (·.2) = [assign (.Subscript (.Name x xp) i tpos) X.env])
    (ha : ∀ v, assign (.Subscript (.Name x xp) i tpos) X.env v = (do
      let ov ← holding [v] (eval (.Name x xp) X.env)
      let iv ← holding [v, ov] (eval i X.env) -- ev
      standAt tpos
      holding [v, ov, iv] (setItem ov iv v) -- ev
      release [v, ov, iv] [])) : PS X (.Assign [.Subscript (.Name x xp) i tpos] e pos) (TSt X.K fld W H0 ca0 (sSetOwn k f fi)) := by
  refine PS.imp (ps_asg he (pg_sub (pe_var hN hv hd hcd) hi set_list ha) hs hw h1) fun E σ H ⟨ρ, st, ca, hf, hsr, hp⟩ => ?_
  unfold sSetOwn at hp
  split at hp
  · rename_i ds0 hr
    refine ⟨ρ, st, ca, hf.env, hsr, (Post.bind (PostS.then hf hp)).mono fun d st1 ca1 H1 t1 s1 q v hv => ?_⟩
    obtain ⟨o, h1, a, vs, e1, qa, n, rr⟩ := hf.env.at_ k _ hr
    subst e1
    refine ⟨.ref a, h1, ρ, st1, ca1, hf.env.stp t1, s1, (Post.bind q).mono fun id st2 ca2 H2 t2 s2 q y hy => ?_⟩
    obtain ⟨hf2, q⟩ := Post.now q s2
    rw [hr] at q
    have t12 := t1.trans t2
    have qa2 := t12.keep a _ qa n trivial
    have n2 := t12.notin qa n
    have rr2 := rr.stp t12
    split at q
    · rename_i ds j e2 e3
      cases e2
      have e3 : id = .int j := e3
      subst e3
      split at q
      · rename_i m hm
        obtain ⟨w1, w2, w3⟩ := hf2.ownWr s2 hr h1 qa2 n2 (RelDs.set (hv.stp t2) m rr2)
        exact ⟨a, vs, j, m, rfl, hy, qa2, by rw [rr2.length]; exact hm, q _ _ _ w3 w1 w2⟩
      · exact q.elim
    · exact q.elim
  · exact hp.elim
end
end Ev
set_option Elab.async false -- ev
set_option linter.all false -- ev
set_option maxRecDepth 100000 -- ev
set_option maxHeartbeats 2000000 -- ev
set_option autoImplicit false -- ev
/-! Dict displays, pairs of names, slices, ranges as lists, products, texts of data, globals. -/
namespace Ev
open PySem PySem.Spec PyProof.Rows L2 -- ev

section
variable {K : PySem.W.Frag} {fld : Str → List Str} {W : WX} {X : Cx}
/-! ### a dict display -/
def ksZip : List Str → List D → List (Key × D)
  | k :: ks, d :: ds => (.inr k, d) :: ksZip ks ds
  | _, _ => []
def sDict (ks : List Str) (g : Env' → M (List D)) : Env' → M RV := fun ρ => M.bind (g ρ) fun ds => if ds.length = ks.length then M.cell (.dct (ksZip ks ds)) else M.bad
def ksVals : List Str → List V → List (Key × V)
  | k :: ks, d :: ds => (.inr k, d) :: ksVals ks ds
  | _, _ => []
theorem kv_zip {H : Hp} {ca : List Addr} : ∀ (ks : List Str) (ds : List D) (vs : List V), RelDs K H ca ds vs → KvR K H ca (ksZip ks ds) (ksVals ks vs)
  | [], ds, vs, h => rfl
  | k :: ks, [], vs, h => by cases h; rfl
  | k :: ks, d :: ds, vs, h => by
    obtain ⟨v, r, rfl, q, t⟩ := h
    exact ⟨v, _, rfl, q, kv_zip ks ds r t⟩
/-- the pairs, one behind another -/
structure PD (X : Cx) (K : PySem.W.Frag) (fld : Str → List Str) (W : WX) (pos : Pos) (keys : List (Option Expr)) (values : List Expr) (ks : List Str) (g : Env' → M (List D)) : Prop where
  ex : ∃ trs, PPs X pos keys values trs ∧ ∀ σ H Q, (∃ ρ st ca, EnvR K H ca ρ σ ∧ SR K st ca H ∧ Post K fld W σ H ca (fun ds st' ca' H' => SR K st' ca' H' → Stp ca ca' H H' → ∀ vs, RelDs K H' ca' ds vs → ds.length = ks.length → Q ((ks.zip vs).map fun p => (.str p.1, p.2)) H') (g ρ st)) → tPairs trs σ H Q
theorem pd_nil {pos : Pos} : PD X K fld W pos [] [] [] sNil := ⟨[], pps_nil, fun σ H Q ⟨ρ, st, ca, he, hs, hp⟩ => by
  have := Post.now hp hs
  exact this hs Stp.refl [] rfl rfl⟩
theorem pd_cons {pos kp : Pos} {k : Str} {jk : Nat} {v : Expr} {keys : List (Option Expr)} {values : List Expr} {ks : List Str} {f : Env' → M D} {g : Env' → M (List D)} (hv : PE X v (TS' K fld W f)) (h : PD X K fld W pos keys values ks g) :
    PD X K fld W pos (some (.Constant (.str k) jk kp) :: keys) (v :: values) (k :: ks) (sCons f g) := by
  obtain ⟨trs, hp, hw⟩ := h.ex
  refine ⟨_, pps_cons pe_str hv hp, fun σ H Q ⟨ρ, st, ca, he, hs, hp⟩ => ?_⟩
  refine ⟨ρ, st, ca, he, hs, (Post.bind hp).mono fun d st1 ca1 H1 t1 s1 q x hx => ?_⟩
  refine hw σ H1 _ ⟨ρ, st1, ca1, he.stp t1, s1, (Post.bind q).mono fun ds st2 ca2 H2 t2 s2 q s2' t2' vs hvs hl => ?_⟩
  have q := Post.now q s2
  exact q s2 (t1.trans t2) (x :: vs) ⟨x, vs, rfl, hx.stp t2, hvs⟩ (by simp [hl])
theorem nodup_inr : ∀ {l : List Str}, l.Nodup → (l.map (Sum.inr : Str → Key)).Nodup
  | [], _ => by simp
  | a :: l, h => by
    rw [List.nodup_cons] at h
    rw [List.map_cons, List.nodup_cons] -- ev
    refine ⟨fun z => ?_, nodup_inr h.2⟩
    obtain ⟨b, hb, e⟩ := List.mem_map.mp z
    cases e
    exact h.1 hb
theorem merge_nodup : ∀ (kvs acc : List (Key × V)), (acc ++ kvs).map (·.1) |>.Nodup → mergeK acc kvs = acc ++ kvs
  | [], acc, _ => by simp [mergeK]
  | p :: r, acc, h => by
    have hn : (acc.any fun kv => decide (kv.1 = p.1)) = false := by
      rw [List.any_eq_false]
      intro x hx e
      have e : x.1 = p.1 := of_decide_eq_true e
      rw [List.map_append, List.nodup_append] at h
      exact h.2.2 x.1 (List.mem_map_of_mem hx) p.1 (by simp) e
    show mergeK (putK acc p.1 p.2) r = _
    have ep : putK acc p.1 p.2 = acc ++ [p] := by
      unfold putK
      rw [hn]
      simp
    rw [ep, merge_nodup r (acc ++ [p]) (by simpa using h)]
    exact List.append_assoc _ _ _
theorem zip_ks : ∀ (ks : List Str) (vs : List V), (ks.zip vs).map (fun p => (V.str p.1, p.2)) = (ksVals ks vs).map fun kv => (kV kv.1, kv.2)
  | [], vs => rfl
  | k :: ks, [] => rfl
  | k :: ks, v :: vs => by
    show _ :: _ = _ :: _
    rw [← zip_ks ks vs]
    rfl
theorem keys_ks : ∀ (ks : List Str) (vs : List V), vs.length = ks.length → (ksVals ks vs).map (·.1) = ks.map .inr
  | [], vs, _ => rfl
  | k :: ks, [], h => by simp at h
  | k :: ks, v :: vs, h => by
    show _ :: _ = _ :: _
    rw [keys_ks ks vs (by simpa using h)]
theorem se_dict {pos : Pos} {keys : List (Option Expr)} {values : List Expr} {ks : List Str} {g : Env' → M (List D)} (h : PD X K fld W pos keys values ks g) (hall : keys.all (·.isSome) = true) (hl : keys.length = values.length) (h0 : keys ≠ []) (h15 : keys.length ≤ 15) (hk : ks.length ≤ 15)
    (hnd : ks.Nodup) : PE X (.Dict keys values pos) (TN K fld W (sDict ks g)) := by
  obtain ⟨trs, hp, hw⟩ := h.ex
  refine PE.imp (pe_disp hp hall hl h0 h15) fun σ H Q ⟨ρ, st, ca, he, hs, hp⟩ => fun p hpn => ?_
  have t0 := Stp.laid (ca := ca) (o := HO.dK []) hpn
  have hpc := hs.notnew hpn
  refine hw σ _ _ ⟨ρ, st, ca, he.stp t0, hs.laid hpn, ?_⟩
  unfold sDict M.bind at hp
  cases hr : g ρ st with
  | bad => rw [hr] at hp; exact hp
  | exc c as st1 => rw [hr] at hp; exact fun cls dd ca' H' t => hp cls dd ca' H' (t0.trans t)
  | ok ds st1 =>
    rw [hr] at hp
    intro ca1 H1 t1 _ s1 _ vs hvs hlen
    dsimp only at hp
    rw [if_pos hlen] at hp
    have hH1 : H1 p = some (.dK []) := t1.keep p _ upd_same hpc trivial
    have hpc1 := t1.notin upd_same hpc
    have ek := keys_ks ks vs (by rw [hvs.length]; exact hlen)
    refine ⟨hH1, ksVals ks vs, zip_ks ks vs, ?_, ?_⟩
    · have : (ksVals ks vs).length = ks.length := by
        have := congrArg List.length ek
        simpa using this
      omega
    have em : mergeK [] (ksVals ks vs) = ksVals ks vs := merge_nodup (ksVals ks vs) [] (by
      rw [List.nil_append, ek]
      exact nodup_inr hnd)
    rw [em]
    have hu : ¬ Fix (.dK ([] : List (Key × V))) := fun z => z
    have f0 := fix_wr' (o := .dK (ksVals ks vs)) hH1 hu
    have tB : Stp ca ca1 H (upd H1 p (.dK (ksVals ks vs))) := (t0.trans t1).wr hpn
    have sB : SR K st1 ca1 (upd H1 p (.dK (ksVals ks vs))) := by
      refine ⟨s1.len, s1.nd, fun i c a e1 e2 => ?_⟩
      have q := s1.cell i c a e1 e2
      have ne : a ≠ p := fun z => hpc1 (z ▸ List.mem_of_getElem? e2)
      cases c with
      | lst ds => obtain ⟨ws, e, r⟩ := q; exact ⟨ws, by rw [upd_ne ne]; exact e, RelDs.fixed f0 (fun _ _ z => z) _ _ r⟩
      | dct kvs => obtain ⟨ws, e, r⟩ := q; exact ⟨ws, by rw [upd_ne ne]; exact e, KvR.fixed f0 (fun _ _ z => z) r⟩
    have kv : KvR K (upd H1 p (.dK (ksVals ks vs))) ca1 (ksZip ks ds) (ksVals ks vs) := kv_zip ks ds vs (RelDs.fixed f0 (fun _ _ z => z) _ _ hvs)
    have sC := sB.own (a := p) (c := .dct (ksZip ks ds)) hpc1 ⟨_, upd_same, KvR.fixed (fun _ _ h _ => h) (fun k x h => by rw [List.getElem?_append_left (List.getElem?_eq_some_iff.mp h).1]; exact h) kv⟩
    refine (show ∀ ca' H', Stp ca ca' H H' → SR K (st1 ++ [.dct (ksZip ks ds)]) ca' H' → ∀ v, RelRV K H H' ca' (.per (.cell st1.length)) v → Q v H' from hp) _ _ (tB.own hpn) sC _ ⟨p, rfl, ?_⟩
    rw [← s1.len]
    simp

/-! ### tuple targets -/
def sAsgT (f : Env' → M D) (g : D → Env' → Option Env') : SS := thenS f fun d ρ st => match g d ρ with
  | some ρ' => .nx ρ' st
  | none => .bad
theorem ss_asg {H0 : Hp} {ca0 : List Addr} {tg e : Expr} {pos : Pos} {f : Env' → M D} {is : List Nat} {g : D → Env' → Option Env'} (he : PE X e (TS' K fld W f)) (hg : PG X tg (TGd K is g)) (hs : swapsWithSole [tg] e pos.line X.env = pure false) (hw : swappedStores [tg] e X.env = pure none)
    (h1 : (assignEach [tg] X.env).map (·.2) = [assign tg X.env]) : PS X (.Assign [tg] e pos) (TSt K fld W H0 ca0 (sAsgT f g)) := by
  refine PS.imp (ps_asg he hg hs hw h1) fun E σ H ⟨ρ, st, ca, hf, hsr, hp⟩ => ⟨ρ, st, ca, hf.env, hsr, (PostS.then hf hp).mono fun d st1 ca1 H1 t1 s1 q v hv => ?_⟩
  obtain ⟨q1, q2⟩ := q
  cases hr : g d ρ with
  | none => rw [hr] at q2; exact q2.elim
  | some ρ' =>
    rw [hr] at q2
    exact ⟨ρ, d, ca1, ρ', q1.env, hv, hr, fun σ' b => q2 σ' ca1 H1 Fx.refl (q1.bd b) s1⟩
def sPar (i j : Nat) (g : Env' → M (List D)) : SS := thenS g fun as ρ st => match as with
  | [a, b] => .nx ((ρ.set i (.val a)).set j (.val b)) st
  | _ => .bad
def sPar3 (i j k : Nat) (g : Env' → M (List D)) : SS := thenS g fun as ρ st => match as with
  | [a, b, c] => .nx (((ρ.set i (.val a)).set j (.val b)).set k (.val c)) st
  | _ => .bad
theorem ss_par {H0 : Hp} {ca0 : List Addr} {i j : Nat} {x y : Str} {a b : Expr} {g : Env' → M (List D)} {px py pt pos : Pos} {kt k2 pt2} (hc : X.calm = true) (hN : X.N.Nodup) (hi : X.N[i]? = some x) (hj : X.N[j]? = some y) (hij : i ≠ j)
    (hx : X.env.scope.names.lookup x = some .local) (hy : X.env.scope.names.lookup y = some .local) (ha : PA X [a, b] (TAs K fld W g))
    (hw : swappedStores [.Tuple [.Name x px, .Name y py] kt pt] (.Tuple [a, b] k2 pt2) X.env = pure (some [x, y])) -- ev
    (hs : swapsWithSole [.Tuple [.Name x px, .Name y py] kt pt] (.Tuple [a, b] k2 pt2) pos.line X.env = pure false) :
    PS X (.Assign [.Tuple [.Name x px, .Name y py] kt pt] (.Tuple [a, b] k2 pt2) pos) (TSt K fld W H0 ca0 (sPar i j g)) := by
  refine PS.imp (ps_par hc hN hi hj hij hx hy ha hw hs) fun E σ H ⟨ρ, st, ca, hf, hsr, hp⟩ => ⟨ρ, st, ca, hf.env, hsr, (PostS.then hf hp).mono fun as st1 ca1 H1 t1 s1 q vs hvs => ?_⟩
  obtain ⟨q1, q2⟩ := q
  split at q2
  · obtain ⟨v, r, rfl, rv, w, r2, rfl, rw', rfl⟩ := hvs
    exact ⟨v, w, rfl, q2 _ ca1 H1 Fx.refl ((q1.put rv).put rw') s1⟩
  · exact q2.elim
theorem ss_par3 {H0 : Hp} {ca0 : List Addr} {i j l : Nat} {x y z : Str} {a b c : Expr} {g : Env' → M (List D)} {px py pz pt pos : Pos} {kt k2 pt2} (hc : X.calm = true) (hN : X.N.Nodup) (hi : X.N[i]? = some x) (hj : X.N[j]? = some y) (hl : X.N[l]? = some z) (hij : i ≠ j) (hil : i ≠ l) (hjl : j ≠ l)
    (hx : X.env.scope.names.lookup x = some .local) (hy : X.env.scope.names.lookup y = some .local) (hz : X.env.scope.names.lookup z = some .local) (ha : PA X [a, b, c] (TAs K fld W g))
    (hw : swappedStores [.Tuple [.Name x px, .Name y py, .Name z pz] kt pt] (.Tuple [a, b, c] k2 pt2) X.env = pure (some [x, y, z])) -- ev
    (hs : swapsWithSole [.Tuple [.Name x px, .Name y py, .Name z pz] kt pt] (.Tuple [a, b, c] k2 pt2) pos.line X.env = pure false) :
    PS X (.Assign [.Tuple [.Name x px, .Name y py, .Name z pz] kt pt] (.Tuple [a, b, c] k2 pt2) pos) (TSt K fld W H0 ca0 (sPar3 i j l g)) := by
  refine PS.imp (ps_par3 hc hN hi hj hl hij hil hjl hx hy hz ha hw hs) fun E σ H ⟨ρ, st, ca, hf, hsr, hp⟩ => ⟨ρ, st, ca, hf.env, hsr, (PostS.then hf hp).mono fun as st1 ca1 H1 t1 s1 q vs hvs => ?_⟩
  obtain ⟨q1, q2⟩ := q
  split at q2
  · obtain ⟨v, r, rfl, rv, w, r2, rfl, rw', u, r3, rfl, ru, rfl⟩ := hvs
    exact ⟨v, w, u, rfl, q2 _ ca1 H1 Fx.refl (((q1.put rv).put rw').put ru) s1⟩
  · exact q2.elim

/-! ### slices -/
def cutD (xs : List D) (lo hi : Option Int) : List D := (xs.drop (HT.sIx xs.length 0 lo)).take (HT.sIx xs.length xs.length hi - HT.sIx xs.length 0 lo)
def sPN : Env' → M (Option Int) := fun _ => M.pure none
def sPS (f : Env' → M D) : Env' → M (Option Int) := fun ρ => M.bind (f ρ) fun d => match d with
  | .int i => M.pure (some i)
  | _ => M.bad
def TP (K : PySem.W.Frag) (fld : Str → List Str) (W : WX) (f : Env' → M (Option Int)) : TO := fun σ H Q => ∃ ρ st ca, EnvR K H ca ρ σ ∧ SR K st ca H ∧ Post K fld W σ H ca (fun o _ _ H' => Q o H') (f ρ st)
theorem PO.imp {e : Option Expr} {t u : TO} (h : PO X e t) (i : ∀ σ H Q, u σ H Q → t σ H Q) : PO X e u := ⟨fun pins s σ H Q I q => h.run pins s σ H Q I (i σ H Q q)⟩
theorem sp_none : PO X none (TP K fld W sPN) := PO.imp po_none fun σ H Q ⟨ρ, st, ca, he, hs, hp⟩ => Post.now hp hs
theorem sp_some {e : Expr} {f : Env' → M D} (h : PE X e (TR K fld W f)) : PO X (some e) (TP K fld W (sPS f)) := by
  refine PO.imp (po_some h) fun σ H Q ⟨ρ, st, ca, he, hs, hp⟩ => ⟨ρ, st, ca, he, hs, (Post.bind hp).mono fun d st1 ca1 H1 t1 s1 q v hv => ?_⟩
  cases d with
  | int i => exact ⟨i, hv, Post.now q s1⟩
  | _ => exact q.elim
def dSlice (d : D) (lo hi : Option Int) : Option RV := match d with
  | .tup ds => per (.tup (cutD ds lo hi))
  | .lst ds => some (.fr (cutD ds lo hi))
  | _ => none
def sSlice (f : Env' → M D) (lo hi : Env' → M (Option Int)) : Env' → M RV := fun ρ => M.bind (f ρ) fun d => M.bind (lo ρ) fun l => M.bind (hi ρ) fun u => M.rdr fun st => dSlice (deref st d) l u
theorem cut_rel {H : Hp} {ca : List Addr} {ds : List D} {vs : List V} {lo hi : Option Int} (r : RelDs K H ca ds vs) : RelDs K H ca (cutD ds lo hi) (cutV vs lo hi) := by
  unfold cutD cutV
  rw [r.length]
  exact (r.drop _).take _
theorem cut_whole {ds : List D} {lo hi : Option Int} (h : HT.sIx ds.length 0 lo = 0 ∧ HT.sIx ds.length ds.length hi = ds.length) : cutD ds lo hi = ds := by
  unfold cutD
  rw [h.1, h.2]
  simp
theorem se_slice {e : Expr} {lo hi : Option Expr} {pos p2 : Pos} {f : Env' → M D} {l u : Env' → M (Option Int)} (he : PE X e (TR X.K fld W f)) (hl : PO X lo (TP X.K fld W l)) (hu : PO X hi (TP X.K fld W u)) : PE X (.Subscript e (.Slice lo hi none p2) pos) (TN X.K fld W (sSlice f l u)) := by
  refine PE.imp (pe_slice (SlR.or sl_tupA sl_list) he hl hu) fun σ H Q ⟨ρ, st, ca, hen, hs, hp⟩ => ⟨ρ, st, ca, hen, hs, (Post.bind hp).mono fun d st1 ca1 H1 t1 s1 q v hv => ?_⟩
  refine ⟨ρ, st1, ca1, hen.stp t1, s1, (Post.bind q).mono fun a st2 ca2 H2 t2 s2 q => ?_⟩
  refine ⟨ρ, st2, ca2, hen.stp (t1.trans t2), s2, (Post.bind q).mono fun b st3 ca3 H3 t3 s3 q => ?_⟩
  obtain ⟨r, e, g⟩ := q.rdr ((t1.trans t2).trans t3)
  have hx := (hv.stp (t2.trans t3)).x s3
  unfold dSlice at e
  split at e
  · rename_i ds hd
    rw [hd] at hx
    obtain ⟨p, vs, rfl, qs, r1⟩ := hx
    cases e
    refine .inl ⟨p, vs, rfl, qs, fun hw => ?_, fun hw q' hq' => ?_⟩
    · rw [r1.length] at hw
      rw [cut_whole hw] at g
      exact g.here s3 ⟨p, vs, rfl, qs, r1⟩
    · exact g.newT s3 (cut_rel r1) hq'
  · rename_i ds hd
    rw [hd] at hx
    obtain ⟨p, vs, rfl, qs, r1⟩ := hx
    cases e
    exact .inr ⟨p, vs, rfl, qs.sq, fun q' hq' => g.newL s3 (cut_rel r1) hq'⟩
  · cases e

/-! ### list(range(..)) -/
def rgOkB (a b : Int) : Bool := bnd a && bnd b && decide ((b - a).toNat ≤ 2 ^ 24)
theorem rgOk_of {a b : Int} (h : rgOkB a b = true) : RgOk a b := by
  simp only [rgOkB, Bool.and_eq_true, decide_eq_true_eq] at h
  exact ⟨(bnd_of h.1.1).1, (bnd_of h.1.1).2, (bnd_of h.1.2).1, (bnd_of h.1.2).2, h.2⟩
def sLR1 (f : Env' → M D) : Env' → M RV := fun ρ => M.bind (f ρ) fun d => match d with
  | .int j => if rgOkB 0 j = true then M.pure (.fr (rngD 0 j.toNat)) else M.bad
  | _ => M.bad
def sLR2 (f g : Env' → M D) : Env' → M RV := fun ρ => M.bind (f ρ) fun d => M.bind (g ρ) fun e => match d, e with
  | .int i, .int j => if rgOkB i j = true then M.pure (.fr (rngD i (j - i).toNat)) else M.bad
  | _, _ => M.bad
theorem rg_rel {H : Hp} {ca : List Addr} (lo : Int) : ∀ l : List Nat, RelDs K H ca (l.map fun (i : Nat) => .int (lo + i)) (l.map fun (i : Nat) => V.int (lo + i))
  | [] => rfl
  | i :: l => ⟨_, _, rfl, rfl, rg_rel lo l⟩
theorem se_lr1 {a : Expr} {p pos rp rpos : Pos} {f : Env' → M D} (hc : X.calm = true) (hg : Gl X "list") (hm : X.mg "list" = none) (hg2 : Gl X "range") (hm2 : X.mg "range" = none) (ha : PE X a (TR K fld W f)) (na : starEach [a] X.env = (false, eval a X.env) :: starEach [] X.env)
    (nb : starEach [.Call (.Name "range" rp) [a] [] rpos] X.env = (false, eval (.Call (.Name "range" rp) [a] [] rpos) X.env) :: starEach [] X.env) : PE X (.Call (.Name "list" p) [.Call (.Name "range" rp) [a] [] rpos] [] pos) (TN K fld W (sLR1 f)) := by
  refine PE.imp (pe_listRg hc hg hm (prg_1 hg2 hm2 ha na) nb) fun σ H Q ⟨ρ, st, ca, he, hs, hp⟩ => ⟨ρ, st, ca, he, hs, (Post.bind hp).mono fun d st1 ca1 H1 t1 s1 q v hv => ?_⟩
  split at q
  · split at q
    · rename_i hb
      refine ⟨_, hv, rgOk_of hb, fun p' hp' => ?_⟩
      have hn := s1.notnew hp'
      exact (show ∀ ca' H', Stp ca1 ca' H1 H' → SR K st1 ca' H' → ∀ v, RelRV K H H' ca' (.fr _) v → Q v H' from q) ca1 _ (Stp.laid hp') (s1.laid hp') _ ⟨p', _, rfl, upd_same, t1.dom p' hp', hn, by
        unfold rgV rngD
        rw [Int.sub_zero]
        exact rg_rel 0 _⟩
    · exact q.elim
  · exact q.elim
theorem se_lr2 {a b : Expr} {p pos rp rpos : Pos} {f g : Env' → M D} (hc : X.calm = true) (hg : Gl X "list") (hm : X.mg "list" = none) (hg2 : Gl X "range") (hm2 : X.mg "range" = none) (ha : PE X a (TR K fld W f)) (hb : PE X b (TR K fld W g))
    (na : starEach [a, b] X.env = (false, eval a X.env) :: starEach [b] X.env) (nb' : starEach [b] X.env = (false, eval b X.env) :: starEach [] X.env) (hp' : (backTo rpos (starEach [b] X.env)).any (·.1) = false)
    (nb : starEach [.Call (.Name "range" rp) [a, b] [] rpos] X.env = (false, eval (.Call (.Name "range" rp) [a, b] [] rpos) X.env) :: starEach [] X.env) : PE X (.Call (.Name "list" p) [.Call (.Name "range" rp) [a, b] [] rpos] [] pos) (TN K fld W (sLR2 f g)) := by
  refine PE.imp (pe_listRg hc hg hm (prg_2 hg2 hm2 ha hb na nb' hp') nb) fun σ H Q ⟨ρ, st, ca, he, hs, hp⟩ => ⟨ρ, st, ca, he, hs, (Post.bind hp).mono fun d st1 ca1 H1 t1 s1 q v hv => ?_⟩
  refine ⟨ρ, st1, ca1, he.stp t1, s1, (Post.bind q).mono fun d2 st2 ca2 H2 t2 s2 q w hw => ?_⟩
  split at q
  · split at q
    · rename_i hb
      refine ⟨_, _, hv, hw, rgOk_of hb, fun p' hp' => ?_⟩
      have hn := s2.notnew hp'
      exact (show ∀ ca' H', Stp ca2 ca' H2 H' → SR K st2 ca' H' → ∀ v, RelRV K H H' ca' (.fr _) v → Q v H' from q) ca2 _ (Stp.laid hp') (s2.laid hp') _ ⟨p', _, rfl, upd_same, (t1.trans t2).dom p' hp', hn, rg_rel _ _⟩
    · exact q.elim
  · exact q.elim
/-! ### products -/
def dMulA : D → D → Option RV
  | .int i, .int j => if i.natAbs.log2 + j.natAbs.log2 < 1000000 then per (.int (i * j)) else none
  | .tup a, .int k => if a ≠ [] ∧ 2 ≤ k ∧ k ≤ 1000 ∧ a.length ≤ 1000 then per (.tup (List.replicate k.toNat a).flatten) else none
  | _, _ => none
theorem RelDs.rep {H : Hp} {ca : List Addr} {ds : List D} {vs : List V} (r : RelDs K H ca ds vs) : ∀ n : Nat, RelDs K H ca (List.replicate n ds).flatten (List.replicate n vs).flatten
  | 0 => rfl
  | n + 1 => by
    rw [List.replicate_succ, List.flatten_cons, List.replicate_succ, List.flatten_cons]
    exact r.append (RelDs.rep r n)
theorem op_dMul : OpR X (binaryOp .Mult) (rO X.K dMulA) := opi (OpR.or op_mulW op_repT) fun x y H Q ⟨ca, st, a, b, r, s, rx, ry, e, g⟩ => by
  unfold dMulA at e
  split at e
  · split at e
    · rename_i i j hl
      cases e
      cases (show x = .int i from rx)
      cases (show y = .int j from ry)
      exact .inl ⟨i, j, rfl, rfl, hl, g.here s rfl⟩
    · cases e
  · split at e
    · rename_i ds k hl
      cases e
      cases (show y = .int k from ry)
      obtain ⟨p, vs, rfl, q, r1⟩ := rx
      refine .inr ⟨p, k, vs, rfl, rfl, q, fun z => ?_, hl.2.1, hl.2.2.1, by rw [r1.length]; exact hl.2.2.2, fun p' hp' => g.newT s (r1.rep _) hp'⟩
      have := r1.length
      rw [z] at this
      cases ds with
      | nil => exact hl.1 rfl
      | cons _ _ => simp at this
    · cases e
  · cases e
/-! ### globals -/
theorem se_glob {x : Str} {v : V} {u : Value} {d : D} {pos : Pos} (hg : Gl X x) (hm : X.mg x = some u) (r : RelV v u) (hd : (x == ("__debug__" : Str)) = false) (rd : ∀ H ca, RelD K H ca d v) : PE X (.Name x pos) (TN K fld W (sC d)) := se_c (pe_glob hg hm r hd) rd
theorem se_blt {x : Str} {n : String} {pos : Pos} (hg : Gl X x) (hm : X.mg x = none) (hv : bootBuiltins x = some (.type n)) (hn : x ≠ "__name__") (hd : (x == ("__debug__" : Str)) = false) : PE X (.Name x pos) (TN K fld W (sC (.ty n))) := se_c (pe_bltn hg hm hv (v := .ty n) rfl hn hd) fun _ _ => rfl
/-- a built-in under a module's name -/
theorem se_callG {id : String} {x : Str} {p pos : Pos} {e : Expr} {es : List Expr} {op : List D → Option RV} {g : Env' → M (List D)} (hc : CallR X (.builtin id) (rCl K op)) (hg : Gl X x) (hm : X.mg x = some (.builtin id)) (ha : PA X (e :: es) (TAr K fld W g))
    (hdb : (x == ("__debug__" : Str)) = false) (he : starEach (e :: es) X.env = (false, eval e X.env) :: starEach es X.env) (hpl : (backTo pos (starEach es X.env)).any (·.1) = false) : PE X (.Call (.Name x p) (e :: es) [] pos) (TN K fld W (sCall op g)) := by
  refine ⟨fun pins s σ H Q I h => ?_⟩ -- ev
  refine wpAny_Call_Name_kw (ld_glob I hg hm ?_ hdb) -- ev
  have hA := ha.run pos pins s σ H (fun vs H1 => (rCl K op) vs H1 Q) I (by
    obtain ⟨ρ, st, ca, hen, hs, hp⟩ := h
    refine ⟨ρ, st, ca, hen, hs, (Post.bind hp).mono fun ds st1 ca1 H1 t1 s1 q vs hvs => ?_⟩
    obtain ⟨r, e, g⟩ := q.rdr t1
    exact ⟨ca1, st1, _, r, s1, hvs.x s1, e, g⟩)
  exact PyProof.Rows.callWith_builtin1 (thn hA fun us s1 ⟨vs, H1, I1, r1, q1⟩ => hc pins s1 σ H1 vs us Q I1 r1 q1) he hpl
end
/-- code that is never come to -/
def sNever : SS := fun _ _ => .bad
theorem ss_never {X : Cx} {K : PySem.W.Frag} {fld : Str → List Str} {W : WX} {H0 : Hp} {ca0 : List Addr} {s : Stmt} : PS X s (TSt K fld W H0 ca0 sNever) := PS.imp ps_never fun E σ H ⟨ρ, st, ca, hf, hsr, hp⟩ => hp

/-! ### the text of data -/
section
variable {X : Cx} {pins : List (Addr × Obj)} {σ : L2.St} {H : Hp} {ca : List Addr} {s : Shared}
mutual
theorem reads_of (I : Inv X pins σ H s) : ∀ (l : Nat) (d : D) (v : V) (u : Value), D.pl l d = true → RelD X.K H ca d v → RelV v u → ∃ as, Reads s.heap u d.py as
  | _, .non, v, u, _, r, ru => by cases (show v = .non from r); cases (show u = .none from ru); exact ⟨_, .none⟩
  | _, .bl b, v, u, _, r, ru => by cases (show v = .bl b from r); cases (show u = .bool b from ru); exact ⟨_, .bool b⟩
  | _, .int i, v, u, _, r, ru => by cases (show v = .int i from r); obtain ⟨t, rfl⟩ := ru; exact ⟨_, .int i t⟩
  | _, .str x, v, u, _, r, ru => by cases (show v = .str x from r); obtain ⟨t, rfl⟩ := ru; exact ⟨_, .str x t⟩
  | l + 1, .tup ds, v, u, h, r, ru => by
    obtain ⟨a, vs, rfl, q, rs⟩ := r
    cases ru
    obtain ⟨its, rv, ht, hz⟩ := I.tuple q
    obtain ⟨o, e1, e2, n, e3⟩ := id ht
    obtain ⟨as, k⟩ := readss_of I l ds vs its (by simpa [D.pl] using h) rs rv
    exact ⟨_, .tuple e1 e2 e3 (by simpa using k)⟩
  | l + 1, .lst ds, v, u, h, r, ru => by
    obtain ⟨a, vs, rfl, q, rs⟩ := r
    cases ru
    obtain ⟨its, rv, ⟨o, n, e1, e2, _, e3⟩, hz⟩ := I.list q.sq
    obtain ⟨as, k⟩ := readss_of I l ds vs its (by simpa [D.pl] using h) rs rv
    exact ⟨_, .list e1 e2 e3 (by simpa using k)⟩
  | 0, .tup _, _, _, h, _, _ => by simp [D.pl] at h
  | 0, .lst _, _, _, h, _, _ => by simp [D.pl] at h
  | _, .cell _, _, _, h, _, _ => by simp [D.pl] at h
  | _, .ty _, _, _, h, _, _ => by simp [D.pl] at h
theorem readss_of (I : Inv X pins σ H s) : ∀ (l : Nat) (ds : List D) (vs : List V) (us : List Value), D.pls l ds = true → RelDs X.K H ca ds vs → Vals vs us → ∃ as, ReadsAll s.heap us (D.pys ds) as
  | _, [], vs, us, _, r, ru => by cases (show vs = [] from r); cases ru; exact ⟨_, .nil⟩
  | l, d :: ds, vs, us, h, r, ru => by
    obtain ⟨v, r', rfl, q, rs⟩ := r
    cases ru with
    | cons r1 r2 =>
      simp only [D.pls, Bool.and_eq_true] at h
      obtain ⟨as, k1⟩ := reads_of I l d v _ h.1 q r1
      obtain ⟨bs, k2⟩ := readss_of I l ds r' _ h.2 rs r2
      exact ⟨_, .cons k1 k2⟩
end
theorem readsX_of (I : Inv X pins σ H s) {l : Nat} {d : D} {v : V} {u : Value} (h : D.pl l d = true) (r : RelX X.K H ca d v) (ru : RelV v u) : ∃ as, Reads s.heap u d.py as := by
  cases d with
  | lst ds =>
    cases l with
    | zero => simp [D.pl] at h
    | succ l =>
      obtain ⟨a, vs, rfl, q, rs⟩ := r
      cases ru
      obtain ⟨its, rv, ⟨o, n, e1, e2, _, e3⟩, hz⟩ := I.list q.sq
      obtain ⟨as, k⟩ := readss_of I l ds vs its (by simpa [D.pl] using h) rs rv
      exact ⟨_, .list e1 e2 e3 (by simpa using k)⟩
  | _ => exact reads_of (ca := ca) I l _ v u h r ru
end
section
variable {X : Cx}
def dRepr : List D → Option RV
  | [.lst ds] => if (D.pl 60 (.lst ds) && (D.lst ds).py.showable && decide ((D.lst ds).py.shown.length ≤ sizeLine)) = true then per (.str (D.lst ds).py.shown) else none
  | [.tup ds] => if (D.pl 60 (.tup ds) && (D.tup ds).py.showable && decide ((D.tup ds).py.shown.length ≤ sizeLine)) = true then per (.str (D.tup ds).py.shown) else none
  | [.int i] => if i.natAbs.log2 < 1920 then per (.str (toString i)) else none
  | _ => none
theorem cl_repr (hg : X.A.guards = some []) (hu : X.A.units + 65 < cLine) : CallR X (.builtin "repr") (rCl X.K dRepr) := by
  intro pins s σ H xs us Q I rv h -- ev
  obtain ⟨ca, st, as, r, sr, rx, e, g⟩ := id h
  have main : ∀ (d : D) (a : Addr), (D.pl 60 d && d.py.showable && decide (d.py.shown.length ≤ sizeLine)) = true → per (.str d.py.shown) = some r → RelX X.K H ca d (.ref a) → wpAny (model X.prog X.w) X.A (call (.builtin "repr") [.ref a]) (EP X pins σ Q) X.xe s := by
    intro d a hd er rd
    simp only [Bool.and_eq_true, decide_eq_true_eq] at hd
    obtain ⟨as, rds⟩ := readsX_of I hd.1.1 rd (u := .ref a) rfl
    have hdep := (D.pl_lay 60 d hd.1.1)
    cases er
    refine repr_of_reads' (h₀ := s.heap) rds hd.1.2 (PyData.noDict_hsm (PyData.hasDict_of_canLay d.py hdep.1)) hg (by omega) (fun _ _ e => e) (fun h' u tk hk => ?_) hd.2
    have I2 : Inv X pins σ H { s with heap := h', toks := tk } := I.kept hk
    exact ⟨.str d.py.shown, H, I2, ⟨u, rfl⟩, g.here sr rfl⟩
  unfold dRepr at e
  split at e
  · split at e
    · rename_i ds hl
      obtain ⟨v, r', rfl, q, rfl⟩ := rx
      obtain ⟨a, vs, rfl, q1, q2⟩ := id q
      obtain ⟨u, rfl, ru⟩ := rv.one -- ev
      cases ru
      exact main _ a hl e q
    · cases e
  · split at e
    · rename_i ds hl
      obtain ⟨v, r', rfl, q, rfl⟩ := rx
      obtain ⟨a, vs, rfl, q1, q2⟩ := id q
      obtain ⟨u, rfl, ru⟩ := rv.one -- ev
      cases ru
      exact main _ a hl e q
    · cases e
  · split at e
    · rename_i i hl
      cases e
      obtain ⟨v, r', rfl, q, rfl⟩ := rx
      cases (show v = .int i from q)
      exact SkE.call_repr_int pins s σ H _ us Q I rv ⟨i, rfl, hl, g.here sr rfl⟩
    · cases e
  · cases e
end
end Ev
set_option Elab.async false -- ev
set_option linter.all false -- ev
set_option maxRecDepth 100000 -- ev
set_option maxHeartbeats 2000000 -- ev
set_option autoImplicit false -- ev
/-! Defs and their calls. -/
namespace Ev
open PySem PySem.Spec PyProof.Rows L2 -- ev

/-- what is wanted of a call -/
def PostC (K : PySem.W.Frag) (fld : Str → List Str) (H : Hp) (ca : List Addr) (Q : VK) (E : XK) : R D → Prop
  | .ok d st => ∀ v ca' H', Stp ca ca' H H' → SR K st ca' H' → RelD K H' ca' d v → Q v H'
  | .exc c as st => ∀ cls dd ca' H', Stp ca ca' H H' → SR K st ca' H' → ExR K fld H' ca' c as cls dd → E cls dd H'
  | .bad => False
/-- a def keeps to F, with room for k more calls one within another -/
structure FnG (P : Program) (w : World) (K : PySem.W.Frag) (mg : Str → Option Value) (base : Heap) (fld : Str → List Str) (k : Nat) (f : Addr) (fd : FuncData) (ps : List Str) (F : List D → M D) : Prop where
  run : ∀ (A : Around) (outer : List Env) (s : Shared) (H : Hp) (args : Args) (us : List Value) (vs : List V) (Q : VK) (E : XK) (ds : List D) (st : Store) (ca : List Addr), Room k A → A.guards = some [] → Env0 P w K mg base A outer s H → BindsTo s fd args (ps.zip us) → Vals vs us →
    vs.length = ps.length → RelDs K H ca ds vs → SR K st ca H → PostC K fld H ca Q E (F ds st) → codeAny (model P w) A (.call (.ref f) args) (CR (L2.CX P w) outer P w H s Q E) s
theorem FnG.mono {P : Program} {w : World} {K : PySem.W.Frag} {mg : Str → Option Value} {base : Heap} {fld : Str → List Str} {j k : Nat} {f : Addr} {fd : FuncData} {ps : List Str} {F : List D → M D} (h : FnG P w K mg base fld j f fd ps F) (l : j ≤ k) : FnG P w K mg base fld k f fd ps F :=
  ⟨fun A outer s H args us vs Q E ds st ca hr => h.run A outer s H args us vs Q E ds st ca (hr.mono l)⟩
/-- a call's meaning -/
def sFn (F : List D → M D) (g : Env' → M (List D)) : Env' → M RV := fun ρ => M.bind (g ρ) fun as => M.bind (F as) fun d => M.pure (.per d)
section
variable {X : Cx} {fld : Str → List Str} {W : WX} {k : Nat} {f : Addr} {fd : FuncData} {ps : List Str} {F : List D → M D} {x : Str} {p pos : Pos} {e : Expr} {es : List Expr} {g : Env' → M (List D)}
theorem run_fnG {pins : List (Addr × Obj)} {σ : L2.St} {H : Hp} {s : Shared} {Q : VK} {us : List Value} {vs : List V} {ds : List D} {st : Store} {ca : List Addr} (G : FnG X.prog X.w X.K X.mg X.base fld k f fd ps F) (hr : Room k X.A) (hg : X.A.guards = some []) (hb : Binds X.K fd ps [])
    (tk : Takes X W) (I : L2.Inv X pins σ H s) (r : Vals vs us) (hl : vs.length = ps.length) (rd : RelDs X.K H ca ds vs) (sr : SR X.K st ca H)
    (h : Post X.K fld W σ H ca (fun d _ ca' H' => ∀ v, RelD X.K H' ca' d v → Q v H') (F ds st)) : wpAny (model X.prog X.w) X.A (call (.ref f) us) (EP X pins σ Q) X.xe s := by
  have hlu : (us ++ []).length = ps.length := by rw [List.append_nil, ← r.length]; exact hl
  have hbs := hb s us I.kIn hlu
  rw [List.append_nil] at hbs
  refine wpAny_call (codeAny_mono (G.run X.A X.stack s H ⟨us, []⟩ us vs Q (fun cls dd H' => W cls dd σ H') ds st ca hr hg I.env0 hbs r hl rd sr ?_) fun r s' hq => ?_)
  · cases hF : F ds st with
    | bad => rw [hF] at h; exact h
    | exc c as st1 => rw [hF] at h; exact h
    | ok d st1 => rw [hF] at h; exact fun v ca' H' t s q => h ca' H' t s v q
  · cases r with
    | error e => exact tk e s' (XE.of_call I (fun _ _ _ h => h) hq)
    | ok fl =>
      cases fl with
      | ret u => exact I.after hq -- ev
      | next => exact False.elim hq -- ev
      | brk => exact False.elim hq -- ev
      | cont => exact False.elim hq -- ev
theorem se_call (G : FnG X.prog X.w X.K X.mg X.base fld k f fd ps F) (hr : Room k X.A) (hgu : X.A.guards = some []) (hg : Gl X x) (hm : X.mg x = some (.ref f)) (hk : PySem.W.keepIn X.K (.ref f) = true) (hb : Binds X.K fd ps []) (tk : Takes X W)
    (ha : PA X (e :: es) (TAs X.K fld W g)) (hl : ∀ ρ st ds st', g ρ st = .ok ds st' → ds.length = ps.length) (hdb : (x == ("__debug__" : Str)) = false) (he : starEach (e :: es) X.env = (false, eval e X.env) :: starEach es X.env) (hpl : (backTo pos (starEach es X.env)).any (·.1) = false) :
    PE X (.Call (.Name x p) (e :: es) [] pos) (TN X.K fld W (sFn F g)) := by
  refine ⟨fun pins s σ H Q I h => ?_⟩ -- ev
  refine wpAny_Call_Name_kw (ld_glob I hg hm ?_ hdb) -- ev
  obtain ⟨ρ, st, ca, hen, hs, hp⟩ := h
  have hA := ha.run pos pins s σ H (fun vs H1 => ∃ ds st1 ca1, Stp ca ca1 H H1 ∧ vs.length = ps.length ∧ RelDs X.K H1 ca1 ds vs ∧ SR X.K st1 ca1 H1 ∧ Post X.K fld W σ H1 ca1 (fun r _ ca' H' => ∀ v, RelRV X.K H H' ca' r v → Q v H') (M.bind (F ds) (fun d => M.pure (.per d)) st1)) I (by
    refine ⟨ρ, st, ca, hen, hs, ?_⟩
    have hp := Post.bind hp
    cases hgr : g ρ st with
    | bad => rw [hgr] at hp; exact hp
    | exc c as st1 => rw [hgr] at hp; exact hp
    | ok ds st1 =>
      rw [hgr] at hp
      exact fun ca1 H1 t1 s1 vs hvs => ⟨ds, st1, ca1, t1, by rw [hvs.length]; exact hl _ _ _ _ hgr, hvs, s1, hp ca1 H1 t1 s1⟩)
  refine PySem.W.callWith_K (h₀ := X.base) I.ok.mod.kin hk (thn hA fun us s1 ⟨vs, H1, I1, r, ds, st1, ca1, t1, hlv, rd, s1', q⟩ => ⟨I1.kIn, ?_⟩) he hpl
  refine run_fnG G hr hgu hb tk I1 r hlv rd s1' ((Post.bind q).mono fun d st2 ca2 H2 t2 s2 q v hv => ?_)
  exact Post.now q s2 v hv
end

/-! ### a def -/
def semF (n : Nat) (body : SS) : List D → M D := fun ds st => match body (ds.map .val ++ List.replicate (n - ds.length) .un) st with
  | .nx _ st' => .ok .non st'
  | .rt d st' => .ok d st'
  | .exc c as _ st' => .exc c as st'
  | _ => .bad
/-- the context of a def's body -/
structure BodyX (P : Program) (w : World) (K : PySem.W.Frag) (mg : Str → Option Value) (base : Heap) (k : Nat) (N : List Str) (sc : Scope) (W : WX) (X : Cx) : Prop where
  prog : X.prog = P
  w : X.w = w
  K : X.K = K
  mg : X.mg = mg
  base : X.base = base
  N : X.N = N
  sc : X.env.scope = sc
  calm : X.calm = true
  fn : ∀ x, X.fn x = true
  room : Room k X.A
  gd : X.A.guards = some []
  tk : Takes X W
  po : PassesOwn (model X.prog X.w) X.A X.env X.xe
  stk : X.stack = X.env :: X.outer ∧ X.env.frame = some X.env.locals
section
variable {P : Program} {w : World} {K : PySem.W.Frag} {mg : Str → Option Value} {base : Heap} {fld : Str → List Str} {k : Nat} {f : Addr} {fd : FuncData} {x qual : Str} {params : Arguments} {body : List Stmt} {scope : Scope} {dvs : List V} {kws : List (Str × V)} {N ps : List Str} {F : SS}
theorem env_start {H : Hp} {ca : List Addr} : ∀ (n : Nat) (ds : List D) (vs : List V), RelDs K H ca ds vs → EnvR K H ca (ds.map .val ++ List.replicate (n - ds.length) .un) (vs.map some ++ List.replicate (n - vs.length) none) := by
  intro n ds vs r
  have hl := r.length
  have no : ∀ (i : Nat) (es : List D), (ds.map SV.val ++ List.replicate (n - ds.length) SV.un)[i]? ≠ some (.own es) := fun i es e => by
    by_cases hi : i < ds.length
    · rw [List.getElem?_append_left (by simpa using hi), List.getElem?_map, List.getElem?_eq_getElem hi] at e
      cases e
    · rw [List.getElem?_append_right (by simpa using Nat.le_of_not_lt hi)] at e
      have := List.mem_of_getElem? e
      rw [List.mem_replicate] at this
      cases this.2
  refine ⟨by simp; omega, fun i s e => ?_, fun i j ds' es a _ e1 _ _ => (no i ds' e1).elim⟩
  by_cases hi : i < ds.length
  · rw [List.getElem?_append_left (by simpa using hi), List.getElem?_map, List.getElem?_eq_getElem hi] at e
    cases e
    obtain ⟨v, hv, rv⟩ := r.get (List.getElem?_eq_getElem hi)
    exact ⟨some v, by rw [List.getElem?_append_left (by simp; omega), List.getElem?_map, hv]; rfl, v, rfl, rv⟩
  · rw [List.getElem?_append_right (by simpa using Nat.le_of_not_lt hi)] at e
    have hm := List.mem_of_getElem? e
    rw [List.mem_replicate] at hm
    cases hm.2
    have hlt : i < (vs.map some ++ List.replicate (n - vs.length) none).length := by
      have := (List.getElem?_eq_some_iff.mp e).1
      simp at this ⊢
      omega
    exact ⟨_, List.getElem?_eq_getElem hlt, trivial⟩
theorem fnG (FD : FunD K x qual params body scope dvs kws f fd) (S : FnScope N ps scope)
    (hbody : ∀ (X : Cx) (W : WX) (H0 : Hp) (ca0 : List Addr), BodyX P w K mg base k N scope W X → PSs X body (TSt K fld W H0 ca0 F)) : FnG P w K mg base fld (k + 1) f fd ps (semF N.length F) := by
  obtain ⟨oc, od, dV, kV, doc, pm, an, cdv, ct, osl, rfl, lk, hcd, _, _⟩ := FD.ex
  refine ⟨fun A outer s H args us vs Q E ds st ca hr hg e0 hb r hl rd sr hp => LamX.run_ofS lk hcd S hr e0 hb r hl fun hr2 => ⟨TSt K fld (fun cls dd _ H' => E cls dd H') H ca F, ?_, ?_⟩⟩
  · refine hbody _ _ _ _ ⟨rfl, rfl, rfl, rfl, rfl, rfl, rfl, rfl, fun _ => rfl, hr2, hg, ?_, ?_, ⟨rfl, rfl⟩⟩
    · exact takes_of rfl rfl rfl rfl
    · exact passes_of rfl
  · have hpl : ps.length ≤ N.length := by have := congrArg List.length S.pre; rw [List.length_take] at this; omega
    refine ⟨_, st, ca, ⟨env_start N.length ds vs rd, Stp.refl, fun i ds' a e1 _ => ?_⟩, sr, ?_⟩
    · have no : ∀ (i : Nat) (es : List D), (ds.map SV.val ++ List.replicate (N.length - ds.length) SV.un)[i]? ≠ some (.own es) := fun i es e => by
        by_cases hi : i < ds.length
        · rw [List.getElem?_append_left (by simpa using hi), List.getElem?_map, List.getElem?_eq_getElem hi] at e
          cases e
        · rw [List.getElem?_append_right (by simpa using Nat.le_of_not_lt hi)] at e
          have := List.mem_of_getElem? e
          rw [List.mem_replicate] at this
          cases this.2
      exact (no i ds' e1).elim
    · unfold semF at hp
      cases hF : F (ds.map .val ++ List.replicate (N.length - ds.length) .un) st with
      | nx ρ st1 => rw [hF] at hp; exact fun σ ca' H' _ ff s1 => hp .non ca' H' ff.stp s1 rfl
      | rt d st1 => rw [hF] at hp; exact fun v ca' H' t s1 rv => hp v ca' H' t s1 rv
      | bk ρ st1 => rw [hF] at hp; exact hp.elim
      | ct ρ st1 => rw [hF] at hp; exact hp.elim
      | bad => rw [hF] at hp; exact hp.elim
      | exc c as ρ st1 => rw [hF] at hp; exact fun cls dd σ ca' H' _ ff s1 x => hp cls dd ca' H' ff.stp s1 x
end
end Ev
set_option Elab.async false -- ev
set_option linter.all false -- ev
set_option maxRecDepth 100000 -- ev
set_option maxHeartbeats 2000000 -- ev
set_option autoImplicit false -- ev
namespace Ev
open PySem PySem.Spec PyProof.Rows L2 -- ev
def nst : Expr → Bool
  | .Starred .. => false
  | _ => true
theorem star_cons {e : Expr} {es : List Expr} {env : Env} (h : nst e = true) : starEach (e :: es) env = (false, eval e env) :: starEach es env := by
  cases e <;> first | rfl | cases h
theorem star_any {pos : Pos} {env : Env} : ∀ {es : List Expr}, es.all nst = true → (backTo pos (starEach es env)).any (·.1) = false
  | [], _ => rfl
  | e :: es, h => by
    rw [List.all_cons, Bool.and_eq_true] at h -- ev
    rw [star_cons h.1]
    show (false || (backTo pos (starEach es env)).any (·.1)) = false
    rw [star_any h.2]; rfl
def pix : Expr → Bool
  | .Slice .. => false
  | .Tuple .. => false
  | _ => true
theorem plain_ix {e : Expr} (h : pix e = true) : PlainIx e := by
  cases e <;> first | (intro o i; rfl) | cases h
def nlc : Expr → Bool
  | .ListComp .. => false
  | .SetComp .. => false
  | .DictComp .. => false
  | _ => true
theorem sw_no {e : Expr} {t : Option Expr} {l : Nat} {env : Env} (h : nlc e = true) : swapsWith e t l env = pure false := by
  cases e <;> first | rfl | cases h
theorem sws_no {e t : Expr} {l : Nat} {env : Env} (h : nlc e = true) : swapsWithSole [t] e l env = pure false := sw_no h
def ntp : Expr → Bool
  | .Tuple .. => false
  | _ => true
theorem sst_no {e t : Expr} {env : Env} (h : ntp e = true) : swappedStores [t] e env = pure none := by
  unfold swappedStores
  cases e <;> first | (cases t <;> rfl) | cases h
theorem sst_sub {e o i : Expr} {p : Pos} {env : Env} : swappedStores [.Subscript o i p] e env = pure none := by
  unfold swappedStores
  cases e <;> rfl
def nset : Expr → Bool
  | .Set .. => false
  | _ => true
theorem fold_no {e : Expr} {env : Env} (h : nset e = true) : ∀ x, foldedSetIterable e env x = pure x := by
  intro x
  cases e <;> first | rfl | cases h
def trb : Expr → Bool
  | .Name .. => true
  | .Call .. => true
  | .Subscript .. => true
  | .Constant .. => true
  | .BinOp .. => true
  | .IfExp .. => false
  | .List .. => true
  | .Tuple .. => true
  | .ListComp .. => true
  | _ => false
theorem tr_ok {e : Expr} {env : Env} (h : trb e = true) : ∀ whole, isTrue e env whole = (do let v ← whole; standAt e.pos; holding [v] (truthy v)) := by
  intro whole
  cases e <;> first | rfl | cases h
theorem sw_two {x y : Str} {px py pt pt2 : Pos} {kt k2} {a b : Expr} {env : Env} (hb : env.blockKind = .function) (hx : env.kindOf x = some .local) (hy : env.kindOf y = some .local) (hl : px.line = py.line) (hxy : x ≠ y) (na : nst a = true) (nb : nst b = true)
    (hf : (foldedForSure 8 a && foldedForSure 8 b) = false) (hc : (constantsAlone 8 a && constantsAlone 8 b) = false) : swappedStores [.Tuple [.Name x px, .Name y py] kt pt] (.Tuple [a, b] k2 pt2) env = pure (some [x, y]) := by
  have h1 : ([a, b].all (foldedForSure 8)) = false := by simpa using hf
  have h2 : ([a, b].all (constantsAlone 8)) = false := by simpa using hc
  have h3 : ∀ (e : Expr), nst e = true → (match e with | .Starred .. => true | _ => false) = false := fun e h => by cases e <;> first | rfl | cases h
  have q1 : (env.kindOf x == some NameKind.local) = true := by rw [hx]; rfl
  have q2 : (env.kindOf y == some NameKind.local) = true := by rw [hy]; rfl
  have q3 : (y == x) = false := by simpa using Ne.symm hxy
  have h4 : ([a, b].any fun | .Starred .. => true | _ => false) = false := by
    rw [List.any_cons, List.any_cons]
    have e1 := h3 a na
    have e2 := h3 b nb
    exact (congrArg (fun z => z || _) e1).trans (congrArg (fun z => false || (z || false)) e2)
  unfold swappedStores
  simp [hb, h1, h2, q1, q2, q3, hl, Expr.pos, List.eraseDups_cons, List.filterMap_cons]
  rw [if_neg (by
    intro z
    rcases z with z | z
    · exact Bool.false_ne_true ((h3 a na).symm.trans z)
    · exact Bool.false_ne_true ((h3 b nb).symm.trans z))]
  simp [hx, hy, List.eraseDups_cons, q3]
theorem sw_three {x y z : Str} {px py pz pt pt2 : Pos} {kt k2} {a b c : Expr} {env : Env} (hb : env.blockKind = .function) (hx : env.kindOf x = some .local) (hy : env.kindOf y = some .local) (hz : env.kindOf z = some .local) (hl : px.line = py.line) (hl2 : px.line = pz.line)
    (hxy : x ≠ y) (hxz : x ≠ z) (hyz : y ≠ z) (na : nst a = true) (nb : nst b = true) (nc : nst c = true)
    (hf : (foldedForSure 8 a && (foldedForSure 8 b && foldedForSure 8 c)) = false) (hc : (constantsAlone 8 a && (constantsAlone 8 b && constantsAlone 8 c)) = false) :
    swappedStores [.Tuple [.Name x px, .Name y py, .Name z pz] kt pt] (.Tuple [a, b, c] k2 pt2) env = pure (some [x, y, z]) := by
  have h1 : ([a, b, c].all (foldedForSure 8)) = false := by simpa using hf
  have h2 : ([a, b, c].all (constantsAlone 8)) = false := by simpa using hc
  have h3 : ∀ (e : Expr), nst e = true → (match e with | .Starred .. => true | _ => false) = false := fun e h => by cases e <;> first | rfl | cases h
  have q1 : (env.kindOf x == some NameKind.local) = true := by rw [hx]; rfl
  have q2 : (env.kindOf y == some NameKind.local) = true := by rw [hy]; rfl
  have q4 : (env.kindOf z == some NameKind.local) = true := by rw [hz]; rfl
  have q3 : (y == x) = false := by simpa using Ne.symm hxy
  have q5 : (z == x) = false := by simpa using Ne.symm hxz
  have q6 : (z == y) = false := by simpa using Ne.symm hyz
  have l2 : pz.line = py.line := hl2.symm.trans hl
  unfold swappedStores
  simp [hb, h1, h2, q1, q2, q3, q4, q5, q6, hl, l2, Expr.pos, List.eraseDups_cons, List.filterMap_cons]
  rw [if_neg (by
    intro z
    rcases z with z | z | z
    · exact Bool.false_ne_true ((h3 a na).symm.trans z)
    · exact Bool.false_ne_true ((h3 b nb).symm.trans z)
    · exact Bool.false_ne_true ((h3 c nc).symm.trans z))]
  simp [hx, hy, hz, List.eraseDups_cons, q3, q5, q6]
/-- constants alone: the tuple is stored as it is -/
theorem sw_const {ts vs : List Expr} {kt k2} {pt pt2 : Pos} {env : Env} (hf : vs.all (foldedForSure 8) = true) : swappedStores [.Tuple ts kt pt] (.Tuple vs k2 pt2) env = pure none := by
  unfold swappedStores
  simp only [hf]
  simp

theorem as_cons {e : Expr} {es : List Expr} {env : Env} (h : nst e = true) : (assignEach (e :: es) env).map (·.2) = assign e env :: (assignEach es env).map (·.2) := by
  cases e <;> first | rfl | cases h
theorem as_len {env : Env} : ∀ es : List Expr, (assignEach es env).length = es.length
  | [] => rfl
  | e :: es => by
    have ih := as_len (env := env) es
    cases e <;> exact congrArg Nat.succ ih
theorem as_find {env : Env} : ∀ es : List Expr, es.all nst = true → (assignEach es env).findIdx? (·.1) = none
  | [], _ => rfl
  | e :: es, h => by
    rw [List.all_cons, Bool.and_eq_true] at h -- ev
    have ih := as_find (env := env) es h.2
    have : ∃ t, assignEach (e :: es) env = (false, t) :: assignEach es env := by
      have h1 := h.1
      cases e <;> first | exact ⟨_, rfl⟩ | cases h1
    obtain ⟨t, et⟩ := this
    rw [et, List.findIdx?_cons]
    simp [ih]
theorem few1 {e : Expr} {env : Env} {cpos : Pos} (h : nst e = true) : ((backTo cpos (starEach [e] env)).all (fun x => !x.1) && (backToKw cpos (keywordEach [] env)).all (fun x => x.1.isSome)
      && decide ([e].length + ([] : List Keyword).length + (if ([] : List Keyword).isEmpty then 0 else 1) < 30)) = true := by
  rw [star_cons h]
  rfl
def atb : Expr → Bool
  | .Name .. => true
  | .Subscript .. => true
  | _ => false
theorem at_base {o : Expr} {name : Str} {env : Env} (h : atb o = true) : attributeBase o name env (eval o env) = eval o env := by
  cases o <;> first | rfl | cases h

/-! ### a dict of the module -/
structure KDf (K : PySem.W.Frag) (w : World) (p : Addr) (tbl : List (Str × D)) : Prop where
  ex : ∃ es n, L2.KDict K w p es n
  here : ∀ z d, tbl.lookup z = some d → ∃ v u, PySem.W.nsIn K p z = some (some u) ∧ L2.RelV v u ∧ ∀ H ca, RelD K H ca d v
  gone : ∀ z, tbl.lookup z = none → PySem.W.nsIn K p z = some none
def kdIn (tbl : List (Str × D)) (neg : Bool) : D → Option RV
  | .str z => yes ((tbl.lookup z).isSome != neg)
  | _ => none
def kdIx (tbl : List (Str × D)) : D → Option RV
  | .str z => (tbl.lookup z).bind per
  | _ => none
section
variable {X : Cx} {fld : Str → List Str} {W : WX} {e : Expr} {x : Str} {xp pos : Pos} {f : Env' → M D} {tbl : List (Str × D)} {p : Addr}
theorem KDf.some? {K : PySem.W.Frag} {w : World} (k : KDf K w p tbl) (z : Str) : ∃ r, PySem.W.nsIn K p z = some r ∧ r.isSome = (tbl.lookup z).isSome := by
  cases h : tbl.lookup z with
  | none => exact ⟨none, k.gone z h, rfl⟩
  | some d =>
    obtain ⟨v, u, e, _⟩ := k.here z d h
    exact ⟨some u, e, rfl⟩
theorem se_kdin (kd : KDf X.K X.w p tbl) (hg : Gl X x) (hm : X.mg x = some (.ref p)) (hd : (x == ("__debug__" : Str)) = false) (he : PE X e (TR X.K fld W f)) : PE X (.Compare e [.In] [.Name x xp] pos) (TN X.K fld W (sUn (kdIn tbl false) f)) := by
  obtain ⟨es, n, D0⟩ := kd.ex
  refine PE.imp (pe_cmpR (op_in_kd D0) he (pe_glob hg hm (v := .ref p) rfl hd) rfl) fun σ H Q ⟨ρ, st, ca, hen, hs, hp⟩ => ⟨ρ, st, ca, hen, hs, (Post.bind hp).mono fun d st1 ca1 H1 t1 s1 q v hv => ?_⟩
  obtain ⟨r, er, g⟩ := q.rdr t1
  cases d with
  | str z =>
    obtain ⟨r0, e0, e1⟩ := kd.some? z
    cases er
    refine ⟨z, r0, hv, rfl, e0, ?_⟩
    rw [e1]
    exact g.here s1 (by simp [RelD])
  | cell j =>
    unfold deref at er
    split at er <;> first | (split at er <;> cases er) | cases er
  | _ => cases er
theorem se_kdnin (kd : KDf X.K X.w p tbl) (hg : Gl X x) (hm : X.mg x = some (.ref p)) (hd : (x == ("__debug__" : Str)) = false) (he : PE X e (TR X.K fld W f)) : PE X (.Compare e [.NotIn] [.Name x xp] pos) (TN X.K fld W (sUn (kdIn tbl true) f)) := by
  obtain ⟨es, n, D0⟩ := kd.ex
  refine PE.imp (pe_cmpR (op_notIn_kd D0) he (pe_glob hg hm (v := .ref p) rfl hd) rfl) fun σ H Q ⟨ρ, st, ca, hen, hs, hp⟩ => ⟨ρ, st, ca, hen, hs, (Post.bind hp).mono fun d st1 ca1 H1 t1 s1 q v hv => ?_⟩
  obtain ⟨r, er, g⟩ := q.rdr t1
  cases d with
  | str z =>
    obtain ⟨r0, e0, e1⟩ := kd.some? z
    cases er
    refine ⟨z, r0, hv, rfl, e0, ?_⟩
    rw [e1]
    exact g.here s1 (by simp [RelD])
  | cell j =>
    unfold deref at er
    split at er <;> first | (split at er <;> cases er) | cases er
  | _ => cases er
theorem tn_kd {neg : Bool} {r : R2} (hr : r = fun x y H Q => ∃ (z : Str) (r : Option Value), x = .str z ∧ y = .ref p ∧ PySem.W.nsIn X.K p z = some r ∧ Q (.bl (r.isSome != neg)) H) (kd : KDf X.K X.w p tbl) :
    ∀ σ H Q, TN X.K fld W (sUn (kdIn tbl neg) f) σ H Q → tOp r (TR X.K fld W f) (tC (.ref p)) σ H Q := by
  subst hr
  intro σ H Q ⟨ρ, st, ca, hen, hs, hp⟩
  refine ⟨ρ, st, ca, hen, hs, (Post.bind hp).mono fun d st1 ca1 H1 t1 s1 q v hv => ?_⟩
  obtain ⟨r, er, g⟩ := q.rdr t1
  cases d with
  | str z =>
    obtain ⟨r0, e0, e1⟩ := kd.some? z
    cases er
    refine ⟨z, r0, hv, rfl, e0, ?_⟩
    rw [e1]
    exact g.here s1 rfl
  | cell j =>
    unfold deref at er
    split at er <;> first | (split at er <;> cases er) | cases er
  | _ => cases er
theorem st_kdin (kd : KDf X.K X.w p tbl) (hg : Gl X x) (hm : X.mg x = some (.ref p)) (hd : (x == ("__debug__" : Str)) = false) (he : PE X e (TR X.K fld W f)) : PT X (.Compare e [.In] [.Name x xp] pos) (TT' X.K fld W (sBoolT (sUn (kdIn tbl false) f))) := by
  obtain ⟨es, n, D0⟩ := kd.ex
  refine st_bool (pt_cmpR (op_in_kd D0) he (pe_glob hg hm (v := .ref p) rfl hd) rfl) (tn_kd (neg := false) ?_ kd)
  funext x y H Q
  simp
theorem st_kdnin (kd : KDf X.K X.w p tbl) (hg : Gl X x) (hm : X.mg x = some (.ref p)) (hd : (x == ("__debug__" : Str)) = false) (he : PE X e (TR X.K fld W f)) : PT X (.Compare e [.NotIn] [.Name x xp] pos) (TT' X.K fld W (sBoolT (sUn (kdIn tbl true) f))) := by
  obtain ⟨es, n, D0⟩ := kd.ex
  refine st_bool (pt_cmpR (op_notIn_kd D0) he (pe_glob hg hm (v := .ref p) rfl hd) rfl) (tn_kd (neg := true) ?_ kd)
  funext x y H Q
  simp
theorem se_kdix (kd : KDf X.K X.w p tbl) (hg : Gl X x) (hm : X.mg x = some (.ref p)) (hd : (x == ("__debug__" : Str)) = false) (he : PE X e (TR X.K fld W f)) (hs : PlainIx e) : PE X (.Subscript (.Name x xp) e pos) (TN X.K fld W (sUn (kdIx tbl) f)) := by
  obtain ⟨es, n, D0⟩ := kd.ex
  refine PE.imp (pe_ix ix_kdict (pe_glob hg hm (v := .ref p) rfl hd) he hs) fun σ H Q ⟨ρ, st, ca, hen, hs, hp⟩ => ⟨ρ, st, ca, hen, hs, (Post.bind hp).mono fun d st1 ca1 H1 t1 s1 q v hv => ?_⟩
  obtain ⟨r, er, g⟩ := q.rdr t1
  cases d with
  | str z =>
    cases hz : tbl.lookup z with
    | none =>
      have er : (tbl.lookup z).bind per = some r := er
      rw [hz] at er
      cases er
    | some dd =>
      have er : (tbl.lookup z).bind per = some r := er
      rw [hz] at er
      cases er
      obtain ⟨v0, u0, e0, rv, rd0⟩ := kd.here z dd hz
      exact ⟨p, z, v0, rfl, hv, ⟨es, n, u0, D0.at_, D0.lit, e0, rv⟩, g.here s1 (rd0 _ _)⟩
  | cell j =>
    unfold deref at er
    split at er <;> first | (split at er <;> cases er) | cases er
  | _ => cases er
end
end Ev
set_option Elab.async false -- ev
set_option linter.all false -- ev
set_option maxRecDepth 100000 -- ev
set_option maxHeartbeats 4000000 -- ev
set_option autoImplicit false -- ev
/-! Comprehensions of two clauses. -/
namespace Ev
open PySem PySem.Spec PyProof.Rows L2 -- ev
def sLcO (g : D → Env' → Option Env') (c : Env' → M Bool) (it1 : Env' → M (List D)) (g1 : D → Env' → Option Env') (c1 : Env' → M Bool) (el : Env' → M D) (vs1 : List Nat) (ρ : Env') : List D → List D → M (List D)
  | [], acc => M.pure acc
  | d :: ds, acc => match g d ρ with
    | none => M.bad
    | some ρ1 => M.bind (M.ne (c ρ1)) fun b => if b = true then M.bind (M.ne (it1 ρ1)) fun es => M.bind (sLcL g1 c1 el (wipeE ρ1 vs1) es acc) fun acc' => sLcO g c it1 g1 c1 el vs1 ρ ds acc' else sLcO g c it1 g1 c1 el vs1 ρ ds acc
def sLc2 (it : Env' → M (List D)) (g : D → Env' → Option Env') (c : Env' → M Bool) (it1 : Env' → M (List D)) (g1 : D → Env' → Option Env') (c1 : Env' → M Bool) (el : Env' → M D) (vs vs1 : List Nat) : Env' → M RV :=
  fun ρ => M.bind (it ρ) fun ds => M.bind (sLcO g c it1 g1 c1 el vs1 (wipeE ρ vs) ds []) fun acc => M.pure (.fr acc)
theorem wipe_sub (σ τ : L2.St) {vs1 vs : List Nat} (hsub : ∀ i ∈ vs1, i ∈ vs) (h : L2.wipe σ vs1 = L2.wipe τ vs1) : L2.wipe σ vs = L2.wipe τ vs := by
  have key : ∀ (ρ : L2.St) (ws : List Nat), (∀ i ∈ ws, i ∈ vs) → L2.wipe (L2.wipe ρ ws) vs = L2.wipe ρ vs := by
    intro ρ ws
    induction ws with
    | nil => intro _; rfl
    | cons w ws ih =>
      intro hw
      show L2.wipe ((L2.wipe ρ ws).set w none) vs = _
      rw [wipe_set _ _ _ _ (hw w (by simp)), ih fun i hi => hw i (List.mem_cons_of_mem _ hi)]
  rw [← key σ vs1 hsub, h, key τ vs1 hsub]
theorem M.bind_assoc {α β γ : Type} (m : M α) (f : α → M β) (g : β → M γ) : M.bind (M.bind m f) g = M.bind m (fun a => M.bind (f a) g) := by
  funext st
  unfold M.bind
  cases m st <;> rfl
/-- the heap without a place -/
def hide (H : Hp) (L : Addr) : Hp := fun b => if b = L then none else H b
section
variable {K : PySem.W.Frag} {H H1 : Hp} {ca ca1 : List Addr} {L : Addr} {ρ : Env'} {σ : L2.St}
theorem hide_same : hide H L L = none := if_pos rfl
theorem hide_ne {b : Addr} (h : b ≠ L) : hide H L b = H b := if_neg h
theorem hide_of {b : Addr} {o : HO} (h : hide H L b = some o) : H b = some o ∧ b ≠ L := by
  by_cases e : b = L
  · rw [e, hide_same] at h; cases h
  · exact ⟨by rw [hide_ne e] at h; exact h, e⟩
theorem Stp.hid : Stp ca ca (hide H L) H := ⟨⟨[], by simp, fun a h => nomatch h⟩, fun a o h _ => (hide_of h).1, fun a o h _ _ => (hide_of h).1, fun a h => by
  by_cases e : a = L
  · rw [e]; exact hide_same
  · rw [hide_ne e]; exact h⟩
theorem RelD.hid {vs : List V} (hl : H L = some (.lst vs)) : (∀ a o, H a = some o → Fix o → hide H L a = some o) := fun a o h f => by
  rw [hide_ne]
  · exact h
  · rintro rfl
    rw [hl] at h; cases h; exact f.elim
theorem EnvR.hid {vs : List V} (hl : H L = some (.lst vs)) (h : EnvR K H ca ρ σ) (ap : ∀ (j : Nat) (es : List D), ρ[j]? = some (.own es) → σ[j]? ≠ some (some (.ref L))) : EnvR K (hide H L) ca ρ σ := by
  refine ⟨h.len, fun i s e => ?_, h.sep⟩
  obtain ⟨o, e1, q⟩ := h.at_ i s e
  refine ⟨o, e1, ?_⟩
  cases s with
  | un => trivial
  | val d =>
    obtain ⟨v, e2, r⟩ := q
    exact ⟨v, e2, RelD.fixed (RelD.hid hl) (fun _ _ z => z) _ _ r⟩
  | own ds =>
    obtain ⟨a, vs2, e2, q1, n, r⟩ := q
    refine ⟨a, vs2, e2, ?_, n, RelDs.fixed (RelD.hid hl) (fun _ _ z => z) _ _ r⟩
    rw [hide_ne]
    · exact q1
    · rintro rfl
      exact ap i ds e (by rw [e1, e2])
theorem Stp.fxh {vs : List V} (hl : H L = some (.lst vs)) (t : Stp ca ca1 (hide H L) H1) : Fx H ca H1 ca1 := ⟨fun a o h f => t.fix a o (RelD.hid hl a o h f) f, fun _ _ => t.sub⟩
end
section
variable {X : Cx} {K : PySem.W.Frag} {fld : Str → List Str} {W : WX} {σ : L2.St} {H : Hp} {Q : VK}
theorem lc_tr2 {it it1 : Env' → M (List D)} {is is1 vs vs1 : List Nat} {g g1 : D → Env' → Option Env'} {c c1 : Env' → M Bool} {el : Env' → M D} (hsub : ∀ i ∈ is, i ∈ vs) (hsub1 : ∀ i ∈ is1, i ∈ vs1) (hvs : ∀ i ∈ vs1, i ∈ vs)
    (h : TN K fld W (sLc2 it g c it1 g1 c1 el vs vs1) σ H Q) : tLc2 (TWk K fld W it) (TGd K is g) (TT' K fld WF c) (TWk K fld WF it1) (TGd K is1 g1) (TT' K fld WF c1) (TS' K fld WF el) vs vs1 σ H Q := by
  obtain ⟨ρ, st, ca, he, hs, hp⟩ := h
  refine ⟨ρ, st, ca, he, hs, (Post.bind hp).mono fun ds st1 ca1 H1 t1 s1 q J wk => fun L hL => ?_⟩
  have q := Post.bind q
  have hn : L ∉ ca1 := s1.notnew hL
  have he1 := he.stp t1
  refine ⟨fun i m H' => m = ds.length - i ∧ i ≤ ds.length ∧ ∃ st' ca' acc ws, Stp ca1 ca' H1 H' ∧ SR K st' ca' H' ∧ H' L = some (.lst ws) ∧ L ∉ ca' ∧ RelDs K H' ca' acc ws ∧
    Post K fld W σ H1 ca1 (fun a st1 ca1 H1 => Post K fld W σ H1 ca1 (fun r _ ca' H' => ∀ v, RelRV K H H' ca' r v → Q v H') (M.pure (.fr a) st1)) (sLcO g c it1 g1 c1 el vs1 (wipeE ρ vs) (ds.drop i) acc st'),
    ⟨_, rfl, Nat.zero_le _, st1, ca1, [], [], Stp.laid hL, s1.laid hL, upd_same, hn, rfl, q⟩, ?_⟩
  rintro i m H' ⟨rfl, hle, st', ca', acc, ws, t, s, hl, nl, ra, q⟩
  obtain ⟨w1, w2, w3⟩ := wk H' ca' t.fx
  by_cases hlt : i < ds.length
  · have ed : ds.drop i = ds[i] :: ds.drop (i + 1) := (List.getElem_cons_drop hlt).symm
    rw [ed] at q
    refine .inr ⟨w1 i hlt, fun H2 => ∃ st' ca' acc ws, Stp ca1 ca' H1 H2 ∧ SR K st' ca' H2 ∧ H2 L = some (.lst ws) ∧ L ∉ ca' ∧ RelDs K H2 ca' acc ws ∧
      Post K fld W σ H1 ca1 (fun a st1 ca1 H1 => Post K fld W σ H1 ca1 (fun r _ ca' H' => ∀ v, RelRV K H H' ca' r v → Q v H') (M.pure (.fr a) st1)) (sLcO g c it1 g1 c1 el vs1 (wipeE ρ vs) (ds.drop (i + 1)) acc st'),
      fun H2 hx => ⟨ds.length - (i + 1), by omega, rfl, hlt, hx⟩, fun x H2 y => ?_⟩
    obtain ⟨d, hd, ly, rd⟩ := w3 i x H2 y hlt
    have e : ds[i] = d := by rw [List.getElem?_eq_getElem hlt] at hd; exact Option.some.inj hd
    rw [e] at q
    unfold sLcO at q
    have t2 : Stp ca' ca' H' H2 := ly.stp
    have s2 := ly.sr s
    have l2 := ly L _ hl
    have ra2 := ra.stp t2
    have tt := t.trans t2
    have he2 := (he1.stp tt).wipe vs
    cases hg : g d (wipeE ρ vs) with
    | none => rw [hg] at q; exact q.elim
    | some ρ1 =>
      rw [hg] at q
      dsimp only at q
      refine ⟨wipeE ρ vs, d, ca', ρ1, he2, rd, hg, fun σ1 b1 => ⟨(b1.wip vs hsub).trans (wipe_idem σ vs), ρ1, st', ca', b1.env, s2, ?_⟩⟩
      refine (Post.ne' (σ' := σ1) (H := H2) (ca := ca') q).mono fun b st3 ca3 H3 t3 s3 q4 => ?_
      have tt3 := tt.trans t3
      have l3 := t3.keep L _ l2 nl trivial
      have nl3 := t3.notin l2 nl
      have ra3 := ra2.stp t3
      cases b with
      | false => exact ⟨st3, ca3, acc, ws, tt3, s3, l3, nl3, ra3, q4⟩
      | true =>
        have en3 := b1.env.stp t3
        refine ⟨ρ1, st3, ca3, en3, s3, (Post.ne' (σ' := σ1) (H := H3) (ca := ca3) q4).mono fun es st4 ca4 H4 t4 s4 q5 J1 wk1 => ?_⟩
        have en4 := en3.stp t4
        have tt4 := tt3.trans t4
        have l4 := t4.keep L _ l3 nl3 trivial
        have nl4 := t4.notin l3 nl3
        have ra4 := ra3.stp t4
        have ap : ∀ (j : Nat) (fs : List D), ρ1[j]? = some (.own fs) → σ1[j]? ≠ some (some (.ref L)) := fun j fs e2 => by
          obtain ⟨o1, o2⟩ := b1.own j fs e2
          rw [o2]
          exact EnvR.apart (H' := H1) (he1.wipe vs) hL j fs o1
        have enH := en4.hid l4 ap
        refine ⟨fun j m1 H' => m1 = es.length - j ∧ j ≤ es.length ∧ ∃ st' ca' acc ws, Stp ca4 ca' (hide H4 L) H' ∧ Stp ca1 ca' H1 H' ∧ SR K st' ca' H' ∧ H' L = some (.lst ws) ∧ L ∉ ca' ∧ RelDs K H' ca' acc ws ∧
          Post K fld W σ H1 ca1 (fun a st1 ca1 H1 => Post K fld W σ H1 ca1 (fun r _ ca' H' => ∀ v, RelRV K H H' ca' r v → Q v H') (M.pure (.fr a) st1)) (M.bind (sLcL g1 c1 el (wipeE ρ1 vs1) (es.drop j) acc) (fun acc' => sLcO g c it1 g1 c1 el vs1 (wipeE ρ vs) (ds.drop (i + 1)) acc') st'),
          ⟨_, rfl, Nat.zero_le _, st4, ca4, acc, ws, Stp.hid, tt4, s4, l4, nl4, ra4, q5⟩, ?_⟩
        rintro j m1 H5 ⟨rfl, hle1, st5, ca5, acc5, ws5, tA, tB, s5, l5, nl5, ra5, q6⟩
        have fx5 := tA.fxh l4
        obtain ⟨u1, u2, u3⟩ := wk1 H5 ca5 fx5
        by_cases hlt1 : j < es.length
        · have ed1 : es.drop j = es[j] :: es.drop (j + 1) := (List.getElem_cons_drop hlt1).symm
          rw [ed1] at q6
          refine .inr ⟨u1 j hlt1, fun H' => ∃ st' ca' acc ws, Stp ca4 ca' (hide H4 L) H' ∧ Stp ca1 ca' H1 H' ∧ SR K st' ca' H' ∧ H' L = some (.lst ws) ∧ L ∉ ca' ∧ RelDs K H' ca' acc ws ∧
            Post K fld W σ H1 ca1 (fun a st1 ca1 H1 => Post K fld W σ H1 ca1 (fun r _ ca' H' => ∀ v, RelRV K H H' ca' r v → Q v H') (M.pure (.fr a) st1)) (M.bind (sLcL g1 c1 el (wipeE ρ1 vs1) (es.drop (j + 1)) acc) (fun acc' => sLcO g c it1 g1 c1 el vs1 (wipeE ρ vs) (ds.drop (i + 1)) acc') st'),
            fun H' hx => ⟨es.length - (j + 1), by omega, rfl, hlt1, hx⟩, fun x1 H6 y1 => ?_⟩
          obtain ⟨d1, hd1, ly1, rd1⟩ := u3 j x1 H6 y1 hlt1
          have e1 : es[j] = d1 := by rw [List.getElem?_eq_getElem hlt1] at hd1; exact Option.some.inj hd1
          rw [e1] at q6
          unfold sLcL at q6
          have t6 : Stp ca5 ca5 H5 H6 := ly1.stp
          have s6 := ly1.sr s5
          have l6 := ly1 L _ l5
          have ra6 := ra5.stp t6
          have tA6 := tA.trans t6
          have tB6 := tB.trans t6
          have en6 := (enH.stp tA6).wipe vs1
          cases hg1 : g1 d1 (wipeE ρ1 vs1) with
          | none => rw [hg1] at q6; exact q6.elim
          | some ρ2 =>
            rw [hg1] at q6
            dsimp only at q6
            rw [M.bind_assoc] at q6
            refine ⟨wipeE ρ1 vs1, d1, ca5, ρ2, en6, rd1, hg1, fun σ3 b3 => ⟨(b3.wip vs1 hsub1).trans (wipe_idem σ1 vs1), ρ2, st5, ca5, b3.env, s6, ?_⟩⟩
            refine (Post.ne' (σ' := σ3) (H := H6) (ca := ca5) q6).mono fun b7 st7 ca7 H7 t7 s7 q7 => ?_
            have l7 := t7.keep L _ l6 nl5 trivial
            have nl7 := t7.notin l6 nl5
            have ra7 := ra6.stp t7
            have tA7 := tA6.trans t7
            have tB7 := tB6.trans t7
            cases b7 with
            | false => exact ⟨st7, ca7, acc5, ws5, tA7, tB7, s7, l7, nl7, ra7, q7⟩
            | true =>
              have q7 := q7
              rw [if_pos rfl, M.bind_assoc] at q7
              refine ⟨ρ2, st7, ca7, b3.env.stp t7, s7, (Post.ne' (σ' := σ3) (H := H7) (ca := ca7) q7).mono fun z st8 ca8 H8 t8 s8 q8 v hv => ?_⟩
              have l8 := t8.keep L _ l7 nl7 trivial
              have nl8 := t8.notin l7 nl7
              have ra8 := ra7.stp t8
              split at q8
              · rename_i hz
                have fw := fix_wr (o := .lst (ws5 ++ [v])) l8
                exact ⟨ws5, l8, by rw [ra8.length]; exact hz, st8, ca8, acc5 ++ [z], ws5 ++ [v], (tA7.trans t8).wr hide_same, (tB7.trans t8).wr hL, s8.wr l8 nl8, upd_same, nl8, RelDs.fixed fw (fun _ _ z => z) _ _ (ra8.snoc hv), q8⟩
              · exact q8.elim
        · have ej : j = es.length := by omega
          subst ej
          rw [List.drop_length] at q6
          exact .inl ⟨u2, st5, ca5, acc5, ws5, tB, s5, l5, nl5, ra5, q6⟩
  · have e : i = ds.length := by omega
    subst e
    rw [List.drop_length] at q
    refine .inl ⟨w2, ?_⟩
    have q2 : Post K fld W σ H' ca' (fun r _ ca' H' => ∀ v, RelRV K H H' ca' r v → Q v H') (M.pure (.fr acc) st') := (show ∀ ca2 H2, Stp ca1 ca2 H1 H2 → SR K st' ca2 H2 → _ from q) ca' H' t s
    exact Post.now q2 s _ ⟨L, ws, rfl, hl, t1.dom L hL, nl, ra⟩
variable {elt tg iter tg1 iter1 : Expr} {ifs ifs1 : List Expr} {scope : Scope} {own : List (Str × Nat)} {pos : Pos} {is is1 vs1 : List Nat} {it it1 : Env' → M (List D)} {g g1 : D → Env' → Option Env'} {c c1 : Env' → M Bool} {el : Env' → M D}
theorem se_lc2 (hc : X.calm = true) (hN : X.N.Nodup) (hi : PI X tg iter (TWk X.K fld W it)) (ok : BlkOk X.N X.env.scope scope own) (hsub : ∀ i ∈ is, i ∈ own.map (·.2)) (hsub1 : ∀ i ∈ is1, i ∈ vs1) (hvs : ∀ i ∈ vs1, i ∈ own.map (·.2))
    (hg : ∀ s H C cl fp, PG (bX X scope s H C cl fp) tg (TGd X.K is g)) (ht : ∀ s H C cl fp, PTs (bX X scope s H C cl fp) ifs (TT' X.K fld WF c)) (hi1 : ∀ s H C cl fp, PI (bX X scope s H C cl fp) tg1 iter1 (TWk X.K fld WF it1))
    (hg1 : ∀ s H C cl fp, PG (bX X scope s H C cl fp) tg1 (TGd X.K is1 g1)) (ht1 : ∀ s H C cl fp, PTs (bX X scope s H C cl fp) ifs1 (TT' X.K fld WF c1)) (he : ∀ s H C cl fp, PE (bX X scope s H C cl fp) elt (TS' X.K fld WF el))
    (hs : ∀ x, foldedSetIterable iter X.env x = pure x) (hs1 : ∀ env x, foldedSetIterable iter1 env x = pure x) : PE X (.ListComp elt [⟨tg, iter, ifs, 0⟩, ⟨tg1, iter1, ifs1, 0⟩] scope pos) (TN X.K fld W (sLc2 it g c it1 g1 c1 el (own.map (·.2)) vs1)) :=
  PE.imp (pe_lc2 hc hN hi ok hvs hg ht hi1 hg1 ht1 he hs hs1) fun σ H Q h => lc_tr2 hsub hsub1 hvs h
end
end Ev
set_option Elab.async false -- ev
set_option linter.all false -- ev
set_option maxRecDepth 100000 -- ev
set_option maxHeartbeats 4000000 -- ev
set_option autoImplicit false -- ev
/-! sorted(set(..)) of a list of tuples of ints. -/
namespace Ev
open PySem PySem.Spec PyProof.Rows L2 -- ev
def tups? : List D → Option (List (List Int))
  | [] => some []
  | .tup ds :: r => (ints? ds).bind fun k => (tups? r).map (k :: ·)
  | _ :: _ => none
/-- each thing once -/
def onceT : List (List Int) → List (List Int)
  | [] => []
  | k :: r => if k ∈ r then onceT r else k :: onceT r
def insT (k : List Int) : List (List Int) → List (List Int)
  | [] => [k]
  | x :: r => if TS.code 100 k ≤ TS.code 100 x then k :: x :: r else x :: insT k r
def sortT : List (List Int) → List (List Int)
  | [] => []
  | k :: r => insT k (sortT r)
def tupOk (d : Nat) (k : List Int) : Bool := decide (k.length = d) && k.all fun m => decide (0 ≤ m) && decide (m < 100)
def dSortSet : D → Option RV
  | .lst ds => (tups? ds).bind fun ks => match ks with
    | [] => none
    | k :: _ => if decide (1 ≤ k.length) && decide (ks.length < 64) && ks.all (tupOk k.length) then some (.fr ((sortT (onceT ks)).map fun k => .tup (k.map .int))) else none
  | _ => none
/-! ### lists -/
theorem once_mem {x : List Int} : ∀ {l : List (List Int)}, x ∈ onceT l ↔ x ∈ l
  | [] => by simp [onceT]
  | k :: r => by
    unfold onceT
    split
    · rename_i h
      rw [once_mem, List.mem_cons]
      exact ⟨.inr, fun z => z.elim (fun e => e ▸ h) id⟩
    · rw [List.mem_cons, List.mem_cons, once_mem]
theorem once_nodup : ∀ l : List (List Int), (onceT l).Nodup
  | [] => by simp [onceT]
  | k :: r => by
    unfold onceT
    split
    · exact once_nodup r
    · rename_i h
      rw [List.nodup_cons]
      exact ⟨fun z => h (once_mem.mp z), once_nodup r⟩
theorem insT_perm (k : List Int) : ∀ l : List (List Int), (insT k l).Perm (k :: l)
  | [] => .refl _
  | x :: r => by
    unfold insT
    split
    · exact .refl _
    · exact ((insT_perm k r).cons x).trans (.swap _ _ _)
theorem sortT_perm : ∀ l : List (List Int), (sortT l).Perm l
  | [] => .refl _
  | k :: r => (insT_perm k _).trans ((sortT_perm r).cons k)
theorem insT_pw (k : List Int) : ∀ l : List (List Int), l.Pairwise (fun a b => TS.code 100 a ≤ TS.code 100 b) → (insT k l).Pairwise (fun a b => TS.code 100 a ≤ TS.code 100 b)
  | [], _ => by simp [insT]
  | x :: r, h => by
    rw [List.pairwise_cons] at h
    unfold insT
    split
    · rename_i hk
      rw [List.pairwise_cons, List.pairwise_cons]
      refine ⟨fun y hy => ?_, h⟩
      rcases List.mem_cons.mp hy with e | hy -- ev
      · rw [e]; exact hk
      · exact Int.le_trans hk (h.1 y hy)
    · rename_i hk
      rw [List.pairwise_cons]
      refine ⟨fun y hy => ?_, insT_pw k r h.2⟩
      rcases List.mem_cons.mp ((insT_perm k r).mem_iff.mp hy) with e | hy
      · rw [e]; omega
      · exact h.1 y hy
theorem sortT_pw : ∀ l : List (List Int), (sortT l).Pairwise (fun a b => TS.code 100 a ≤ TS.code 100 b)
  | [] => .nil
  | k :: r => insT_pw k _ (sortT_pw r)
theorem code_inj : ∀ (a b : List Int), a.length = b.length → TS.Bd 100 a → TS.Bd 100 b → TS.code 100 a = TS.code 100 b → a = b
  | [], [], _, _, _, _ => rfl -- ev
  | [], _ :: _, h, _, _, _ => by simp at h
  | _ :: _, [], h, _, _, _ => by simp at h
  | x :: a, y :: b, h, ha, hb, e => by
    have hl : a.length = b.length := by simpa using h
    rcases Int.lt_trichotomy x y with z | z | z
    · have := TS.code_lt hl ha.tail hb.tail z
      omega
    · subst z
      have e2 : x * 100 ^ a.length + TS.code 100 a = x * 100 ^ b.length + TS.code 100 b := e
      rw [hl] at e2
      rw [code_inj a b hl ha.tail hb.tail (by omega)]
    · have := TS.code_lt hl.symm hb.tail ha.tail z
      omega
theorem bd_of {d : Nat} {k : List Int} (h : tupOk d k = true) : k.length = d ∧ TS.Bd 100 k := by
  simp only [tupOk, Bool.and_eq_true, decide_eq_true_eq, List.all_eq_true] at h
  exact h
section
variable {K : PySem.W.Frag} {H : Hp} {ca : List Addr}
theorem tups_rel : ∀ {ds : List D} {vs : List V} {ks : List (List Int)}, RelDs K H ca ds vs → tups? ds = some ks → ∃ ps : List (Addr × List Int), vs = ps.map (fun p => V.ref p.1) ∧ ps.map (·.2) = ks ∧ ∀ p ∈ ps, SqT K H p.1 (p.2.map V.int)
  | [], _, _, h, e => by
    cases h
    cases e
    exact ⟨[], rfl, rfl, fun p hp => nomatch hp⟩
  | .tup ds :: r, _, _, h, e => by
    obtain ⟨v, t, rfl, ⟨a, ws, rfl, q, q2⟩, g⟩ := h
    unfold tups? at e
    obtain ⟨k, h1, h2⟩ := bk e
    cases h3 : tups? r with
    | none => rw [h3] at h2; cases h2
    | some js =>
      rw [h3] at h2
      cases h2
      obtain ⟨ps, e1, e2, e3⟩ := tups_rel g h3
      have := ints_vs q2 h1
      subst this
      refine ⟨(a, k) :: ps, by rw [e1]; rfl, by rw [← e2]; rfl, fun p hp => ?_⟩
      rcases List.mem_cons.mp hp with z | hp -- ev
      · rw [z]; exact q
      · exact e3 p hp
  | .non :: _, _, _, _, e => by cases e
  | .bl _ :: _, _, _, _, e => by cases e
  | .int _ :: _, _, _, _, e => by cases e
  | .str _ :: _, _, _, _, e => by cases e
  | .lst _ :: _, _, _, _, e => by cases e
  | .cell _ :: _, _, _, _, e => by cases e
  | .ty _ :: _, _, _, _, e => by cases e
theorem tups_back : ∀ (ps : List (Addr × List Int)), (∀ p ∈ ps, SqT K H p.1 (p.2.map V.int)) → RelDs K H ca ((ps.map (·.2)).map fun k => D.tup (k.map .int)) (ps.map fun p => V.ref p.1)
  | [], _ => rfl
  | p :: ps, h => by
    refine ⟨_, _, rfl, ⟨p.1, p.2.map V.int, rfl, h p (by simp), ?_⟩, tups_back ps fun q hq => h q (List.mem_cons_of_mem _ hq)⟩
    have : ∀ l : List Int, RelDs K H ca (l.map .int) (l.map V.int) := fun l => by
      induction l with
      | nil => rfl
      | cons i l ih => exact ⟨_, _, rfl, rfl, ih⟩
    exact this p.2
end
def sSortSet (f : Env' → M D) : Env' → M RV := sUn dSortSet f
section
variable {X : Cx} {fld : Str → List Str} {W : WX} {e : Expr} {p q pos pos1 : Pos} {f : Env' → M D}
theorem se_sortSet (hc : X.calm = true) (hu : X.A.units + 65 < cLine) (hg : Gl X "sorted") (hm : X.mg "sorted" = none) (hg2 : Gl X "set") (hm2 : X.mg "set" = none) (he : PE X e (TR X.K fld W f)) (na : starEach [e] X.env = (false, eval e X.env) :: starEach [] X.env)
    (nb : starEach [.Call (.Name "set" q) [e] [] pos1] X.env = (false, eval (.Call (.Name "set" q) [e] [] pos1) X.env) :: starEach [] X.env) : PE X (.Call (.Name "sorted" p) [.Call (.Name "set" q) [e] [] pos1] [] pos) (TN X.K fld W (sSortSet f)) := by
  have h1 := pe_callTy (cr_setOfT hc (by omega)) hg2 hm2 (by rfl) (pa_cons he pa_nil na) (by decide) (by decide) na rfl (pos := pos1) (p := q)
  have h2 := pe_callB (cr_sortedT hc) hg hm (by rfl) (pa_cons h1 pa_nil nb) (by decide) (by decide) nb rfl (pos := pos) (p := p)
  refine PE.imp h2 fun σ H Q ⟨ρ, st, ca, hen, hs, hp⟩ => ⟨ρ, st, ca, hen, hs, (Post.bind hp).mono fun d st1 ca1 H1 t1 s1 qq v hv => ?_⟩
  obtain ⟨r, er, g⟩ := qq.rdr t1
  have hx := hv.x s1
  unfold dSortSet at er
  split at er
  · rename_i ds hd
    rw [hd] at hx
    obtain ⟨a, vs, rfl, ql, rl⟩ := hx
    obtain ⟨ks, hk, er⟩ := bk er
    obtain ⟨ps, e1, e2, e3⟩ := tups_rel rl hk
    cases hks : ks with
    | nil => rw [hks] at er; cases er
    | cons k0 kr =>
      rw [hks] at er
      dsimp only at er
      split at er
      · rename_i hcond
        simp only [Bool.and_eq_true, decide_eq_true_eq, List.all_eq_true] at hcond
        obtain ⟨⟨hd1, h64⟩, hok⟩ := hcond
        rw [← hks] at er hok h64
        cases er
        have hlen : ps.length < 64 := by rw [← List.length_map (f := fun p : Addr × List Int => p.2), e2]; exact h64
        refine ⟨a, ps, rfl, by rw [← e1]; exact ql.sq, e3, hlen, fun b L hb hL1 hL2 => ?_⟩
        have tb := Stp.laid (ca := ca1) (o := SetTO X.prog X.w b L) hb
        have sqL : ∀ p ∈ L, SqT X.K (upd H1 b (SetTO X.prog X.w b L)) p.1 (p.2.map V.int) := fun p hp => SqT.fixed tb.fix (e3 p (hL1 p hp))
        refine ⟨b, L, k0.length, 100, rfl, upd_same, sqL, hd1, fun p hp => bd_of (hok p.2 ?_), fun L' c pm nd hfew pw hcn => ?_⟩
        · rw [← e2]; exact List.mem_map_of_mem (hL1 p hp)
        · have hc1 : H1 c = none := tb.dom c hcn
          have tc := Stp.laid (ca := ca1) (o := .lst (L'.map fun q => V.ref q.1)) hcn
          have memK : ∀ k : List Int, k ∈ L'.map (·.2) ↔ k ∈ ks := fun k => by
            rw [List.mem_map]
            constructor
            · rintro ⟨p, hp, rfl⟩
              rw [← e2]
              exact List.mem_map_of_mem (hL1 p (pm.mem_iff.mp hp))
            · intro hk'
              rw [← e2] at hk'
              obtain ⟨p, hp, rfl⟩ := List.mem_map.mp hk'
              obtain ⟨p2, hp2, e4⟩ := List.mem_map.mp (hL2 p hp)
              exact ⟨p2, pm.mem_iff.mpr hp2, e4⟩
          have okL : ∀ k ∈ L'.map (·.2), k.length = k0.length ∧ TS.Bd 100 k := fun k hk' => bd_of (hok k ((memK k).mp hk'))
          have eqL : L'.map (·.2) = sortT (onceT ks) := by
            have pm2 : (L'.map (·.2)).Perm (sortT (onceT ks)) := by
              refine (List.perm_ext_iff_of_nodup nd ((sortT_perm _).nodup_iff.mpr (once_nodup _))).mpr fun k => ?_
              rw [memK, (sortT_perm _).mem_iff, once_mem]
            refine pm2.eq_of_pairwise (le := fun a b => TS.code 100 a ≤ TS.code 100 b) (fun x y hx hy h1 h2 => ?_) (List.pairwise_map.mpr pw) (sortT_pw _)
            have hy' := pm2.mem_iff.mpr hy
            exact code_inj x y ((okL x hx).1.trans (okL y hy').1.symm) (okL x hx).2 (okL y hy').2 (Int.le_antisymm h1 h2)
          rw [← eqL] at g
          have t12 : Stp ca1 ca1 H1 (upd (upd H1 b (SetTO X.prog X.w b L)) c (.lst (L'.map fun q => V.ref q.1))) := tb.trans tc
          refine g _ _ t12 ((s1.laid hb).laid hcn) ⟨c, _, rfl, upd_same, hc1, s1.notnew hc1, tups_back L' fun p hp => SqT.fixed tc.fix (sqL p (pm.mem_iff.mp hp))⟩
      · cases er
  · cases er
end
end Ev
set_option Elab.async false -- ev
set_option linter.all false -- ev
set_option maxRecDepth 100000 -- ev
set_option maxHeartbeats 4000000 -- ev
set_option autoImplicit false -- ev
/-! zip of a list and a tuple; the sum of a tuple. -/
namespace Ev
open PySem PySem.Spec PyProof.Rows L2 -- ev
/-- things by turns of a and of b, in new pairs -/
def ItzB (k1 k2 : Bool) (K : PySem.W.Frag) (a b : Addr) : It :=
  ⟨fun i H => ∃ (xs ys : List V) (x y : V), SqB k1 K H a xs ∧ SqB k2 K H b ys ∧ xs[i]? = some x ∧ ys[i]? = some y,
    fun i H v H' => ∃ T x y, v = .ref T ∧ H T = none ∧ H' = upd H T (.tup [x, y]) ∧ (∀ xs, SqB k1 K H a xs → xs[i]? = some x) ∧ ∀ ys, SqB k2 K H b ys → ys[i]? = some y,
    fun i H => ∃ xs ys : List V, SqB k1 K H a xs ∧ SqB k2 K H b ys ∧ (xs.length = i ∨ ys.length = i) ∧ i ≤ xs.length ∧ i ≤ ys.length⟩
theorem IsB.at' {k : Bool} {h h' : Heap} {a : Addr} {its : Array Value} (t : IsB k h a its) (q : ∀ o, h.get? a = some o → h'.get? a = some o) : IsB k h' a its := by
  cases k with
  | true => exact Heap.IsList.at t q
  | false => exact Heap.IsTuple.at t q
theorem sep_of {z TI TO i1 i2 a b : Addr} (D : ZipApart z TI TO i1 i2 a b) : ZipSep2 z TI TO i1 i2 [i1, a] [i2, b] where
  TIz := D.TIz
  TOz := D.TOz
  TITO := D.TITO
  TIi1 := D.TIi1
  mem1 := by simp
  zf1 := by simp only [List.mem_cons, List.not_mem_nil, or_false, not_or]; exact ⟨Ne.symm D.i1z, Ne.symm D.l1z⟩
  Tf1 := by simp only [List.mem_cons, List.not_mem_nil, or_false, not_or]; exact ⟨D.TOi1, Ne.symm D.l1TO⟩
  TIi2 := D.TIi2
  mem2 := by simp
  zf2 := by simp only [List.mem_cons, List.not_mem_nil, or_false, not_or]; exact ⟨Ne.symm D.i2z, Ne.symm D.l2z⟩
  Tf2 := by simp only [List.mem_cons, List.not_mem_nil, or_false, not_or]; exact ⟨D.TOi2, Ne.symm D.l2TO⟩
  sep1_2 := by simp only [List.mem_cons, List.not_mem_nil, or_false, not_or]; exact ⟨D.i12, Ne.symm D.l2i1⟩
  sep2_1 := by simp only [List.mem_cons, List.not_mem_nil, or_false, not_or]; exact ⟨Ne.symm D.i12, Ne.symm D.l1i2⟩
theorem turn_zB {P : Program} {w : World} {K : PySem.W.Frag} {elts : List Expr} {kk : Nat} {tpos : Pos} (k1 k2 : Bool) {a b z TI TO i1 i2 : Addr} (D : ZipApart z TI TO i1 i2 a b) :
    Turn P w K (.Tuple elts kk tpos) (ItzB k1 k2 K a b) [z, TI, TO, i1, i2] z (fun i h => IsZip h z TI TO .none ∧ IsPair h TI (.ref i1) (.ref i2) ∧ (∃ x y, IsPair h TO x y) ∧ ItB k1 h i1 a i ∧ ItB k2 h i2 b i) where
  mem := by simp
  obj := fun i h now c cm => by
    obtain ⟨hzz, hti, ⟨x, y, hto⟩, hi1, hi2⟩ := now
    obtain ⟨o1, e1, _, vs1, d1⟩ := hi1.get
    obtain ⟨o2, e2, _, vs2, d2⟩ := hi2.get
    have eqs : c = z ∨ c = TI ∨ c = TO ∨ c = i1 ∨ c = i2 := by simpa using cm
    rcases eqs with q | q | q | q | q
    · subst q; exact ⟨_, hzz, fun v q => nomatch q⟩
    · subst q; exact ⟨_, hti, fun v q => nomatch q⟩
    · subst q; exact ⟨_, hto, fun v q => nomatch q⟩
    · exact ⟨o1, q ▸ e1, fun v q => by rw [d1] at q; cases q⟩
    · exact ⟨o2, q ▸ e2, fun v q => by rw [d2] at q; cases q⟩
  keep := fun i h h' now kp => by
    obtain ⟨hzz, hti, ⟨x, y, hto⟩, hi1, hi2⟩ := now
    exact ⟨kp z (by simp) _ hzz, kp TI (by simp) _ hti, ⟨x, y, kp TO (by simp) _ hto⟩, hi1.at' fun o q => kp i1 (by simp) o q, hi2.at' fun o q => kp i2 (by simp) o q⟩
  item := by
    intro X eP eW eK calm i pins s σ H E I fOk now gOk
    subst eP eW eK
    obtain ⟨hzz, hti, ⟨x0, y0, hto⟩, hi1, hi2⟩ := now
    obtain ⟨xs, ys, x, y, sqx, sqy, xat, yat⟩ := gOk
    obtain ⟨us, rel, px, lenx⟩ := Inv.seqB I sqx
    obtain ⟨ws, rel2, py, leny⟩ := Inv.seqB I sqy
    obtain ⟨u, uat, urel⟩ := rel.get xat
    obtain ⟨u2, uat2, urel2⟩ := rel2.get yat
    have zLt : z < s.heap.objs.size := Heap.lt_size hzz
    have l1 : i < us.toArray.size := by simpa using (List.getElem?_eq_some_iff.mp uat).1
    have l2 : i < ws.toArray.size := by simpa using (List.getElem?_eq_some_iff.mp uat2).1
    have hd : X.A.in1.handled = none := I.ok.hd calm
    refine wpAny_pyNext_zipD2_item (sep_of D) (drawsB (A := X.A.in1) hd k1 i1 a D.l1i1 us.toArray) (drawsB (A := X.A.in1) hd k2 i2 b D.l2i2 ws.toArray) hzz hti hto ⟨hi1, px⟩ ⟨hi2, py⟩ l1 l2 fun v1 v2 h' tk1 hv1 hv2 z1 TO1 st1 st2 pr hsz hk => ?_
    have ev1 : v1 = u := by
      have hv1 : us[i]? = some v1 := by simpa using hv1
      rw [uat] at hv1
      exact (Option.some.inj hv1).symm
    have ev2 : v2 = u2 := by
      have hv2 : ws[i]? = some v2 := by simpa using hv2
      rw [uat2] at hv2
      exact (Option.some.inj hv2).symm
    subst ev1 ev2
    refine ⟨_, rfl, wpAny_letOwnedTupleGo_zip (s := { s with heap := h', toks := tk1 }) z1 fun h2 z2 sb => ?_⟩
    have tupAt : h2.get? s.heap.objs.size = some { cls := .type "tuple", data := .seq #[v1, v2] } := (sb.2 _ (Nat.ne_of_gt zLt)).trans pr
    have fresh1 : ObjOk X.prog X.w (upd H s.heap.objs.size (.tup [x, y])) h2 s.heap.objs.size (.tup [x, y]) :=
      ⟨by show 2 ≤ sizeLine; decide, [v1, v2], .cons urel (.cons urel2 .nil), ⟨_, tupAt, rfl, _, rfl⟩⟩
    have J1 : Inv X pins σ (upd H s.heap.objs.size (.tup [x, y])) { s with heap := h2, toks := tk1 } :=
      I.turnedNew (ch := [z, TI, TO, i1, i2]) (fun c o bm q => (sb.2 c (fun e => bm (by simp [e]))).trans (hk c o (fun e => bm (by simp [e])) (fun e => bm (by simp [e])) (fun e => bm (by simp [e])) (fun e => bm (by simp [e])) q)) fOk (Nat.le_refl _) fresh1
    refine ⟨.ref s.heap.objs.size, _, J1, rfl, ⟨_, x, y, rfl, I.hok.fresh (Nat.le_refl _), rfl, fun l hl => by rw [Inv.seqB_inj I hl sqx]; exact xat, fun l hl => by rw [Inv.seqB_inj I hl sqy]; exact yat⟩, ⟨z2, ?_, ⟨v1, v2, ?_⟩, ?_, ?_⟩, fun c cm => ?_⟩
    · exact (sb.2 _ D.TIz).trans (hk _ _ D.TIz D.TITO D.TIi1 D.TIi2 hti)
    · exact (sb.2 _ D.TOz).trans TO1
    · exact st1.1.at' fun o q => (sb.2 _ D.i1z).trans q
    · exact st2.1.at' fun o q => (sb.2 _ D.i2z).trans q
    · have cLt : c < s.heap.objs.size := by
        obtain ⟨o1, e1, _⟩ := hi1.get
        obtain ⟨o2, e2, _⟩ := hi2.get
        have eqs : c = z ∨ c = TI ∨ c = TO ∨ c = i1 ∨ c = i2 := by simpa using cm
        rcases eqs with q | q | q | q | q
        · exact q ▸ zLt
        · exact q ▸ Heap.lt_size hti
        · exact q ▸ Heap.lt_size hto
        · exact q ▸ Heap.lt_size e1
        · exact q ▸ Heap.lt_size e2
      rw [upd_ne (Nat.ne_of_lt cLt)]
      exact (fOk c cm).1
  done := by
    intro X eP eW eK calm i pins s σ H E I fOk now gOk
    subst eP eW eK
    obtain ⟨hzz, hti, ⟨x0, y0, hto⟩, hi1, hi2⟩ := now
    obtain ⟨xs, ys, sqx, sqy, hend, le1, le2⟩ := gOk
    obtain ⟨us, rel, px, lenx⟩ := Inv.seqB I sqx
    obtain ⟨ws, rel2, py, leny⟩ := Inv.seqB I sqy
    have n1 := rel.length
    have n2 := rel2.length
    have hd : X.A.in1.handled = none := I.ok.hd calm
    exact wpAny_pyNext_zipD2_end (sep_of D) (drawsB (A := X.A.in1) hd k1 i1 a D.l1i1 us.toArray) (drawsB (A := X.A.in1) hd k2 i2 b D.l2i2 ws.toArray) hzz hti hto ⟨hi1, px⟩ ⟨hi2, py⟩ (by simp; omega) (by simp; omega) (by simp; omega) fun h' tk1 hk =>
      ⟨rfl, I.turnedL (ch := [z, TI, TO, i1, i2]) (fun c o bm q => hk c o (fun e => bm (by simp [e])) (fun e => bm (by simp [e])) (fun e => bm (by simp [e])) (fun e => bm (by simp [e])) q) fOk⟩
  self := fun A i s Q E now h => wpAny_pyIter_zip now.1 h
/-! ### it is made -/
abbrev zm1 (h : Heap) (p : Addr) : Heap := h.push { cls := .type "list_iterator", data := .fields #[.ref p, .int 0 0] }
abbrev zm2 (h : Heap) (p q : Addr) : Heap := (zm1 h p).push { cls := .type "tuple_iterator", data := .fields #[.ref q, .int 0 0] }
abbrev zm3 (h : Heap) (p q : Addr) : Heap := (zm2 h p q).push { cls := .type "tuple", data := .seq #[.ref h.objs.size, .ref (zm1 h p).objs.size] }
abbrev zm4 (h : Heap) (p q : Addr) : Heap := (zm3 h p q).push { cls := .type "tuple", data := .seq #[.none, .none] }
abbrev zm5 (h : Heap) (p q : Addr) : Heap := (zm4 h p q).push { cls := .type "zip", data := .fields #[.none, .bool false, .bool false, .ref (zm2 h p q).objs.size, .ref (zm3 h p q).objs.size] }
theorem meets_zm (p q : Addr) (xs ys : Array Value) :
    Meets (Builtin.«zip.__new__» ⟨[.type "zip", .ref p, .ref q], []⟩) (fun _ R s => s.heap.IsList p xs ∧ s.heap.IsTuple q ys ∧ R (.ok (.ret (.ref (zm4 s.heap p q).objs.size))) { s with heap := zm5 s.heap p q }) :=
  .of_wp fun prog w A R s hs => by
    obtain ⟨hp, gg, dd, tk, os⟩ := s; obtain ⟨hp1, hq1, fin⟩ := hs
    have hsub := sub_zip
    have hL1 : Heap.IsList (Shared.heap ⟨hp, gg, dd, tk, os⟩) p xs := hp1
    have hL2 : Heap.IsTuple (Shared.heap ⟨hp.push { cls := .type "list_iterator", data := .fields #[.ref p, .int 0 0] }, gg, dd, tk, os⟩) q ys := Heap.IsTuple.push hq1 _
    wp_walk using wpAny_pyIter_list hL1, wpAny_pyIter_tuple hL2
    exact ⟨_, rfl, fin⟩
section
variable {prog : Program} {w : World} {A : Around} {E : Value → Shared → Prop} {s : Shared} -- ev
theorem call_zm {p q : Addr} {xs ys : Array Value} {Q : Value → Shared → Prop} (hp : s.heap.IsList p xs) (hq : s.heap.IsTuple q ys)
    (h : ∀ h', IsZip h' (s.heap.objs.size + 4) (s.heap.objs.size + 2) (s.heap.objs.size + 3) .none → IsPair h' (s.heap.objs.size + 2) (.ref s.heap.objs.size) (.ref (s.heap.objs.size + 1)) → -- ev
      IsPair h' (s.heap.objs.size + 3) .none .none → h'.IsListIter s.heap.objs.size p 0 → h'.IsTupleIter (s.heap.objs.size + 1) q 0 → (∀ c o, s.heap.get? c = some o → h'.get? c = some o) → Q (.ref (s.heap.objs.size + 4)) { s with heap := h' }) :
    wpAny (model prog w) A (call (.type "zip") [.ref p, .ref q]) Q E s := by
  refine callType_new F.called_zip (by decide) (F.typeCall_zip_2 _ _) (F.newCall_zip_2 _ _) (fun obj => F.args_object_init_3 obj _ _) F.entry_zip_new (meets_zm p q xs ys) ⟨hp, hq, ?_⟩
  have n1 : (zm1 s.heap p).objs.size = s.heap.objs.size + 1 := Heap.size_push ..
  have n2 : (zm2 s.heap p q).objs.size = s.heap.objs.size + 2 := by rw [Heap.size_push, n1]
  have n3 : (zm3 s.heap p q).objs.size = s.heap.objs.size + 3 := by rw [Heap.size_push, n2]
  have n4 : (zm4 s.heap p q).objs.size = s.heap.objs.size + 4 := by rw [Heap.size_push, n3]
  have k5 : (zm5 s.heap p q).get? (zm4 s.heap p q).objs.size = some _ := Heap.get?_push_size _ rfl
  have k4 : (zm5 s.heap p q).get? (zm3 s.heap p q).objs.size = some _ := Heap.get?_push_of_some _ (Heap.get?_push_size _ rfl)
  have k3 : (zm5 s.heap p q).get? (zm2 s.heap p q).objs.size = some _ := Heap.get?_push_of_some _ (Heap.get?_push_of_some _ (Heap.get?_push_size _ rfl))
  have k2 : (zm5 s.heap p q).get? (zm1 s.heap p).objs.size = some _ := Heap.get?_push_of_some _ (Heap.get?_push_of_some _ (Heap.get?_push_of_some _ (Heap.get?_push_size _ rfl)))
  have k1 : (zm5 s.heap p q).get? s.heap.objs.size = some _ := Heap.get?_push_of_some _ (Heap.get?_push_of_some _ (Heap.get?_push_of_some _ (Heap.get?_push_of_some _ (Heap.get?_push_size _ rfl))))
  show _ ∧ _
  rw [n2, n3, n4] at k5
  rw [n1, n2] at k3
  rw [n3] at k4
  rw [n1] at k2
  rw [n4]
  exact ⟨⟨_, k5, rfl⟩, h _ k5 k3 k4 ⟨_, k1, rfl, rfl⟩ ⟨_, k2, rfl, rfl⟩ fun c o x => Heap.get?_push_of_some _ (Heap.get?_push_of_some _ (Heap.get?_push_of_some _ (Heap.get?_push_of_some _ (Heap.get?_push_of_some _ x))))⟩
end
section
variable {K : PySem.W.Frag} {H : Hp} {ca : List Addr} {a b : Addr} {ds es : List D}
theorem SqB.fixed {k : Bool} {vs : List V} {H1 : Hp} (f : ∀ a o, H a = some o → Fix o → H1 a = some o) (h : if k = true then FzL K H a vs else SqT K H a vs) : SqB k K H1 a vs := by
  unfold SqB
  cases k with
  | true => exact (FzL.fixed f h).sq
  | false => exact SqT.fixed f h
theorem wk_zB (k1 k2 : Bool) (h : ∀ H1 ca1, Fx H ca H1 ca1 → ∃ vs ws, SqB k1 K H1 a vs ∧ SqB k2 K H1 b ws ∧ RelDs K H1 ca1 ds vs ∧ RelDs K H1 ca1 es ws) : Wk K (ItzB k1 k2 K a b) (zipD ds es) H ca := by
  intro H1 ca1 fx
  obtain ⟨vs, ws, q1, q2, r1, r2⟩ := h H1 ca1 fx
  have e1 := r1.length
  have e2 := r2.length
  rw [zipD_length]
  refine ⟨fun i hi => ?_, ⟨vs, ws, q1, q2, by omega, by omega, by omega⟩, fun i x H2 hy hi => ?_⟩
  · exact ⟨vs, ws, _, _, q1, q2, List.getElem?_eq_getElem (by omega), List.getElem?_eq_getElem (by omega)⟩
  · obtain ⟨T, x, y, rfl, hT, rfl, hx, hyy⟩ := hy
    have t : Stp ca1 ca1 H1 (upd H1 T (.tup [x, y])) := Stp.laid hT
    obtain ⟨v, hv, rv⟩ := r1.get (List.getElem?_eq_getElem (show i < ds.length by omega))
    obtain ⟨u, hu, ru⟩ := r2.get (List.getElem?_eq_getElem (show i < es.length by omega))
    rw [hx vs q1] at hv
    rw [hyy ws q2] at hu
    cases hv
    cases hu
    exact ⟨_, zipD_get ds es i _ _ (List.getElem?_eq_getElem (show i < ds.length by omega)) (List.getElem?_eq_getElem (show i < es.length by omega)), Lay.upd hT, T, _, rfl, SqT.of upd_same, _, _, rfl, rv.stp t, _, _, rfl, ru.stp t, rfl⟩
end
/-- zip(list, tuple) -/
def itZipM (g : Env' → M (List D)) : Env' → M (List D) := fun ρ => M.bind (g ρ) fun as => match as with
  | [.lst ds, .lst es] => M.pure (zipD ds es)
  | [.tup ds, .tup es] => M.pure (zipD ds es)
  | [.lst ds, .tup es] => M.pure (zipD ds es)
  | _ => M.bad
section
variable {X : Cx} {fld : Str → List Str} {W : WX} {e e2 : Expr} {p pos tpos : Pos} {elts : List Expr} {kk : Nat}
def iZM (K : PySem.W.Frag) (ta : TA) : TI := fun σ H R => ta σ H fun vs H1 => ∃ a b xs ys, vs = [.ref a, .ref b] ∧ SqL K H1 a xs ∧ SqT K H1 b ys ∧ R (ItzB true false K a b) H1
theorem pi_zm {ta : TA} (hg : Gl X "zip") (hm : X.mg "zip" = none) (ha : PA X [e, e2] ta) (hs : starEach [e, e2] X.env = (false, eval e X.env) :: starEach [e2] X.env) (hpl : (backTo pos (starEach [e2] X.env)).any (·.1) = false) :
    PI X (.Tuple elts kk tpos) (.Call (.Name "zip" p) [e, e2] [] pos) (iZM X.K ta) := by
  refine ⟨fun pn s σ H R I hq => ?_⟩
  refine Call_ (ld_blt I hg hm PyProof.Rows.boot_zip (PyProof.Rows.callWith_type1 (thn (ha.run pos pn s σ H _ I hq) fun us s1 ⟨vs, H1, J1, r1, a, b, xs, ys, ex, sqx, sqy, q⟩ => ?_) hs hpl))
  subst ex
  cases r1 with
  | cons r rr =>
    cases rr with
    | cons r' rr =>
      cases rr
      cases r
      cases r'
      obtain ⟨its, rv, p1, _⟩ := J1.list sqx
      obtain ⟨its2, rv2, p2, _⟩ := J1.tuple sqy
      obtain ⟨o2, ho2, _⟩ := id p2 -- ev
      refine call_zm p1.isList (show s1.heap.IsTuple b its2.toArray from p2) fun h' hzz hti hto hi1 hi2 hk => wpAny_pyIter_zip hzz ?_
      have J2 : Inv X pn σ H1 { s1 with heap := h' } := J1.kept (t' := s1.toks) hk
      refine ⟨s1.heap.objs.size + 4, [s1.heap.objs.size + 4, s1.heap.objs.size + 2, s1.heap.objs.size + 3, s1.heap.objs.size, s1.heap.objs.size + 1], _, _, H1, rfl, J2, turn_zB true false (PySem.W.ktu_apart s1.heap.objs.size a b p1.lt (Heap.lt_size ho2)), ⟨hzz, hti, ⟨_, _, hto⟩, hi1, hi2⟩, fun c cm => ?_, q⟩
      have cLe : s1.heap.objs.size ≤ c := by
        simp only [List.mem_cons, List.not_mem_nil, or_false] at cm
        rcases cm with e' | e' | e' | e' | e' <;> (rw [e']; first | exact Nat.le_add_right _ _ | exact Nat.le_refl _)
      exact J1.fpOk cLe (J1.hok.fresh cLe)
theorem PI.or {X : Cx} {tg e : Expr} {t u : TI} (h : PI X tg e t) (g : PI X tg e u) : PI X tg e (fun σ H R => t σ H R ∨ u σ H R) := ⟨fun pins s σ H R I q => by
  rcases q with q | q
  · exact h.run pins s σ H R I q
  · exact g.run pins s σ H R I q⟩
theorem si_zipM {g : Env' → M (List D)} (hg : Gl X "zip") (hm : X.mg "zip" = none) (ha : PA X [e, e2] (TAs X.K fld W g)) (hs : starEach [e, e2] X.env = (false, eval e X.env) :: starEach [e2] X.env) (hpl : (backTo pos (starEach [e2] X.env)).any (·.1) = false) :
    PI X (.Tuple elts kk tpos) (.Call (.Name "zip" p) [e, e2] [] pos) (TWk X.K fld W (itZipM g)) := by
  refine PI.imp (PI.or (si_zip hg hm ha hs hpl) (pi_zm hg hm ha hs hpl)) fun σ H R ⟨ρ, st, ca, he, hs, hp⟩ => ?_
  have hb := Post.bind hp
  unfold itZipM M.bind at hp
  cases hr : g ρ st with
  | bad => rw [hr] at hp; exact hp.elim
  | exc c as st1 =>
    rw [hr] at hp
    refine .inl ⟨ρ, st, ca, he, hs, ?_⟩
    unfold itZip M.bind
    rw [hr]
    exact hp
  | ok as st1 =>
    rw [hr] at hp hb
    dsimp only at hp
    split at hp
    · refine .inl ⟨ρ, st, ca, he, hs, ?_⟩
      unfold itZip M.bind
      rw [hr]
      exact hp
    · refine .inl ⟨ρ, st, ca, he, hs, ?_⟩
      unfold itZip M.bind
      rw [hr]
      exact hp
    · rename_i ds es
      refine .inr ⟨ρ, st, ca, he, hs, ?_⟩
      rw [hr]
      refine fun ca1 H1 t1 s1 vs hv => ?_
      obtain ⟨v, r, rfl, ⟨a, xs, rfl, q1, r1⟩, w, r2, rfl, ⟨b, ys, rfl, q2, r2'⟩, rfl⟩ := hv
      have q : ∀ J, Wk X.K J (zipD ds es) H1 ca1 → R J H1 := (show ∀ ca' H', Stp ca ca' H H' → SR X.K st1 ca' H' → ∀ J, Wk X.K J (zipD ds es) H' ca' → R J H' from hp) ca1 H1 t1 s1
      exact ⟨a, b, xs, ys, rfl, q1.sq, q2, q _ (wk_zB true false fun H2 ca2 f => ⟨xs, ys, (FzL.fixed f.fix q1).sq, SqT.fixed f.fix q2, RelDs.fixed f.fix f.sub _ _ r1, RelDs.fixed f.fix f.sub _ _ r2'⟩)⟩
    · exact hp.elim
end
end Ev
set_option Elab.async false -- ev
set_option linter.all false -- ev
set_option maxRecDepth 100000 -- ev
set_option maxHeartbeats 4000000 -- ev
set_option autoImplicit false -- ev
/-! Calls of defs with keyword-only parameters: all left out, or all given in their order. -/
namespace Ev
open PySem PySem.Spec PyProof.Rows L2 -- ev
/-- what a call with the keywords ks binds behind n values -/
def BindsK (K : PySem.W.Frag) (fd : FuncData) (ps ks : List Str) (n : Nat) : Prop := ∀ (s : Shared) (us ws : List Value), K.In s.heap → us.length = n → ws.length = ks.length → BindsTo s fd ⟨us, ks.zip ws⟩ (ps.zip (us ++ ws))
def TKs (K : PySem.W.Frag) (fld : Str → List Str) (W : WX) (f : Env' → M (List D)) : TA := TAs K fld W f
section
variable {X : Cx} {fld : Str → List Str} {W : WX} {k n : Nat} {f : Addr} {fd : FuncData} {ps ks : List Str} {F : List D → M D} {x : Str} {p pos : Pos} {e : Expr} {es : List Expr} {g gk : Env' → M (List D)} {kws : List Keyword}
theorem run_fnB {pins : List (Addr × Obj)} {σ : L2.St} {H : Hp} {s : Shared} {Q : VK} {args : Args} {us : List Value} {vs : List V} {ds : List D} {st : Store} {ca : List Addr} (G : FnG X.prog X.w X.K X.mg X.base fld k f fd ps F) (hr : Room k X.A) (hg : X.A.guards = some []) (hb : BindsTo s fd args (ps.zip us))
    (tk : Takes X W) (I : L2.Inv X pins σ H s) (r : Vals vs us) (hl : vs.length = ps.length) (rd : RelDs X.K H ca ds vs) (sr : SR X.K st ca H)
    (h : Post X.K fld W σ H ca (fun d _ ca' H' => ∀ v, RelD X.K H' ca' d v → Q v H') (F ds st)) : wpAny (model X.prog X.w) X.A (call (.ref f) args.pos args.kw) (EP X pins σ Q) X.xe s := by
  refine wpAny_call (codeAny_mono (G.run X.A X.stack s H ⟨args.pos, args.kw⟩ us vs Q (fun cls dd H' => W cls dd σ H') ds st ca hr hg I.env0 hb r hl rd sr ?_) fun r s' hq => ?_)
  · cases hF : F ds st with
    | bad => rw [hF] at h; exact h
    | exc c as st1 => rw [hF] at h; exact h
    | ok d st1 => rw [hF] at h; exact fun v ca' H' t s q => h ca' H' t s v q
  · cases r with
    | error e => exact tk e s' (XE.of_call I (fun _ _ _ h => h) hq)
    | ok fl =>
      cases fl with
      | ret u => exact I.after hq -- ev
      | next => exact False.elim hq -- ev
      | brk => exact False.elim hq -- ev
      | cont => exact False.elim hq -- ev
/-- the call's meaning: dd the defaults -/
def sFnD (F : List D → M D) (dd : List D) (g : Env' → M (List D)) : Env' → M RV := fun ρ => M.bind (g ρ) fun as => M.bind (F (as ++ dd)) fun d => M.pure (.per d)
theorem se_callD {dd : List D} {dvs : List V} {dus : List Value} (G : FnG X.prog X.w X.K X.mg X.base fld k f fd ps F) (hr : Room k X.A) (hgu : X.A.guards = some []) (hg : Gl X x) (hm : X.mg x = some (.ref f)) (hk : PySem.W.keepIn X.K (.ref f) = true) (hb : Binds X.K fd ps dus) (hdv : Vals dvs dus) (hdd : ∀ H ca, RelDs X.K H ca dd dvs) (tk : Takes X W)
    (ha : PA X (e :: es) (TAs X.K fld W g)) (hl : ∀ ρ st ds st', g ρ st = .ok ds st' → ds.length + dd.length = ps.length) (hdb : (x == ("__debug__" : Str)) = false) (he : starEach (e :: es) X.env = (false, eval e X.env) :: starEach es X.env) (hpl : (backTo pos (starEach es X.env)).any (·.1) = false) :
    PE X (.Call (.Name x p) (e :: es) [] pos) (TN X.K fld W (sFnD F dd g)) := by
  refine ⟨fun pins s σ H Q I h => ?_⟩ -- ev
  refine wpAny_Call_Name_kw (ld_glob I hg hm ?_ hdb) -- ev
  obtain ⟨ρ, st, ca, hen, hs, hp⟩ := h
  have hA := ha.run pos pins s σ H (fun vs H1 => ∃ ds st1 ca1, Stp ca ca1 H H1 ∧ vs.length + dvs.length = ps.length ∧ RelDs X.K H1 ca1 ds vs ∧ SR X.K st1 ca1 H1 ∧ Post X.K fld W σ H1 ca1 (fun r _ ca' H' => ∀ v, RelRV X.K H H' ca' r v → Q v H') (M.bind (F (ds ++ dd)) (fun d => M.pure (.per d)) st1)) I (by
    refine ⟨ρ, st, ca, hen, hs, ?_⟩
    have hp := Post.bind hp
    cases hgr : g ρ st with
    | bad => rw [hgr] at hp; exact hp
    | exc c as st1 => rw [hgr] at hp; exact hp
    | ok ds st1 =>
      rw [hgr] at hp
      exact fun ca1 H1 t1 s1 vs hvs => ⟨ds, st1, ca1, t1, by rw [hvs.length, (hdd H ca).length]; exact hl _ _ _ _ hgr, hvs, s1, hp ca1 H1 t1 s1⟩)
  refine PySem.W.callWith_K (h₀ := X.base) I.ok.mod.kin hk (thn hA fun us s1 ⟨vs, H1, I1, r, ds, st1, ca1, t1, hlv, rd, s1', q⟩ => ⟨I1.kIn, ?_⟩) he hpl
  have hlu : (us ++ dus).length = ps.length := by rw [List.length_append, ← r.length, ← hdv.length]; exact hlv
  refine run_fnB (args := ⟨us, []⟩) (us := us ++ dus) (vs := vs ++ dvs) G hr hgu (hb s1 us I1.kIn hlu) tk I1 (r.append hdv) (by rw [List.length_append]; exact hlv) (rd.append (hdd H1 ca1)) s1' ((Post.bind q).mono fun d st2 ca2 H2 t2 s2 q v hv => ?_)
  exact Post.now q s2 v hv
/-! ### keywords -/
theorem sk_nil : PK X [] (TAs X.K fld W sNil) := ⟨fun pos pins s σ H Q I ⟨ρ, st, ca, he, hs, hp⟩ => pk_nil.run pos pins s σ H Q I (Post.now hp hs [] rfl)⟩
theorem sk_cons {nm : Option Str} {kpos : Pos} {h : Env' → M D} {g : Env' → M (List D)} (ha : PE X e (TS' X.K fld W h)) (hr : PK X kws (TAs X.K fld W g)) : PK X (⟨nm, e, kpos⟩ :: kws) (TAs X.K fld W (sCons h g)) := by
  refine ⟨fun pos pins s σ H Q I ⟨ρ, st, ca, he, hs, hp⟩ => (pk_cons ha hr).run pos pins s σ H Q I ⟨ρ, st, ca, he, hs, (Post.bind hp).mono fun d st1 ca1 H1 t1 s1 q v hv => ?_⟩⟩
  refine ⟨ρ, st1, ca1, he.stp t1, s1, (Post.bind q).mono fun ds st2 ca2 H2 t2 s2 q vs hvs => ?_⟩
  exact Post.now q s2 _ ⟨v, vs, rfl, hv.stp t2, hvs⟩
def sFnK (F : List D → M D) (g gk : Env' → M (List D)) : Env' → M RV := fun ρ => M.bind (g ρ) fun as => M.bind (gk ρ) fun bs => M.bind (F (as ++ bs)) fun d => M.pure (.per d)
theorem se_callK (G : FnG X.prog X.w X.K X.mg X.base fld k f fd ps F) (hr : Room k X.A) (hgu : X.A.guards = some []) (hg : Gl X x) (hm : X.mg x = some (.ref f)) (hk : PySem.W.keepIn X.K (.ref f) = true) (hb : BindsK X.K fd ps ks n) (tk : Takes X W)
    (ha : PA X (e :: es) (TAs X.K fld W g)) (hkw : PK X kws (TAs X.K fld W gk)) (hps : ps.length = n + ks.length) (hl : ∀ ρ st ds st', g ρ st = .ok ds st' → ds.length = n) (hlk : ∀ ρ st ds st', gk ρ st = .ok ds st' → ds.length = ks.length) (hall : (backToKw pos (keywordEach kws X.env)).all (·.1.isSome) = true) (hks : (backToKw pos (keywordEach kws X.env)).filterMap (·.1) = ks)
    (hdb : (x == ("__debug__" : Str)) = false) (he : starEach (e :: es) X.env = (false, eval e X.env) :: starEach es X.env) (hpl : ((backTo pos (starEach (e :: es) X.env)).any (·.1) || (backToKw pos (keywordEach kws X.env)).any (·.1.isNone)) = false) :
    PE X (.Call (.Name x p) (e :: es) kws pos) (TN X.K fld W (sFnK F g gk)) := by
  refine ⟨fun pins s σ H Q I h => ?_⟩ -- ev
  refine wpAny_Call_Name_kw (ld_glob I hg hm ?_ hdb) -- ev
  obtain ⟨ρ, st, ca, hen, hs, hp⟩ := h
  have hA := ha.run pos pins s σ H (fun vs H1 => TAs X.K fld W gk σ H1 (fun zs H2 => ∃ ds es st2 ca2, Stp ca ca2 H H2 ∧ vs.length = n ∧ zs.length = ks.length ∧ RelDs X.K H2 ca2 ds vs ∧ RelDs X.K H2 ca2 es zs ∧ SR X.K st2 ca2 H2 ∧
      Post X.K fld W σ H2 ca2 (fun r _ ca' H' => ∀ v, RelRV X.K H H' ca' r v → Q v H') (M.bind (F (ds ++ es)) (fun d => M.pure (.per d)) st2))) I (by
    refine ⟨ρ, st, ca, hen, hs, ?_⟩
    have hp := Post.bind hp
    cases hgr : g ρ st with
    | bad => rw [hgr] at hp; exact hp
    | exc c as st1 => rw [hgr] at hp; exact hp
    | ok ds st1 =>
      rw [hgr] at hp
      refine fun ca1 H1 t1 s1 vs hvs => ⟨ρ, st1, ca1, hen.stp t1, s1, ?_⟩
      have hp2 := Post.bind (hp ca1 H1 t1 s1)
      cases hgk : gk ρ st1 with
      | bad => rw [hgk] at hp2; exact hp2
      | exc c as st2 => rw [hgk] at hp2; exact hp2
      | ok es st2 =>
        rw [hgk] at hp2
        exact fun ca2 H2 t2 s2 zs hzs => ⟨ds, es, st2, ca2, t1.trans t2, by rw [hvs.length]; exact hl _ _ _ _ hgr, by rw [hzs.length]; exact hlk _ _ _ _ hgk, hvs.stp t2, hzs, s2, hp2 ca2 H2 t2 s2⟩)
  refine PySem.W.callWith_KW (h₀ := X.base) I.ok.mod.kin hk hall (thn hA fun us s1 ⟨vs, H1, I1, r, q⟩ => ?_) hpl he
  refine thn (hkw.run pos pins s1 σ H1 _ I1 q) fun ws s2 ⟨zs, H2, I2, rz, ds, es, st2, ca2, t2, l1, l2, rd, re, s2', q2⟩ => ⟨I2.kIn, ?_⟩
  rw [hks]
  refine run_fnB (args := ⟨us, ks.zip ws⟩) (us := us ++ ws) (vs := vs ++ zs) G hr hgu (hb s2 us ws I2.kIn (by rw [← r.length]; exact l1) (by rw [← rz.length]; exact l2)) tk I2 (r.append rz) (by rw [List.length_append, l1, l2, hps]) (rd.append re) s2' ((Post.bind q2).mono fun d st3 ca3 H3 t3 s3 q v hv => ?_)
  exact Post.now q s3 v hv
end
end Ev
set_option Elab.async false -- ev
set_option linter.all false -- ev
set_option maxRecDepth 100000 -- ev
set_option maxHeartbeats 4000000 -- ev
set_option autoImplicit false -- ev
/-! Own errors: their classes, raise. -/
namespace Ev
open PySem PySem.Spec PyProof.Rows L2 -- ev
def CXn : CXT := fun _ _ _ _ _ _ => False
theorem passn {X : Cx} {E : XK} : Passes CXn X E := fun _ _ _ _ _ _ _ h => h.elim
/-- what an error's __init__ does -/
def spI (K : PySem.W.Frag) (fs : List Str) : Sp := fun us H Q _ => ∃ (a C : Addr) (ws : List V), us = .ref a :: ws ∧ ws.length = fs.length ∧ OexC K C ∧ (∀ f ∈ fs, PySem.W.findIn K (.ref C) f = some none) ∧ H a = some (exo a C none) ∧
  ∀ (d : Addr) (kvs : List (Str × V)) (H' : Hp), H d = none → d ≠ a → (∀ (i : Nat) (f : Str) (v : V), fs[i]? = some f → ws[i]? = some v → kvs.lookup f = some v) → H' = upd (upd H d (exd d kvs)) a (exo a C (some d)) → Q .non H'
/-- self.f = f -/
def stoB (f : Str) : Stmt → Bool
  | .Assign [.Attribute (.Name z _) g _] (.Name h _) _ => decide (z = "self") && decide (g = f) && decide (h = f)
  | _ => false
theorem stoB_ok {f : Str} {s : Stmt} (h : stoB f s = true) : ∃ p1 p2 p3 p4, s = .Assign [.Attribute (.Name "self" p1) f p2] (.Name f p3) p4 := by
  unfold stoB at h
  split at h
  · simp only [Bool.and_eq_true, decide_eq_true_eq] at h -- ev
    obtain ⟨⟨h1, h2⟩, h3⟩ := h -- ev
    subst h1 h2 h3
    exact ⟨_, _, _, _, rfl⟩
  · cases h
def iniB (fs : List Str) (body : List Stmt) : Bool := match fs, body with
  | [f], [s] => stoB f s && !(f == ("__debug__" : Str)) && !(f == ("__classdict__" : Str)) && decide (f ≠ "self")
  | [f, g], [s, t] => stoB f s && stoB g t && (!(f == ("__debug__" : Str)) && !(f == ("__classdict__" : Str)) && (!(g == ("__debug__" : Str)) && !(g == ("__classdict__" : Str)) && (decide (f ≠ g) && (decide (f ≠ "self") && decide (g ≠ "self")))))
  | _, _ => false
section
variable {P : Program} {w : World} {K : PySem.W.Frag} {mg : Str → Option Value} {base : Heap} {qual : Str} {params : Arguments} {body : List Stmt} {scope : Scope} {fI : Addr} {fd : FuncData}
theorem up2 {H : Hp} {a d : Addr} {o u v : HO} (n : d ≠ a) : upd (upd (upd H d o) a u) d v = upd (upd H d v) a u := by
  funext b
  by_cases h1 : b = d
  · subst h1
    rw [upd_same, upd_ne n, upd_same]
  · rw [upd_ne h1]
    by_cases h2 : b = a
    · subst h2
      rw [upd_same, upd_same]
    · rw [upd_ne h2, upd_ne h1, upd_ne h2, upd_ne h1]
theorem ini_ok {fs : List Str} (FD : FunD K "__init__" qual params body scope [] [] fI fd) (S : FnScope ("self" :: fs) ("self" :: fs) scope) (hb : iniB fs body = true) : FnOk P w K mg base CXn 1 fI fd ("self" :: fs) (spI K fs) := by
  refine FunD.ok (k := 0) FD S (fun vs H Q E ⟨a, C, ws, e, hl, _⟩ => by rw [e]; exact congrArg Nat.succ hl) fun cdv A outer s H vs Q E hr ⟨a, C, ws, e, hl, T, hno, ha, q⟩ => ?_
  subst e
  have vis : ∀ x : Str, x ∈ (("self" : Str) :: fs) → Vis scope x := fun x hx => (S.par x hx).elim .inl fun h => .inr (.inl h)
  unfold iniB at hb
  split at hb
  · rename_i _ _ f s1 _
    simp only [Bool.and_eq_true, Bool.not_eq_true', decide_eq_true_eq] at hb
    obtain ⟨⟨⟨h1, h2⟩, h3⟩, h4⟩ := hb
    obtain ⟨p1, p2, p3, p4, rfl⟩ := stoB_ok h1
    match ws, hl with
    | [y], _ =>
      refine ⟨_, pss_cons (ps_ost (pe_var (i := 0) rfl (vis _ (by simp))) (pe_var (i := 1) rfl (vis _ (by simp)) h2 h3)) pss_nil, ?_⟩
      refine ⟨y, rfl, .ref a, rfl, a, C, rfl, T, hno f (by simp), .inl ⟨ha, fun dx n ne => ?_⟩⟩
      refine q dx [(f, y)] _ n ne (fun i g v e1 e2 => ?_) rfl
      cases i with
      | zero =>
        cases e1
        cases e2
        simp [List.lookup]
      | succ i => simp at e1
  · rename_i _ _ f g s1 s2 _
    simp only [Bool.and_eq_true, Bool.not_eq_true', decide_eq_true_eq] at hb
    obtain ⟨⟨h1, h1'⟩, ⟨h2, h3⟩, ⟨⟨h2', h3'⟩, h4, h5, h6⟩⟩ := hb
    obtain ⟨p1, p2, p3, p4, rfl⟩ := stoB_ok h1
    obtain ⟨r1, r2, r3, r4, rfl⟩ := stoB_ok h1'
    match ws, hl with
    | [y, z], _ =>
      refine ⟨_, pss_cons (ps_ost (pe_var (i := 0) rfl (vis _ (by simp))) (pe_var (i := 1) rfl (vis _ (by simp)) h2 h3)) (pss_cons (ps_ost (pe_var (i := 0) rfl (vis _ (by simp))) (pe_var (i := 2) rfl (vis _ (by simp)) h2' h3')) pss_nil), ?_⟩
      refine ⟨y, rfl, .ref a, rfl, a, C, rfl, T, hno f (by simp), .inl ⟨ha, fun dx n ne => ?_⟩⟩
      refine ⟨z, rfl, .ref a, rfl, a, C, rfl, T, hno g (by simp), .inr ⟨dx, [(f, y)], upd_same, by rw [upd_ne ne, upd_same], by simp, ?_⟩⟩
      refine q dx [(g, z), (f, y)] _ n ne (fun i k v e1 e2 => ?_) (up2 ne)
      match i with
      | 0 =>
        cases e1
        cases e2
        have : (f == g) = false := by simpa using h4
        simp [List.lookup, this]
      | 1 =>
        cases e1
        cases e2
        simp [List.lookup]
      | i + 2 => simp at e1
  · cases hb
end
/-- an own error class, its fields laid by its own __init__ -/
structure ErrC (P : Program) (w : World) (K : PySem.W.Frag) (mg : Str → Option Value) (base : Heap) (x : Str) (fs : List Str) : Prop where
  oex : OexC K (He.ga K x)
  no : ∀ f ∈ fs, PySem.W.findIn K (.ref (He.ga K x)) f = some none
  ini : ∃ fI fd, PySem.W.findIn K (.ref (He.ga K x)) "__init__" = some (some (.ref fI)) ∧ PySem.W.typeIn K (.ref fI) = some (.type "function") ∧ FnOk P w K mg base CXn 1 fI fd ("self" :: fs) (spI K fs) ∧ Binds K fd ("self" :: fs) []
  xf : XfC K (He.ga K x)
/-- raise x(..) -/
def sRaise (x : Str) (n : Nat) (g : Env' → M (List D)) : SS := thenS g fun as ρ st => if as.length = n then .exc x as ρ st else .bad
section
variable {X : Cx} {fld : Str → List Str} {W : WX} {x : Str} {fs : List Str} {p pos pos2 : Pos} {e : Expr} {es : List Expr} {g : Env' → M (List D)} {k : Nat}
theorem upd_del {H1 : Hp} {a d : Addr} {o u v : HO} (ha : H1 a = none) (n : d ≠ a) : upd (del (upd (upd (upd H1 a o) d u) a o) a) d v = upd H1 d v := by
  funext b
  by_cases h1 : b = d
  · subst h1
    rw [upd_same, upd_same]
  · rw [upd_ne h1, upd_ne h1]
    by_cases h2 : b = a
    · subst h2
      rw [del_same, ha]
    · rw [del_ne h2, upd_ne h2, upd_ne h1, upd_ne h2]
theorem upd_del2 {H1 : Hp} {a d : Addr} {o o2 u v : HO} (ha : H1 a = none) (n : d ≠ a) : upd (del (upd (upd (upd H1 a o) d u) a o2) a) d v = upd H1 d v := by
  funext b
  by_cases h1 : b = d
  · subst h1
    rw [upd_same, upd_same]
  · rw [upd_ne h1, upd_ne h1]
    by_cases h2 : b = a
    · subst h2
      rw [del_same, ha]
    · rw [del_ne h2, upd_ne h2, upd_ne h1, upd_ne h2]
theorem ss_raise {H0 : Hp} {ca0 : List Addr} (EC : ErrC X.prog X.w X.K X.mg X.base x fs) (hf : fld x = fs) (hs : fs.length ≤ 100) (hr : Room 2 X.A) (hc : X.calm = true) (tk : Takes X W) (hg : Gl X x) (hm : X.mg x = some (.ref (He.ga X.K x))) (ha : PA X (e :: es) (TAs X.K fld W g))
    (hdb : (x == ("__debug__" : Str)) = false) (he : starEach (e :: es) X.env = (false, eval e X.env) :: starEach es X.env) (hpl : (backTo pos (starEach es X.env)).any (·.1) = false) :
    PS X (.Raise (some (.Call (.Name x p) (e :: es) [] pos)) none pos2) (TSt X.K fld W H0 ca0 (sRaise x fs.length g)) := by
  obtain ⟨fI, fd, iC, tI, F1, hb⟩ := EC.ini
  refine PS.imp (ps_raise hc tk (pmk_oex (CX := CXn) (sp := spI X.K fs) EC.oex iC tI F1 hr hb .nil passn hg hm ha hdb he hpl)) fun D σ H ⟨ρ, st, ca, hfr, hsr, hp⟩ => ⟨ρ, st, ca, hfr.env, hsr, (PostS.then hfr hp).mono fun as st1 ca1 H1 t1 s1 q vs hvs => ?_⟩
  obtain ⟨q1, q2⟩ := q
  split at q2
  · rename_i hlen
    have hlv : vs.length = fs.length := by rw [hvs.length]; exact hlen
    refine ⟨by omega, fun a hna => ⟨a, He.ga X.K x, vs, by rw [List.append_nil], hlv, EC.oex, EC.no, upd_same, fun d kvs H' hd ne lk e' => ?_⟩⟩
    have hd1 : H1 d = none := by rw [upd_ne ne] at hd; exact hd
    refine ⟨rfl, d, kvs, by rw [e']; exact upd_same, by rw [e', upd_ne ne, upd_same], hd1, ?_⟩
    rw [e', upd_del2 hna ne]
    have t2 := Stp.laid (ca := ca1) (o := .xd kvs) hd1
    exact q2 _ _ σ ca1 _ t2.fx (q1.go t2) (s1.laid hd1) ⟨rfl, d, kvs, vs, rfl, upd_same, by rw [hf]; exact lk, by rw [hf]; exact hlv, hvs.stp t2⟩
  · exact q2.elim
end
end Ev
set_option Elab.async false -- ev
set_option linter.all false -- ev
set_option maxRecDepth 100000 -- ev
set_option maxHeartbeats 4000000 -- ev
set_option autoImplicit false -- ev
/-! try: several clauses, with names or without. -/
namespace Ev
open PySem PySem.Spec PyProof.Rows L2 -- ev
/-- one clause: the class, the slot of its name, what its suite does -/
structure Cla where
  c : Value
  i : Option Nat
  ts : Addr → Value → Option Addr → TS
def asE (i : Nat) (Dz : Ends) : Ends := { nx := fun σz Hz => Dz.nx (σz.set i none) Hz, rt := Dz.rt, bk := fun σz Hz => Dz.bk (σz.set i none) Hz, ct := fun σz Hz => Dz.ct (σz.set i none) Hz }
def claW (q : Cla) (Dz : Ends) (ax : Addr) (cl : Value) (dz : Option Addr) (σz : L2.St) (Hz : Hp) : Prop := match q.i with
  | none => q.ts ax cl dz Dz σz Hz
  | some i => q.ts ax cl dz (asE i Dz) (σz.set i (some (.ref ax))) Hz
def wCl (K : PySem.W.Frag) (Wo : WX) (Dz : Ends) : List Cla → WX
  | [] => Wo
  | q :: qs => fun cl dz σz Hz => ∃ bz, PySem.W.exmOne K cl q.c = some bz ∧ (bz = true → ∀ ax, Hz ax = none → claW q Dz ax cl dz σz Hz) ∧ (bz = false → wCl K Wo Dz qs cl dz σz Hz)
/-- the name of a clause -/
def AsOk (X : Cx) : Option Str → Option Nat → Prop
  | none, none => True
  | some n, some i => X.N.Nodup ∧ X.N[i]? = some n ∧ X.env.kindOf n = some .local
  | _, _ => False
inductive ClaOk (X : Cx) : List ExceptHandler → List Cla → Prop
  | nil : ClaOk X [] []
  | cons {xn : Str} {nm : Option Str} {q : Cla} {st0 : Stmt} {sts : List Stmt} {npz posz : Pos} {hdz : List ExceptHandler} {qs : List Cla} (hcz : Names X xn q.c) (has : AsOk X nm q.i)
      (hsz : ∀ (ax : Addr) (ox : Obj) (cl : Value) (dz : Option Addr) (pz : List (Addr × Obj)), Zc cl dz ox → (∃ vz, ox.data = .fields vz) → PSs (X.suite ax ((ax, ox) :: pz)) (st0 :: sts) (q.ts ax cl dz)) (rz : ClaOk X hdz qs) :
      ClaOk X (.ExceptHandler (some (.Name xn npz)) nm (st0 :: sts) posz :: hdz) (q :: qs)
section
variable {X : Cx} {bodyz : List Stmt} {hd0 : ExceptHandler} {hdz : List ExceptHandler} {qs : List Cla} {posz : Pos} {tz : WX → TS} {Wo : WX}
theorem ps_try_cl (hst : X.stack = X.env :: X.outer) (hfz : X.env.frame = some X.env.locals) (tkz : Takes X Wo)
    (hbz : ∀ (Wz : WX) (pz : List (Addr × Obj)) (xz : Value → Shared → Prop), Takes (X.tr pz xz) Wz → PassesOwn (model X.prog X.w) X.A X.env xz → PSs (X.tr pz xz) bodyz (tz Wz))
    (hhz : ClaOk X (hd0 :: hdz) qs) : PS X (.Try bodyz (hd0 :: hdz) [] [] posz) (fun Dz σz Hz => tz (wCl X.K Wo Dz qs) Dz σz Hz) := by
  refine ⟨fun pins sz σz Hz Dz Iz hz0 => ?_⟩
  have okz := Iz.ok
  have hfr : X.A.frames = some (X.env :: X.outer) := okz.frames.trans (congrArg some hst)
  refine wpAny_Try_except ?_ -- ev
  refine wpAny_mono ((hbz (wCl X.K Wo Dz qs) (X.pn ++ pins) (fun ez s1 => wpAny (model X.prog X.w) X.A (noteFrame ez X.env) (fun _ s2 => wpAny (model X.prog X.w) X.A (setFlight ez none) (fun _ s3 =>
    wpAny (model X.prog X.w) X.A (handleBy ez X.env (hd0 :: hdz)) (SP X pins Dz) X.xe s3) X.xe s2) X.xe s1) (fun uz sy xz => ?_) PassesOwn.looking).run [] sz σz Hz Dz (Iz.toTry _) hz0) (fun fz s1 hspz => ?_) (fun ez s1 hez => hez)
  · obtain ⟨ax, Bz, sJ, pz, σy, Hy, cl, dz, rfl, Jy, nbz, upz, skyz, naz, osz, agz, wz⟩ := xz
    have Jz : Inv X pins σy Hy sJ := Jy.ofTry okz
    have sky2 : Sky Bz (X.env :: X.outer) ax (Zc cl dz) X.env.locals sy.heap := hst ▸ skyz
    show wpAny (model X.prog X.w) X.A (noteFrame (.ref ax) X.env) _ _ _
    refine Sky.land Zc.steady hfr hfz sky2 fun h3 fl3 up3 => ?_
    have J3z : Inv X pins σy Hy { sy with heap := h3 } := Jz.landed nbz fl3.1 (upz.trans up3) osz agz
    obtain ⟨ox3, vz3, hox3, hzc3, hdt3⟩ := fl3.there
    have notIn : ∀ {hh : Heap} {o : Obj} {vz : Array Value}, hh.FunFrames Bz (X.env :: X.outer) → hh.get? ax = some o → o.data = .fields vz → ax ∉ frs (X.env :: X.outer) := fun {hh o vz} ffz ez ddz hmz => by
      obtain ⟨_, o2, e2, hnz⟩ := ffz.mem hmz
      rw [ez] at e2
      cases e2
      exact hnz _ ddz
    have nfz := notIn fl3.2.2.1 hox3 hdt3
    have nLz : ax ≠ X.env.locals := fun zz => nfz (List.mem_filterMap.mpr ⟨X.env, List.mem_cons_self, zz ▸ hfz⟩)
    have nFz : ax ∉ X.fs := fun hmz => by
      obtain ⟨ez, hez, qz⟩ := List.mem_filterMap.mp hmz
      exact nfz (List.mem_filterMap.mpr ⟨ez, List.mem_cons_of_mem _ hez, qz⟩)
    have S3z := J3z.suite hox3 hdt3 naz nLz nFz
    have goz : ∀ {hdy : List ExceptHandler} {qy : List Cla}, ClaOk X hdy qy → wCl X.K Wo Dz qy cl dz σy Hy →
        wpAny (model X.prog X.w) X.A (handleBy (.ref ax) X.env hdy) (SP X pins Dz) X.xe { sy with heap := h3 } := by
      intro hdy qy hky
      induction hky with
      | nil =>
        intro wz
        refine wpAny_handleBy_nil ?_ -- ev
        obtain ⟨k1, k2, k3, oz, vz, Tz, oTz, tz2, hgz, hz2, hdz2, h1z, hrz⟩ := id fl3
        unfold PySem.passOn
        refine wpAny_bind (wpAny_field hgz hdz2 h1z ?_)
        rw [if_neg (show ¬ ((Value.ref Tz == Value.none) = true) from by simp)]
        have finz : wpAny (model X.prog X.w) X.A (setFlight (.ref ax) X.env.frame) (fun _ s4 => wpAny (model X.prog X.w) X.A (throw (.ref ax) : Sem Flow) (SP X pins Dz) X.xe s4) X.xe { sy with heap := h3 } := by
          rw [hfz]
          refine HandSPX.setFlight_upZ fl3 fun h4 hh4 up4 => wpAny_throw (tkz _ _ ?_)
          exact ⟨ax, Bz, sJ, pins, σy, Hy, cl, dz, rfl, Jz, nbz, (upz.trans up3).trans up4, .inr (.inr (hst ▸ hh4)), naz, osz, agz, wz⟩
        first
          | exact wpAny_bind (wpAny_pure (wpAny_bind finz))
          | exact wpAny_bind finz
      | @cons xn nm q st0 sts npz posy hd2 q2 hcz has hsz rz ih =>
        intro wz
        obtain ⟨bz, hb1z, hyes, hno⟩ := wz
        refine wpAny_handleBy_cons (codeAny_handlers_test ?_) (by intro zz; cases zz)
        have LTz : PySem.W.Looks (model X.prog X.w) h3 (typeOf (.ref ax)) cl := fun A Q E s k qz => wpAny_typeOf_ref (k _ _ hox3) (by rw [hzc3.1]; exact qz)
        have LMz := PySem.W.exm_one (M := model X.prog X.w) (J3z.kIn) LTz hb1z
        have tst : ∀ {Q : Value → Shared → Prop} {E : Value → Shared → Prop}, Q q.c { sy with heap := h3 } → wpAny (model X.prog X.w) (X.A.mark (some (.ref ax))) (eval (.Name xn npz) X.env) Q E { sy with heap := h3 } := fun {Q E} qz => by
          obtain ⟨hgz, hdbz, hmz | ⟨hmz, hvz, hnz⟩⟩ := hcz
          · exact ld_glob (X := X.suite ax ((ax, ox3) :: (X.pn ++ pins))) S3z hgz hmz qz hdbz
          · exact ld_blt (X := X.suite ax ((ax, ox3) :: (X.pn ++ pins))) S3z hgz hmz hvz qz hnz hdbz
        refine tst (LMz.here ?_)
        cases bz with
        | false =>
          show wpAny _ X.A (handleBy (.ref ax) X.env hd2) _ _ _
          exact ih (hno rfl)
        | true =>
          have hy2 := hyes rfl ax naz
          unfold claW at hy2
          cases hqi : q.i with
          | none =>
            rw [hqi] at has hy2
            cases nm with
            | some n => exact has.elim
            | none =>
              refine codeAny_handlers_suite ?_ -- ev
              refine HandSPX.lands_againZ fl3 fun h4 fl4 up4 => ?_ -- ev
              have J4z : Inv X pins σy Hy { sy with heap := h4 } := Jz.landed nbz fl4.1 ((upz.trans up3).trans up4) osz agz
              obtain ⟨ox4, vz4, hox4, hzc4, hdt4⟩ := fl4.there
              have S4z := J4z.suite hox4 hdt4 naz nLz nFz
              refine wpAny_mono ((hsz ax ox4 cl dz (X.pn ++ pins) hzc4 ⟨_, hdt4⟩).run [] _ _ Hy _ S4z hy2) (fun fz s6 hspz => ?_) (fun _ _ zz => False.elim zz)
              cases fz with
              | next =>
                obtain ⟨σ6, H6, S6, q6⟩ := hspz
                exact ⟨σ6, H6, S6.unsuite okz, q6⟩
              | brk =>
                obtain ⟨σ6, H6, S6, q6⟩ := hspz
                exact ⟨σ6, H6, S6.unsuite okz, q6⟩
              | cont =>
                obtain ⟨σ6, H6, S6, q6⟩ := hspz
                exact ⟨σ6, H6, S6.unsuite okz, q6⟩
              | ret u =>
                obtain ⟨v6, σ6, H6, S6, r6, q6⟩ := hspz
                exact ⟨v6, σ6, H6, S6.unsuite okz, r6, q6⟩
          | some i =>
            rw [hqi] at has hy2
            cases nm with
            | none => exact has.elim
            | some n =>
              obtain ⟨hNz, hiz, hlz⟩ := has
              refine codeAny_handlers_suite_as ?_ -- ev
              refine HandSPX.lands_againZ fl3 fun h4 fl4 up4 => ?_ -- ev
              have J4z : Inv X pins σy Hy { sy with heap := h4 } := Jz.landed nbz fl4.1 ((upz.trans up3).trans up4) osz agz
              obtain ⟨ox4, vz4, hox4, hzc4, hdt4⟩ := fl4.there
              have S4z := J4z.suite hox4 hdt4 naz nLz nFz
              refine store_ok (X := X.suite ax ((ax, ox4) :: (X.pn ++ pins))) (v := .ref ax) S4z hNz hiz (.inl hlz) rfl (fun s5 S5z => ?_) (.inr hlz)
              refine wpAny_mono ((hsz ax ox4 cl dz (X.pn ++ pins) hzc4 ⟨_, hdt4⟩).run [] s5 _ Hy _ S5z hy2) (fun fz s6 hspz => ?_) (fun _ _ zz => False.elim zz)
              have endz : ∀ {σ6 : L2.St} {H6 : Hp} {Q : Shared → Prop}, Inv (X.suite ax ((ax, ox4) :: (X.pn ++ pins))) [] σ6 H6 s6 → (∀ s7, Inv X pins (σ6.set i none) H6 s7 → Q s7) →
                  wpAny (model X.prog X.w) X.A (do bindName X.env n .none; unbindBehindTheSuite X.env n posy) (fun _ s7 => Q s7) X.xe s6 := fun {σ6 H6 Q} S6 hqz => gone_ok (S6.unsuite okz) hNz hiz hlz hqz
              cases fz with
              | next =>
                obtain ⟨σ6, H6, S6, q6⟩ := hspz
                exact endz S6 fun s7 J7 => ⟨σ6.set i none, H6, J7, q6⟩
              | brk =>
                obtain ⟨σ6, H6, S6, q6⟩ := hspz
                exact endz S6 fun s7 J7 => ⟨σ6.set i none, H6, J7, q6⟩
              | cont =>
                obtain ⟨σ6, H6, S6, q6⟩ := hspz
                exact endz S6 fun s7 J7 => ⟨σ6.set i none, H6, J7, q6⟩
              | ret u =>
                obtain ⟨v6, σ6, H6, S6, r6, q6⟩ := hspz
                exact endz S6 fun s7 J7 => ⟨v6, σ6.set i none, H6, J7, r6, q6⟩
    exact goz hhz wz
  · cases fz with
    | next =>
      obtain ⟨σy, Hy, Jy, qz⟩ := hspz
      exact wpAny_execs_nil ⟨σy, Hy, Jy.ofTry okz, qz⟩
    | brk =>
      obtain ⟨σy, Hy, Jy, qz⟩ := hspz
      exact ⟨σy, Hy, Jy.ofTry okz, qz⟩
    | cont =>
      obtain ⟨σy, Hy, Jy, qz⟩ := hspz
      exact ⟨σy, Hy, Jy.ofTry okz, qz⟩
    | ret u =>
      obtain ⟨vy, σy, Hy, Jy, rz, qz⟩ := hspz
      exact ⟨vy, σy, Hy, Jy.ofTry okz, rz, qz⟩
end
end Ev
set_option Elab.async false -- ev
set_option linter.all false -- ev
set_option maxRecDepth 100000 -- ev
set_option maxHeartbeats 4000000 -- ev
set_option autoImplicit false -- ev
/-! What an except suite does; try as a whole. -/
namespace Ev
open PySem PySem.Spec PyProof.Rows L2 -- ev
/-- what is known in a suite: of the slots, the heap, the cells; it stays -/
structure Ph where
  p : L2.St → Hp → List Addr → Prop
  st : ∀ (σ : L2.St) (H H' : Hp) (ca ca' : List Addr), Stp ca ca' H H' → p σ H ca → p σ H' ca'
def TH (Φ : Ph) (K : PySem.W.Frag) (fld : Str → List Str) (W : WX) (f : Env' → M RV) : TE := fun σ H Q => ∃ ρ st ca, EnvR K H ca ρ σ ∧ SR K st ca H ∧ Φ.p σ H ca ∧ Post K fld W σ H ca (fun r _ ca' H' => ∀ v, RelRV K H H' ca' r v → Q v H') (f ρ st)
def THs (Φ : Ph) (K : PySem.W.Frag) (fld : Str → List Str) (W : WX) (f : Env' → M D) : TE := fun σ H Q => ∃ ρ st ca, EnvR K H ca ρ σ ∧ SR K st ca H ∧ Φ.p σ H ca ∧ Post K fld W σ H ca (fun r _ ca' H' => ∀ v, RelD K H' ca' r v → Q v H') (f ρ st)
def THr (Φ : Ph) (K : PySem.W.Frag) (fld : Str → List Str) (W : WX) (f : Env' → M D) : TE := fun σ H Q => ∃ ρ st ca, EnvR K H ca ρ σ ∧ SR K st ca H ∧ Φ.p σ H ca ∧ Post K fld W σ H ca (fun r _ ca' H' => ∀ v, RelR K H' ca' r v → Q v H') (f ρ st)
def THa (Φ : Ph) (K : PySem.W.Frag) (fld : Str → List Str) (W : WX) (f : Env' → M (List D)) : TA := fun σ H Q => ∃ ρ st ca, EnvR K H ca ρ σ ∧ SR K st ca H ∧ Φ.p σ H ca ∧ Post K fld W σ H ca (fun ds _ ca' H' => ∀ vs, RelDs K H' ca' ds vs → Q vs H') (f ρ st)
section
variable {Φ : Ph} {K : PySem.W.Frag} {fld : Str → List Str} {W : WX} {X : Cx} {e a b : Expr} {es : List Expr} {pos : Pos}
theorem TN.h {f : Env' → M RV} (h : PE X e (TN K fld W f)) : PE X e (TH Φ K fld W f) := PE.imp h fun σ H Q ⟨ρ, st, ca, he, hs, _, hp⟩ => ⟨ρ, st, ca, he, hs, hp⟩
theorem TH.rd {f : Env' → M RV} (h : PE X e (TH Φ K fld W f)) : PE X e (THr Φ K fld W (rd f)) := by
  refine PE.imp h fun σ H Q ⟨ρ, st, ca, he, hs, hφ, hp⟩ => ⟨ρ, st, ca, he, hs, hφ, (Post.bind hp).mono fun r st1 ca1 H1 t1 s1 q v hv => ?_⟩
  exact Post.now q s1 v hv.r
theorem TH.kp {f : Env' → M RV} (h : PE X e (TH Φ K fld W f)) : PE X e (THs Φ K fld W (kp f)) := by
  refine PE.imp (pe_frz h) fun σ H Q ⟨ρ, st, ca, he, hs, hφ, hp⟩ => ⟨ρ, st, ca, he, hs, hφ, ?_⟩
  have hp : Post K fld W σ H ca (fun r _ ca' H' => ∀ v, RelD K H' ca' r v → Q v H') (M.bind (f ρ) (fun r => match r with
    | .per d => M.pure d
    | .fr ds => M.pure (.lst ds)
    | .bor _ => M.bad) st) := hp
  unfold M.bind at hp
  cases hr : f ρ st with
  | bad => rw [hr] at hp; exact hp
  | exc c as st1 => rw [hr] at hp; exact hp
  | ok r st1 =>
    rw [hr] at hp
    intro ca1 H1 t1 s1 v hv
    cases r with
    | per d => exact .inl (hp ca1 H1 t1 s1 v hv)
    | bor ds => exact (show False from hp).elim
    | fr ds =>
      obtain ⟨a, vs, e1, q1, n0, n1, r1⟩ := hv
      refine .inr ⟨a, vs, e1, q1, fun o => ?_⟩
      refine (show ∀ ca' H', Stp ca ca' H H' → SR K st1 ca' H' → ∀ v, RelD K H' ca' (.lst ds) v → Q v H' from hp) ca1 _ (Stp.froze q1 n0 t1) (s1.froze q1 n1) v ⟨a, vs, e1, Or.inl ⟨o, upd_same⟩, RelDs.fixed (Stp.froze0 q1) (fun _ _ z => z) _ _ r1⟩
theorem sh_nil : PA X [] (THa Φ K fld W sNil) := PA.imp pa_nil fun σ H Q ⟨ρ, st, ca, he, hs, hφ, hp⟩ => Post.now hp hs [] rfl
theorem sh_cons {f : Env' → M D} {g : Env' → M (List D)} (ha : PE X e (THs Φ K fld W f)) (hr : PA X es (THa Φ K fld W g)) (hs : starEach (e :: es) X.env = (false, eval e X.env) :: starEach es X.env) : PA X (e :: es) (THa Φ K fld W (sCons f g)) := by
  refine PA.imp (pa_cons ha hr hs) fun σ H Q ⟨ρ, st, ca, he, hs, hφ, hp⟩ => ⟨ρ, st, ca, he, hs, hφ, (Post.bind hp).mono fun d st1 ca1 H1 t1 s1 q v hv => ?_⟩
  refine ⟨ρ, st1, ca1, he.stp t1, s1, Φ.st _ _ _ _ _ t1 hφ, (Post.bind q).mono fun ds st2 ca2 H2 t2 s2 q vs hvs => ?_⟩
  exact Post.now q s2 _ ⟨v, vs, rfl, hv.stp t2, hvs⟩
theorem sh_tup {k : Nat} {g : Env' → M (List D)} (h : PA X es (THa Φ K fld W g)) : PE X (.Tuple es k pos) (TH Φ K fld W (sTup g)) := by
  refine PE.imp (pe_tup h) fun σ H Q ⟨ρ, st, ca, he, hs, hφ, hp⟩ => ⟨ρ, st, ca, he, hs, hφ, (Post.bind hp).mono fun ds st1 ca1 H1 t1 s1 q vs hvs => ?_⟩
  split at q
  · rename_i hl
    refine ⟨by rw [hvs.length]; exact hl, fun p hp => ?_⟩
    have t2 := Stp.laid (ca := ca1) (o := .tup vs) hp
    exact q ca1 _ t2 (s1.laid hp) _ ⟨p, vs, rfl, SqT.of upd_same, hvs.stp t2⟩
  · exact q.elim
theorem sh_lst {g : Env' → M (List D)} (h : PA X es (THa Φ K fld W g)) : PE X (.List es pos) (TH Φ K fld W (sLst g)) := by
  refine PE.imp (pe_lst h) fun σ H Q ⟨ρ, st, ca, he, hs, hφ, hp⟩ => ⟨ρ, st, ca, he, hs, hφ, (Post.bind hp).mono fun ds st1 ca1 H1 t1 s1 q vs hvs => ?_⟩
  split at q
  · rename_i hl
    refine ⟨by rw [hvs.length]; exact hl, fun p hp => ?_⟩
    have t2 := Stp.laid (ca := ca1) (o := .lst vs) hp
    exact q ca1 _ t2 (s1.laid hp) _ ⟨p, vs, rfl, upd_same, t1.dom p hp, s1.notnew hp, hvs.stp t2⟩
  · exact q.elim
theorem sh_bin {o : Operator} {op : D → D → Option RV} {f g : Env' → M D} (ho : OpR X (binaryOp o) (rO K op)) (ha : PE X a (THr Φ K fld W f)) (hb : PE X b (THr Φ K fld W g)) : PE X (.BinOp a o b pos) (TH Φ K fld W (sBin op f g)) := by
  refine PE.imp (pe_op ho ha hb) fun σ H Q ⟨ρ, st, ca, he, hs, hφ, hp⟩ => ⟨ρ, st, ca, he, hs, hφ, (Post.bind hp).mono fun d st1 ca1 H1 t1 s1 q v hv => ?_⟩
  refine ⟨ρ, st1, ca1, he.stp t1, s1, Φ.st _ _ _ _ _ t1 hφ, (Post.bind q).mono fun d2 st2 ca2 H2 t2 s2 q w hw => ?_⟩
  obtain ⟨r, e, g⟩ := q.rdr (t1.trans t2)
  exact ⟨ca2, st2, _, _, r, s2, (hv.stp t2).x s2, hw.x s2, e, g⟩
end
/-! ### the caught error's fields -/
/-- the error caught: its place, its class, its fields' values; its name's slot -/
def ExP (K : PySem.W.Frag) (fld : Str → List Str) (i : Nat) (ax : Addr) (cl : Value) (dz : Option Addr) (c : Str) (as : List D) (σ : L2.St) (H : Hp) (ca : List Addr) : Prop := σ[i]? = some (some (.ref ax)) ∧ ExR K fld H ca c as cl dz ∧ ∀ d, dz = some d → d ∉ ca
theorem ExR.notin {K : PySem.W.Frag} {fld : Str → List Str} {H : Hp} {ca : List Addr} {st : Store} {c : Str} {as : List D} {cl : Value} {dz : Option Addr} (s : SR K st ca H) (h : ExR K fld H ca c as cl dz) : ∀ d, dz = some d → d ∉ ca := by
  obtain ⟨_, d, kvs, vs, e1, e2, _⟩ := h
  subst e1
  intro d' e hm
  cases e
  obtain ⟨k, hk⟩ := List.getElem?_of_mem hm
  have hl : k < st.length := by rw [← s.len]; exact (List.getElem?_eq_some_iff.mp hk).1
  have := s.cell k st[k] d (List.getElem?_eq_getElem hl) hk
  cases hc : st[k] with
  | lst ds => rw [hc] at this; obtain ⟨vs, e, _⟩ := this; rw [e2] at e; cases e
  | dct ds => rw [hc] at this; obtain ⟨vs, e, _⟩ := this; rw [e2] at e; cases e
theorem ExP.stp {K : PySem.W.Frag} {fld : Str → List Str} {i : Nat} {ax : Addr} {cl : Value} {dz : Option Addr} {c : Str} {as : List D} (σ : L2.St) (H H' : Hp) (ca ca' : List Addr) (t : Stp ca ca' H H') (h : ExP K fld i ax cl dz c as σ H ca) : ExP K fld i ax cl dz c as σ H' ca' := by
  obtain ⟨h1, ⟨h2, d, kvs, vs, e1, e2, lk, hl, r⟩, h3⟩ := h
  have hn := h3 d e1
  refine ⟨h1, ⟨h2, d, kvs, vs, e1, t.keep d _ e2 hn trivial, lk, hl, r.stp t⟩, fun d' e => ?_⟩
  rw [e1] at e
  cases e
  exact t.notin e2 hn
def phX (K : PySem.W.Frag) (fld : Str → List Str) (i : Nat) (ax : Addr) (cl : Value) (dz : Option Addr) (c : Str) (as : List D) : Ph := ⟨ExP K fld i ax cl dz c as, ExP.stp⟩
def ph0 : Ph := ⟨fun _ _ _ => True, fun _ _ _ _ _ _ _ => trivial⟩
/-- e.f -/
def ixOf (f : Str) : List Str → Option Nat
  | [] => none
  | g :: r => if g = f then some 0 else (ixOf f r).map (· + 1)
theorem ixOf_ok {f : Str} : ∀ {l : List Str} {j : Nat}, ixOf f l = some j → l[j]? = some f
  | [], _, h => by cases h
  | g :: r, j, h => by
    unfold ixOf at h
    split at h
    · rename_i e
      cases h
      rw [e]; rfl
    · cases h2 : ixOf f r with
      | none => rw [h2] at h; cases h
      | some k =>
        rw [h2] at h
        cases h
        simpa using ixOf_ok h2
def sFld (as : List D) (j : Nat) : Env' → M RV := fun _ => match as[j]? with
  | some d => M.pure (.per d)
  | none => M.bad
theorem sh_fld {X : Cx} {fld : Str → List Str} {W : WX} {i j : Nat} {ax : Addr} {ox : Obj} {cl : Value} {dz : Option Addr} {pz : List (Addr × Obj)} {c n f : Str} {fs : List Str} {as : List D} {p pos : Pos} (hfs : fld c = fs) (hj : fs[j]? = some f) (T : XfC X.K (He.ga X.K c)) (hno : PySem.W.findIn X.K (.ref (He.ga X.K c)) f = some none)
    (hz : Zc cl dz ox) (hd : ∃ vz, ox.data = .fields vz) (hN : X.N[i]? = some n) (hv : Vis X.env.scope n) (h1 : (n == ("__debug__" : Str)) = false) (h2 : (n == ("__classdict__" : Str)) = false) :
    PE (X.suite ax ((ax, ox) :: pz)) (.Attribute (.Name n p) f pos) (TH (phX X.K fld i ax cl dz c as) X.K fld W (sFld as j)) := by
  refine PE.imp (pe_xf T hno hz hd (pe_var (i := i) hN hv h1 h2)) fun σ H Q ⟨ρ, st, ca, he, hs, ⟨g1, ⟨g2, d, kvs, vs, e1, e2, lk, hl, r⟩, _⟩, hp⟩ => ?_
  unfold sFld at hp
  cases ha : as[j]? with
  | none => rw [ha] at hp; exact hp.elim
  | some dd =>
    rw [ha] at hp
    obtain ⟨v, hv, rv⟩ := r.get ha
    exact ⟨_, g1, rfl, g2, d, kvs, v, e1, e2, lk j f v (by rw [hfs]; exact hj) hv, Post.now hp hs v rv⟩
/-! ### statements of a suite -/
def THS (Φ : Ph) (K : PySem.W.Frag) (fld : Str → List Str) (H0 : Hp) (ca0 : List Addr) (f : SS) : TS := fun E σ H => ∃ ρ st ca, FrR K H0 ca0 H ca ρ σ ∧ SR K st ca H ∧ Φ.p σ H ca ∧ PostS K fld WF H0 ca0 H ca E (f ρ st)
section
variable {Φ : Ph} {X : Cx} {K : PySem.W.Frag} {fld : Str → List Str} {H0 : Hp} {ca0 : List Addr} {e : Expr} {pos : Pos}
theorem sh_one {s : Stmt} {f : SS} (h : PS X s (THS Φ K fld H0 ca0 f)) : PSs X [s] (THS Φ K fld H0 ca0 (sSeq f sSkip)) := by
  refine PSs.imp (pss_cons h pss_nil) fun D σ H ⟨ρ, st, ca, hf, hs, hφ, hp⟩ => ⟨ρ, st, ca, hf, hs, hφ, ?_⟩
  unfold sSeq at hp
  cases hr : f ρ st with
  | nx ρ' st' => rw [hr] at hp; exact fun σ' ca' H' x hf' hs' => hp σ' ca' H' x hf' hs'
  | _ => rw [hr] at hp; exact hp
theorem sh_ret {f : Env' → M RV} (he : PE X e (TH Φ K fld WF f)) : PS X (.Return (some e) pos) (THS Φ K fld H0 ca0 (sRet f)) := by
  refine PS.imp (ps_ret (TH.kp he)) fun D σ H ⟨ρ, st, ca, hf, hs, hφ, hp⟩ => ⟨ρ, st, ca, hf.env, hs, hφ, (PostS.then hf hp).mono fun d st1 ca1 H1 t1 s1 q v hv => ?_⟩
  exact q.2 v ca1 H1 q.1.stp s1 hv
theorem sh_set {i : Nat} {x : Str} {pos' : Pos} {f : Env' → M RV} (hN : X.N.Nodup) (hi : X.N[i]? = some x) (hx : Loc X.env.scope x) (he : PE X e (TH Φ K fld WF f)) (hw : swapsWith e (some (.Name x pos')) pos.line X.env = pure false)
    (hf : X.fn x = true ∨ X.env.scope.names.lookup x = some .local) : PS X (.Assign [.Name x pos'] e pos) (THS Φ K fld H0 ca0 (sSet i f)) := by
  refine PS.imp (ps_set hN hi hx he hw hf) fun D σ H ⟨ρ, st, ca, hf, hs, hφ, hp⟩ => ⟨ρ, st, ca, hf.env, hs, hφ, (PostS.then hf hp).mono fun r st1 ca1 H1 t1 s1 q v hv => ?_⟩
  obtain ⟨q1, q2⟩ := q
  cases hr : slot r with
  | none => rw [hr] at q2; exact q2.elim
  | some sv =>
    rw [hr] at q2
    exact q2 _ ca1 H1 Fx.refl (hf.store t1 hv hr) s1
theorem sh_pass : PS X (.Pass pos) (THS Φ K fld H0 ca0 sSkip) := PS.imp ps_pass fun D σ H ⟨ρ, st, ca, hf, hs, _, hp⟩ => hp σ ca H Fx.refl hf hs
theorem sh_cnt : PS X (.Continue pos) (THS Φ K fld H0 ca0 sCnt) := PS.imp ps_continue fun D σ H ⟨ρ, st, ca, hf, hs, _, hp⟩ => hp σ ca H Fx.refl hf hs
end
/-! ### try -/
/-- a clause's meaning: its class, the slot of its name, its suite -/
structure Hc where
  x : Str
  i : Option Nat
  m : Str → List D → SS
def unset (o : Option Nat) (ρ : Env') : Env' := match o with
  | none => ρ
  | some i => ρ.set i .un
/-- no error leaves a suite -/
def endS (o : Option Nat) : RS → RS
  | .nx ρ st => .nx (unset o ρ) st
  | .bk ρ st => .bk (unset o ρ) st
  | .ct ρ st => .ct (unset o ρ) st
  | .rt d st => .rt d st
  | _ => .bad
def inR (o : Option Nat) (ρ : Env') : Bool := match o with
  | none => true
  | some i => decide (i < ρ.length)
def sHs (sub : Str → Str → Option Bool) (c : Str) (as : List D) : List Hc → SS
  | [] => fun ρ st => .exc c as ρ st
  | h :: hs => match sub c h.x with
    | some true => fun ρ st => if inR h.i ρ = true then endS h.i (h.m c as (unset h.i ρ) st) else .bad
    | some false => sHs sub c as hs
    | none => fun _ _ => .bad
def sTry (sub : Str → Str → Option Bool) (body : SS) (hs : List Hc) : SS := fun ρ st => match body ρ st with
  | .exc c as ρ' st' => sHs sub c as hs ρ' st'
  | r => r
section
variable {K : PySem.W.Frag} {fld : Str → List Str} {W : WX} {H0 : Hp} {ca0 : List Addr} {σ : L2.St} {H : Hp} {ca : List Addr} {ρ : Env'} {st : Store}
theorem FrR.unset1 {i : Nat} {o : Option V} (h : FrR K H0 ca0 H ca ρ σ) : FrR K H0 ca0 H ca (ρ.set i .un) (σ.set i o) := by
  have own : ∀ (j : Nat) (ds : List D), (ρ.set i .un)[j]? = some (.own ds) → j ≠ i ∧ ρ[j]? = some (.own ds) := fun j ds e => by
    by_cases hj : i = j
    · subst hj
      rw [List.getElem?_set] at e
      simp at e
    · rw [List.getElem?_set_ne hj] at e
      exact ⟨fun z => hj z.symm, e⟩
  refine ⟨⟨by simp [h.env.len], fun j s e => ?_, fun j k ds es a hjk e1 e2 e3 => ?_⟩, h.stp, fun j ds a e1 e2 => ?_⟩
  · by_cases hj : i = j
    · subst hj
      by_cases hl : i < ρ.length
      · rw [List.getElem?_set_self hl] at e
        cases e
        exact ⟨o, List.getElem?_set_self (by rw [← h.env.len]; exact hl), trivial⟩
      · rw [List.getElem?_eq_none (by simp; omega)] at e
        cases e
    · rw [List.getElem?_set_ne hj] at e ⊢
      exact h.env.at_ j s e
  · obtain ⟨n1, f1⟩ := own j ds e1
    obtain ⟨n2, f2⟩ := own k es e2
    rw [List.getElem?_set_ne (Ne.symm n1)] at e3
    rw [List.getElem?_set_ne (Ne.symm n2)]
    exact h.env.sep j k ds es a hjk f1 f2 e3
  · obtain ⟨n1, f1⟩ := own j ds e1
    rw [List.getElem?_set_ne (Ne.symm n1)] at e2
    exact h.fresh j ds a f1 e2
/-- a suite's end -/
theorem PostS.asE {i : Nat} {E : Ends} {Hs : Hp} {cs : List Addr} {r : RS} (h : PostS K fld W H0 ca0 Hs cs E (endS (some i) r)) : PostS K fld WF H0 ca0 Hs cs (asE i E) r := by
  cases r with
  | nx ρ st => exact fun σ ca H x f s => h _ ca H x f.unset1 s
  | bk ρ st => exact fun σ ca H x f s => h _ ca H x f.unset1 s
  | ct ρ st => exact fun σ ca H x f s => h _ ca H x f.unset1 s
  | rt d st => exact h
  | exc c as ρ st => exact h.elim
  | bad => exact h
theorem PostS.as0 {E : Ends} {Hs : Hp} {cs : List Addr} {r : RS} (h : PostS K fld W H0 ca0 Hs cs E (endS none r)) : PostS K fld WF H0 ca0 Hs cs E r := by
  cases r with
  | exc c as ρ st => exact h.elim
  | _ => exact h
end
/-- a suite keeps to its meaning, whatever error of the class is caught -/
def SuOk (X : Cx) (fld : Str → List Str) (H0 : Hp) (ca0 : List Addr) (sub : Str → Str → Option Bool) (h : Hc) (ss : List Stmt) : Prop :=
  ∀ (ax : Addr) (ox : Obj) (cl : Value) (dz : Option Addr) (pz : List (Addr × Obj)), Zc cl dz ox → (∃ vz, ox.data = .fields vz) → ∀ (c : Str) (as : List D), sub c h.x = some true → cl = .ref (He.ga X.K c) → match h.i with
    | none => PSs (X.suite ax ((ax, ox) :: pz)) ss (THS ph0 X.K fld H0 ca0 (h.m c as))
    | some i => PSs (X.suite ax ((ax, ox) :: pz)) ss (THS (phX X.K fld i ax cl dz c as) X.K fld H0 ca0 (h.m c as))
/-- the suites' wishes, one clause behind the other -/
def suT (X : Cx) (fld : Str → List Str) (H0 : Hp) (ca0 : List Addr) (sub : Str → Str → Option Bool) (h : Hc) : Addr → Value → Option Addr → TS := fun ax cl dz E σ H => ∃ c as, sub c h.x = some true ∧ cl = .ref (He.ga X.K c) ∧ match h.i with
  | none => THS ph0 X.K fld H0 ca0 (h.m c as) E σ H
  | some i => THS (phX X.K fld i ax cl dz c as) X.K fld H0 ca0 (h.m c as) E σ H
theorem PSs.ex {X : Cx} {ss : List Stmt} {ι : Sort _} {t : ι → TS} (h : ∀ i, PSs X ss (t i)) : PSs X ss (fun D σ H => ∃ i, t i D σ H) := ⟨fun pins s σ H D I ⟨i, q⟩ => (h i).run pins s σ H D I q⟩
theorem suT_ok {X : Cx} {fld : Str → List Str} {H0 : Hp} {ca0 : List Addr} {sub : Str → Str → Option Bool} {h : Hc} {ss : List Stmt} (S : SuOk X fld H0 ca0 sub h ss) (ax : Addr) (ox : Obj) (cl : Value) (dz : Option Addr) (pz : List (Addr × Obj)) (hz : Zc cl dz ox) (hd : ∃ vz, ox.data = .fields vz) :
    PSs (X.suite ax ((ax, ox) :: pz)) ss (suT X fld H0 ca0 sub h ax cl dz) := by
  refine ⟨fun pins s σ H D I ⟨c, as, h1, h2, q⟩ => ?_⟩
  have := S ax ox cl dz pz hz hd c as h1 h2
  cases hi : h.i with
  | none => rw [hi] at this q; exact this.run pins s σ H D I q
  | some i => rw [hi] at this q; exact this.run pins s σ H D I q
/-- a clause of the text beside its meaning -/
inductive HcOk (X : Cx) (fld : Str → List Str) (H0 : Hp) (ca0 : List Addr) (sub : Str → Str → Option Bool) : List ExceptHandler → List Hc → Prop
  | nil : HcOk X fld H0 ca0 sub [] []
  | cons {h : Hc} {nm : Option Str} {st0 : Stmt} {sts : List Stmt} {np pos : Pos} {hds : List ExceptHandler} {hs : List Hc} (hc : Names X h.x (.ref (He.ga X.K h.x))) (ha : AsOk X nm h.i) (S : SuOk X fld H0 ca0 sub h (st0 :: sts)) (r : HcOk X fld H0 ca0 sub hds hs) :
      HcOk X fld H0 ca0 sub (.ExceptHandler (some (.Name h.x np)) nm (st0 :: sts) pos :: hds) (h :: hs)
section
variable {X : Cx} {fld : Str → List Str} {W : WX} {H0 : Hp} {ca0 : List Addr} {sub : Str → Str → Option Bool}
def toCla (X : Cx) (fld : Str → List Str) (H0 : Hp) (ca0 : List Addr) (sub : Str → Str → Option Bool) (h : Hc) : Cla := ⟨.ref (He.ga X.K h.x), h.i, suT X fld H0 ca0 sub h⟩
theorem HcOk.cla {hds : List ExceptHandler} {hs : List Hc} (h : HcOk X fld H0 ca0 sub hds hs) : ClaOk X hds (hs.map (toCla X fld H0 ca0 sub)) := by
  induction h with
  | nil => exact .nil
  | cons hc ha S r ih => exact .cons hc ha (fun ax ox cl dz pz hz hd => suT_ok S ax ox cl dz pz hz hd) ih
theorem wCl_of (hx : ∀ x y b, sub x y = some b → PySem.W.exmOne X.K (.ref (He.ga X.K x)) (.ref (He.ga X.K y)) = some b) {E : Ends} {Hs : Hp} {cs : List Addr} {c : Str} {as : List D} {cl : Value} {dz : Option Addr} {σ : L2.St} {H : Hp} {ca : List Addr} {ρ : Env'} {st : Store} :
    ∀ {hs : List Hc}, Fx Hs cs H ca → FrR X.K H0 ca0 H ca ρ σ → SR X.K st ca H → ExR X.K fld H ca c as cl dz → PostS X.K fld W H0 ca0 Hs cs E (sHs sub c as hs ρ st) → wCl X.K W E (hs.map (toCla X fld H0 ca0 sub)) cl dz σ H
  | [], x, hf, hs, ex, q => q cl dz σ ca H x hf hs ex
  | h :: hs, x, hf, hsr, ex, q => by
    have ecl := ex.1
    unfold sHs at q
    cases hb : sub c h.x with
    | none => rw [hb] at q; exact q.elim
    | some b =>
      rw [hb] at q
      refine ⟨b, by rw [ecl]; exact hx _ _ _ hb, fun e ax na => ?_, fun e => ?_⟩
      · subst e
        show claW (toCla X fld H0 ca0 sub h) E ax cl dz σ H
        unfold claW toCla
        dsimp only at q ⊢
        split at q
        · rename_i hin
          cases hi : h.i with
          | none =>
            rw [hi] at q
            refine ⟨c, as, hb, ecl, ?_⟩
            rw [hi]
            exact ⟨ρ, st, ca, hf, hsr, trivial, PostS.mv x (PostS.as0 q)⟩
          | some i =>
            rw [hi] at q hin
            refine ⟨c, as, hb, ecl, ?_⟩
            rw [hi]
            have hil : i < ρ.length := of_decide_eq_true hin
            exact ⟨_, st, ca, hf.unset1, hsr, ⟨List.getElem?_set_self (by rw [← hf.env.len]; exact hil), ex, ex.notin hsr⟩, PostS.mv x (PostS.asE q)⟩
        · exact q.elim
      · subst e
        exact wCl_of hx x hf hsr ex q
theorem ss_try {body : List Stmt} {h0 : ExceptHandler} {hds : List ExceptHandler} {hs : List Hc} {pos : Pos} {f : SS} (hst : X.stack = X.env :: X.outer) (hfz : X.env.frame = some X.env.locals) (tk : Takes X W) (hx : ∀ x y b, sub x y = some b → PySem.W.exmOne X.K (.ref (He.ga X.K x)) (.ref (He.ga X.K y)) = some b)
    (hb : ∀ (Wz : WX) (pz : List (Addr × Obj)) (xz : Value → Shared → Prop), Takes (X.tr pz xz) Wz → PassesOwn (model X.prog X.w) X.A X.env xz → PSs (X.tr pz xz) body (TSt X.K fld Wz H0 ca0 f)) (hh : HcOk X fld H0 ca0 sub (h0 :: hds) hs) :
    PS X (.Try body (h0 :: hds) [] [] pos) (TSt X.K fld W H0 ca0 (sTry sub f hs)) := by
  refine ⟨fun pins s σ H D I ⟨ρ, st, ca, hf, hsr, hp⟩ => ?_⟩
  refine (ps_try_cl hst hfz tk hb hh.cla).run pins s σ H D I ⟨ρ, st, ca, hf, hsr, ?_⟩
  unfold sTry at hp
  cases hr : f ρ st with
  | exc c as ρ' st' =>
    rw [hr] at hp
    intro cls dd σ1 ca1 H1 x1 f1 s1 ex
    exact wCl_of hx x1 f1 s1 ex hp
  | _ => rw [hr] at hp; exact hp
end
end Ev
set_option Elab.async false -- ev
set_option linter.all false -- ev
set_option maxRecDepth 100000 -- ev
set_option maxHeartbeats 4000000 -- ev
set_option autoImplicit false -- ev
/-! From the text to its meaning: expressions. -/
namespace Ev
open PySem PySem.Spec PyProof.Rows L2 -- ev

inductive Bf where
  | len | all | any | sum | max | min | abs | divmod | isi | repr
def Bf.id : Bf → String
  | .len => "len" | .all => "all" | .any => "any" | .sum => "sum" | .max => "max" | .min => "min" | .abs => "abs" | .divmod => "divmod" | .isi => "isinstance" | .repr => "repr"
def Bf.op : Bf → List D → Option RV
  | .len => dLen | .all => dAll | .any => dAny | .sum => dSum | .max => dMax | .min => dMin | .abs => dAbs | .divmod => dDivmod | .isi => dIsi | .repr => dRepr
theorem Bf.ok (b : Bf) {X : Cx} (hc : X.calm = true) (hg : X.A.guards = some []) (hu : X.A.units + 65 < cLine) : CallR X (.builtin b.id) (rCl X.K b.op) := by
  cases b
  · exact cl_len
  · exact cl_all hc
  · exact cl_any hc
  · exact cl_sum hc
  · exact cl_max hc
  · exact cl_min hc
  · exact cl_abs
  · exact cl_divmod
  · exact cl_isi
  · exact cl_repr hg hu
inductive Bt where
  | int | list | tuple | str | bool | dict
def Bt.nm : Bt → String
  | .int => "int" | .list => "list" | .tuple => "tuple" | .str => "str" | .bool => "bool" | .dict => "dict"
def Bt.op : Bt → List D → Option RV
  | .int => dInt | .list => dList | .tuple => dTuple | _ => fun _ => none
theorem Bt.ok (b : Bt) {X : Cx} : CallR X (.type b.nm) (rCl X.K b.op) := by
  have no : ∀ n, CallR X (.type n) (rCl X.K fun _ => none) := fun n pins s σ H xs us Q I rv h => by
    obtain ⟨ca, st, as, r, sr, rx, e, g⟩ := h
    cases e
  cases b
  · exact cl_int
  · exact cl_list
  · exact cl_tuple
  · exact no _
  · exact no _
  · exact no _
/-- what a global name stands for -/
inductive GV where
  | int (i : Int) | bty (t : Bt) | bfn (b : Bf) | comb | fn (i n : Nat) | kd (tbl : List (Str × D)) | it | fnK (i n : Nat) (kws : List (Str × D)) | exc (fs : List Str) | base
structure Con where
  gl : Str → Option GV
  run : Nat → List D → M D
  fld : Str → List Str
  k : Nat
  sub : Str → Str → Option Bool
def GVp (P : Program) (w : World) (K : PySem.W.Frag) (mg : Str → Option Value) (base : Heap) (C : Con) (x : Str) : GV → Prop
  | .int i => ∃ u, mg x = some u ∧ L2.RelV (.int i) u
  | .bty t => mg x = none ∧ bootBuiltins x = some (.type t.nm)
  | .bfn b => mg x = none ∧ bootBuiltins x = some (.builtin b.id)
  | .comb => mg x = some (.builtin "math.comb")
  | .fn i n => ∃ f fd ps, mg x = some (.ref f) ∧ ps.length = n ∧ PySem.W.keepIn K (.ref f) = true ∧ Binds K fd ps [] ∧ FnG P w K mg base C.fld C.k f fd ps (C.run i)
  | .kd tbl => ∃ p, mg x = some (.ref p) ∧ KDf K w p tbl
  | .it => mg x = none
  | .fnK i n kws => ∃ f fd ps dus dvs, mg x = some (.ref f) ∧ ps.length = n + kws.length ∧ PySem.W.keepIn K (.ref f) = true ∧ Binds K fd ps dus ∧ Vals dvs dus ∧ (∀ H ca, RelDs K H ca (kws.map (·.2)) dvs) ∧ BindsK K fd ps (kws.map (·.1)) n ∧ FnG P w K mg base C.fld C.k f fd ps (C.run i)
  | .exc fs => mg x = some (.ref (He.ga K x)) ∧ ErrC P w K mg base x fs ∧ C.fld x = fs ∧ fs.length ≤ 100
  | .base => mg x = some (.ref (He.ga K x))
def GVok (C : Con) (X : Cx) (x : Str) (g : GV) : Prop := GVp X.prog X.w X.K X.mg X.base C x g
/-- the block: its scope, its names by place, which cells it may write; whether it is a def's body; the new lists (by row and column) that are cells -/
structure Sta where
  sc : Scope
  N : List Str
  st : Str → Bool
  bd : Bool
  cl : List (Nat × Nat)
structure XO (C : Con) (S : Sta) (W : WX) (X : Cx) : Prop where
  N : X.N = S.N
  nd : S.N.Nodup
  kind : S.sc.kind = .function
  sc : X.env.scope = S.sc
  calm : X.calm = true
  fn : ∀ x, S.st x = true → X.fn x = true
  room : Room C.k X.A
  gd : X.A.guards = some []
  tk : Takes X W
  gv : ∀ x g, C.gl x = some g → GVok C X x g
  po : S.bd = true → PassesOwn (model X.prog X.w) X.A X.env X.xe
  lv : 2 ≤ C.k
  sub : ∀ x y b, C.sub x y = some b → PySem.W.exmOne X.K (.ref (He.ga X.K x)) (.ref (He.ga X.K y)) = some b
  stk : S.bd = true → X.stack = X.env :: X.outer ∧ X.env.frame = some X.env.locals
def Sta.blk (S : Sta) (scope : Scope) : Sta := ⟨relS scope S.sc, S.N, fun x => scope.names.lookup x == some .cell, false, S.cl⟩
theorem XO.blk {C : Con} {S : Sta} {W : WX} {X : Cx} (h : XO C S W X) (scope : Scope) (hk : scope.kind = .function) (s : Shared) (H : Hp) (Ca : Addr) (cl : List (Str × Addr)) (fp : List Addr) : XO C (S.blk scope) WF (bX X scope s H Ca cl fp) where
  N := h.N
  nd := h.nd
  kind := hk
  sc := by
    show relS scope X.env.scope = relS scope S.sc
    rw [h.sc]
  calm := h.calm
  fn := fun x e => e
  room := h.room
  gd := h.gd
  tk := fun _ _ ⟨_, _, _, _, _, _, _, _, _, _, _, _, _, _, _, _, w⟩ => w.elim
  gv := fun x g e => by
    have := h.gv x g e
    cases g <;> exact this
  po := fun e => by cases e
  lv := h.lv
  sub := h.sub
  stk := fun e => by cases e
theorem XO.tr {C : Con} {S : Sta} {W Wz : WX} {X : Cx} (h : XO C S W X) (pz : List (Addr × Obj)) (xz : Value → Shared → Prop) (tz : Takes (X.tr pz xz) Wz) (pz2 : PassesOwn (model X.prog X.w) X.A X.env xz) : XO C S Wz (X.tr pz xz) where
  N := h.N
  nd := h.nd
  kind := h.kind
  sc := h.sc
  calm := h.calm
  fn := h.fn
  room := h.room
  gd := h.gd
  tk := tz
  gv := fun x g e => by
    have := h.gv x g e
    cases g <;> exact this
  po := fun _ => pz2
  lv := h.lv
  sub := h.sub
  stk := h.stk
section
variable {C : Con} {S : Sta} {W : WX} {X : Cx}
theorem XO.un (h : XO C S W X) : X.A.units + 65 < cLine := by have := h.room.un; omega
def visB (sc : Scope) (x : Str) : Bool := match sc.names.lookup x with
  | some .local => true
  | some .cell => true
  | some .free => true
  | _ => false
def locB (sc : Scope) (x : Str) : Bool := match sc.names.lookup x with
  | some .local => true
  | some .cell => true
  | _ => false
def dbg (x : Str) : Bool := !(x == ("__debug__" : Str)) && !(x == ("__classdict__" : Str)) && decide (x ≠ "__name__")
theorem dbg_1 {x : Str} (h : dbg x = true) : (x == ("__debug__" : Str)) = false := by
  simp only [dbg, Bool.and_eq_true, Bool.not_eq_true'] at h
  exact h.1.1
theorem dbg_2 {x : Str} (h : dbg x = true) : (x == ("__classdict__" : Str)) = false := by
  simp only [dbg, Bool.and_eq_true, Bool.not_eq_true'] at h
  exact h.1.2
theorem dbg_3 {x : Str} (h : dbg x = true) : x ≠ "__name__" := by
  simp only [dbg, Bool.and_eq_true, Bool.not_eq_true', decide_eq_true_eq] at h
  exact h.2
theorem vis_of {sc : Scope} {x : Str} (h : visB sc x = true) : Vis sc x := by
  unfold visB at h
  split at h
  · exact .inl (by assumption) -- ev
  · exact .inr (.inl (by assumption))
  · exact .inr (.inr (by assumption))
  · cases h
theorem loc_of {sc : Scope} {x : Str} (h : locB sc x = true) : Loc sc x := by
  unfold locB at h
  split at h
  · exact .inl (by assumption) -- ev
  · exact .inr (by assumption)
  · cases h
/-- a global name of the block -/
def glB (sc : Scope) (x : Str) : Bool := decide (sc.names.lookup x = some .globalImplicit) && dbg x
theorem XO.gl (h : XO C S W X) {x : Str} (hg : glB S.sc x = true) : Gl X x := by
  simp only [glB, Bool.and_eq_true, decide_eq_true_eq] at hg
  show X.env.scope.names.lookup x = _
  rw [h.sc]
  exact hg.1
theorem glB_d {sc : Scope} {x : Str} (hg : glB sc x = true) : dbg x = true := by
  simp only [glB, Bool.and_eq_true] at hg
  exact hg.2
end
abbrev OE (C : Con) (S : Sta) (e : Expr) := Option { f : Env' → M RV // ∀ W X, XO C S W X → PE X e (TN X.K C.fld W f) }
abbrev OT (C : Con) (S : Sta) (e : Expr) := Option { f : Env' → M Bool // ∀ W X, XO C S W X → PT X e (TT' X.K C.fld W f) }
abbrev OAs (C : Con) (S : Sta) (es : List Expr) := Option { g : Env' → M (List D) // (∀ W X, XO C S W X → PA X es (TAs X.K C.fld W g)) ∧ ∀ ρ st ds st', g ρ st = .ok ds st' → ds.length = es.length }
abbrev OAr (C : Con) (S : Sta) (es : List Expr) := Option { g : Env' → M (List D) // ∀ W X, XO C S W X → PA X es (TAr X.K C.fld W g) }
abbrev OI (C : Con) (S : Sta) (tg e : Expr) := Option { it : Env' → M (List D) // ∀ W X, XO C S W X → PI X tg e (TWk X.K C.fld W it) }
abbrev OG (C : Con) (S : Sta) (tg : Expr) := Option { p : List Nat × (D → Env' → Option Env') // ∀ W X, XO C S W X → PG X tg (TGd X.K p.1 p.2) }
abbrev OGs (C : Con) (S : Sta) (es : List Expr) := Option { p : List Nat × (List D → Env' → Option Env') // (∀ W X, XO C S W X → PGs X es (TGds X.K p.1 p.2)) ∧ ∀ ds ρ ρ', p.2 ds ρ = some ρ' → ds.length = es.length }
structure Cmp (C : Con) where
  e : (S : Sta) → (e : Expr) → OE C S e
  t : (S : Sta) → (e : Expr) → OT C S e
section
variable {C : Con}
theorem cons_len {f : Env' → M D} {g : Env' → M (List D)} {n : Nat} (h : ∀ ρ st ds st', g ρ st = .ok ds st' → ds.length = n) : ∀ ρ st ds st', sCons f g ρ st = .ok ds st' → ds.length = n + 1 := fun ρ st ds st' e => by
  unfold sCons M.bind at e
  cases h1 : f ρ st with
  | bad => rw [h1] at e; cases e
  | exc c as st1 => rw [h1] at e; cases e
  | ok d st1 =>
    rw [h1] at e
    dsimp only at e
    cases h2 : g ρ st1 with
    | bad => rw [h2] at e; cases e
    | exc c as st2 => rw [h2] at e; cases e
    | ok es st2 =>
      rw [h2] at e
      cases e
      exact congrArg Nat.succ (h _ _ _ _ h2)
/-- values kept -/
def cAs (c : Cmp C) (S : Sta) : (es : List Expr) → OAs C S es
  | [] => some ⟨sNil, fun _ _ _ => se_nil, fun ρ st ds st' e => by cases e; rfl⟩
  | e :: es => if hn : nst e = true then match c.e S e, cAs c S es with
    | some f, some g => some ⟨sCons (kp f.1) g.1, fun W X h => se_cons (TN.kp (f.2 W X h)) (g.2.1 W X h) (star_cons hn), cons_len g.2.2⟩
    | _, _ => none
    else none
/-- values read -/
def cAr (c : Cmp C) (S : Sta) : (es : List Expr) → OAr C S es
  | [] => some ⟨sNil, fun _ _ _ => se_nilr⟩
  | e :: es => if hn : nst e = true then match c.e S e, cAr c S es with
    | some f, some g => some ⟨sCons (rd f.1) g.1, fun W X h => se_consr (TN.rd (f.2 W X h)) (g.2 W X h) (star_cons hn)⟩
    | _, _ => none
    else none
def opB (o : Operator) : Option { op : D → D → Option RV // ∀ X : Cx, OpR X (binaryOp o) (rO X.K op) } := match o with
  | .Add => some ⟨dAdd, fun _ => op_dAdd⟩
  | .Sub => some ⟨dSub, fun _ => op_dSub⟩
  | .Mult => some ⟨dMulA, fun _ => op_dMul⟩
  | .FloorDiv => some ⟨dDiv, fun _ => op_dDiv⟩
  | .Mod => some ⟨dMod, fun _ => op_dMod⟩
  | .Pow => some ⟨dPow, fun _ => op_dPow⟩
  | _ => none
def opC (o : CmpOp) : Option { op : D → D → Option RV // ∀ X : Cx, X.A.units + 65 < cLine → OpR X (compareOp o) (rO X.K op) } := match o with
  | .Eq => some ⟨dEq, fun _ h => op_dEq h⟩
  | .NotEq => some ⟨dNe, fun _ h => op_dNe h⟩
  | .Lt => some ⟨dLt, fun _ _ => op_dLt⟩
  | .LtE => some ⟨dLe, fun _ _ => op_dLe⟩
  | .Gt => some ⟨dGt, fun _ _ => op_dGt⟩
  | .GtE => some ⟨dGe, fun _ _ => op_dGe⟩
  | .In => some ⟨dIn, fun _ h => op_dIn h⟩
  | .NotIn => some ⟨dNotIn, fun _ h => op_dNotIn h⟩
  | .Is => some ⟨dIs, fun _ _ => op_dIs⟩
  | .IsNot => some ⟨dIsNot, fun _ _ => op_dIsNot⟩
/-- a name -/
def cName (S : Sta) (x : Str) (pos : Pos) : OE C S (.Name x pos) :=
  if h : visB S.sc x = true ∧ dbg x = true then
    if h2 : S.N[S.N.idxOf x]? = some x then some ⟨sVar (S.N.idxOf x), fun W X hx => se_var (by rw [hx.N]; exact h2) (by rw [hx.sc]; exact vis_of h.1) (dbg_1 h.2) (dbg_2 h.2)⟩ else none
  else if hg : glB S.sc x = true then match hgl : C.gl x with
    | some (.int i) => some ⟨sC (.int i), fun W X hx => let ⟨u, hm, r⟩ := hx.gv x _ hgl; se_glob (hx.gl hg) hm r (dbg_1 (glB_d hg)) fun _ _ => rfl⟩
    | some (.bty t) => some ⟨sC (.ty t.nm), fun W X hx => let ⟨hm, hv⟩ := hx.gv x _ hgl; se_blt (hx.gl hg) hm hv (dbg_3 (glB_d hg)) (dbg_1 (glB_d hg))⟩
    | _ => none
  else none
/-- a call of a name -/
def cCall (c : Cmp C) (S : Sta) (x : Str) (p : Pos) (e : Expr) (es : List Expr) (pos : Pos) : OE C S (.Call (.Name x p) (e :: es) [] pos) :=
  if h : glB S.sc x = true ∧ nst e = true ∧ es.all nst = true then match hgl : C.gl x with
    | some (.bfn b) => match cAr c S (e :: es) with
      | some g => some ⟨sCall b.op g.1, fun W X hx => let ⟨hm, hv⟩ := hx.gv x _ hgl
          se_callB (b.ok hx.calm hx.gd hx.un) (hx.gl h.1) hm hv (g.2 W X hx) (dbg_3 (glB_d h.1)) (dbg_1 (glB_d h.1)) (star_cons h.2.1) (star_any h.2.2)⟩
      | none => none
    | some (.bty t) => match cAr c S (e :: es) with
      | some g => some ⟨sCall t.op g.1, fun W X hx => let ⟨hm, hv⟩ := hx.gv x _ hgl
          se_callTy t.ok (hx.gl h.1) hm hv (g.2 W X hx) (dbg_3 (glB_d h.1)) (dbg_1 (glB_d h.1)) (star_cons h.2.1) (star_any h.2.2)⟩
      | none => none
    | some .comb => match cAr c S (e :: es) with
      | some g => some ⟨sCall dComb g.1, fun W X hx => se_callG cl_comb (hx.gl h.1) (hx.gv x _ hgl) (g.2 W X hx) (dbg_1 (glB_d h.1)) (star_cons h.2.1) (star_any h.2.2)⟩
      | none => none
    | some (.fn i n) => if hn : es.length + 1 = n then match cAs c S (e :: es) with
      | some g => some ⟨sFn (C.run i) g.1, fun W X hx => let ⟨f, fd, ps, hm, hl, hk, hb, G⟩ := hx.gv x _ hgl
          se_call G hx.room hx.gd (hx.gl h.1) hm hk hb hx.tk (g.2.1 W X hx) (fun ρ st ds st' e' => by rw [g.2.2 ρ st ds st' e', hl, ← hn]; rfl) (dbg_1 (glB_d h.1)) (star_cons h.2.1) (star_any h.2.2)⟩
      | none => none
      else none
    | some (.fnK i n kws) => if hn : es.length + 1 = n then match cAs c S (e :: es) with
      | some g => some ⟨sFnD (C.run i) (kws.map (·.2)) g.1, fun W X hx => let ⟨f, fd, ps, dus, dvs, hm, hl, hk, hb, hdv, hdd, _, G⟩ := hx.gv x _ hgl
          se_callD G hx.room hx.gd (hx.gl h.1) hm hk hb hdv hdd hx.tk (g.2.1 W X hx) (fun ρ st ds st' e' => by rw [g.2.2 ρ st ds st' e', hl, ← hn, List.length_map]; rfl) (dbg_1 (glB_d h.1)) (star_cons h.2.1) (star_any h.2.2)⟩
      | none => none
      else none
    | _ => none
  else none
abbrev OKs (C : Con) (S : Sta) (ks : List Keyword) := Option { g : Env' → M (List D) // (∀ W X, XO C S W X → PK X ks (TAs X.K C.fld W g)) ∧ ∀ ρ st ds st', g ρ st = .ok ds st' → ds.length = ks.length }
def cKs (c : Cmp C) (S : Sta) : (ks : List Keyword) → OKs C S ks
  | [] => some ⟨sNil, fun _ _ _ => sk_nil, fun ρ st ds st' e => by cases e; rfl⟩
  | ⟨nm, e, kp'⟩ :: ks => match c.e S e, cKs c S ks with
    | some f, some g => some ⟨sCons (kp f.1) g.1, fun W X h => sk_cons (TN.kp (f.2 W X h)) (g.2.1 W X h), cons_len g.2.2⟩
    | _, _ => none
def kwNm : List Keyword → Option (List Str)
  | [] => some []
  | ⟨some n, _, _⟩ :: ks => (kwNm ks).map (n :: ·)
  | ⟨none, _, _⟩ :: _ => none
theorem kw_facts {env : Env} {pos : Pos} : ∀ {ks : List Keyword} {ns : List Str}, kwNm ks = some ns → (backToKw pos (keywordEach ks env)).all (·.1.isSome) = true ∧ (backToKw pos (keywordEach ks env)).filterMap (·.1) = ns ∧ (backToKw pos (keywordEach ks env)).any (·.1.isNone) = false
  | [], _, h => by cases h; exact ⟨rfl, rfl, rfl⟩
  | ⟨some n, e, p⟩ :: ks, _, h => by
    cases h2 : kwNm ks with
    | none => simp [kwNm, h2] at h
    | some ms =>
      simp [kwNm, h2] at h
      subst h
      obtain ⟨q1, q2, q3⟩ := kw_facts (env := env) (pos := pos) h2
      refine ⟨?_, ?_, ?_⟩
      · show (true && _) = true
        rw [Bool.true_and]
        exact q1
      · show n :: _ = _
        exact congrArg (n :: ·) q2
      · show (false || _) = false
        rw [Bool.false_or]
        exact q3
  | ⟨none, _, _⟩ :: _, _, h => by cases h
/-- a call with keywords -/
def cCallK (c : Cmp C) (S : Sta) (x : Str) (p : Pos) (e : Expr) (es : List Expr) (ks : List Keyword) (pos : Pos) : OE C S (.Call (.Name x p) (e :: es) ks pos) :=
  if h : glB S.sc x = true ∧ nst e = true ∧ es.all nst = true then match hgl : C.gl x with
    | some (.fnK i n kws) => if hn : es.length + 1 = n ∧ kwNm ks = some (kws.map (·.1)) ∧ ks.length = kws.length then match cAs c S (e :: es), cKs c S ks with
      | some g, some gk => some ⟨sFnK (C.run i) g.1 gk.1, fun W X hx => let ⟨f, fd, ps, dus, dvs, hm, hl, hk, _, _, _, hb, G⟩ := hx.gv x _ hgl
          se_callK G hx.room hx.gd (hx.gl h.1) hm hk hb hx.tk (g.2.1 W X hx) (gk.2.1 W X hx) (by rw [hl, List.length_map]) (fun ρ st ds st' e' => by rw [g.2.2 ρ st ds st' e', ← hn.1]; rfl) (fun ρ st ds st' e' => by rw [gk.2.2 ρ st ds st' e', hn.2.2, List.length_map]) (kw_facts hn.2.1).1 (kw_facts hn.2.1).2.1
            (dbg_1 (glB_d h.1)) (star_cons h.2.1) (by rw [star_any (es := e :: es) (by rw [List.all_cons, h.2.1, h.2.2]; rfl), (kw_facts hn.2.1).2.2]; rfl)⟩
      | _, _ => none
      else none
    | _ => none
  else none
/-- sorted(set(e)) -/
def cSoSet (c : Cmp C) (S : Sta) (x : Str) (p : Pos) (y : Str) (yp : Pos) (e : Expr) (rpos pos : Pos) : OE C S (.Call (.Name x p) [.Call (.Name y yp) [e] [] rpos] [] pos) :=
  if h : x = "sorted" ∧ y = "set" ∧ glB S.sc x = true ∧ glB S.sc y = true ∧ nst e = true then match hgl : C.gl x, hgl2 : C.gl y with
    | some .it, some .it => match c.e S e with
      | some f => some ⟨sSortSet (rd f.1), fun W X hx => by
          obtain ⟨rfl, rfl, hg, hg2, hn⟩ := h
          exact se_sortSet hx.calm hx.un (hx.gl hg) (hx.gv _ _ hgl) (hx.gl hg2) (hx.gv _ _ hgl2) (TN.rd (f.2 W X hx)) (star_cons hn) (star_cons rfl)⟩
      | none => none
    | _, _ => none
  else none
end
end Ev
set_option Elab.async false -- ev
set_option linter.all false -- ev
set_option maxRecDepth 100000 -- ev
set_option maxHeartbeats 4000000 -- ev
set_option autoImplicit false -- ev
/-! From the text to its meaning: targets, loops' sources, tests, expressions. -/
namespace Ev
open PySem PySem.Spec PyProof.Rows L2 -- ev
section
variable {C : Con}
/-! ### targets -/
def cG (C : Con) (S : Sta) : (n : Nat) → (tg : Expr) → OG C S tg
  | 0, _ => none
  | n + 1, .Name x pos => if h : locB S.sc x = true ∧ S.N[S.N.idxOf x]? = some x then
      if h2 : S.st x = true ∨ S.sc.names.lookup x = some .local then
        some ⟨([S.N.idxOf x], gN (S.N.idxOf x)), fun W X hx => sg_name (by rw [hx.N]; exact hx.nd) (by rw [hx.N]; exact h.2) (by rw [hx.sc]; exact loc_of h.1) (by rw [hx.sc]; exact h2.imp (hx.fn x) id)⟩
      else none
    else none
  | n + 1, .Tuple es k pos => if ha : es.all nst = true then
      let rec go : (es : List Expr) → OGs C S es := fun es => match es with
        | [] => some ⟨([], gsNil), fun _ _ _ => sg_nil, len_nil⟩
        | e :: es => if hn : nst e = true then match cG C S n e, go es with
          | some g, some gs => some ⟨(g.1.1 ++ gs.1.1, gsCons g.1.2 gs.1.2), fun W X hx => sg_cons (g.2 W X hx) (gs.2.1 W X hx) (as_cons hn), len_cons gs.2.2⟩
          | _, _ => none
          else none
      match go es with
      | some gs => some ⟨(gs.1.1, gT gs.1.2), fun W X hx => sg_tup hx.calm (gs.2.1 W X hx) gs.2.2 (as_len es) (as_find es ha)⟩
      | none => none
    else none
  | _, _ => none
/-! ### what is gone over -/
theorem all_1 {a : Expr} (h : [a].all nst = true) : nst a = true := by simpa using h
def cRng (c : Cmp C) (S : Sta) (tg : Expr) (x : Str) (p : Pos) (es : List Expr) (pos : Pos) : OI C S tg (.Call (.Name x p) es [] pos) :=
  if h : x = "range" ∧ glB S.sc x = true ∧ es.all nst = true then match hgl : C.gl x with
    | some .it => match es, h.2.2, cAs c S es with
      | [a], ha, some g => some ⟨itR1 g.1, fun W X hx => by
          obtain ⟨rfl, hg, _⟩ := h
          exact si_r1 (hx.gl hg) (hx.gv _ _ hgl) (g.2.1 W X hx) (star_cons (all_1 ha))⟩
      | [a, b], ha, some g => some ⟨itR2 g.1, fun W X hx => by
          obtain ⟨rfl, hg, _⟩ := h
          have ha : nst a = true ∧ nst b = true := by simpa using ha
          have e2 : starEach [b] X.env = [(false, eval b X.env)] := star_cons ha.2
          exact si_r2 (hx.gl hg) (hx.gv _ _ hgl) (g.2.1 W X hx) (by rw [star_cons ha.1, e2]) e2⟩
      | [a, b, d], ha, some g => some ⟨itR3 g.1, fun W X hx => by
          obtain ⟨rfl, hg, _⟩ := h
          have ha : nst a = true ∧ nst b = true ∧ nst d = true := by simpa using ha
          exact si_r3 (hx.gl hg) (hx.gv _ _ hgl) (g.2.1 W X hx) (star_cons ha.1) (star_any (by simp [ha.2.1, ha.2.2]))⟩
      | _, _, _ => none
    | _ => none
  else none
def cZip (c : Cmp C) (S : Sta) (elts : List Expr) (kk : Nat) (tpos : Pos) (x : Str) (p : Pos) (es : List Expr) (pos : Pos) : OI C S (.Tuple elts kk tpos) (.Call (.Name x p) es [] pos) :=
  if h : x = "zip" ∧ glB S.sc x = true ∧ es.all nst = true then match hgl : C.gl x with
    | some .it => match es, h.2.2, cAs c S es with
      | [a, b], ha, some g => some ⟨itZipM g.1, fun W X hx => by
          obtain ⟨rfl, hg, _⟩ := h
          have ha : nst a = true ∧ nst b = true := by simpa using ha
          exact si_zipM (hx.gl hg) (hx.gv _ _ hgl) (g.2.1 W X hx) (star_cons ha.1) (star_any (by simp [ha.2]))⟩
      | _, _, _ => none
    | _ => none
  else none
def cEn (c : Cmp C) (S : Sta) (elts : List Expr) (kk : Nat) (tpos : Pos) (x : Str) (p : Pos) (e : Expr) (ka : Str) (j : Int) (jk : Nat) (jp kp pos : Pos) : OI C S (.Tuple elts kk tpos) (.Call (.Name x p) [e] [⟨some ka, .Constant (.int j) jk jp, kp⟩] pos) :=
  if h : x = "enumerate" ∧ ka = "start" ∧ glB S.sc x = true ∧ nst e = true ∧ bnd j = true then match hgl : C.gl x with
    | some .it => match cAs c S [e] with
      | some g => some ⟨itEn j g.1, fun W X hx => by
          obtain ⟨rfl, rfl, hg, ha, hj⟩ := h
          exact si_en (hx.gl hg) (hx.gv _ _ hgl) (g.2.1 W X hx) (star_cons ha) hj⟩
      | none => none
    | _ => none
  else none
def cSeq (c : Cmp C) (S : Sta) (tg e : Expr) : OI C S tg e := match c.e S e with
  | some f => some ⟨itS (kp f.1), fun W X hx => si_seq (TN.kp (f.2 W X hx))⟩
  | none => none
def orE {α : Type} : Option α → Option α → Option α
  | some a, _ => some a
  | none, b => b
def cI (c : Cmp C) (S : Sta) : (tg : Expr) → (e : Expr) → OI C S tg e
  | .Tuple elts kk tpos, .Call (.Name x p) [e] [⟨some ka, .Constant (.int j) jk jp, kp⟩] pos => cEn c S elts kk tpos x p e ka j jk jp kp pos
  | .Tuple elts kk tpos, .Call (.Name x p) es [] pos => orE (cZip c S elts kk tpos x p es pos) (orE (cRng c S _ x p es pos) (cSeq c S _ _))
  | tg, .Call (.Name x p) es [] pos => orE (cRng c S tg x p es pos) (cSeq c S _ _)
  | tg, e => cSeq c S tg e
/-! ### tests -/
def cTru (c : Cmp C) (S : Sta) (e : Expr) : OT C S e := if h : trb e = true then match c.e S e with
  | some f => some ⟨sTru f.1, fun W X hx => st_tru (f.2 W X hx) (tr_ok h)⟩
  | none => none
  else none
def OW (C : Con) (S : Sta) (e : Expr) := Option { f : Env' → M Bool // ∀ W X, XO C S W X → PW X e (TT' X.K C.fld W f) }
def cWs (c : Cmp C) (S : Sta) (o : BoolOp) (pos : Pos) : (es : List Expr) → OW C S (.BoolOp o es pos)
  | [] => none
  | [e] => match c.t S e with
    | some f => match o with
      | .And => some ⟨f.1, fun W X hx => sw_and1 (f.2 W X hx)⟩
      | .Or => some ⟨f.1, fun W X hx => sw_or1 (f.2 W X hx)⟩
    | none => none
  | e :: e2 :: es => match c.t S e, cWs c S o pos (e2 :: es) with
    | some f, some g => match o, g with
      | .And, g => some ⟨sAndT f.1 g.1, fun W X hx => sw_and (f.2 W X hx) (g.2 W X hx)⟩
      | .Or, g => some ⟨sOrT f.1 g.1, fun W X hx => sw_or (f.2 W X hx) (g.2 W X hx)⟩
    | _, _ => none
end
end Ev
set_option Elab.async false -- ev
set_option linter.all false -- ev
set_option maxRecDepth 100000 -- ev
set_option maxHeartbeats 4000000 -- ev
set_option autoImplicit false -- ev
/-! From the text to its meaning: the steps for tests and expressions. -/
namespace Ev
open PySem PySem.Spec PyProof.Rows L2 -- ev
section
variable {C : Con}
/-! ### tests -/
def cCmpT (c : Cmp C) (S : Sta) (a : Expr) (o : CmpOp) (b : Expr) (pos : Pos) : OT C S (.Compare a [o] [b] pos) := match c.e S a, c.e S b, opC o with
  | some f, some g, some op => if h : behindInMarks o b = false then some ⟨sBoolT (sBin op.1 (rd f.1) (rd g.1)), fun W X hx => st_cmp (op.2 X hx.un) (TN.rd (f.2 W X hx)) (TN.rd (g.2 W X hx)) h⟩ else none
  | _, _, _ => none
def cKdT (c : Cmp C) (S : Sta) (a : Expr) (o : CmpOp) (x : Str) (xp pos : Pos) : OT C S (.Compare a [o] [.Name x xp] pos) := if h : glB S.sc x = true then match hgl : C.gl x, c.e S a with
  | some (.kd tbl), some f => match o with
    | .In => some ⟨sBoolT (sUn (kdIn tbl false) (rd f.1)), fun W X hx => let ⟨p, hm, kd⟩ := hx.gv x _ hgl; st_kdin kd (hx.gl h) hm (dbg_1 (glB_d h)) (TN.rd (f.2 W X hx))⟩
    | .NotIn => some ⟨sBoolT (sUn (kdIn tbl true) (rd f.1)), fun W X hx => let ⟨p, hm, kd⟩ := hx.gv x _ hgl; st_kdnin kd (hx.gl h) hm (dbg_1 (glB_d h)) (TN.rd (f.2 W X hx))⟩
    | _ => none
  | _, _ => none
  else none
def stepT (c : Cmp C) (S : Sta) : (e : Expr) → OT C S e
  | .Compare a [o] [.Name x xp] pos => orE (cKdT c S a o x xp pos) (cCmpT c S a o _ pos)
  | .Compare a [o] [b] pos => cCmpT c S a o b pos
  | .Compare a [o, o'] [b, d] pos => match c.e S a, c.e S b, c.e S d, opC o, opC o' with
    | some f, some g, some k, some op, some op' => if h : lastMarks [o, o'] [b, d] = false then
        some ⟨sBoolT (sChain op.1 op'.1 (rd f.1) (rd g.1) (rd k.1)), fun W X hx => st_chain (op.2 X hx.un) (op'.2 X hx.un) (TN.rd (f.2 W X hx)) (TN.rd (g.2 W X hx)) (TN.rd (k.2 W X hx)) h⟩ else none
    | _, _, _, _, _ => none
  | .BoolOp o es pos => match cWs c S o pos es with
    | some f => some ⟨f.1, fun W X hx => (f.2 W X hx).pt⟩
    | none => none
  | .UnaryOp .Not a pos => match c.t S a with
    | some f => some ⟨sNotT f.1, fun W X hx => st_not (f.2 W X hx)⟩
    | none => none
  | e => cTru c S e

/-! ### expressions -/
def cOrs (c : Cmp C) (S : Sta) (o : BoolOp) (pos : Pos) : (es : List Expr) → OE C S (.BoolOp o es pos)
  | [] => none
  | [e] => match c.e S e with
    | some f => some ⟨f.1, fun W X hx => se_one (f.2 W X hx)⟩
    | none => none
  | e :: e2 :: es => match c.e S e, cOrs c S o pos (e2 :: es) with
    | some f, some g => match o, g with
      | .And, g => some ⟨sAndV f.1 g.1, fun W X hx => se_and (f.2 W X hx) (g.2 W X hx)⟩
      | .Or, g => some ⟨sOrV f.1 g.1, fun W X hx => se_or (f.2 W X hx) (g.2 W X hx)⟩
    | _, _ => none
def cCmpE (c : Cmp C) (S : Sta) (a : Expr) (o : CmpOp) (b : Expr) (pos : Pos) : OE C S (.Compare a [o] [b] pos) := match c.e S a, c.e S b, opC o with
  | some f, some g, some op => if h : behindInMarks o b = false then some ⟨sBin op.1 (rd f.1) (rd g.1), fun W X hx => se_cmp (op.2 X hx.un) (TN.rd (f.2 W X hx)) (TN.rd (g.2 W X hx)) h⟩ else none
  | _, _, _ => none
def cKdE (c : Cmp C) (S : Sta) (a : Expr) (o : CmpOp) (x : Str) (xp pos : Pos) : OE C S (.Compare a [o] [.Name x xp] pos) := if h : glB S.sc x = true then match hgl : C.gl x, c.e S a with
  | some (.kd tbl), some f => match o with
    | .In => some ⟨sUn (kdIn tbl false) (rd f.1), fun W X hx => let ⟨p, hm, kd⟩ := hx.gv x _ hgl; se_kdin kd (hx.gl h) hm (dbg_1 (glB_d h)) (TN.rd (f.2 W X hx))⟩
    | .NotIn => some ⟨sUn (kdIn tbl true) (rd f.1), fun W X hx => let ⟨p, hm, kd⟩ := hx.gv x _ hgl; se_kdnin kd (hx.gl h) hm (dbg_1 (glB_d h)) (TN.rd (f.2 W X hx))⟩
    | _ => none
  | _, _ => none
  else none
def cKdX (c : Cmp C) (S : Sta) (x : Str) (xp : Pos) (e : Expr) (pos : Pos) : OE C S (.Subscript (.Name x xp) e pos) := if h : glB S.sc x = true ∧ pix e = true then match hgl : C.gl x, c.e S e with
  | some (.kd tbl), some f => some ⟨sUn (kdIx tbl) (rd f.1), fun W X hx => let ⟨p, hm, kd⟩ := hx.gv x _ hgl; se_kdix kd (hx.gl h.1) hm (dbg_1 (glB_d h.1)) (TN.rd (f.2 W X hx)) (plain_ix h.2)⟩
  | _, _ => none
  else none
abbrev OPt (C : Con) (S : Sta) (e : Option Expr) := Option { f : Env' → M (Option Int) // ∀ W X, XO C S W X → PO X e (TP X.K C.fld W f) }
def cPt (c : Cmp C) (S : Sta) : (e : Option Expr) → OPt C S e
  | none => some ⟨sPN, fun _ _ _ => sp_none⟩
  | some e => match c.e S e with
    | some f => some ⟨sPS (rd f.1), fun W X hx => sp_some (TN.rd (f.2 W X hx))⟩
    | none => none
def cIx (c : Cmp C) (S : Sta) (a b : Expr) (pos : Pos) : OE C S (.Subscript a b pos) := if h : pix b = true then match c.e S a, c.e S b with
  | some f, some g => some ⟨sBinS ixSt (rd f.1) (rd g.1), fun W X hx => se_ixS (ix_all (by have := hx.un; omega)) (TN.rd (f.2 W X hx)) (TN.rd (g.2 W X hx)) (plain_ix h)⟩
  | _, _ => none
  else none
def ownOf (N : List Str) (scope : Scope) : List (Str × Nat) := scope.names.filterMap fun y => match y.2 with
  | .local => if y.1 ∈ N then some (y.1, N.idxOf y.1) else none
  | .cell => if y.1 ∈ N then some (y.1, N.idxOf y.1) else none
  | _ => none
structure LcP (C : Con) (S : Sta) (elt tg iter : Expr) (ifs : List Expr) (scope : Scope) where
  it : Env' → M (List D)
  is : List Nat
  g : D → Env' → Option Env'
  c : Env' → M Bool
  el : Env' → M D
  ok : blkC S.N S.sc scope (ownOf S.N scope) = true
  sub : ∀ i ∈ is, i ∈ (ownOf S.N scope).map (·.2)
  hi : ∀ W X, XO C S W X → PI X tg iter (TWk X.K C.fld W it)
  hg : ∀ X, XO C (S.blk scope) WF X → PG X tg (TGd X.K is g)
  ht : ∀ X, XO C (S.blk scope) WF X → PTs X ifs (TT' X.K C.fld WF c)
  he : ∀ X, XO C (S.blk scope) WF X → PE X elt (TS' X.K C.fld WF el)
  hs : nset iter = true
abbrev OPs (C : Con) (S : Sta) (es : List Expr) := Option { f : Env' → M Bool // ∀ W X, XO C S W X → PTs X es (TT' X.K C.fld W f) }
def cPs (c : Cmp C) (S : Sta) : (es : List Expr) → OPs C S es
  | [] => some ⟨sYes, fun _ _ _ => sp_nil⟩
  | [e] => match c.t S e with
    | some f => some ⟨f.1, fun W X hx => sp_one (f.2 W X hx)⟩
    | none => none
  | _ => none
def cLcP (c : Cmp C) (S : Sta) (elt tg iter : Expr) (ifs : List Expr) (scope : Scope) : Option (LcP C S elt tg iter ifs scope) :=
  if h : blkC S.N S.sc scope (ownOf S.N scope) = true ∧ nset iter = true then match cI c S tg iter, cG C (S.blk scope) 5 tg, cPs c (S.blk scope) ifs, c.e (S.blk scope) elt with
    | some it, some g, some t, some f => if hs : ∀ i ∈ g.1.1, i ∈ (ownOf S.N scope).map (·.2) then
        some ⟨it.1, g.1.1, g.1.2, t.1, kp f.1, h.1, hs, it.2, fun X hx => g.2 WF X hx, fun X hx => t.2 WF X hx, fun X hx => TN.kp (f.2 WF X hx), h.2⟩ else none
    | _, _, _, _ => none
  else none
theorem lcp_blk {S : Sta} {scope : Scope} {W : WX} {X : Cx} (hx : XO C S W X) (ok : blkC S.N S.sc scope (ownOf S.N scope) = true) : BlkOk X.N X.env.scope scope (ownOf S.N scope) := by
  rw [hx.N, hx.sc]
  exact blkOk_by ok
theorem lcp_kind {S : Sta} {scope : Scope} (ok : blkC S.N S.sc scope (ownOf S.N scope) = true) : scope.kind = .function := (blkOk_by ok).kind
def LcP.sem {S : Sta} {elt tg iter : Expr} {ifs : List Expr} {scope : Scope} (p : LcP C S elt tg iter ifs scope) : Env' → M RV := sLc p.it p.g p.c p.el ((ownOf S.N scope).map (·.2))
theorem LcP.pe {S : Sta} {elt tg iter : Expr} {ifs : List Expr} {scope : Scope} {pos : Pos} (p : LcP C S elt tg iter ifs scope) (W : WX) (X : Cx) (hx : XO C S W X) : PE X (.ListComp elt [⟨tg, iter, ifs, 0⟩] scope pos) (TN X.K C.fld W p.sem) :=
  se_lc hx.calm (by rw [hx.N]; exact hx.nd) (p.hi W X hx) (lcp_blk hx p.ok) p.sub (fun s H Ca cl fp => p.hg _ (hx.blk scope (lcp_kind p.ok) s H Ca cl fp)) (fun s H Ca cl fp => p.ht _ (hx.blk scope (lcp_kind p.ok) s H Ca cl fp))
    (fun s H Ca cl fp => p.he _ (hx.blk scope (lcp_kind p.ok) s H Ca cl fp)) (fold_no p.hs)
structure LcP2 (C : Con) (S : Sta) (elt tg iter : Expr) (ifs : List Expr) (tg1 iter1 : Expr) (ifs1 : List Expr) (scope : Scope) where
  it : Env' → M (List D)
  is : List Nat
  g : D → Env' → Option Env'
  c : Env' → M Bool
  it1 : Env' → M (List D)
  is1 : List Nat
  g1 : D → Env' → Option Env'
  c1 : Env' → M Bool
  el : Env' → M D
  ok : blkC S.N S.sc scope (ownOf S.N scope) = true
  sub : ∀ i ∈ is, i ∈ (ownOf S.N scope).map (·.2)
  sub1 : ∀ i ∈ is1, i ∈ (ownOf S.N scope).map (·.2)
  hi : ∀ W X, XO C S W X → PI X tg iter (TWk X.K C.fld W it)
  hg : ∀ X, XO C (S.blk scope) WF X → PG X tg (TGd X.K is g)
  ht : ∀ X, XO C (S.blk scope) WF X → PTs X ifs (TT' X.K C.fld WF c)
  hi1 : ∀ X, XO C (S.blk scope) WF X → PI X tg1 iter1 (TWk X.K C.fld WF it1)
  hg1 : ∀ X, XO C (S.blk scope) WF X → PG X tg1 (TGd X.K is1 g1)
  ht1 : ∀ X, XO C (S.blk scope) WF X → PTs X ifs1 (TT' X.K C.fld WF c1)
  he : ∀ X, XO C (S.blk scope) WF X → PE X elt (TS' X.K C.fld WF el)
  hs : nset iter = true
  hs1 : nset iter1 = true
def cLcP2 (c : Cmp C) (S : Sta) (elt tg iter : Expr) (ifs : List Expr) (tg1 iter1 : Expr) (ifs1 : List Expr) (scope : Scope) : Option (LcP2 C S elt tg iter ifs tg1 iter1 ifs1 scope) :=
  if h : blkC S.N S.sc scope (ownOf S.N scope) = true ∧ nset iter = true ∧ nset iter1 = true then match cI c S tg iter, cG C (S.blk scope) 5 tg, cPs c (S.blk scope) ifs, cI c (S.blk scope) tg1 iter1, cG C (S.blk scope) 5 tg1, cPs c (S.blk scope) ifs1, c.e (S.blk scope) elt with
    | some it, some g, some t, some it1, some g1, some t1, some f => if hs : (∀ i ∈ g.1.1, i ∈ (ownOf S.N scope).map (·.2)) ∧ ∀ i ∈ g1.1.1, i ∈ (ownOf S.N scope).map (·.2) then
        some ⟨it.1, g.1.1, g.1.2, t.1, it1.1, g1.1.1, g1.1.2, t1.1, kp f.1, h.1, hs.1, hs.2, it.2, fun X hx => g.2 WF X hx, fun X hx => t.2 WF X hx, fun X hx => it1.2 WF X hx, fun X hx => g1.2 WF X hx, fun X hx => t1.2 WF X hx, fun X hx => TN.kp (f.2 WF X hx), h.2.1, h.2.2⟩ else none
    | _, _, _, _, _, _, _ => none
  else none
def LcP2.sem {S : Sta} {elt tg iter : Expr} {ifs : List Expr} {tg1 iter1 : Expr} {ifs1 : List Expr} {scope : Scope} (p : LcP2 C S elt tg iter ifs tg1 iter1 ifs1 scope) : Env' → M RV := sLc2 p.it p.g p.c p.it1 p.g1 p.c1 p.el ((ownOf S.N scope).map (·.2)) p.is1
theorem LcP2.pe {S : Sta} {elt tg iter : Expr} {ifs : List Expr} {tg1 iter1 : Expr} {ifs1 : List Expr} {scope : Scope} {pos : Pos} (p : LcP2 C S elt tg iter ifs tg1 iter1 ifs1 scope) (W : WX) (X : Cx) (hx : XO C S W X) : PE X (.ListComp elt [⟨tg, iter, ifs, 0⟩, ⟨tg1, iter1, ifs1, 0⟩] scope pos) (TN X.K C.fld W p.sem) :=
  se_lc2 hx.calm (by rw [hx.N]; exact hx.nd) (p.hi W X hx) (lcp_blk hx p.ok) p.sub (fun _ h => h) p.sub1 (fun s H Ca cl fp => p.hg _ (hx.blk scope (lcp_kind p.ok) s H Ca cl fp)) (fun s H Ca cl fp => p.ht _ (hx.blk scope (lcp_kind p.ok) s H Ca cl fp))
    (fun s H Ca cl fp => p.hi1 _ (hx.blk scope (lcp_kind p.ok) s H Ca cl fp)) (fun s H Ca cl fp => p.hg1 _ (hx.blk scope (lcp_kind p.ok) s H Ca cl fp)) (fun s H Ca cl fp => p.ht1 _ (hx.blk scope (lcp_kind p.ok) s H Ca cl fp)) (fun s H Ca cl fp => p.he _ (hx.blk scope (lcp_kind p.ok) s H Ca cl fp))
    (fold_no p.hs) (fun env => fold_no p.hs1)
def toC (S : Sta) (e : Expr) (pos : Pos) (r : OE C S e) : OE C S e := if (pos.line, pos.col) ∈ S.cl then match r with
  | some f => some ⟨toCell f.1, fun W X hx => se_cell (f.2 W X hx)⟩
  | none => none
  else r
abbrev OD (C : Con) (S : Sta) (pos : Pos) (keys : List (Option Expr)) (vals : List Expr) := Option { p : List Str × (Env' → M (List D)) // ∀ W X, XO C S W X → PD X X.K C.fld W pos keys vals p.1 p.2 }
def cDs (c : Cmp C) (S : Sta) (pos : Pos) : (keys : List (Option Expr)) → (vals : List Expr) → OD C S pos keys vals
  | [], [] => some ⟨([], sNil), fun _ _ _ => pd_nil⟩
  | some (.Constant (.str k) jk kp') :: keys, v :: vals => match c.e S v, cDs c S pos keys vals with
    | some f, some g => some ⟨(k :: g.1.1, sCons (kp f.1) g.1.2), fun W X hx => pd_cons (TN.kp (f.2 W X hx)) (g.2 W X hx)⟩
    | _, _ => none
  | _, _ => none
theorem ne_nil {α : Type} {l : List α} (h : l.isEmpty = false) : l ≠ [] := by
  rintro rfl
  cases h
def cDict (c : Cmp C) (S : Sta) (keys : List (Option Expr)) (vals : List Expr) (pos : Pos) : OE C S (.Dict keys vals pos) := match cDs c S pos keys vals with
  | some g => if h : keys.all (·.isSome) = true ∧ keys.length = vals.length ∧ keys.isEmpty = false ∧ keys.length ≤ 15 ∧ g.1.1.length ≤ 15 ∧ g.1.1.Nodup then
      some ⟨sDict g.1.1 g.1.2, fun W X hx => se_dict (g.2 W X hx) h.1 h.2.1 (ne_nil h.2.2.1) h.2.2.2.1 h.2.2.2.2.1 h.2.2.2.2.2⟩ else none
  | none => none
/-- list(range(..)) -/
def cLR (c : Cmp C) (S : Sta) (x : Str) (p : Pos) (y : Str) (yp : Pos) (es : List Expr) (rpos pos : Pos) : OE C S (.Call (.Name x p) [.Call (.Name y yp) es [] rpos] [] pos) :=
  if h : x = "list" ∧ y = "range" ∧ glB S.sc x = true ∧ glB S.sc y = true ∧ es.all nst = true then match hgl : C.gl x, hgl2 : C.gl y with
    | some (.bty _), some .it => match es, h.2.2.2.2 with
      | [a], ha => match c.e S a with
        | some f => some ⟨sLR1 (rd f.1), fun W X hx => by
            obtain ⟨rfl, rfl, hg, hg2, _⟩ := h
            exact se_lr1 hx.calm (hx.gl hg) (hx.gv _ _ hgl).1 (hx.gl hg2) (hx.gv _ _ hgl2) (TN.rd (f.2 W X hx)) (star_cons (all_1 ha)) (star_cons rfl)⟩
        | none => none
      | [a, b], ha => match c.e S a, c.e S b with
        | some f, some g => some ⟨sLR2 (rd f.1) (rd g.1), fun W X hx => by
            obtain ⟨rfl, rfl, hg, hg2, _⟩ := h
            have ha : nst a = true ∧ nst b = true := by simpa using ha
            exact se_lr2 hx.calm (hx.gl hg) (hx.gv _ _ hgl).1 (hx.gl hg2) (hx.gv _ _ hgl2) (TN.rd (f.2 W X hx)) (TN.rd (g.2 W X hx)) (star_cons ha.1) (star_cons ha.2) (star_any (by simp [ha.2])) (star_cons rfl)⟩
        | _, _ => none
      | _, _ => none
    | _, _ => none
  else none
/-- o.append(e), o a cell -/
def cMut (c : Cmp C) (S : Sta) (o : Expr) (m : Str) (apos : Pos) (e : Expr) (pos : Pos) : OE C S (.Call (.Attribute o m apos) [e] [] pos) :=
  if h : m = "append" ∧ nst e = true ∧ atb o = true ∧ (apos.endLine == pos.line) = true then match c.e S o, cAs c S [e] with
    | some f, some g => some ⟨sMutC lAppend (rd f.1) g.1, fun W X hx => by
        obtain ⟨rfl, hn, ho, hl⟩ := h
        exact se_mutC (TN.rd (f.2 W X hx)) F.slot_list_append F.type_list_append mt_append ok_append (g.2.1 W X hx) (at_base ho) (few1 hn) hl (star_cons hn) rfl⟩
    | _, _ => none
  else none
def stepE (c : Cmp C) (S : Sta) : (e : Expr) → OE C S e
  | .Name x pos => cName S x pos
  | .Constant (.int i) j pos => some ⟨sC (.int i), fun _ _ _ => se_c pe_int fun _ _ => rfl⟩
  | .Constant (.bool b) j pos => some ⟨sC (.bl b), fun _ _ _ => se_c pe_bl fun _ _ => rfl⟩
  | .Constant (.str x) j pos => some ⟨sC (.str x), fun _ _ _ => se_c pe_str fun _ _ => rfl⟩
  | .Constant .none j pos => some ⟨sC .non, fun _ _ _ => se_c pe_non fun _ _ => rfl⟩
  | .Tuple es k pos => match cAs c S es with
    | some g => some ⟨sTup g.1, fun W X hx => se_tup (g.2.1 W X hx)⟩
    | none => none
  | .List es pos => toC S _ pos (match cAs c S es with
    | some g => some ⟨sLst g.1, fun W X hx => se_lst (g.2.1 W X hx)⟩
    | none => none)
  | .BinOp a o b pos => match c.e S a, c.e S b, opB o with
    | some f, some g, some op => some ⟨sBin op.1 (rd f.1) (rd g.1), fun W X hx => se_bin (op.2 X) (TN.rd (f.2 W X hx)) (TN.rd (g.2 W X hx))⟩
    | _, _, _ => none
  | .UnaryOp .USub a pos => match c.e S a with
    | some f => some ⟨sUn dNeg (rd f.1), fun W X hx => se_un un_dNeg (TN.rd (f.2 W X hx))⟩
    | none => none
  | .UnaryOp .Not a pos => match c.e S a with
    | some f => some ⟨sNotV f.1, fun W X hx => se_not (f.2 W X hx)⟩
    | none => none
  | .BoolOp o es pos => cOrs c S o pos es
  | .Compare a [o] [.Name x xp] pos => orE (cKdE c S a o x xp pos) (cCmpE c S a o _ pos)
  | .Compare a [o] [b] pos => cCmpE c S a o b pos
  | .Compare a [o, o'] [b, d] pos => match c.e S a, c.e S b, c.e S d, opC o, opC o' with
    | some f, some g, some k, some op, some op' => if h : lastMarks [o, o'] [b, d] = false then
        some ⟨sChain op.1 op'.1 (rd f.1) (rd g.1) (rd k.1), fun W X hx => se_chain (op.2 X hx.un) (op'.2 X hx.un) (TN.rd (f.2 W X hx)) (TN.rd (g.2 W X hx)) (TN.rd (k.2 W X hx)) h⟩ else none
    | _, _, _, _, _ => none
  | .IfExp t a b pos => match c.t S t, c.e S a, c.e S b with
    | some t, some f, some g => some ⟨sIf t.1 f.1 g.1, fun W X hx => se_if (t.2 W X hx) (f.2 W X hx) (g.2 W X hx)⟩
    | _, _, _ => none
  | .Subscript a (.Slice lo hi none p2) pos => match c.e S a, cPt c S lo, cPt c S hi with
    | some f, some l, some u => some ⟨sSlice (rd f.1) l.1 u.1, fun W X hx => se_slice (TN.rd (f.2 W X hx)) (l.2 W X hx) (u.2 W X hx)⟩
    | _, _, _ => none
  | .Subscript (.Name x xp) e pos => orE (cKdX c S x xp e pos) (cIx c S _ e pos)
  | .Subscript a b pos => cIx c S a b pos
  | .ListComp elt [⟨tg, iter, ifs, 0⟩] scope pos => toC S _ pos (match cLcP c S elt tg iter ifs scope with
    | some p => some ⟨p.sem, fun W X hx => p.pe W X hx⟩
    | none => none)
  | .ListComp elt [⟨tg, iter, ifs, 0⟩, ⟨tg1, iter1, ifs1, 0⟩] scope pos => toC S _ pos (match cLcP2 c S elt tg iter ifs tg1 iter1 ifs1 scope with
    | some p => some ⟨p.sem, fun W X hx => p.pe W X hx⟩
    | none => none)
  | .Dict keys vals pos => cDict c S keys vals pos
  | .Call (.Name x p) [.Call (.Name y yp) [e] [] rpos] [] pos => orE (cSoSet c S x p y yp e rpos pos) (orE (cLR c S x p y yp [e] rpos pos) (cCall c S x p _ [] pos))
  | .Call (.Name x p) [.Call (.Name y yp) es [] rpos] [] pos => orE (cLR c S x p y yp es rpos pos) (cCall c S x p _ [] pos)
  | .Call (.Name x p) (e :: es) [] pos => cCall c S x p e es pos
  | .Call (.Name x p) (e :: es) (k :: ks) pos => cCallK c S x p e es (k :: ks) pos
  | .Call (.Attribute o m apos) [e] [] pos => cMut c S o m apos e pos
  | _ => none
def cmpN (C : Con) : Nat → Cmp C
  | 0 => ⟨fun _ _ => none, fun _ _ => none⟩
  | n + 1 => ⟨stepE (cmpN C n), stepT (cmpN C n)⟩
end
end Ev
set_option Elab.async false -- ev
set_option linter.all false -- ev
set_option maxRecDepth 100000 -- ev
set_option maxHeartbeats 4000000 -- ev
set_option autoImplicit false -- ev
/-! From the text to its meaning: statements, defs. -/
namespace Ev
open PySem PySem.Spec PyProof.Rows L2 -- ev
section
variable {C : Con}
/-! ### which names' lists leave the frame's hands -/
mutual
/-- where the value is kept -/
def escK (C : Con) : Nat → Expr → List Str
  | 0, _ => []
  | n + 1, .Name x _ => [x]
  | n + 1, .IfExp t a b _ => escR C n t ++ escK C n a ++ escK C n b
  | n + 1, .BoolOp _ es _ => (es.map (escK C n)).flatten
  | n + 1, e => escR C n e
/-- where it is read -/
def escR (C : Con) : Nat → Expr → List Str
  | 0, _ => []
  | n + 1, .Tuple es _ _ => (es.map (escK C n)).flatten
  | n + 1, .List es _ => (es.map (escK C n)).flatten
  | n + 1, .BinOp a _ b _ => escR C n a ++ escR C n b
  | n + 1, .UnaryOp _ a _ => escR C n a
  | n + 1, .BoolOp _ es _ => (es.map (escR C n)).flatten
  | n + 1, .Compare a _ es _ => escR C n a ++ (es.map (escR C n)).flatten
  | n + 1, .IfExp t a b _ => escR C n t ++ escR C n a ++ escR C n b
  | n + 1, .Subscript a b _ => escR C n a ++ escR C n b
  | n + 1, .Slice a b c _ => ((a.map (escR C n)).getD []) ++ ((b.map (escR C n)).getD []) ++ ((c.map (escR C n)).getD [])
  | n + 1, .ListComp elt gs _ _ => escK C n elt ++ (gs.map fun g => escK C n g.iter ++ (g.ifs.map (escR C n)).flatten).flatten
  | n + 1, .Dict _ vs _ => (vs.map (escK C n)).flatten
  | n + 1, .Call (.Name x _) es ks _ => (match C.gl x with
    | some (.bfn _) => (es.map (escR C n)).flatten
    | some (.bty _) => (es.map (escR C n)).flatten
    | some .comb => (es.map (escR C n)).flatten
    | some .it => (es.map (escR C n)).flatten
    | _ => (es.map (escK C n)).flatten ++ (ks.map fun k => escK C n k.value).flatten)
  | n + 1, .Call (.Attribute o _ _) es _ _ => escR C n o ++ (es.map (escK C n)).flatten
  | n + 1, _ => []
end
def slots (S : Sta) (xs : List Str) : List Nat := (xs.eraseDups.filter fun x => visB S.sc x && decide (S.N[S.N.idxOf x]? = some x)).map S.N.idxOf
abbrev OS (C : Con) (S : Sta) (s : Stmt) := Option { f : SS // ∀ W X H0 ca0, XO C S W X → PS X s (TSt X.K C.fld W H0 ca0 f) }
abbrev OSs (C : Con) (S : Sta) (ss : List Stmt) := Option { f : SS // ∀ W X H0 ca0, XO C S W X → PSs X ss (TSt X.K C.fld W H0 ca0 f) }
def frz {S : Sta} {s : Stmt} (is : List Nat) (r : OS C S s) : OS C S s := match is, r with
  | [], r => r
  | is, some f => some ⟨sFrz is f.1, fun W X H0 ca0 hx => ss_frz is (f.2 W X H0 ca0 hx)⟩
  | _, none => none
theorem PS.or {X : Cx} {s : Stmt} {t u : TS} (h : PS X s t) (g : PS X s u) : PS X s (fun D σ H => t D σ H ∨ u D σ H) := ⟨fun pins s1 σ H D I q => by
  rcases q with q | q
  · exact h.run pins s1 σ H D I q
  · exact g.run pins s1 σ H D I q⟩
/-- name[i] = e: of a list of the frame's own, or of a cell -/
def sSetN (k : Nat) (f fi : Env' → M D) : SS := fun ρ st => match ρ[k]? with
  | some (.own _) => sSetOwn k f fi ρ st
  | _ => sSetIx f (rd (sVar k)) fi ρ st
theorem ss_setN {X : Cx} {K : PySem.W.Frag} {fld : Str → List Str} {W : WX} {H0 : Hp} {ca0 : List Addr} {s : Stmt} {k : Nat} {f fi : Env' → M D} (h1 : PS X s (TSt K fld W H0 ca0 (sSetOwn k f fi))) (h2 : PS X s (TSt K fld W H0 ca0 (sSetIx f (rd (sVar k)) fi))) : PS X s (TSt K fld W H0 ca0 (sSetN k f fi)) := by
  refine PS.imp (PS.or h1 h2) fun D σ H ⟨ρ, st, ca, hf, hsr, hp⟩ => ?_
  unfold sSetN at hp
  split at hp
  · exact .inl ⟨ρ, st, ca, hf, hsr, hp⟩
  · exact .inr ⟨ρ, st, ca, hf, hsr, hp⟩
theorem sw_false {elt : Expr} {gs : List Comprehension} {scope : Scope} {pos py : Pos} {y : Str} {l : Nat} {env : Env} (hy : env.scope.names.lookup y ≠ some .local ∨ (py.line == pos.line) = false) : swapsWith (.ListComp elt gs scope pos) (some (.Name y py)) l env = pure false := by
  have e : (env.blockKind == .function && env.kindOf y == some .local && py.line == pos.line && !(scope.names.any fun (n, k) => n == y && (k == .local || k == .cell))) = false := by
    rcases hy with h | h
    · have : (env.kindOf y == some NameKind.local) = false := by
        rw [beq_eq_false_iff_ne]
        exact h
      rw [this]
      simp
    · rw [h]
      simp
  unfold swapsWith
  simp only [Expr.pos]
  rw [e]
def locS (S : Sta) (x : Str) : Bool := decide (S.sc.names.lookup x = some .local)
/-- name = e -/
def cSet (c : Cmp C) (S : Sta) (x : Str) (px : Pos) (e : Expr) (pos : Pos) : OS C S (.Assign [.Name x px] e pos) :=
  if h : locB S.sc x = true ∧ S.N[S.N.idxOf x]? = some x ∧ nlc e = true ∧ (S.st x = true ∨ S.sc.names.lookup x = some .local) then match c.e S e with
    | some f => some ⟨sSet (S.N.idxOf x) f.1, fun W X H0 ca0 hx => ss_set (by rw [hx.N]; exact hx.nd) (by rw [hx.N]; exact h.2.1) (by rw [hx.sc]; exact loc_of h.1) (f.2 W X hx) (sw_no h.2.2.1) (by rw [hx.sc]; exact h.2.2.2.imp (hx.fn x) id)⟩
    | none => none
  else none
def cSetLc (c : Cmp C) (S : Sta) (x : Str) (px : Pos) (elt tg iter : Expr) (ifs : List Expr) (scope : Scope) (lpos pos : Pos) : OS C S (.Assign [.Name x px] (.ListComp elt [⟨tg, iter, ifs, 0⟩] scope lpos) pos) :=
  if h : locB S.sc x = true ∧ S.N[S.N.idxOf x]? = some x ∧ (S.st x = true ∨ S.sc.names.lookup x = some .local) then
    if h2 : S.sc.names.lookup x ≠ some .local ∨ (px.line == lpos.line) = false then match c.e S (.ListComp elt [⟨tg, iter, ifs, 0⟩] scope lpos) with
      | some f => some ⟨sSet (S.N.idxOf x) f.1, fun W X H0 ca0 hx => ss_set (by rw [hx.N]; exact hx.nd) (by rw [hx.N]; exact h.2.1) (by rw [hx.sc]; exact loc_of h.1) (f.2 W X hx) (sw_false (by rw [hx.sc]; exact h2)) (by rw [hx.sc]; exact h.2.2.imp (hx.fn x) id)⟩
      | none => none
    else if h3 : (scope.names.any fun (n, k) => n == x && (k == .local || k == .cell)) = false then match cLcP c S elt tg iter ifs scope with
      | some p => some ⟨sSet (S.N.idxOf x) p.sem, fun W X H0 ca0 hx => by
          have hl : S.sc.names.lookup x = some .local := Classical.byContradiction fun z => h2 (.inl z)
          have hp : (px.line == lpos.line) = true := by
            cases q : (px.line == lpos.line) with
            | true => rfl
            | false => exact absurd (.inr q) h2
          exact ss_setLc hx.calm (by rw [hx.N]; exact hx.nd) (by rw [hx.N]; exact h.2.1) (by rw [hx.sc]; exact hl) (sw_true (by rw [hx.sc]; exact hx.kind) (by rw [hx.sc]; exact hl) hp h3) (p.hi W X hx) (lcp_blk hx p.ok) p.sub
            (fun s H Ca cl fp => p.hg _ (hx.blk scope (lcp_kind p.ok) s H Ca cl fp)) (fun s H Ca cl fp => p.ht _ (hx.blk scope (lcp_kind p.ok) s H Ca cl fp)) (fun s H Ca cl fp => p.he _ (hx.blk scope (lcp_kind p.ok) s H Ca cl fp)) (fold_no p.hs)⟩
      | none => none
    else none
  else none
/-- a tuple of names = e -/
def cAsT (c : Cmp C) (S : Sta) (ts : List Expr) (kt : Nat) (pt : Pos) (e : Expr) (pos : Pos) : OS C S (.Assign [.Tuple ts kt pt] e pos) :=
  if h : nlc e = true ∧ (ntp e = true ∨ (match e with | .Tuple vs _ _ => vs.all (foldedForSure 8) | _ => false) = true) then match cG C S 5 (.Tuple ts kt pt), c.e S e with
    | some g, some f => some ⟨sAsgT (kp f.1) g.1.2, fun W X H0 ca0 hx => ss_asg (TN.kp (f.2 W X hx)) (g.2 W X hx) (sws_no h.1) (by
        rcases h.2 with h2 | h2
        · exact sst_no h2
        · cases e with
          | Tuple vs k2 pt2 => exact sw_const h2
          | _ => cases h2) rfl⟩
    | _, _ => none
  else none
def cPar (c : Cmp C) (S : Sta) (x : Str) (px : Pos) (y : Str) (py : Pos) (kt : Nat) (pt : Pos) (a b : Expr) (k2 : Nat) (pt2 pos : Pos) : OS C S (.Assign [.Tuple [.Name x px, .Name y py] kt pt] (.Tuple [a, b] k2 pt2) pos) :=
  if h : (S.sc.names.lookup x = some .local ∧ S.sc.names.lookup y = some .local) ∧ (S.N[S.N.idxOf x]? = some x ∧ S.N[S.N.idxOf y]? = some y ∧ S.N.idxOf x ≠ S.N.idxOf y) ∧ (px.line = py.line ∧ x ≠ y ∧ nst a = true ∧ nst b = true) ∧
      (foldedForSure 8 a && foldedForSure 8 b) = false ∧ (constantsAlone 8 a && constantsAlone 8 b) = false then match cAs c S [a, b] with
    | some g => some ⟨sPar (S.N.idxOf x) (S.N.idxOf y) g.1, fun W X H0 ca0 hx => by
        obtain ⟨⟨h1, h2⟩, ⟨h3, h4, h5⟩, ⟨h6, h7, h8, h9⟩, h10, h11⟩ := h
        have e1 : X.env.scope.names.lookup x = some .local := by rw [hx.sc]; exact h1
        have e2 : X.env.scope.names.lookup y = some .local := by rw [hx.sc]; exact h2
        have hb : X.env.blockKind = .function := by unfold Env.blockKind; rw [hx.sc, hx.kind]; rfl
        exact ss_par hx.calm (by rw [hx.N]; exact hx.nd) (by rw [hx.N]; exact h3) (by rw [hx.N]; exact h4) h5 e1 e2 (g.2.1 W X hx) (sw_two hb e1 e2 h6 h7 h8 h9 h10 h11) rfl⟩
    | none => none
  else none
def cPar3 (c : Cmp C) (S : Sta) (x : Str) (px : Pos) (y : Str) (py : Pos) (z : Str) (pz : Pos) (kt : Nat) (pt : Pos) (a b d : Expr) (k2 : Nat) (pt2 pos : Pos) : OS C S (.Assign [.Tuple [.Name x px, .Name y py, .Name z pz] kt pt] (.Tuple [a, b, d] k2 pt2) pos) :=
  if h : (S.sc.names.lookup x = some .local ∧ S.sc.names.lookup y = some .local ∧ S.sc.names.lookup z = some .local) ∧ (S.N[S.N.idxOf x]? = some x ∧ S.N[S.N.idxOf y]? = some y ∧ S.N[S.N.idxOf z]? = some z) ∧ (S.N.idxOf x ≠ S.N.idxOf y ∧ S.N.idxOf x ≠ S.N.idxOf z ∧ S.N.idxOf y ≠ S.N.idxOf z) ∧
      (px.line = py.line ∧ px.line = pz.line ∧ x ≠ y ∧ x ≠ z ∧ y ≠ z) ∧ (nst a = true ∧ nst b = true ∧ nst d = true) ∧ (foldedForSure 8 a && (foldedForSure 8 b && foldedForSure 8 d)) = false ∧ (constantsAlone 8 a && (constantsAlone 8 b && constantsAlone 8 d)) = false then match cAs c S [a, b, d] with
    | some g => some ⟨sPar3 (S.N.idxOf x) (S.N.idxOf y) (S.N.idxOf z) g.1, fun W X H0 ca0 hx => by
        obtain ⟨⟨h1, h2, h2'⟩, ⟨h3, h4, h4'⟩, ⟨h5, h5', h5''⟩, ⟨h6, h6', h7, h7', h7''⟩, ⟨h8, h9, h9'⟩, h10, h11⟩ := h
        have e1 : X.env.scope.names.lookup x = some .local := by rw [hx.sc]; exact h1
        have e2 : X.env.scope.names.lookup y = some .local := by rw [hx.sc]; exact h2
        have e3 : X.env.scope.names.lookup z = some .local := by rw [hx.sc]; exact h2'
        have hb : X.env.blockKind = .function := by unfold Env.blockKind; rw [hx.sc, hx.kind]; rfl
        exact ss_par3 hx.calm (by rw [hx.N]; exact hx.nd) (by rw [hx.N]; exact h3) (by rw [hx.N]; exact h4) (by rw [hx.N]; exact h4') h5 h5' h5'' e1 e2 e3 (g.2.1 W X hx) (sw_three hb e1 e2 e3 h6 h6' h7 h7' h7'' h8 h9 h9' h10 h11) rfl⟩
    | none => none
  else none
theorem as_sub {o i : Expr} {tpos : Pos} {env : Env} (h : pix i = true) (v : Value) : assign (.Subscript o i tpos) env v = (do
      let ov ← holding [v] (eval o env) -- ev
      let iv ← holding [v, ov] (eval i env) -- ev
      standAt tpos
      holding [v, ov, iv] (setItem ov iv v) -- ev
      release [v, ov, iv] []) := by
  cases i <;> first | rfl | cases h
/-- o[i] = e -/
def cSetIx (c : Cmp C) (S : Sta) (o i : Expr) (tpos : Pos) (e : Expr) (pos : Pos) : OS C S (.Assign [.Subscript o i tpos] e pos) :=
  if h : nlc e = true ∧ pix i = true then match c.e S e, c.e S o, c.e S i with
    | some f, some fo, some fi => some ⟨sSetIx (kp f.1) (rd fo.1) (rd fi.1), fun W X H0 ca0 hx => ss_setIx (by have := hx.un; omega) (TN.kp (f.2 W X hx)) (TN.rd (fo.2 W X hx)) (TN.rd (fi.2 W X hx)) (sws_no h.1) sst_sub rfl (as_sub h.2)⟩
    | _, _, _ => none
  else none
def cSetN (c : Cmp C) (S : Sta) (x : Str) (xp : Pos) (i : Expr) (tpos : Pos) (e : Expr) (pos : Pos) : OS C S (.Assign [.Subscript (.Name x xp) i tpos] e pos) :=
  if h : nlc e = true ∧ visB S.sc x = true ∧ dbg x = true ∧ S.N[S.N.idxOf x]? = some x ∧ pix i = true then match c.e S e, c.e S i with
    | some f, some fi => some ⟨sSetN (S.N.idxOf x) (kp f.1) (rd fi.1), fun W X H0 ca0 hx =>
        have hn : X.N[S.N.idxOf x]? = some x := by rw [hx.N]; exact h.2.2.2.1
        have hv : Vis X.env.scope x := by rw [hx.sc]; exact vis_of h.2.1
        ss_setN (ss_setOwn hn hv (dbg_1 h.2.2.1) (dbg_2 h.2.2.1) (TN.kp (f.2 W X hx)) (TN.rd (fi.2 W X hx)) (sws_no h.1) sst_sub rfl (as_sub h.2.2.2.2))
          (ss_setIx (by have := hx.un; omega) (TN.kp (f.2 W X hx)) (TN.rd (se_var hn hv (dbg_1 h.2.2.1) (dbg_2 h.2.2.1))) (TN.rd (fi.2 W X hx)) (sws_no h.1) sst_sub rfl (as_sub h.2.2.2.2))⟩
    | _, _ => none
  else none
/-- name.append(e) -/
def cApp (c : Cmp C) (S : Sta) (x : Str) (xp : Pos) (m : Str) (apos : Pos) (e : Expr) (cpos pos : Pos) : OS C S (.Expr (.Call (.Attribute (.Name x xp) m apos) [e] [] cpos) pos) :=
  if h : m = "append" ∧ nst e = true ∧ (apos.endLine == cpos.line) = true ∧ visB S.sc x = true ∧ dbg x = true ∧ S.N[S.N.idxOf x]? = some x then match cAs c S [e] with
    | some g => some ⟨sMut (S.N.idxOf x) lAppend g.1, fun W X H0 ca0 hx => by
        obtain ⟨rfl, hn, hl, hv, hd, hi⟩ := h
        exact ss_mut (by rw [hx.N]; exact hi) (by rw [hx.sc]; exact vis_of hv) (dbg_1 hd) (dbg_2 hd) F.slot_list_append F.type_list_append mt_append ok_append (g.2.1 W X hx) rfl (few1 hn) hl (star_cons hn) rfl rfl⟩
    | none => none
  else none
def cDrop (c : Cmp C) (S : Sta) (e : Expr) (pos : Pos) : OS C S (.Expr e pos) := if h : nlc e = true then match c.e S e with
  | some f => some ⟨sDrop f.1, fun W X H0 ca0 hx => ss_drop (f.2 W X hx) (sw_no h)⟩
  | none => none
  else none
structure CmpS (C : Con) where
  s : (S : Sta) → (s : Stmt) → OS C S s
def cSs (cs : CmpS C) (S : Sta) : (ss : List Stmt) → OSs C S ss
  | [] => some ⟨sSkip, fun _ _ _ _ _ => ss_skip⟩
  | s :: ss => match cs.s S s, cSs cs S ss with
    | some f, some g => some ⟨sSeq f.1 g.1, fun W X H0 ca0 hx => ss_seq (f.2 W X H0 ca0 hx) (g.2 W X H0 ca0 hx)⟩
    | _, _ => none
def depth : Nat := 40
/-- raise x(..) -/
def cRaise (c : Cmp C) (S : Sta) (x : Str) (p : Pos) (e : Expr) (es : List Expr) (pos pos2 : Pos) : OS C S (.Raise (some (.Call (.Name x p) (e :: es) [] pos)) none pos2) :=
  if h : glB S.sc x = true ∧ nst e = true ∧ es.all nst = true then match hgl : C.gl x, cAs c S (e :: es) with
    | some (.exc fs), some g => some ⟨sRaise x fs.length g.1, fun W X H0 ca0 hx => let ⟨hm, EC, hf, hs⟩ := hx.gv x _ hgl
        ss_raise EC hf hs (hx.room.mono hx.lv) hx.calm hx.tk (hx.gl h.1) hm (g.2.1 W X hx) (dbg_1 (glB_d h.1)) (star_cons h.2.1) (star_any h.2.2)⟩
    | _, _ => none
  else none
/-! ### except suites -/
/-- the suite's name and slot, if it has one; a meaning by the class and the fields caught -/
abbrev SuE (C : Con) (S : Sta) (o : Option (Str × Nat)) (e : Expr) (f : Str → List D → Env' → M RV) : Prop :=
  ∀ (W : WX) (X : Cx), XO C S W X → ∀ (ax : Addr) (ox : Obj) (cl : Value) (dz : Option Addr) (pz : List (Addr × Obj)), Zc cl dz ox → (∃ vz, ox.data = .fields vz) → ∀ (cn : Str) (as : List D), cl = .ref (He.ga X.K cn) →
    PE (X.suite ax ((ax, ox) :: pz)) e (TH (match o with
      | none => ph0
      | some q => phX X.K C.fld q.2 ax cl dz cn as) X.K C.fld WF (f cn as))
abbrev SuAs (C : Con) (S : Sta) (o : Option (Str × Nat)) (es : List Expr) (f : Str → List D → Env' → M (List D)) : Prop :=
  ∀ (W : WX) (X : Cx), XO C S W X → ∀ (ax : Addr) (ox : Obj) (cl : Value) (dz : Option Addr) (pz : List (Addr × Obj)), Zc cl dz ox → (∃ vz, ox.data = .fields vz) → ∀ (cn : Str) (as : List D), cl = .ref (He.ga X.K cn) →
    PA (X.suite ax ((ax, ox) :: pz)) es (THa (match o with
      | none => ph0
      | some q => phX X.K C.fld q.2 ax cl dz cn as) X.K C.fld WF (f cn as))
abbrev OSE (C : Con) (S : Sta) (o : Option (Str × Nat)) (e : Expr) := Option { f : Str → List D → Env' → M RV // SuE C S o e f }
/-- n.f of the caught error -/
def sXf (gl : Str → Option GV) (f cn : Str) (as : List D) : Env' → M RV := match gl cn with
  | some (.exc fs) => match ixOf f fs with
    | some j => sFld as j
    | none => fun _ => M.bad
  | _ => fun _ => M.bad
theorem TH.bad {X : Cx} {Φ : Ph} {K : PySem.W.Frag} {fld : Str → List Str} {W : WX} {e : Expr} : PE X e (TH Φ K fld W fun _ => M.bad) := ⟨fun pins s σ H Q I ⟨ρ, st, ca, _, _, _, hp⟩ => hp.elim⟩
def cHAt (C : Con) (S : Sta) (o : Option (Str × Nat)) (n : Str) (np : Pos) (f : Str) (pos : Pos) : OSE C S o (.Attribute (.Name n np) f pos) := match o with
  | none => none
  | some (z, i) => if h : z = n ∧ S.N[i]? = some n ∧ visB S.sc n = true ∧ dbg n = true then some ⟨sXf C.gl f, fun W X hx ax ox cl dz pz hz hd cn as ecl => by
      obtain ⟨_, hN, hv, hdb⟩ := h
      show PE (X.suite ax ((ax, ox) :: pz)) (.Attribute (.Name n np) f pos) (TH (phX X.K C.fld i ax cl dz cn as) X.K C.fld WF (sXf C.gl f cn as))
      unfold sXf
      cases hgl : C.gl cn with
      | none => exact TH.bad
      | some gv =>
        cases gv with
        | exc fs =>
          dsimp only
          cases hj : ixOf f fs with
          | none => exact TH.bad
          | some j =>
            obtain ⟨hm, EC, hf, hs⟩ := hx.gv cn _ hgl
            have hn := EC.no f (List.mem_of_getElem? (ixOf_ok hj))
            exact sh_fld hf (ixOf_ok hj) EC.xf hn hz hd (by rw [hx.N]; exact hN) (by rw [hx.sc]; exact vis_of hv) (dbg_1 hdb) (dbg_2 hdb)
        | _ => exact TH.bad⟩ else none
def cHAs (C : Con) (S : Sta) (o : Option (Str × Nat)) (ce : (e : Expr) → OSE C S o e) : (es : List Expr) → Option { g : Str → List D → Env' → M (List D) // SuAs C S o es g }
  | [] => some ⟨fun _ _ => sNil, fun _ _ _ _ _ _ _ _ _ _ _ _ _ => sh_nil⟩
  | e :: es => if hn : nst e = true then match ce e, cHAs C S o ce es with
    | some f, some g => some ⟨fun cn as => sCons (kp (f.1 cn as)) (g.1 cn as), fun W X hx ax ox cl dz pz hz hd cn as ecl => sh_cons (TH.kp (f.2 W X hx ax ox cl dz pz hz hd cn as ecl)) (g.2 W X hx ax ox cl dz pz hz hd cn as ecl) (star_cons hn)⟩
    | _, _ => none
    else none
def cHE (C : Con) (S : Sta) (o : Option (Str × Nat)) : (n : Nat) → (e : Expr) → OSE C S o e
  | 0, _ => none
  | n + 1, .Attribute (.Name x np) f pos => cHAt C S o x np f pos
  | n + 1, .Tuple es k pos => match cHAs C S o (cHE C S o n) es with
    | some g => some ⟨fun cn as => sTup (g.1 cn as), fun W X hx ax ox cl dz pz hz hd cn as ecl => sh_tup (g.2 W X hx ax ox cl dz pz hz hd cn as ecl)⟩
    | none => none
  | n + 1, .List es pos => match cHAs C S o (cHE C S o n) es with
    | some g => some ⟨fun cn as => sLst (g.1 cn as), fun W X hx ax ox cl dz pz hz hd cn as ecl => sh_lst (g.2 W X hx ax ox cl dz pz hz hd cn as ecl)⟩
    | none => none
  | n + 1, .Constant (.int i) j pos => some ⟨fun _ _ => sC (.int i), fun _ _ _ _ _ _ _ _ _ _ _ _ _ => TN.h (se_c pe_int fun _ _ => rfl)⟩
  | n + 1, .Constant (.bool b) j pos => some ⟨fun _ _ => sC (.bl b), fun _ _ _ _ _ _ _ _ _ _ _ _ _ => TN.h (se_c pe_bl fun _ _ => rfl)⟩
  | n + 1, .Constant (.str x) j pos => some ⟨fun _ _ => sC (.str x), fun _ _ _ _ _ _ _ _ _ _ _ _ _ => TN.h (se_c pe_str fun _ _ => rfl)⟩
  | n + 1, .Constant .none j pos => some ⟨fun _ _ => sC .non, fun _ _ _ _ _ _ _ _ _ _ _ _ _ => TN.h (se_c pe_non fun _ _ => rfl)⟩
  | n + 1, .Name x pos => if h : visB S.sc x = true ∧ dbg x = true ∧ S.N[S.N.idxOf x]? = some x then
      some ⟨fun _ _ => sVar (S.N.idxOf x), fun W X hx ax ox cl dz pz hz hd cn as ecl => TN.h (se_var (by show X.N[_]? = _; rw [hx.N]; exact h.2.2) (by show Vis X.env.scope x; rw [hx.sc]; exact vis_of h.1) (dbg_1 h.2.1) (dbg_2 h.2.1))⟩ else none
  | n + 1, .BinOp a .Add b pos => match cHE C S o n a, cHE C S o n b with
    | some f, some g => some ⟨fun cn as => sBin dAdd (rd (f.1 cn as)) (rd (g.1 cn as)), fun W X hx ax ox cl dz pz hz hd cn as ecl => sh_bin op_dAdd (TH.rd (f.2 W X hx ax ox cl dz pz hz hd cn as ecl)) (TH.rd (g.2 W X hx ax ox cl dz pz hz hd cn as ecl))⟩
    | _, _ => none
  | _, _ => none
abbrev SuS (C : Con) (S : Sta) (o : Option (Str × Nat)) (ss : List Stmt) (f : Str → List D → SS) : Prop :=
  ∀ (W : WX) (X : Cx), XO C S W X → ∀ (H0 : Hp) (ca0 : List Addr) (ax : Addr) (ox : Obj) (cl : Value) (dz : Option Addr) (pz : List (Addr × Obj)), Zc cl dz ox → (∃ vz, ox.data = .fields vz) → ∀ (cn : Str) (as : List D), cl = .ref (He.ga X.K cn) →
    PSs (X.suite ax ((ax, ox) :: pz)) ss (THS (match o with
      | none => ph0
      | some q => phX X.K C.fld q.2 ax cl dz cn as) X.K C.fld H0 ca0 (f cn as))
def cSu (C : Con) (S : Sta) (o : Option (Str × Nat)) : (ss : List Stmt) → Option { f : Str → List D → SS // SuS C S o ss f }
  | [.Return (some e) pos] => match cHE C S o 20 e with
    | some f => some ⟨fun cn as => sSeq (sRet (f.1 cn as)) sSkip, fun W X hx H0 ca0 ax ox cl dz pz hz hd cn as ecl => sh_one (sh_ret (f.2 W X hx ax ox cl dz pz hz hd cn as ecl))⟩
    | none => none
  | [.Assign [.Name x px] e pos] => if h : locB S.sc x = true ∧ S.N[S.N.idxOf x]? = some x ∧ nlc e = true ∧ (S.st x = true ∨ S.sc.names.lookup x = some .local) then match cHE C S o 20 e with
    | some f => some ⟨fun cn as => sSeq (sSet (S.N.idxOf x) (f.1 cn as)) sSkip, fun W X hx H0 ca0 ax ox cl dz pz hz hd cn as ecl => sh_one (sh_set (by show X.N.Nodup; rw [hx.N]; exact hx.nd) (by show X.N[_]? = _; rw [hx.N]; exact h.2.1) (by show Loc X.env.scope x; rw [hx.sc]; exact loc_of h.1)
        (f.2 W X hx ax ox cl dz pz hz hd cn as ecl) (sw_no h.2.2.1) (by show X.fn x = true ∨ X.env.scope.names.lookup x = some .local; rw [hx.sc]; exact h.2.2.2.imp (hx.fn x) id))⟩
    | none => none
    else none
  | [.Pass pos] => some ⟨fun cn as => sSeq sSkip sSkip, fun W X hx H0 ca0 ax ox cl dz pz hz hd cn as ecl => sh_one sh_pass⟩
  | [.Continue pos] => some ⟨fun cn as => sSeq sCnt sSkip, fun W X hx H0 ca0 ax ox cl dz pz hz hd cn as ecl => sh_one sh_cnt⟩
  | _ => none
abbrev OHs (C : Con) (S : Sta) (hds : List ExceptHandler) := Option { hs : List Hc // ∀ W X H0 ca0, XO C S W X → HcOk X C.fld H0 ca0 C.sub hds hs }
def excG (C : Con) (x : Str) : Bool := match C.gl x with
  | some (.exc _) => true
  | some .base => true
  | _ => false
theorem excG_ok {S : Sta} {W : WX} {X : Cx} {x : Str} (hx : XO C S W X) (h : excG C x = true) (hg : glB S.sc x = true) : Names X x (.ref (He.ga X.K x)) := by
  refine ⟨hx.gl hg, dbg_1 (glB_d hg), .inl ?_⟩
  unfold excG at h
  split at h
  · rename_i fs hgl
    exact (hx.gv x _ hgl).1
  · rename_i hgl
    exact hx.gv x _ hgl
  · cases h
def cHs (C : Con) (S : Sta) : (hds : List ExceptHandler) → OHs C S hds
  | [] => some ⟨[], fun _ _ _ _ _ => .nil⟩
  | .ExceptHandler (some (.Name x np)) none (st0 :: sts) pos :: hds => if h : glB S.sc x = true ∧ excG C x = true then match cSu C S none (st0 :: sts), cHs C S hds with
    | some f, some r => some ⟨⟨x, none, f.1⟩ :: r.1, fun W X H0 ca0 hx => HcOk.cons (h := ⟨x, none, f.1⟩) (nm := none) (excG_ok hx h.2 h.1) trivial (fun ax ox cl dz pz hz hd cn as _ ecl => f.2 W X hx H0 ca0 ax ox cl dz pz hz hd cn as ecl) (r.2 W X H0 ca0 hx)⟩
    | _, _ => none
    else none
  | .ExceptHandler (some (.Name x np)) (some n) (st0 :: sts) pos :: hds => if h : (glB S.sc x = true ∧ excG C x = true) ∧ S.N[S.N.idxOf n]? = some n ∧ S.sc.names.lookup n = some .local then match cSu C S (some (n, S.N.idxOf n)) (st0 :: sts), cHs C S hds with
    | some f, some r => some ⟨⟨x, some (S.N.idxOf n), f.1⟩ :: r.1, fun W X H0 ca0 hx => HcOk.cons (h := ⟨x, some (S.N.idxOf n), f.1⟩) (nm := some n) (excG_ok hx h.1.2 h.1.1) ⟨by rw [hx.N]; exact hx.nd, by rw [hx.N]; exact h.2.1, by show X.env.scope.names.lookup n = _; rw [hx.sc]; exact h.2.2⟩ (fun ax ox cl dz pz hz hd cn as _ ecl => f.2 W X hx H0 ca0 ax ox cl dz pz hz hd cn as ecl) (r.2 W X H0 ca0 hx)⟩
    | _, _ => none
    else none
  | _ => none
def stepS (c : Cmp C) (cs : CmpS C) (S : Sta) : (s : Stmt) → OS C S s
  | .Pass pos => some ⟨sSkip, fun _ _ _ _ _ => ss_pass⟩
  | .Break pos => some ⟨sBrk, fun _ _ _ _ _ => ss_brk⟩
  | .Continue pos => some ⟨sCnt, fun _ _ _ _ _ => ss_cnt⟩
  | .Return none pos => some ⟨sRetN, fun _ _ _ _ _ => ss_retN⟩
  | .Return (some e) pos => frz (slots S (escK C depth e)) (match c.e S e with
    | some f => some ⟨sRet f.1, fun W X H0 ca0 hx => ss_ret (f.2 W X hx)⟩
    | none => none)
  | .Assign [.Name x px] (.ListComp elt [⟨tg, iter, ifs, 0⟩] scope lpos) pos => frz (slots S (escK C depth (.ListComp elt [⟨tg, iter, ifs, 0⟩] scope lpos))) (cSetLc c S x px elt tg iter ifs scope lpos pos)
  | .Assign [.Name x px] e pos => frz (slots S (escK C depth e)) (cSet c S x px e pos)
  | .Assign [.Tuple [.Name x px, .Name y py] kt pt] (.Tuple [a, b] k2 pt2) pos => frz (slots S (escK C depth (.Tuple [a, b] k2 pt2))) (orE (cPar c S x px y py kt pt a b k2 pt2 pos) (cAsT c S _ kt pt _ pos))
  | .Assign [.Tuple [.Name x px, .Name y py, .Name z pz] kt pt] (.Tuple [a, b, d] k2 pt2) pos => frz (slots S (escK C depth (.Tuple [a, b, d] k2 pt2))) (orE (cPar3 c S x px y py z pz kt pt a b d k2 pt2 pos) (cAsT c S _ kt pt _ pos))
  | .Assign [.Tuple ts kt pt] e pos => frz (slots S (escK C depth e)) (cAsT c S ts kt pt e pos)
  | .Assign [.Subscript (.Name x xp) i tpos] e pos => frz (slots S (escK C depth e ++ escR C depth i)) (cSetN c S x xp i tpos e pos)
  | .Assign [.Subscript o i tpos] e pos => frz (slots S (escK C depth e ++ escR C depth i ++ escR C depth o)) (cSetIx c S o i tpos e pos)
  | .Expr (.Call (.Attribute (.Name x xp) m apos) [e] [] cpos) pos => frz (slots S (escK C depth e)) (cApp c S x xp m apos e cpos pos)
  | .Expr e pos => frz (slots S (escR C depth e)) (cDrop c S e pos)
  | .If t a b pos => frz (slots S (escR C depth t)) (match c.t S t, cSs cs S a, cSs cs S b with
    | some t, some f, some g => some ⟨sIfS t.1 f.1 g.1, fun W X H0 ca0 hx => ss_if (t.2 W X hx) (f.2 W X H0 ca0 hx) (g.2 W X H0 ca0 hx)⟩
    | _, _, _ => none)
  | .For tg iter body [] pos => frz (slots S (escK C depth iter)) (if h : S.bd = true ∧ nset iter = true then match cI c S tg iter, cG C S 5 tg, cSs cs S body with
    | some it, some g, some f => some ⟨sFor it.1 g.1.2 f.1, fun W X H0 ca0 hx => ss_for (hx.po h.1) hx.calm (it.2 W X hx) (g.2 W X hx) (f.2 W X H0 ca0 hx) (fold_no h.2)⟩
    | _, _, _ => none
    else none)
  | .Raise (some (.Call (.Name x p) (e :: es) [] pos)) none pos2 => orE (frz (slots S (((e :: es).map (escK C depth)).flatten)) (cRaise c S x p e es pos pos2)) (some ⟨sNever, fun _ _ _ _ _ => ss_never⟩)
  | .Try body (h0 :: hds) [] [] pos => if h : S.bd = true then match cSs cs S body, cHs C S (h0 :: hds) with
    | some f, some hs => some ⟨sTry C.sub f.1 hs.1, fun W X H0 ca0 hx => ss_try (hx.stk h).1 (hx.stk h).2 hx.tk hx.sub (fun Wz pz xz tz pz2 => f.2 Wz (X.tr pz xz) H0 ca0 (hx.tr pz xz tz pz2)) (hs.2 W X H0 ca0 hx)⟩
    | _, _ => none
    else none
  | .Raise e e2 pos => some ⟨sNever, fun _ _ _ _ _ => ss_never⟩
  | _ => none
def cmpS (c : Cmp C) : Nat → CmpS C
  | 0 => ⟨fun _ _ => none⟩
  | n + 1 => ⟨stepS c (cmpS c n)⟩
def cBody (C : Con) (S : Sta) (ss : List Stmt) : OSs C S ss := cSs (cmpS (cmpN C 30) 20) S ss
end
end Ev
set_option Elab.async false -- ev
set_option linter.all false -- ev
set_option maxRecDepth 100000 -- ev
set_option maxHeartbeats 4000000 -- ev
set_option autoImplicit false -- ev
/-! A program: its defs, level by level. -/
namespace Ev
open PySem PySem.Spec PyProof.Rows L2 -- ev
/-- a def as the text has it, its names by place, what it means (run: the other defs) -/
structure Df where
  name : Str
  params : Arguments
  body : List Stmt
  scope : Scope
  N : List Str
  ps : List Str
  L : (Nat → List D → M D) → SS
  kw : List (Str × D)
/-- the fields of the own errors -/
def fldO (gls : List (Str × GV)) (x : Str) : List Str := match gls.lookup x with
  | some (.exc fs) => fs
  | _ => []
def subO (tb : List ((Str × Str) × Bool)) (x y : Str) : Option Bool := (tb.find? fun p => decide (p.1.1 = x) && decide (p.1.2 = y)).map (·.2)
def semO (fs : List Df) : Nat → Nat → List D → M D
  | 0, _ => fun _ => M.bad
  | l + 1, i => match fs[i]? with
    | some d => semF d.N.length (d.L (semO fs l))
    | none => fun _ => M.bad
/-- what is known of the top -/
structure Known (P : Program) (w : World) (K : PySem.W.Frag) (mg : Str → Option Value) (base : Heap) (gls : List (Str × GV)) (tb : List ((Str × Str) × Bool)) (fs : List Df) (f : Nat → Addr) (fd : Nat → FuncData) : Prop where
  fun_ : ∀ (i : Nat) (d : Df), fs[i]? = some d → ∃ dvs kws, FunD K d.name d.name d.params d.body d.scope dvs kws (f i) (fd i)
  bind : ∀ (i : Nat) (d : Df), fs[i]? = some d → d.kw = [] → Binds K (fd i) d.ps []
  bindD : ∀ (i : Nat) (d : Df), fs[i]? = some d → d.kw ≠ [] → ∃ dus dvs, Binds K (fd i) d.ps dus ∧ Vals dvs dus ∧ (∀ H ca, RelDs K H ca (d.kw.map (·.2)) dvs) ∧ BindsK K (fd i) d.ps (d.kw.map (·.1)) (d.ps.length - d.kw.length)
  at_ : ∀ (i : Nat) (d : Df), fs[i]? = some d → mg d.name = some (.ref (f i))
  rest : ∀ x g, gls.lookup x = some g → match g with
    | .fn i n => ∃ d, fs[i]? = some d ∧ d.name = x ∧ d.ps.length = n ∧ d.kw = []
    | .fnK i n kws => ∃ d, fs[i]? = some d ∧ d.name = x ∧ d.ps.length = n + kws.length ∧ d.kw = kws ∧ kws ≠ []
    | g => GVp P w K mg base ⟨fun _ => none, fun _ _ => M.bad, fldO gls, 0, subO tb⟩ x g
  sub : ∀ x y b, subO tb x y = some b → PySem.W.exmOne K (.ref (He.ga K x)) (.ref (He.ga K y)) = some b
def conO (gls : List (Str × GV)) (tb : List ((Str × Str) × Bool)) (run : Nat → List D → M D) (k : Nat) : Con := ⟨fun x => gls.lookup x, run, fldO gls, k + 2, subO tb⟩
theorem semO_ok {P : Program} {w : World} {K : PySem.W.Frag} {mg : Str → Option Value} {base : Heap} {gls : List (Str × GV)} {tb : List ((Str × Str) × Bool)} {fs : List Df} {f : Nat → Addr} {fd : Nat → FuncData} {cls : List (Nat × Nat)} (kn : Known P w K mg base gls tb fs f fd)
    (hsc : ∀ (i : Nat) (d : Df), fs[i]? = some d → FnScope d.N d.ps d.scope) (hL : ∀ (i : Nat) (d : Df), fs[i]? = some d → ∀ run k, (cBody (conO gls tb run k) ⟨d.scope, d.N, fun _ => true, true, cls⟩ d.body).map (·.1) = some (d.L run)) :
    ∀ (l i : Nat) (d : Df), fs[i]? = some d → FnG P w K mg base (fldO gls) (l + 2) (f i) (fd i) d.ps (semO fs l i)
  | 0, i, d, hd => ⟨fun A outer s H args us vs Q E ds st ca hr hg e0 hb r hl rd sr hp => hp.elim⟩
  | l + 1, i, d, hd => by
    have ih := semO_ok kn hsc hL l
    obtain ⟨dvs, kws, FD⟩ := kn.fun_ i d hd
    have S := hsc i d hd
    have e : semO fs (l + 1) i = semF d.N.length (d.L (semO fs l)) := by
      show (match fs[i]? with
        | some d => semF d.N.length (d.L (semO fs l))
        | none => fun _ => M.bad) = _
      rw [hd]
    rw [e]
    refine fnG FD S fun X W H0 ca0 b => ?_
    obtain ⟨q, hq, eq⟩ := Option.map_eq_some_iff.mp (hL i d hd (semO fs l) l)
    rw [← eq]
    have hx : XO (conO gls tb (semO fs l) l) ⟨d.scope, d.N, fun _ => true, true, cls⟩ W X := by
      refine ⟨b.N, S.nd, S.kind, b.sc, b.calm, fun x _ => b.fn x, b.room, b.gd, b.tk, fun x g hg => ?_, fun _ => b.po, Nat.le_add_left _ _, fun x y bb hs => ?_, fun _ => b.stk⟩
      · have k1 := kn.rest x g hg
        show GVp X.prog X.w X.K X.mg X.base _ x g
        rw [b.prog, b.w, b.K, b.mg, b.base]
        cases g with
        | fn j n =>
          obtain ⟨d', hd', en, el, ek⟩ := k1
          subst en
          obtain ⟨dvs', kws', FD'⟩ := kn.fun_ j d' hd'
          exact ⟨f j, fd j, d'.ps, kn.at_ j d' hd', el, FD'.kp, kn.bind j d' hd' ek, ih j d' hd'⟩
        | fnK j n kws =>
          obtain ⟨d', hd', en, el, ek, ne⟩ := k1
          subst en ek
          obtain ⟨dvs', kws', FD'⟩ := kn.fun_ j d' hd'
          obtain ⟨dus, dv, b1, b2, b3, b4⟩ := kn.bindD j d' hd' ne
          rw [show d'.ps.length - d'.kw.length = n by omega] at b4
          exact ⟨f j, fd j, d'.ps, dus, dv, kn.at_ j d' hd', el, FD'.kp, b1, b2, b3, b4, ih j d' hd'⟩
        | _ => exact k1
      · rw [b.K]
        exact kn.sub x y bb hs
    have := q.2 W X H0 ca0 hx
    rw [b.K] at this
    exact this
end Ev
set_option Elab.async false -- ev
set_option linter.all false -- ev
set_option maxRecDepth 100000 -- ev
set_option maxHeartbeats 4000000 -- ev
set_option autoImplicit false -- ev
/-! The law's call, from its meaning. -/
namespace Ev
open PySem PySem.Spec PyProof.Rows L2 -- ev
/-- what is wanted of the law's call -/
def Said (s1 : Shared) (r : Result) (s' : Shared) : Prop := r = .ok (.ret (.bool true)) ∧ OldK s1.heap s'.heap ∧ s'.os = s1.os ∧ AllBare s'.gens
section
variable {P : Program} {w : World} {K : PySem.W.Frag} {mg mb : Str → Option Value} {fld : Str → List Str} {k : Nat} {fa a : Addr} {fd : FuncData} {x : Str} {F : List D → M D} {s1 : Shared} {vs : List Value} {ns : List Int}
theorem said_core (KX : K.In s1.heap) (hns : s1.heap.Ns mainGlobals mg) (hb : s1.heap.Ns builtinsNs mb) (hbb : ∀ x : Str, x ≠ "__name__" → mb x = bootBuiltins x) (hlim : s1.heap.NoLimit) (hg : s1.gens = #[])
    (ha : s1.heap.get? a = some { cls := .type "list", data := .seq vs.toArray }) (hr : Room k callerA) (G : ∀ base : Heap, K.In base → base.Ns mainGlobals mg → FnG P w K mg base fld k fa fd [x] F) (hbind : ∀ (s : Shared) (u : Value), BindsTo s fd ⟨[u], []⟩ [(x, u)])
    (hF : ∃ st, F [.lst (ns.map .int)] [] = .ok (.bl true) st) {H : Hp} (hO : ∀ b u, H b = some u → b = a ∧ ∃ o xs, u = .frz o (.lst xs)) (hS : FzL K H a (ns.map V.int)) (hok : HOk P w H s1.heap) (hK : H a ≠ none → K.lookup a = none) :
    codeAny (model P w) callerA (.call (.ref fa) ⟨[.ref a], []⟩) (Said s1) s1 := by
  -- what is no list is not tracked
  have free : ∀ {b : Addr} {o : Obj}, s1.heap.get? b = some o → (b = a → H a = none) → (hidT s1.heap H).get? b = some o := fun {b o} e n => hidT_get e (by
    cases q : H b with
    | none => rfl
    | some u =>
      obtain ⟨rfl, _⟩ := hO b u q
      rw [n rfl] at q
      cases q)
  have dct : ∀ {b : Addr} {m : Str → Option Value}, s1.heap.Ns b m → (hidT s1.heap H).Ns b m := fun {b m} ⟨o, es, n, e, d, r⟩ => by
    refine ⟨o, es, n, free e fun z => ?_, d, r⟩
    subst z
    rw [ha] at e
    cases e
    cases d
  have hin : K.In (hidT s1.heap H) := fun b o e => free (KX b o e) fun z => by
    subst z
    cases q : H b with
    | none => rfl
    | some u =>
      rw [hK (by rw [q]; exact fun y => nomatch y)] at e
      cases e
  have e0 : Env0 P w K mg (hidT s1.heap H) callerA [] s1 H :=
    ⟨rfl, ⟨hin, dct hns, ⟨mb, dct hb, hbb⟩, let ⟨mc, q1, q2⟩ := hlim; ⟨mc, dct q1, q2⟩⟩, fun b o e => of_hidT e, Nat.le_of_eq (hidT_size _ _), trivial, fun b z => (List.not_mem_nil z).elim, hok, .of_eq hg⟩
  obtain ⟨st, hF⟩ := hF
  have ds : ∀ l : List Int, RelDs K H [] (l.map .int) (l.map V.int) := fun l => by
    induction l with
    | nil => rfl
    | cons i l ih => exact ⟨_, _, rfl, rfl, ih⟩
  have sr : SR K [] [] H := ⟨rfl, List.nodup_nil, fun i c b e => by simp at e⟩
  refine codeAny_mono ((G _ hin (dct hns)).run callerA [] s1 H ⟨[.ref a], []⟩ [.ref a] [.ref a] (fun v _ => v = .bl true) (fun _ _ _ => False) [.lst (ns.map .int)] [] [] hr rfl e0 (hbind s1 (.ref a)) (.cons rfl .nil) rfl
    ⟨.ref a, [], rfl, ⟨a, _, rfl, hS, ds ns⟩, rfl⟩ sr (by rw [hF]; exact fun v ca' H' _ _ r => r)) fun r s' h => ?_
  cases r with
  | error e =>
    obtain ⟨_, _, _, _, _, _, _, _, _, _, _, _, z⟩ := (show L2.CX P w [] H s1 (fun _ _ _ => False) e s' from h)
    exact z.elim
  | ok fl =>
    cases fl with
    | ret u =>
      obtain ⟨v, H', os, bare, un, hok', r', q⟩ := h -- ev
      cases (show v = .bl true from q)
      cases (show u = Value.bool true from r')
      refine ⟨rfl, OldK.of_keep fun b o e => ?_, os, bare⟩ -- ev
      cases q : H b with
      | none => exact un.keep b o e q List.not_mem_nil List.not_mem_nil
      | some u =>
        obtain ⟨_, ob, xs, rfl⟩ := hO b u q
        have z2 := un.frzs b ob _ q
        have e1 := (hok b _ q).1
        rw [e] at e1
        cases e1
        exact (hok' b _ z2).1
    | next => exact h.elim
    | brk => exact h.elim
    | cont => exact h.elim
theorem said (KX : K.In s1.heap) (hns : s1.heap.Ns mainGlobals mg) (hb : s1.heap.Ns builtinsNs mb) (hbb : ∀ x : Str, x ≠ "__name__" → mb x = bootBuiltins x) (hlim : s1.heap.NoLimit) (hg : s1.gens = #[])
    (ha : s1.heap.get? a = some { cls := .type "list", data := .seq vs.toArray }) (hi : IntsAre vs ns) (hl : ns.length ≤ sizeLine) (hr : Room k callerA) (G : ∀ base : Heap, K.In base → base.Ns mainGlobals mg → FnG P w K mg base fld k fa fd [x] F) (hbind : ∀ (s : Shared) (u : Value), BindsTo s fd ⟨[u], []⟩ [(x, u)])
    (hF : ∃ st, F [.lst (ns.map .int)] [] = .ok (.bl true) st) : codeAny (model P w) callerA (.call (.ref fa) ⟨[.ref a], []⟩) (Said s1) s1 := by
  have rv := vals_ints hi
  have lv : vs.length ≤ sizeLine := by rw [← rv.length, List.length_map]; exact hl
  cases hk : K.lookup a with -- ev
  | some o =>
    have e := KX a o hk
    rw [ha] at e
    cases e
    exact said_core KX hns hb hbb hlim hg ha hr G hbind hF (H := fun _ => none) (fun b u z => nomatch z) (.inr ⟨vs, _, hk, lv, rv⟩) (fun b u z => nomatch z) fun z => (z rfl).elim
  | none =>
    refine said_core KX hns hb hbb hlim hg ha hr G hbind hF (H := upd (fun _ => none) a (.frz { cls := .type "list", data := .seq vs.toArray } (.lst (ns.map V.int)))) (fun b u z => ?_) (.inl ⟨_, upd_same⟩) (fun b u z => ?_) fun _ => hk
    · by_cases y : b = a
      · subst y
        rw [upd_same] at z
        cases z
        exact ⟨rfl, _, _, rfl⟩
      · rw [upd_ne y] at z
        cases z
    · by_cases y : b = a
      · subst y
        rw [upd_same] at z
        cases z
        exact ⟨ha, by rw [List.length_map]; exact hl, vs, _, rv, ha⟩ -- ev
      · rw [upd_ne y] at z
        cases z
end
/-- the end of a law: F gives the meaning of its def -/
theorem walk_ev {l : PySem.W.OpenLaw} {n k : Nat} {q : Program} {loose : List Str} {XP : (Str → Option Value) → Heap → Prop} {YP : World → Heap → Prop} {d : DefRec} {x : Str} {fld : Str → List Str}
    (hn : l.most = some n) (hn2 : n ≤ sizeLine) (hdf : d.params.defaults = []) (hr : Room k callerA) -- ev
    (F : ∀ (w : World) (mg : Str → Option Value) (fa : Addr) (h : Heap), YP w h → h.Ns mainGlobals mg → mg d.name = some (.ref fa) → ∃ (K : PySem.W.Frag) (fd : FuncData) (F : List D → M D), K.In h ∧ (∀ (s : Shared) (u : Value), BindsTo s fd ⟨[u], []⟩ [(x, u)]) ∧
      (∀ ns : List Int, ns.length ≤ n → ∃ st, F [.lst (ns.map .int)] [] = .ok (.bl true) st) ∧ ∀ base : Heap, K.In base → base.Ns mainGlobals mg → FnG l.prog w K mg base fld k fa fd [x] F) :
    PySem.W.WalkO q loose XP YP l.row.toRowW d [] (fun f vs => PySem.call f vs) := by -- ev
  refine Att.attach_call hn hdf fun w s0 s1 mg mb fa o pm cd doc a vs ns G Y ho hd hcd hmg hobj hints hlen hg => ?_
  obtain ⟨K, fd, F', KX, hb, hsp, hF⟩ := F w mg fa _ Y G.T.g hmg
  exact said KX G.T.g G.T.b G.T.builtins G.T.nolimit hg hobj hints (Nat.le_trans hlen hn2) hr hF hb (hsp ns hlen)
end Ev
set_option Elab.async false -- ev
set_option linter.all false -- ev
set_option maxRecDepth 100000 -- ev
set_option maxHeartbeats 4000000 -- ev
set_option autoImplicit false -- ev
/-! What the head says of the globals. -/
namespace Ev
open PySem PySem.Spec PyProof.Rows L2 -- ev
mutual
/-- a value of the module's own, plain -/
def dB (K : PySem.W.Frag) : D → Value → Bool
  | .non, .none => true
  | .bl b, .bool c => b == c -- ev
  | .int i, .int j _ => decide (i = j) -- ev
  | .str x, .str y _ => decide (x = y) -- ev
  | .tup ds, .ref a => match K.lookup a with
    | some ⟨.type c, _, .seq its _, _⟩ => decide (c = "tuple") && decide (its.size ≤ sizeLine) && dBs K ds its.toList
    | _ => false
  | _, _ => false
def dBs (K : PySem.W.Frag) : List D → List Value → Bool
  | [], [] => true
  | d :: ds, u :: us => dB K d u && dBs K ds us
  | _, _ => false
end
mutual
theorem dB_ok {K : PySem.W.Frag} : ∀ (d : D) (u : Value), dB K d u = true → ∃ v, L2.RelV v u ∧ ∀ H ca, RelD K H ca d v
  | .non, u, h => by
    cases u with
    | none => exact ⟨.non, rfl, fun _ _ => rfl⟩
    | _ => simp [dB] at h
  | .bl b, u, h => by
    cases u with
    | bool c =>
      simp only [dB, beq_iff_eq] at h
      subst h
      exact ⟨.bl b, rfl, fun _ _ => rfl⟩
    | _ => simp [dB] at h
  | .int i, u, h => by
    cases u with
    | int j t =>
      simp only [dB, decide_eq_true_eq] at h
      subst h
      exact ⟨.int i, ⟨t, rfl⟩, fun _ _ => rfl⟩
    | _ => simp [dB] at h
  | .str x, u, h => by
    cases u with
    | str y t =>
      simp only [dB, decide_eq_true_eq] at h
      subst h
      exact ⟨.str x, ⟨t, rfl⟩, fun _ _ => rfl⟩
    | _ => simp [dB] at h
  | .tup ds, u, h => by
    cases u with
    | ref a =>
      simp only [dB] at h
      split at h
      · rename_i c od its n sl hk
        simp only [Bool.and_eq_true, decide_eq_true_eq] at h -- ev
        obtain ⟨⟨rfl, hz⟩, hs⟩ := h
        obtain ⟨vs, r1, r2⟩ := dBs_ok ds its.toList hs
        exact ⟨.ref a, rfl, fun H ca => ⟨a, vs, rfl, .inr ⟨_, its, n, hk, rfl, rfl, hz, r1⟩, r2 H ca⟩⟩
      · cases h
    | _ => simp [dB] at h
  | .lst ds, u, h => by cases u <;> simp [dB] at h
  | .cell k, u, h => by cases u <;> simp [dB] at h
  | .ty n, u, h => by cases u <;> simp [dB] at h
theorem dBs_ok {K : PySem.W.Frag} : ∀ (ds : List D) (us : List Value), dBs K ds us = true → ∃ vs, Vals vs us ∧ ∀ H ca, RelDs K H ca ds vs
  | [], [], _ => ⟨[], .nil, fun _ _ => rfl⟩
  | [], _ :: _, h => by simp [dBs] at h
  | _ :: _, [], h => by simp [dBs] at h
  | d :: ds, u :: us, h => by
    simp only [dBs, Bool.and_eq_true] at h
    obtain ⟨v, r1, r2⟩ := dB_ok d u h.1
    obtain ⟨vs, q1, q2⟩ := dBs_ok ds us h.2
    exact ⟨v :: vs, .cons r1 q1, fun H ca => ⟨v, vs, rfl, r2 H ca, q2 H ca⟩⟩
end
/-- a key that is not there -/
theorem gone_of {K : PySem.W.Frag} {Pp : Params} {a : Addr} {ks : List Str} {z : Str} (h : He.dicW K a = some (He.keysIn Pp ks)) (hz : z ∉ ks) : PySem.W.nsIn K a z = some none := by
  unfold He.dicW at h
  unfold PySem.W.nsIn
  split at h
  · rename_i c es n sl hk
    rw [hk]
    split at h
    · have hm : es.toList.map He.keyOf = He.keysIn Pp ks := Option.some.inj h
      have each : ∀ e ∈ es.toList, ∃ y t, e.key = .str y t ∧ y ∈ ks := fun e he => by
        have : He.keyOf e ∈ He.keysIn Pp ks := by rw [← hm]; exact List.mem_map_of_mem he
        obtain ⟨y, hy, ey⟩ := List.mem_map.mp this
        unfold He.keyOf at ey
        split at ey
        · rename_i y' t q
          have := (Prod.mk.inj (Option.some.inj ey)).1
          subst this
          exact ⟨_, t, q, hy⟩
        · cases ey
      have e1 : es.toList.find? (fun e => e.key.isStr z) = none := by
        rw [List.find?_eq_none]
        intro e he q
        obtain ⟨y, t, ek, hy⟩ := each e he
        rw [ek] at q
        have : y = z := by simpa [Value.isStr] using q
        exact hz (this ▸ hy)
      have e2 : es.toList.any (fun e => e.refKey) = false := by
        rw [List.any_eq_false]
        intro e he q
        obtain ⟨y, t, ek, hy⟩ := each e he
        have : e.refKey = false := by simp [DictEntry.refKey, ek]
        rw [this] at q
        cases q
      simp only [e1, e2]
      rfl
    · cases h
  · cases h
/-- what is looked at for an own error's class -/
def oexB (K : PySem.W.Frag) (C : Addr) : Bool := match K.lookup C with
  | some ⟨.type m, _, .cls cd, sl⟩ => decide (m = "type") && (match cd.mro, sl.toList with
    | .ref C' :: bm, [_, _, _, _, some (.builtin n), _] => decide (C' = C) && (decide (n = "ValueError.__new__") && (!cd.hasDel && (cd.hasDict && PySem.HandSPX.refsVE bm)))
    | _, _ => false)
  | _ => false
theorem oexB_ok {K : PySem.W.Frag} {C : Addr} (h : oexB K C = true) : ∃ nm q N bs bm sn sub ab col dd k0 k1 k2 k3 k5, K.lookup C = some (excClassObj nm q C N bs bm true sn sub ab col dd k0 k1 k2 k3 k5 "ValueError.__new__") ∧ PySem.HandSPX.refsVE bm = true := by
  unfold oexB at h
  split at h
  · rename_i m od cd sl hk
    rw [Bool.and_eq_true] at h -- ev
    obtain ⟨hm, h⟩ := h
    have hm := of_decide_eq_true hm
    subst hm
    split at h
    · rename_i C' bm k0 k1 k2 k3 n k5 e1 e2
      simp only [Bool.and_eq_true, decide_eq_true_eq, Bool.not_eq_true'] at h
      obtain ⟨hC, hn, hdel, hdict, hve⟩ := h
      subst hC hn
      obtain ⟨nm, bs, mro, ns, qn, hd, sn, sub, ab, col, del⟩ := cd -- ev
      dsimp only at e1 hdel hdict
      subst e1 hdel hdict
      obtain ⟨l⟩ := sl
      dsimp only at e2
      subst e2
      exact ⟨nm, qn, ns, bs, bm, sn, sub, ab, col, od, k0, k1, k2, k3, k5, hk, hve⟩
    · cases h
  · cases h
def excB (K : PySem.W.Frag) (x : Str) (fs : List Str) : Bool :=
  oexB K (He.ga K x) && (He.eqO (PySem.W.findIn K (.ref (He.ga K x)) "__setattr__") (some (some (.builtin "object.__setattr__"))) && (decide (PySem.W.subIn K (.ref (He.ga K x)) (.type "BaseException") = some true) && (decide (PySem.W.typeIn K (.ref (He.ga K x)) = some (.type "type")) && (PySem.W.keepIn K (.ref (He.ga K x)) &&
    (xfB K (He.ga K x) && (fs.all (fun f => He.eqO (PySem.W.findIn K (.ref (He.ga K x)) f) (some none)) && (He.eqO (PySem.W.findIn K (.ref (He.ga K x)) "__init__") (some (some (.ref (He.fAd K (x, some "__init__"))))) && decide (PySem.W.typeIn K (.ref (He.fAd K (x, some "__init__"))) = some (.type "function")))))))))
/-- what is looked at for a global -/
def gvB (K : PySem.W.Frag) (p : Str × GV) : Bool := match p.2 with
  | .int i => (He.Fa.int p.1 i).ok K
  | .bty _ => (He.Fa.free p.1).ok K
  | .bfn _ => (He.Fa.free p.1).ok K
  | .it => (He.Fa.free p.1).ok K
  | .comb => He.eqO (PySem.W.nsIn K mainGlobals p.1) (some (some (.builtin "math.comb")))
  | .fn _ _ => (He.Fa.glo p.1).ok K
  | .fnK _ _ _ => (He.Fa.glo p.1).ok K
  | .base => (He.Fa.glo p.1).ok K
  | .exc fs => (He.Fa.glo p.1).ok K && excB K p.1 fs
  | .kd tbl => (He.Fa.glo p.1).ok K && tbl.all fun q => match PySem.W.nsIn K (He.ga K p.1) q.1 with
    | some (some u) => dB K q.2 u
    | _ => false
/-- the dicts of the module -/
def tabsOf (gls : List (Str × GV)) : List He.Tab := gls.filterMap fun p => match p.2 with
  | .kd tbl => some (fun K => He.ga K p.1, tbl.map (·.1))
  | _ => none
abbrev AlU : Type := He.AlT × Bool
def obsU (fn : List He.DefD) (gls : List (Str × GV)) (tb : List ((Str × Str) × Bool)) (K : PySem.W.Frag) : AlU := (He.obsT [] fn (tabsOf gls) K, gls.all (gvB K) && tb.all fun p => (He.Fa.exm p.1.1 p.1.2 p.2).ok K)
def valU (fn : List He.DefD) (gls : List (Str × GV)) (w : World) : AlU := (He.valT fn (tabsOf gls) w, true)
def obsUG (n : Nat) (fn : List He.DefD) (gls : List (Str × GV)) (tb : List ((Str × Str) × Bool)) (g : Addr → Option Obj) : AlU := obsU fn gls tb (He.frG g (He.asD g n))
def SaysU (fn : List He.DefD) (gls : List (Str × GV)) (tb : List ((Str × Str) × Bool)) (w : World) (K : PySem.W.Frag) : Prop := obsU fn gls tb K = valU fn gls w
def hookU (n : Nat) (fn : List He.DefD) (gls : List (Str × GV)) (tb : List ((Str × Str) × Bool)) : PySem.W.Hook where
  α := AlU
  obs := fun s => obsUG n fn gls tb s.heap.get?
  val := fun w => valU fn gls w
  says := fun w h => ∃ K : PySem.W.Frag, K.In h ∧ SaysU fn gls tb w K
  of := fun _ _ e => ⟨_, He.frG_in, e⟩
  keeps := fun _ _ _ ⟨K, hK, c⟩ k => ⟨K, PySem.W.Frag.In.keeps hK k, c⟩ -- ev
theorem obsUG_eq {n : Nat} {fn : List He.DefD} {gls : List (Str × GV)} {tb : List ((Str × Str) × Bool)} {g : Addr → Option Obj} {s : Shared} (h : ∀ a, g a = s.heap.get? a) : obsUG n fn gls tb g = (hookU n fn gls tb).obs s := by
  have e : g = s.heap.get? := funext h -- ev
  rw [e] <;> rfl
section
variable {fn : List He.DefD} {gls : List (Str × GV)} {tb : List ((Str × Str) × Bool)} {w : World} {K : PySem.W.Frag} {h : Heap} {mg : Str → Option Value}
theorem SaysU.t (c : SaysU fn gls tb w K) : He.SaysT [] fn (tabsOf gls) w K := congrArg (fun z : AlU => z.1) c
theorem SaysU.g (c : SaysU fn gls tb w K) {p : Str × GV} (hp : p ∈ gls) : gvB K p = true := List.all_eq_true.mp (Bool.and_eq_true_iff.mp (show (gls.all (gvB K) && tb.all fun p => (He.Fa.exm p.1.1 p.1.2 p.2).ok K) = true from congrArg (fun z : AlU => z.2) c)).1 p hp
theorem SaysU.x (c : SaysU fn gls tb w K) {x y : Str} {b : Bool} (h : subO tb x y = some b) : PySem.W.exmOne K (.ref (He.ga K x)) (.ref (He.ga K y)) = some b := by
  unfold subO at h
  obtain ⟨p, hp, e⟩ := Option.map_eq_some_iff.mp h
  have hm := List.mem_of_find?_eq_some hp
  have hq := List.find?_some hp
  simp only [Bool.and_eq_true, decide_eq_true_eq] at hq
  have q := List.all_eq_true.mp (Bool.and_eq_true_iff.mp (show (gls.all (gvB K) && tb.all fun p => (He.Fa.exm p.1.1 p.1.2 p.2).ok K) = true from congrArg (fun z : AlU => z.2) c)).2 p hm
  have := He.exm_ok q
  rw [hq.1, hq.2, e] at this
  exact this
theorem SaysU.def_ (c : SaysU fn gls tb w K) (i : Nat) {d : He.DefD} (hd : fn[i]? = some d) : ∃ fd, FunD K d.name d.qual d.params d.body d.scope (d.dvs K) (d.kws K) (He.fAd K d.at_) fd := c.t.d.def_ i hd
/-- each global, as GVp has it -/
theorem SaysU.gv (c : SaysU fn gls tb w K) {P : Program} {base : Heap} (X : K.In h) (G : h.Ns mainGlobals mg) (hb : ∀ p ∈ gls, match p.2 with
    | .bty t => bootBuiltins p.1 = some (.type t.nm)
    | .bfn b => bootBuiltins p.1 = some (.builtin b.id)
    | _ => True) (hini : ∀ x fs, (x, GV.exc fs) ∈ gls → fldO gls x = fs ∧ fs.length ≤ 100 ∧ ∃ fI fd, fI = He.fAd K (x, some "__init__") ∧ FnOk P w K mg base CXn 1 fI fd ("self" :: fs) (spI K fs) ∧ Binds K fd ("self" :: fs) []) {x : Str} {g : GV} (hp : (x, g) ∈ gls) : match g with
    | .fn _ _ => mg x = some (.ref (He.ga K x))
    | .fnK _ _ _ => mg x = some (.ref (He.ga K x))
    | g => GVp P w K mg base ⟨fun _ => none, fun _ _ => M.bad, fldO gls, 0, subO tb⟩ x g := by
  have q := c.g hp
  have b := hb _ hp
  cases g with
  | int i =>
    obtain ⟨t, e⟩ := He.int_ok X G q
    exact ⟨_, e, t, rfl⟩
  | bty t => exact ⟨He.free_ok X G q, b⟩
  | bfn t => exact ⟨He.free_ok X G q, b⟩
  | it => exact He.free_ok X G q
  | comb => exact PySem.W.mg_of X G (He.eqO_ok q)
  | fn i n => exact He.glo_ok X G q
  | fnK i n kws => exact He.glo_ok X G q
  | base => exact He.glo_ok X G q
  | exc fs =>
    obtain ⟨q0, q⟩ := Bool.and_eq_true_iff.mp (show ((He.Fa.glo x).ok K && excB K x fs) = true from q)
    unfold excB at q
    simp only [Bool.and_eq_true, decide_eq_true_eq] at q -- ev
    obtain ⟨q1, q2, q3, q4, q5, q6, q7, q8, q9⟩ := q
    obtain ⟨e1, e2, fI, fd, e3, F1, hb⟩ := hini x fs hp
    refine ⟨He.glo_ok X G q0, ⟨⟨oexB_ok q1, He.eqO_ok q2, q3, q4, q5⟩, fun f hf => He.eqO_ok (List.all_eq_true.mp q7 f hf), ⟨fI, fd, by rw [e3]; exact He.eqO_ok q8, by rw [e3]; exact q9, F1, hb⟩, xfB_ok q6⟩, e1, e2⟩
  | kd tbl =>
    simp only [gvB, Bool.and_eq_true] at q
    have hm : ((fun K => He.ga K x, tbl.map (·.1)) : He.Tab) ∈ tabsOf gls := List.mem_filterMap.mpr ⟨(x, .kd tbl), hp, rfl⟩
    obtain ⟨i, hi⟩ := List.getElem?_of_mem hm
    have hk : He.dicW K (He.ga K x) = some (He.keysIn w.params (tbl.map (·.1))) := by
      have e : (tabsOf gls).map (fun t => He.dicW K (t.1 K)) = (tabsOf gls).map fun t => some (He.keysIn w.params t.2) := congrArg (fun z : He.AlT => z.2) c.t
      have e2 : ((tabsOf gls).map fun t => He.dicW K (t.1 K))[i]? = ((tabsOf gls).map fun t => some (He.keysIn w.params t.2))[i]? := by rw [e]
      rw [List.getElem?_map, List.getElem?_map, hi] at e2
      exact Option.some.inj e2
    refine ⟨He.ga K x, He.glo_ok X G q.1, He.dicW_ok hk, fun z d hz => ?_, fun z hz => gone_of hk fun hm => ?_⟩
    · have hmem : (z, d) ∈ tbl := PySem.mem_of_lookup hz
      have := List.all_eq_true.mp q.2 (z, d) hmem
      dsimp only at this
      split at this
      · rename_i u hu
        obtain ⟨v, r1, r2⟩ := dB_ok d u this
        exact ⟨v, u, hu, r1, r2⟩
      · cases this
    · obtain ⟨p, hp1, hp2⟩ := List.mem_map.mp hm
      rw [List.lookup_eq_none_iff] at hz
      have := hz p hp1
      rw [hp2] at this
      simp at this
end
end Ev
set_option Elab.async false -- ev
set_option linter.all false -- ev
set_option maxRecDepth 100000 -- ev
set_option maxHeartbeats 4000000 -- ev
set_option autoImplicit false -- ev
/-! From the head to the meaning of the law. -/
namespace Ev
open PySem PySem.Spec PyProof.Rows L2 -- ev
/-- a default, as the head has it -/
def dvOf : D → He.Dv
  | .bl b => .bl b
  | .int i => .int i
  | .str x => .str x
  | _ => .non
def simD : D → Bool
  | .non => true
  | .bl _ => true
  | .int _ => true
  | .str _ => true
  | _ => false
theorem simD_ok {K : PySem.W.Frag} {H : Hp} {ca : List Addr} {d : D} (h : simD d = true) : RelD K H ca d ((dvOf d).v K) := by
  cases d <;> first | rfl | cases h
def Df.toD (d : Df) : He.DefD := ⟨(d.name, none), d.name, d.name, d.params, d.body, d.scope, [], d.kw.map fun q => (q.1, dvOf q.2)⟩
/-- the globals are as Python's own are -/
def bootB (gls : List (Str × GV)) : Bool := gls.all fun p => match p.2 with
  | .bty t => decide (bootBuiltins p.1 = some (.type t.nm))
  | .bfn b => decide (bootBuiltins p.1 = some (.builtin b.id))
  | _ => true
def kwEq : List (Str × D) → List (Str × D) → Bool
  | [], [] => true
  | (x, .bl b) :: r, (y, .bl c) :: s => decide (x = y) && (decide (b = c) && kwEq r s)
  | (x, .int b) :: r, (y, .int c) :: s => decide (x = y) && (decide (b = c) && kwEq r s)
  | (x, .non) :: r, (y, .non) :: s => decide (x = y) && kwEq r s
  | _, _ => false
theorem kwEq_ok : ∀ {a b : List (Str × D)}, kwEq a b = true → a = b ∧ ∀ q ∈ a, simD q.2 = true
  | [], [], _ => ⟨rfl, fun q h => nomatch h⟩
  | (x, .bl b) :: r, (y, .bl c) :: s, h => by
    simp only [kwEq, Bool.and_eq_true, decide_eq_true_eq] at h
    obtain ⟨h1, h2, h3⟩ := h
    obtain ⟨e, f⟩ := kwEq_ok h3
    subst h1 h2 e
    exact ⟨rfl, fun q hq => (List.mem_cons.mp hq).elim (fun z => by rw [z]; rfl) (f q)⟩
  | (x, .int b) :: r, (y, .int c) :: s, h => by
    simp only [kwEq, Bool.and_eq_true, decide_eq_true_eq] at h
    obtain ⟨h1, h2, h3⟩ := h
    obtain ⟨e, f⟩ := kwEq_ok h3
    subst h1 h2 e
    exact ⟨rfl, fun q hq => (List.mem_cons.mp hq).elim (fun z => by rw [z]; rfl) (f q)⟩
  | (x, .non) :: r, (y, .non) :: s, h => by
    simp only [kwEq, Bool.and_eq_true, decide_eq_true_eq] at h
    obtain ⟨h1, h3⟩ := h
    obtain ⟨e, f⟩ := kwEq_ok h3
    subst h1 e
    exact ⟨rfl, fun q hq => (List.mem_cons.mp hq).elim (fun z => by rw [z]; rfl) (f q)⟩
  | [], _ :: _, h => by simp [kwEq] at h
  | (_, .bl _) :: _, [], h => by simp [kwEq] at h
  | (_, .int _) :: _, [], h => by simp [kwEq] at h
  | (_, .non) :: _, [], h => by simp [kwEq] at h
  | (_, .str _) :: _, _, h => by simp [kwEq] at h
  | (_, .tup _) :: _, _, h => by simp [kwEq] at h
  | (_, .lst _) :: _, _, h => by simp [kwEq] at h
  | (_, .cell _) :: _, _, h => by simp [kwEq] at h
  | (_, .ty _) :: _, _, h => by simp [kwEq] at h
  | (_, .bl _) :: _, (_, .non) :: _, h => by simp [kwEq] at h
  | (_, .bl _) :: _, (_, .int _) :: _, h => by simp [kwEq] at h
  | (_, .bl _) :: _, (_, .str _) :: _, h => by simp [kwEq] at h
  | (_, .bl _) :: _, (_, .tup _) :: _, h => by simp [kwEq] at h
  | (_, .bl _) :: _, (_, .lst _) :: _, h => by simp [kwEq] at h
  | (_, .bl _) :: _, (_, .cell _) :: _, h => by simp [kwEq] at h
  | (_, .bl _) :: _, (_, .ty _) :: _, h => by simp [kwEq] at h
  | (_, .int _) :: _, (_, .non) :: _, h => by simp [kwEq] at h
  | (_, .int _) :: _, (_, .bl _) :: _, h => by simp [kwEq] at h
  | (_, .int _) :: _, (_, .str _) :: _, h => by simp [kwEq] at h
  | (_, .int _) :: _, (_, .tup _) :: _, h => by simp [kwEq] at h
  | (_, .int _) :: _, (_, .lst _) :: _, h => by simp [kwEq] at h
  | (_, .int _) :: _, (_, .cell _) :: _, h => by simp [kwEq] at h
  | (_, .int _) :: _, (_, .ty _) :: _, h => by simp [kwEq] at h
  | (_, .non) :: _, (_, .bl _) :: _, h => by simp [kwEq] at h
  | (_, .non) :: _, (_, .int _) :: _, h => by simp [kwEq] at h
  | (_, .non) :: _, (_, .str _) :: _, h => by simp [kwEq] at h
  | (_, .non) :: _, (_, .tup _) :: _, h => by simp [kwEq] at h
  | (_, .non) :: _, (_, .lst _) :: _, h => by simp [kwEq] at h
  | (_, .non) :: _, (_, .cell _) :: _, h => by simp [kwEq] at h
  | (_, .non) :: _, (_, .ty _) :: _, h => by simp [kwEq] at h
def fnB (gls : List (Str × GV)) (fs : List Df) : Bool := gls.all fun p => match p.2 with
  | .fn i n => match fs[i]? with
    | some d => decide (d.name = p.1) && (decide (d.ps.length = n) && d.kw.isEmpty)
    | none => false
  | .fnK i n kws => match fs[i]? with
    | some d => decide (d.name = p.1) && (decide (d.ps.length = n + kws.length) && (kwEq d.kw kws && !kws.isEmpty))
    | none => false
  | _ => true
def defB (gls : List (Str × GV)) (fs : List Df) : Bool := fs.all fun d => gls.any fun p => decide (p.1 = d.name) && match p.2 with
  | .fn _ _ => true
  | .fnK _ _ _ => true
  | _ => false
/-- how a def binds -/
def BindsL (d : Df) : Prop := match d.kw with
  | [] => ∀ (kV doc pm : Value) (an : Option Addr) (cdv ct : Value) (us : List Value), us.length = d.ps.length → bindArgs (PySem.W.fnOf d.name d.name d.params d.body d.scope .none kV doc pm an cdv ct) ⟨us, []⟩ = pure (d.ps.zip us)
  | _ => d.kw.length ≤ d.ps.length ∧ (d.kw.all fun q => simD q.2) = true ∧ (∀ (Dd : Addr) (doc pm : Value) (an : Option Addr) (cdv ct : Value) (us ks : List Value), us.length = d.ps.length - d.kw.length → ks.length = d.kw.length → KwChain Dd ((d.kw.map (·.1)).zip ks) (bindArgs (PySem.W.fnOf d.name d.name d.params d.body d.scope .none (.ref Dd) doc pm an cdv ct) ⟨us, []⟩) (d.ps.zip (us ++ ks))) ∧
      ∀ (kV doc pm : Value) (an : Option Addr) (cdv ct : Value) (us ws : List Value), us.length = d.ps.length - d.kw.length → ws.length = d.kw.length → bindArgs (PySem.W.fnOf d.name d.name d.params d.body d.scope .none kV doc pm an cdv ct) ⟨us, (d.kw.map (·.1)).zip ws⟩ = pure (d.ps.zip (us ++ ws))
def adr (K : PySem.W.Frag) (fs : List Df) (i : Nat) : Addr := match fs[i]? with
  | some d => He.ga K d.name
  | none => 0
/-- an own error's __init__, as the head has it -/
def IniOk (fn : List He.DefD) (x : Str) (fs : List Str) : Prop := ∃ (i : Nat) (d : He.DefD), fn[i]? = some d ∧ d.at_ = (x, some ("__init__" : Str)) ∧ d.name = "__init__" ∧ d.dfl = [] ∧ d.kwd = [] ∧ FnScope ("self" :: fs) ("self" :: fs) d.scope ∧ iniB fs d.body = true ∧
  ∀ (kV doc pm : Value) (an : Option Addr) (cdv ct : Value) (us : List Value), us.length = (("self" : Str) :: fs).length → bindArgs (PySem.W.fnOf "__init__" d.qual d.params d.body d.scope .none kV doc pm an cdv ct) ⟨us, []⟩ = pure ((("self" : Str) :: fs).zip us)
def excsB (gls : List (Str × GV)) : Bool := gls.all fun p => match p.2 with
  | .exc fs => decide (fldO gls p.1 = fs) && decide (fs.length ≤ 100)
  | _ => true
theorem known_of {fs : List Df} {ini : List He.DefD} {gls : List (Str × GV)} {tb : List ((Str × Str) × Bool)} {w : World} {K : PySem.W.Frag} {h : Heap} {mg : Str → Option Value} {P : Program} {i0 : Nat} {d0 : Df} (h0 : fs[i0]? = some d0) (c : SaysU (fs.map Df.toD ++ ini) gls tb w K) (X : K.In h) (G : h.Ns mainGlobals mg) (hb : bootB gls = true) (hf : fnB gls fs = true) (hd : defB gls fs = true) (hx : excsB gls = true)
    (hbind : ∀ d ∈ fs, BindsL d) (hini : ∀ x es, (x, GV.exc es) ∈ gls → IniOk (fs.map Df.toD ++ ini) x es) :
    ∃ fd : Nat → FuncData, (∀ (i : Nat) (d : Df), fs[i]? = some d → ∃ dvs kws, FunD K d.name d.name d.params d.body d.scope dvs kws (adr K fs i) (fd i) ∧ dvs = [] ∧ kws = d.kw.map fun q => (q.1, (dvOf q.2).v K)) ∧ ∀ base : Heap, Known P w K mg base gls tb fs (adr K fs) fd := by
  have ex : ∀ i : Nat, ∃ fd : FuncData, ∀ d : Df, fs[i]? = some d → FunD K d.name d.name d.params d.body d.scope [] (d.kw.map fun q => (q.1, (dvOf q.2).v K)) (adr K fs i) fd := fun i => by
    cases hi : fs[i]? with
    | none =>
      have hl : i0 < (fs.map Df.toD).length := by rw [List.length_map]; exact (List.getElem?_eq_some_iff.mp h0).1
      obtain ⟨fd, F⟩ := c.def_ i0 (d := d0.toD) (by rw [List.getElem?_append_left hl, List.getElem?_map, h0]; rfl)
      exact ⟨fd, fun d e => nomatch e⟩
    | some d =>
      have hl : i < (fs.map Df.toD).length := by rw [List.length_map]; exact (List.getElem?_eq_some_iff.mp hi).1
      obtain ⟨fd, F⟩ := c.def_ i (d := d.toD) (by rw [List.getElem?_append_left hl, List.getElem?_map, hi]; rfl)
      refine ⟨fd, fun d' e => ?_⟩
      cases e
      have ea : adr K fs i = He.fAd K (d.name, none) := by
        unfold adr
        rw [hi]
        rfl
      rw [ea]
      have F2 : FunD K d.name d.name d.params d.body d.scope [] ((d.kw.map fun q => (q.1, dvOf q.2)).map fun q => (q.1, q.2.v K)) (He.fAd K (d.name, none)) fd := F
      rw [List.map_map] at F2
      exact F2
  obtain ⟨fd, hfd⟩ := Classical.axiomOfChoice ex
  have hboot : ∀ p ∈ gls, match p.2 with
      | .bty t => bootBuiltins p.1 = some (.type t.nm)
      | .bfn b => bootBuiltins p.1 = some (.builtin b.id)
      | _ => True := fun p hp => by
    have := List.all_eq_true.mp hb p hp
    cases q : p.2 with
    | bty t => rw [q] at this; exact of_decide_eq_true this
    | bfn t => rw [q] at this; exact of_decide_eq_true this
    | _ => trivial
  have hin : ∀ (base : Heap) (x : Str) (es : List Str), (x, GV.exc es) ∈ gls → fldO gls x = es ∧ es.length ≤ 100 ∧ ∃ fI fd, fI = He.fAd K (x, some "__init__") ∧ FnOk P w K mg base CXn 1 fI fd ("self" :: es) (spI K es) ∧ Binds K fd ("self" :: es) [] := fun base x es hm => by
    have q := List.all_eq_true.mp hx _ hm
    simp only [Bool.and_eq_true, decide_eq_true_eq] at q -- ev
    obtain ⟨i, d, e1, e2, e3, e4, e5, S, hbd, hbi⟩ := hini x es hm
    obtain ⟨fd, F⟩ := c.def_ i e1
    obtain ⟨da, dn, dq, dp, db, ds, ddf, dkw⟩ := d
    dsimp only at e2 e3 e4 e5 S hbd hbi F
    subst e2 e3 e4 e5
    have F2 : FunD K "__init__" dq dp db ds [] [] (He.fAd K (x, some "__init__")) fd := F
    exact ⟨q.1, q.2, _, fd, rfl, ini_ok F2 S hbd, FunD.bindsN F2 hbi⟩
  refine ⟨fd, fun i d e => ⟨[], _, hfd i d e, rfl, rfl⟩, fun base => ⟨fun i d e => ⟨[], _, hfd i d e⟩, fun i d e ek => ?_, fun i d e ek => ?_, fun i d e => ?_, fun x g hxg => ?_, fun x y b hs => c.x hs⟩⟩
  · have F := hfd i d e
    have B := hbind d (List.mem_of_getElem? e)
    unfold BindsL at B
    rw [ek] at B F
    exact FunD.bindsN F B
  · have F := hfd i d e
    have B := hbind d (List.mem_of_getElem? e)
    unfold BindsL at B
    split at B
    · rename_i z
      exact absurd z ek
    · obtain ⟨hle, hsim, B1, B2⟩ := B
      have em : ((d.kw.map fun q => (q.1, (dvOf q.2).v K)).map (·.1)) = d.kw.map (·.1) := by rw [List.map_map]; rfl
      obtain ⟨dus, rv, bd⟩ := FunD.binds0 F (d.ps.length - d.kw.length) (by
          intro z
          exact ek (List.map_eq_nil_iff.mp z)) (show d.ps.length - d.kw.length + (d.kw.map fun q => (q.1, (dvOf q.2).v K)).length = d.ps.length by rw [List.length_map]; omega) (fun Dd doc pm an cdv ct us ks l1 l2 => by
          rw [em]
          exact B1 Dd doc pm an cdv ct us ks l1 (by rw [List.length_map] at l2; exact l2))
      refine ⟨dus, _, bd, rv, fun H ca => ?_, fun s us ws KX l1 l2 => ?_⟩
      · have : ∀ l : List (Str × D), (∀ q ∈ l, simD q.2 = true) → RelDs K H ca (l.map (·.2)) ((l.map fun q => (q.1, (dvOf q.2).v K)).map (·.2)) := fun l => by
          induction l with
          | nil => intro _; rfl
          | cons q l ih => intro hq; exact ⟨_, _, rfl, simD_ok (hq q (by simp)), ih fun z hz => hq z (List.mem_cons_of_mem _ hz)⟩
        exact this d.kw fun q hq => List.all_eq_true.mp hsim q hq
      · obtain ⟨oc, od, dV, kV, doc, pm, an, cdv, ct, osl, efd, lk, hcd, hD, hK⟩ := F.ex
        rcases hD with ⟨_, eV⟩ | ⟨z, _⟩
        · rw [efd, eV]
          exact .of_eq (B2 kV doc pm an cdv ct us ws l1 (by rw [List.length_map] at l2; exact l2))
        · exact absurd rfl z
  · have := List.all_eq_true.mp hd d (List.mem_of_getElem? e)
    obtain ⟨p, hp, hq⟩ := List.any_eq_true.mp this
    rw [Bool.and_eq_true] at hq
    obtain ⟨q1, q2⟩ := hq
    have q1 := of_decide_eq_true q1
    have ea : adr K fs i = He.ga K d.name := by
      unfold adr
      rw [e]
    obtain ⟨x, g⟩ := p
    have q1 : x = d.name := q1
    subst q1
    rw [ea]
    cases g with
    | fn j n => exact c.gv X G hboot (P := P) (base := base) (hin base) hp
    | fnK j n kws => exact c.gv X G hboot (P := P) (base := base) (hin base) hp
    | _ => cases q2
  · have hm : (x, g) ∈ gls := PySem.mem_of_lookup hxg
    have := c.gv X G hboot (P := P) (base := base) (hin base) hm
    cases g with
    | fn j n =>
      have q := List.all_eq_true.mp hf _ hm
      dsimp only at q
      split at q
      · rename_i d hd'
        simp only [Bool.and_eq_true, decide_eq_true_eq, List.isEmpty_iff] at q
        exact ⟨d, hd', q.1, q.2.1, q.2.2⟩
      · cases q
    | fnK j n kws =>
      have q := List.all_eq_true.mp hf _ hm
      dsimp only at q
      split at q
      · rename_i d hd'
        simp only [Bool.and_eq_true, decide_eq_true_eq, Bool.not_eq_true', List.isEmpty_eq_false_iff] at q
        exact ⟨d, hd', q.1, q.2.1, (kwEq_ok q.2.2.1).1, q.2.2.2⟩
      · cases q
    | _ => exact this
end Ev
set_option Elab.async false -- ev
set_option linter.all false -- ev
set_option maxRecDepth 100000 -- ev
set_option maxHeartbeats 400000 -- ev
set_option autoImplicit false -- ev
/-! Runs of meanings, step by step. -/
namespace Ev
open PySem
section
variable {ρ ρ' ρ1 ρ2 : Env'} {st st1 st2 st3 st4 st5 : Store} {a b c d : D} {r : RV} {as bs ds es : List D} {x : Str}
theorem bok {α β : Type} {m : M α} {k : α → M β} {st st1 : Store} {z : α} (h : m st = .ok z st1) : M.bind m k st = k z st1 := by unfold M.bind; rw [h]
theorem nok {α : Type} {m : M α} {st st1 : Store} {z : α} (h : m st = .ok z st1) : M.ne m st = .ok z st1 := by unfold M.ne; rw [h]
theorem iteT {α : Type} {x y : M α} {st : Store} {z : R α} (h : x st = z) : (if true = true then x else y) st = z := by simpa using h
theorem iteF {α : Type} {x y : M α} {st : Store} {z : R α} (h : y st = z) : (if false = true then x else y) st = z := by simpa using h
theorem iteP {α : Type} {x y : M α} {st : Store} {z : R α} {p : Prop} [Decidable p] (hp : p) (h : x st = z) : (if p then x else y) st = z := by rw [if_pos hp]; exact h
theorem ook {α : Type} {o : Store → Option α} {st : Store} {z : α} (h : o st = some z) : M.opt' o st = .ok z st := by unfold M.opt'; rw [h]
/-! ### expressions -/
theorem w_var {i : Nat} {r : RV} (h : (match ρ[i]? with
    | some (.val d) => some (RV.per d)
    | some (.own ds) => some (RV.bor ds)
    | _ => none) = some r) : sVar i ρ st = .ok r st := by
  unfold sVar
  cases hr : ρ[i]? with
  | none => rw [hr] at h; cases h
  | some s =>
    rw [hr] at h
    cases s <;> first | (cases h; rfl) | cases h
theorem w_c : sC d ρ st = .ok (.per d) st := rfl
theorem w_nil : sNil ρ st = .ok [] st := rfl
theorem w_rd {f : Env' → M RV} (h : f ρ st = .ok r st1) : rd f ρ st = .ok r.d st1 := by unfold rd M.bind; rw [h]; rfl
theorem w_kp {f : Env' → M RV} (h : f ρ st = .ok (.per d) st1) : kp f ρ st = .ok d st1 := by unfold kp M.bind; rw [h]; rfl
theorem w_kpf {f : Env' → M RV} (h : f ρ st = .ok (.fr ds) st1) : kp f ρ st = .ok (.lst ds) st1 := by unfold kp M.bind; rw [h]; rfl
theorem w_cons {f : Env' → M D} {g : Env' → M (List D)} (h : f ρ st = .ok d st1) (h2 : g ρ st1 = .ok ds st2) : sCons f g ρ st = .ok (d :: ds) st2 := by unfold sCons M.bind; rw [h]; dsimp only; rw [h2]; rfl
theorem w_tup {g : Env' → M (List D)} (h : g ρ st = .ok ds st1) (hl : ds.length ≤ sizeLine) : sTup g ρ st = .ok (.per (.tup ds)) st1 := by unfold sTup M.bind; rw [h]; dsimp only; rw [if_pos hl]; rfl
theorem w_lst {g : Env' → M (List D)} (h : g ρ st = .ok ds st1) (hl : ds.length ≤ sizeLine) : sLst g ρ st = .ok (.fr ds) st1 := by unfold sLst M.bind; rw [h]; dsimp only; rw [if_pos hl]; rfl
theorem w_lst' {g : Env' → M (List D)} (h : g ρ st = .ok ds st1) (hl : ds.length ≤ sizeLine) : sLst g ρ st = .ok (.fr ds) st1 := by unfold sLst M.bind; rw [h]; dsimp only; rw [if_pos hl]; rfl
theorem w_kpl {g : Env' → M (List D)} (h : g ρ st = .ok ds st1) (hl : ds.length ≤ sizeLine) : kp (sLst g) ρ st = .ok (.lst ds) st1 := w_kpf (w_lst' h hl)
theorem w_bin {op : D → D → Option RV} {f g : Env' → M D} (h : f ρ st = .ok a st1) (h2 : g ρ st1 = .ok b st2) (h3 : op (deref st2 a) (deref st2 b) = some r) : sBin op f g ρ st = .ok r st2 := by
  unfold sBin M.bind M.rdr; rw [h]; dsimp only; rw [h2]; dsimp only; rw [h3]
theorem w_binS {op : Store → D → D → Option RV} {f g : Env' → M D} (h : f ρ st = .ok a st1) (h2 : g ρ st1 = .ok b st2) (h3 : op st2 a b = some r) : sBinS op f g ρ st = .ok r st2 := by
  unfold sBinS M.bind M.rdr; rw [h]; dsimp only; rw [h2]; dsimp only; rw [h3]
theorem w_un {op : D → Option RV} {f : Env' → M D} (h : f ρ st = .ok a st1) (h3 : op (deref st1 a) = some r) : sUn op f ρ st = .ok r st1 := by
  unfold sUn M.bind M.rdr; rw [h]; dsimp only; rw [h3]
theorem w_call {op : List D → Option RV} {g : Env' → M (List D)} (h : g ρ st = .ok as st1) (h3 : op (as.map (deref st1)) = some r) : sCall op g ρ st = .ok r st1 := by
  unfold sCall M.bind M.rdr; rw [h]; dsimp only; rw [h3]
theorem w_fn {F : List D → M D} {g : Env' → M (List D)} (h : g ρ st = .ok as st1) (h2 : F as st1 = .ok d st2) : sFn F g ρ st = .ok (.per d) st2 := by
  unfold sFn M.bind; rw [h]; dsimp only; rw [h2]; rfl
theorem w_fnD {F : List D → M D} {dd : List D} {g : Env' → M (List D)} (h : g ρ st = .ok as st1) (h2 : F (as ++ dd) st1 = .ok d st2) : sFnD F dd g ρ st = .ok (.per d) st2 := by
  unfold sFnD M.bind; rw [h]; dsimp only; rw [h2]; rfl
theorem w_fnK {F : List D → M D} {g gk : Env' → M (List D)} (h : g ρ st = .ok as st1) (h1 : gk ρ st1 = .ok bs st2) (h2 : F (as ++ bs) st2 = .ok d st3) : sFnK F g gk ρ st = .ok (.per d) st3 := by
  unfold sFnK M.bind; rw [h]; dsimp only; rw [h1]; dsimp only; rw [h2]; rfl
theorem w_chT {op op' : D → D → Option RV} {f g k : Env' → M D} (h : f ρ st = .ok a st1) (h2 : g ρ st1 = .ok b st2) (h3 : op (deref st2 a) (deref st2 b) = some (.per (.bl true))) (h4 : k ρ st2 = .ok c st3) (h5 : op' (deref st3 b) (deref st3 c) = some r) : sChain op op' f g k ρ st = .ok r st3 := by
  unfold sChain
  rw [bok h, bok h2, bok (ook (z := true) (by rw [h3]; rfl))]
  refine iteT ?_
  rw [bok h4]
  unfold M.rdr; dsimp only; rw [h5]
theorem w_chF {op op' : D → D → Option RV} {f g k : Env' → M D} (h : f ρ st = .ok a st1) (h2 : g ρ st1 = .ok b st2) (h3 : op (deref st2 a) (deref st2 b) = some (.per (.bl false))) : sChain op op' f g k ρ st = .ok (.per (.bl false)) st2 := by
  unfold sChain M.bind M.opt'; rw [h]; dsimp only; rw [h2]; dsimp only; rw [h3]; rfl
theorem w_slice {f : Env' → M D} {lo hi : Env' → M (Option Int)} {l u : Option Int} (h : f ρ st = .ok a st1) (h1 : lo ρ st1 = .ok l st2) (h2 : hi ρ st2 = .ok u st3) (h3 : dSlice (deref st3 a) l u = some r) : sSlice f lo hi ρ st = .ok r st3 := by
  unfold sSlice M.bind M.rdr; rw [h]; dsimp only; rw [h1]; dsimp only; rw [h2]; dsimp only; rw [h3]
theorem w_pn : sPN ρ st = .ok none st := rfl
theorem w_ps {f : Env' → M D} {i : Int} (h : f ρ st = .ok (.int i) st1) : sPS f ρ st = .ok (some i) st1 := by unfold sPS M.bind; rw [h]; rfl
theorem w_ifT {α : Type} {t : Env' → M Bool} {f g : Env' → M α} {z : α} (h : t ρ st = .ok true st1) (h1 : f ρ st1 = .ok z st2) : sIf t f g ρ st = .ok z st2 := by unfold sIf M.bind; rw [h]; dsimp only; rw [if_pos rfl, h1]
theorem w_ifF {α : Type} {t : Env' → M Bool} {f g : Env' → M α} {z : α} (h : t ρ st = .ok false st1) (h1 : g ρ st1 = .ok z st2) : sIf t f g ρ st = .ok z st2 := by unfold sIf M.bind; rw [h]; dsimp only; rw [if_neg Bool.false_ne_true, h1]
theorem w_toCell {f : Env' → M RV} (h : f ρ st = .ok (.fr ds) st1) : toCell f ρ st = .ok (.per (.cell st1.length)) (st1 ++ [.lst ds]) := by unfold toCell M.bind M.cell; rw [h]
theorem w_andT {f g : Env' → M RV} {r2 : RV} (h : f ρ st = .ok r st1) (ht : tru st1 r.d = some true) (h1 : g ρ st1 = .ok r2 st2) : sAndV f g ρ st = .ok r2 st2 := by unfold sAndV M.bind M.opt'; rw [h]; dsimp only; rw [ht]; dsimp only; rw [if_pos rfl, h1]
theorem w_andF {f g : Env' → M RV} (h : f ρ st = .ok r st1) (ht : tru st1 r.d = some false) : sAndV f g ρ st = .ok r st1 := by unfold sAndV M.bind M.opt'; rw [h]; dsimp only; rw [ht]; dsimp only; rw [if_neg Bool.false_ne_true]; rfl
theorem w_not {f : Env' → M RV} {k : Bool} (h : f ρ st = .ok r st1) (ht : tru st1 r.d = some k) : sNotV f ρ st = .ok (.per (.bl !k)) st1 := by unfold sNotV M.bind M.opt'; rw [h]; dsimp only; rw [ht]; rfl
/-! ### tests -/
theorem t_bool {f : Env' → M RV} {k : Bool} (h : f ρ st = .ok (.per (.bl k)) st1) : sBoolT f ρ st = .ok k st1 := by unfold sBoolT M.bind M.opt'; rw [h]; rfl
theorem t_tru {f : Env' → M RV} {k : Bool} (h : f ρ st = .ok r st1) (ht : tru st1 r.d = some k) : sTru f ρ st = .ok k st1 := by unfold sTru M.bind M.opt'; rw [h]; dsimp only; rw [ht]
theorem t_not {f : Env' → M Bool} {k : Bool} (h : f ρ st = .ok k st1) : sNotT f ρ st = .ok (!k) st1 := by unfold sNotT M.bind; rw [h]; rfl
theorem t_andT {f g : Env' → M Bool} {k : Bool} (h : f ρ st = .ok true st1) (h1 : g ρ st1 = .ok k st2) : sAndT f g ρ st = .ok k st2 := by unfold sAndT M.bind; rw [h]; dsimp only; rw [if_pos rfl, h1]
theorem t_andF {f g : Env' → M Bool} (h : f ρ st = .ok false st1) : sAndT f g ρ st = .ok false st1 := by unfold sAndT M.bind; rw [h]; dsimp only; rw [if_neg Bool.false_ne_true]; rfl
theorem t_orT {f g : Env' → M Bool} (h : f ρ st = .ok true st1) : sOrT f g ρ st = .ok true st1 := by unfold sOrT M.bind; rw [h]; dsimp only; rw [if_pos rfl]; rfl
theorem t_orF {f g : Env' → M Bool} {k : Bool} (h : f ρ st = .ok false st1) (h1 : g ρ st1 = .ok k st2) : sOrT f g ρ st = .ok k st2 := by unfold sOrT M.bind; rw [h]; dsimp only; rw [if_neg Bool.false_ne_true, h1]
theorem t_yes : sYes ρ st = .ok true st := rfl
/-! ### what is gone over -/
theorem i_lst {f : Env' → M D} (h : f ρ st = .ok (.lst ds) st1) : itS f ρ st = .ok ds st1 := by unfold itS M.bind; rw [h]; rfl
theorem i_tup {f : Env' → M D} (h : f ρ st = .ok (.tup ds) st1) : itS f ρ st = .ok ds st1 := by unfold itS M.bind; rw [h]; rfl
theorem i_r1 {g : Env' → M (List D)} {j : Int} (h : g ρ st = .ok [.int j] st1) (hb : bnd j = true) : itR1 g ρ st = .ok (rngD 0 j.toNat) st1 := by unfold itR1 M.bind; rw [h]; dsimp only; rw [if_pos hb]; rfl
theorem i_r2 {g : Env' → M (List D)} {i j : Int} (h : g ρ st = .ok [.int i, .int j] st1) (hb : bnd i = true) (hb2 : bnd j = true) : itR2 g ρ st = .ok (rngD i (j - i).toNat) st1 := by unfold itR2 M.bind; rw [h]; dsimp only; rw [if_pos (by rw [hb, hb2]; rfl)]; rfl
theorem i_zLL {g : Env' → M (List D)} (h : g ρ st = .ok [.lst ds, .lst es] st1) : itZipM g ρ st = .ok (zipD ds es) st1 := by unfold itZipM M.bind; rw [h]; rfl
theorem i_zTT {g : Env' → M (List D)} (h : g ρ st = .ok [.tup ds, .tup es] st1) : itZipM g ρ st = .ok (zipD ds es) st1 := by unfold itZipM M.bind; rw [h]; rfl
theorem i_zLT {g : Env' → M (List D)} (h : g ρ st = .ok [.lst ds, .tup es] st1) : itZipM g ρ st = .ok (zipD ds es) st1 := by unfold itZipM M.bind; rw [h]; rfl
theorem i_enL {g : Env' → M (List D)} {lo : Int} (h : g ρ st = .ok [.lst ds] st1) : itEn lo g ρ st = .ok (enD lo ds) st1 := by unfold itEn M.bind; rw [h]; rfl
theorem i_enT {g : Env' → M (List D)} {lo : Int} (h : g ρ st = .ok [.tup ds] st1) : itEn lo g ρ st = .ok (enD lo ds) st1 := by unfold itEn M.bind; rw [h]; rfl
theorem bnd_lt {i : Int} (h1 : -1000000000000 ≤ i) (h2 : i ≤ 1000000000000) : bnd i = true := by
  have e : (2 : Int) ^ 62 = 4611686018427387904 := by decide
  unfold bnd
  rw [e]
  simp
  omega
/-! ### comprehensions -/
/-- one pass, the store standing still behind each turn -/
theorem lc_map {g : D → Env' → Option Env'} {c : Env' → M Bool} {el : Env' → M D} {F : D → D} {st : Store} : ∀ (ds acc : List D), (∀ d ∈ ds, ∃ ρ1, g d ρ = some ρ1 ∧ c ρ1 st = .ok true st ∧ el ρ1 st = .ok (F d) st) → acc.length + ds.length ≤ sizeLine → sLcL g c el ρ ds acc st = .ok (acc ++ ds.map F) st
  | [], acc, _, _ => by simp [sLcL, M.pure]
  | d :: ds, acc, h, hl => by
    obtain ⟨ρ1, h1, h2, h3⟩ := h d (by simp)
    have hl2 : acc.length < sizeLine := by simp at hl; omega
    unfold sLcL
    rw [h1]
    dsimp only
    rw [bok (nok h2)]
    refine iteT ?_
    rw [bok (nok h3)]
    refine iteP hl2 ?_
    rw [lc_map ds (acc ++ [F d]) (fun e he => h e (List.mem_cons_of_mem _ he)) (by simp at hl ⊢; omega)]
    simp
theorem lc_filter {g : D → Env' → Option Env'} {c : Env' → M Bool} {el : Env' → M D} {F : D → D} {p : D → Bool} {st : Store} : ∀ (ds acc : List D), (∀ d ∈ ds, ∃ ρ1, g d ρ = some ρ1 ∧ c ρ1 st = .ok (p d) st ∧ (p d = true → el ρ1 st = .ok (F d) st)) → acc.length + ds.length ≤ sizeLine → sLcL g c el ρ ds acc st = .ok (acc ++ (ds.filter p).map F) st
  | [], acc, _, _ => by simp [sLcL, M.pure]
  | d :: ds, acc, h, hl => by
    obtain ⟨ρ1, h1, h2, h3⟩ := h d (by simp)
    have hl2 : acc.length < sizeLine := by simp at hl; omega
    unfold sLcL
    rw [h1]
    dsimp only
    rw [bok (nok h2)]
    cases hp : p d with
    | true =>
      refine iteT ?_
      rw [bok (nok (h3 hp))]
      refine iteP hl2 ?_
      rw [lc_filter ds (acc ++ [F d]) (fun e he => h e (List.mem_cons_of_mem _ he)) (by simp at hl ⊢; omega)]
      simp [List.filter_cons, hp]
    | false =>
      refine iteF ?_
      rw [lc_filter ds acc (fun e he => h e (List.mem_cons_of_mem _ he)) (by simp at hl ⊢; omega)]
      simp [List.filter_cons, hp]
theorem w_lc {it : Env' → M (List D)} {g : D → Env' → Option Env'} {c : Env' → M Bool} {el : Env' → M D} {vs : List Nat} (h : it ρ st = .ok ds st1) (h1 : sLcL g c el (wipeE ρ vs) ds [] st1 = .ok es st2) : sLc it g c el vs ρ st = .ok (.fr es) st2 := by
  unfold sLc M.bind; rw [h]; dsimp only; rw [h1]; rfl
theorem w_lc2 {it : Env' → M (List D)} {g : D → Env' → Option Env'} {c : Env' → M Bool} {it1 : Env' → M (List D)} {g1 : D → Env' → Option Env'} {c1 : Env' → M Bool} {el : Env' → M D} {vs vs1 : List Nat} (h : it ρ st = .ok ds st1) (h1 : sLcO g c it1 g1 c1 el vs1 (wipeE ρ vs) ds [] st1 = .ok es st2) : sLc2 it g c it1 g1 c1 el vs vs1 ρ st = .ok (.fr es) st2 := by
  unfold sLc2 M.bind; rw [h]; dsimp only; rw [h1]; rfl
/-- two clauses, no tests, the store standing still -/
theorem lco_flat {g : D → Env' → Option Env'} {it1 : Env' → M (List D)} {g1 : D → Env' → Option Env'} {el : Env' → M D} {vs1 : List Nat} {I : D → List D} {F : D → D → D} {st : Store} (L : Nat) : ∀ (ds acc : List D), (∀ d ∈ ds, ∃ ρ1, g d ρ = some ρ1 ∧ it1 ρ1 st = .ok (I d) st ∧ ∀ e ∈ I d, ∃ ρ2, g1 e (wipeE ρ1 vs1) = some ρ2 ∧ el ρ2 st = .ok (F d e) st) → acc.length + (ds.flatMap I).length ≤ sizeLine →
    sLcO g sYes it1 g1 sYes el vs1 ρ ds acc st = .ok (acc ++ ds.flatMap fun d => (I d).map (F d)) st
  | [], acc, _, _ => by simp [sLcO, M.pure]
  | d :: ds, acc, h, hl => by
    obtain ⟨ρ1, h1, h2, h3⟩ := h d (by simp)
    have hl1 : acc.length + (I d).length ≤ sizeLine := by simp at hl; omega
    have e1 := lc_map (ρ := wipeE ρ1 vs1) (g := g1) (c := sYes) (el := el) (F := F d) (st := st) (I d) acc (fun e he => let ⟨ρ2, q1, q2⟩ := h3 e he; ⟨ρ2, q1, rfl, q2⟩) hl1
    unfold sLcO
    rw [h1]
    dsimp only
    rw [bok (nok (show sYes ρ1 st = .ok true st from rfl))]
    refine iteT ?_
    rw [bok (nok h2), bok e1]
    rw [lco_flat L ds _ (fun e he => h e (List.mem_cons_of_mem _ he)) (by simp at hl ⊢; omega)]
    simp [List.flatMap_cons]
/-! ### statements -/
theorem s_seq {f g : SS} (h : f ρ st = .nx ρ' st1) {r : RS} (h2 : g ρ' st1 = r) : sSeq f g ρ st = r := by unfold sSeq; rw [h]; exact h2
theorem s_seqR {f g : SS} (h : f ρ st = .rt d st1) : sSeq f g ρ st = .rt d st1 := by unfold sSeq; rw [h]
theorem s_seqX {f g : SS} {cn : Str} (h : f ρ st = .exc cn as ρ' st1) : sSeq f g ρ st = .exc cn as ρ' st1 := by unfold sSeq; rw [h]
theorem s_skip : sSkip ρ st = .nx ρ st := rfl
theorem s_set {i : Nat} {f : Env' → M RV} {s : SV} (h : f ρ st = .ok r st1) (hs : slot r = some s) (e : ρ.set i s = ρ') : sSet i f ρ st = .nx ρ' st1 := by unfold sSet thenS; rw [h]; dsimp only; rw [hs]; dsimp only; rw [e]
theorem s_ret {f : Env' → M RV} (h : kp f ρ st = .ok d st1) : sRet f ρ st = .rt d st1 := by unfold sRet thenS; rw [h]
theorem s_drop {f : Env' → M RV} (h : f ρ st = .ok r st1) : sDrop f ρ st = .nx ρ st1 := by unfold sDrop thenS; rw [h]
theorem s_ifT {t : Env' → M Bool} {f g : SS} {z : RS} (h : t ρ st = .ok true st1) (h1 : f ρ st1 = z) : sIfS t f g ρ st = z := by unfold sIfS thenS; rw [h]; dsimp only; rw [if_pos rfl]; exact h1
theorem s_ifF {t : Env' → M Bool} {f g : SS} {z : RS} (h : t ρ st = .ok false st1) (h1 : g ρ st1 = z) : sIfS t f g ρ st = z := by unfold sIfS thenS; rw [h]; dsimp only; rw [if_neg Bool.false_ne_true]; exact h1
theorem s_for {it : Env' → M (List D)} {g : D → Env' → Option Env'} {f : SS} {z : RS} (h : it ρ st = .ok ds st1) (h1 : sForL g f ds ρ st1 = z) : sFor it g f ρ st = z := by unfold sFor thenS; rw [h]; exact h1
theorem s_frz {is : List Nat} {f : SS} {z : RS} (h : is.foldl (fun ρ i => ρ.modify i thaw) ρ = ρ') (h1 : f ρ' st = z) : sFrz is f ρ st = z := by unfold sFrz; rw [h]; exact h1
theorem s_raise {n : Nat} {g : Env' → M (List D)} (h : g ρ st = .ok as st1) (hl : as.length = n) : sRaise x n g ρ st = .exc x as ρ st1 := by unfold sRaise thenS; rw [h]; dsimp only; rw [if_pos hl]
theorem l_nil {g : D → Env' → Option Env'} {f : SS} : sForL g f [] ρ st = .nx ρ st := rfl
theorem l_nx {g : D → Env' → Option Env'} {f : SS} {z : RS} (h : g d ρ = some ρ1) (h1 : f ρ1 st = .nx ρ2 st1) (h2 : sForL g f ds ρ2 st1 = z) : sForL g f (d :: ds) ρ st = z := by unfold sForL; rw [h]; dsimp only; rw [h1]; exact h2
theorem l_rt {g : D → Env' → Option Env'} {f : SS} (h : g d ρ = some ρ1) (h1 : f ρ1 st = .rt a st1) : sForL g f (d :: ds) ρ st = .rt a st1 := by unfold sForL; rw [h]; dsimp only; rw [h1]
theorem f_rt {n : Nat} {body : SS} (hρ : ds.map SV.val ++ List.replicate (n - ds.length) SV.un = ρ) (h : body ρ st = .rt d st1) : semF n body ds st = .ok d st1 := by unfold semF; rw [hρ, h]
theorem f_nx {n : Nat} {body : SS} (hρ : ds.map SV.val ++ List.replicate (n - ds.length) SV.un = ρ) (h : body ρ st = .nx ρ' st1) : semF n body ds st = .ok .non st1 := by unfold semF; rw [hρ, h]
theorem f_exc {n : Nat} {body : SS} {cn : Str} (hρ : ds.map SV.val ++ List.replicate (n - ds.length) SV.un = ρ) (h : body ρ st = .exc cn as ρ' st1) : semF n body ds st = .exc cn as st1 := by unfold semF; rw [hρ, h]
/-! ### errors passed on -/
theorem x_cons1 {f : Env' → M D} {g : Env' → M (List D)} {cn : Str} (h : f ρ st = .exc cn as st1) : sCons f g ρ st = .exc cn as st1 := by unfold sCons M.bind; rw [h]
theorem x_cons2 {f : Env' → M D} {g : Env' → M (List D)} {cn : Str} (h : f ρ st = .ok d st1) (h2 : g ρ st1 = .exc cn as st2) : sCons f g ρ st = .exc cn as st2 := by unfold sCons M.bind; rw [h]; dsimp only; rw [h2]
theorem x_kp {f : Env' → M RV} {cn : Str} (h : f ρ st = .exc cn as st1) : kp f ρ st = .exc cn as st1 := by unfold kp M.bind; rw [h]
theorem x_rd {f : Env' → M RV} {cn : Str} (h : f ρ st = .exc cn as st1) : rd f ρ st = .exc cn as st1 := by unfold rd M.bind; rw [h]
theorem x_fn {F : List D → M D} {g : Env' → M (List D)} {cn : Str} (h : g ρ st = .ok bs st1) (h2 : F bs st1 = .exc cn as st2) : sFn F g ρ st = .exc cn as st2 := by unfold sFn M.bind; rw [h]; dsimp only; rw [h2]
theorem x_fnD {F : List D → M D} {dd : List D} {g : Env' → M (List D)} {cn : Str} (h : g ρ st = .ok bs st1) (h2 : F (bs ++ dd) st1 = .exc cn as st2) : sFnD F dd g ρ st = .exc cn as st2 := by unfold sFnD M.bind; rw [h]; dsimp only; rw [h2]
theorem x_lst {g : Env' → M (List D)} {cn : Str} (h : g ρ st = .exc cn as st1) : sLst g ρ st = .exc cn as st1 := by unfold sLst M.bind; rw [h]
theorem x_set {i : Nat} {f : Env' → M RV} {cn : Str} (h : f ρ st = .exc cn as st1) : sSet i f ρ st = .exc cn as ρ st1 := by unfold sSet thenS; rw [h]
theorem x_ret {f : Env' → M RV} {cn : Str} (h : kp f ρ st = .exc cn as st1) : sRet f ρ st = .exc cn as ρ st1 := by unfold sRet thenS; rw [h]
theorem x_drop {f : Env' → M RV} {cn : Str} (h : f ρ st = .exc cn as st1) : sDrop f ρ st = .exc cn as ρ st1 := by unfold sDrop thenS; rw [h]
theorem x_if {t : Env' → M Bool} {f g : SS} {cn : Str} (h : t ρ st = .exc cn as st1) : sIfS t f g ρ st = .exc cn as ρ st1 := by unfold sIfS thenS; rw [h]
theorem x_tru {f : Env' → M RV} {cn : Str} (h : f ρ st = .exc cn as st1) : sTru f ρ st = .exc cn as st1 := by unfold sTru M.bind; rw [h]
theorem x_not {f : Env' → M Bool} {cn : Str} (h : f ρ st = .exc cn as st1) : sNotT f ρ st = .exc cn as st1 := by unfold sNotT M.bind; rw [h]
/-! ### try -/
theorem s_try {sub : Str → Str → Option Bool} {body : SS} {hs : List Hc} {z : RS} (h : body ρ st = z) (hz : ∀ c as ρ1 st1, z ≠ .exc c as ρ1 st1) : sTry sub body hs ρ st = z := by
  unfold sTry
  rw [h]
  cases z with
  | exc c as ρ1 st1 => exact absurd rfl (hz c as ρ1 st1)
  | _ => rfl
theorem s_tryX {sub : Str → Str → Option Bool} {body : SS} {hs : List Hc} {cn : Str} {z : RS} (h : body ρ st = .exc cn as ρ' st1) (h1 : sHs sub cn as hs ρ' st1 = z) : sTry sub body hs ρ st = z := by unfold sTry; rw [h]; exact h1
theorem h_no {sub : Str → Str → Option Bool} {h : Hc} {hs : List Hc} {cn : Str} {z : RS} (e : sub cn h.x = some false) (h1 : sHs sub cn as hs ρ st = z) : sHs sub cn as (h :: hs) ρ st = z := by unfold sHs; rw [e]; exact h1
theorem h_yes {sub : Str → Str → Option Bool} {h : Hc} {hs : List Hc} {cn : Str} {z : RS} (e : sub cn h.x = some true) (hi : inR h.i ρ = true) (h1 : endS h.i (h.m cn as (unset h.i ρ) st) = z) : sHs sub cn as (h :: hs) ρ st = z := by unfold sHs; rw [e]; dsimp only; rw [if_pos hi]; exact h1
end
end Ev
set_option Elab.async false -- ev
set_option linter.all false -- ev
set_option maxRecDepth 100000 -- ev
set_option maxHeartbeats 400000 -- ev
set_option autoImplicit false -- ev
/-! What a repr needs. -/
namespace Ev
open PySem
theorem toS_len : ∀ k : Fin 203, ((toString ((k.val : Int) - 101) : String) : Str).length ≤ 4 := by decide +kernel
theorem toS_le {i : Int} (h1 : -101 ≤ i) (h2 : i ≤ 101) : ((toString i : String) : Str).length ≤ 4 := by
  have h := toS_len ⟨(i + 101).toNat, by omega⟩
  have e : (((i + 101).toNat : Nat) : Int) - 101 = i := by omega
  rw [e] at h
  exact h
mutual
def bd : D → Nat
  | .int i => if -101 ≤ i ∧ i ≤ 101 then 4 else if i.natAbs.log2 < 1920 then 1921 else sizeLine + 1
  | .bl _ => 5
  | .non => 4
  | .str x => (PySem.reprText x).length
  | .tup ds => bds ds + 4
  | .lst ds => bds ds + 4
  | _ => sizeLine + 1
def bds : List D → Nat
  | [] => 0
  | d :: ds => bd d + 2 + bds ds
end
theorem log_small {i : Int} (h1 : -101 ≤ i) (h2 : i ≤ 101) : i.natAbs.log2 < 1920 := by
  by_cases h : i.natAbs = 0
  · rw [h]; decide
  · have : i.natAbs.log2 < 7 := (Nat.log2_lt h).2 (by have : i.natAbs ≤ 101 := by omega
                                                      omega)
    omega
theorem sep_len (k : Nat) : ((if k > 0 then ", " else "" : String) : Str).length ≤ 2 := by
  split
  · exact Nat.le_refl _
  · exact Nat.zero_le _
theorem textFrom_le : ∀ (ts : List Str) (k : Nat) (acc : Str), (textFrom k acc ts).length ≤ acc.length + (ts.map fun t => t.length + 2).sum
  | [], k, acc => by show acc.length ≤ acc.length + _; omega
  | t :: r, k, acc => by
    have ih := textFrom_le r (k + 1) (acc ++ (if k > 0 then ", " else "" : String) ++ t)
    have e : (acc ++ (if k > 0 then ", " else "" : String) ++ t).length ≤ acc.length + 2 + t.length := by
      rw [strLen_append, strLen_append] -- ev
      have := sep_len k
      omega
    show (textFrom (k + 1) (acc ++ (if k > 0 then ", " else "" : String) ++ t) r).length ≤ _
    rw [List.map_cons, List.sum_cons] -- ev
    exact Nat.le_trans ih (by omega)
theorem listText_le (ts : List Str) : (listText ts).length ≤ (ts.map fun t => t.length + 2).sum + 4 := by
  unfold listText
  rw [strLen_append]
  have h := textFrom_le ts 0 "["
  have e1 : (("[" : String) : Str).length = 1 := rfl
  have e2 : (("]" : String) : Str).length = 1 := rfl
  rw [e1] at h
  rw [e2]
  omega
theorem join_le : ∀ ts : List Str, (Str.join ", " ts).length ≤ (ts.map fun t => t.length + 2).sum
  | [] => Nat.zero_le _
  | [x] => by show x.length ≤ _; simp
  | x :: y :: r => by
    have ih := join_le (y :: r)
    show (x ++ ", " ++ Str.join ", " (y :: r)).length ≤ _
    have e2 : ((", " : String) : Str).length = 2 := rfl -- ev
    rw [strLen_append, strLen_append, e2, List.map_cons, List.sum_cons]
    omega
theorem tupleText_le (ts : List Str) : (tupleText ts).length ≤ (ts.map fun t => t.length + 2).sum + 4 := by
  unfold tupleText
  rw [strLen_append, strLen_append] -- ev
  have h := join_le ts
  have e1 : (("(" : String) : Str).length = 1 := rfl
  have e2 : ((if ts.length == 1 then ",)" else ")" : String) : Str).length ≤ 2 := by
    split
    · exact Nat.le_refl _
    · decide
  rw [e1]
  omega
mutual
theorem bd_ok : ∀ d : D, bd d ≤ sizeLine → d.py.showable = true ∧ d.py.shown.length ≤ bd d
  | .int i, h => by
    unfold bd at h ⊢
    by_cases hi : -101 ≤ i ∧ i ≤ 101
    · rw [if_pos hi]
      refine ⟨?_, toS_le hi.1 hi.2⟩
      unfold D.py PyData.showable
      exact decide_eq_true (log_small hi.1 hi.2)
    · rw [if_neg hi] at h ⊢
      by_cases hj : i.natAbs.log2 < 1920
      · rw [if_pos hj]
        refine ⟨?_, PyProof.Rows.int_text_len_1921 hj⟩
        unfold D.py PyData.showable
        exact decide_eq_true hj
      · rw [if_neg hj] at h
        omega
  | .bl b, _ => by
    unfold bd D.py PyData.showable PyData.shown
    exact ⟨rfl, by cases b <;> decide⟩
  | .non, _ => by
    unfold bd D.py PyData.showable PyData.shown
    exact ⟨rfl, by decide⟩
  | .str x, _ => by
    unfold bd D.py PyData.showable PyData.shown
    exact ⟨rfl, Nat.le_refl _⟩
  | .tup ds, h => by
    unfold bd at h ⊢
    have q := bds_ok ds (by omega)
    unfold D.py PyData.showable PyData.shown
    exact ⟨q.1, Nat.le_trans (tupleText_le _) (by omega)⟩
  | .lst ds, h => by
    unfold bd at h ⊢
    have q := bds_ok ds (by omega)
    unfold D.py PyData.showable PyData.shown
    exact ⟨q.1, Nat.le_trans (listText_le _) (by omega)⟩
  | .cell k, h => by
    unfold bd at h
    omega
  | .ty k, h => by
    unfold bd at h
    omega
theorem bds_ok : ∀ ds : List D, bds ds ≤ sizeLine → PyData.showableAll (D.pys ds) = true ∧ ((PyData.shownAll (D.pys ds)).map fun t => t.length + 2).sum ≤ bds ds
  | [], _ => by
    unfold D.pys PyData.showableAll PyData.shownAll bds
    exact ⟨rfl, Nat.le_refl _⟩
  | d :: ds, h => by
    unfold bds at h ⊢
    have a := bd_ok d (by omega)
    have b := bds_ok ds (by omega)
    unfold D.pys PyData.showableAll PyData.shownAll
    rw [List.map_cons, List.sum_cons] -- ev
    exact ⟨by rw [a.1, b.1]; rfl, by omega⟩
end
theorem repr_lst {ds : List D} (h : bd (.lst ds) ≤ sizeLine) (hp : D.pl 60 (.lst ds) = true) : ∃ s, dRepr [.lst ds] = some (.per (.str s)) := by
  have q := bd_ok _ h
  refine ⟨(D.lst ds).py.shown, ?_⟩
  unfold dRepr
  dsimp only
  rw [if_pos (by rw [hp, q.1, decide_eq_true (Nat.le_trans q.2 h)]; rfl)]
  rfl
theorem repr_tup {ds : List D} (h : bd (.tup ds) ≤ sizeLine) (hp : D.pl 60 (.tup ds) = true) : ∃ s, dRepr [.tup ds] = some (.per (.str s)) := by
  have q := bd_ok _ h
  refine ⟨(D.tup ds).py.shown, ?_⟩
  unfold dRepr
  dsimp only
  rw [if_pos (by rw [hp, q.1, decide_eq_true (Nat.le_trans q.2 h)]; rfl)]
  rfl
theorem repr_int {i : Int} (h : i.natAbs.log2 < 1920) : ∃ s, dRepr [.int i] = some (.per (.str s)) := ⟨((toString i : String) : Str), by unfold dRepr; dsimp only; rw [if_pos h]; rfl⟩
theorem pls_ints : ∀ (l : Nat) (ns : List Int), D.pls l (ns.map .int) = true
  | l, [] => by simp [D.pls]
  | l, n :: r => by
    have h : D.pl l (.int n) = true := by cases l <;> rfl
    simp only [List.map_cons, D.pls, h, pls_ints l r, Bool.and_self]
theorem bds_ints : ∀ (ns : List Int), (∀ n ∈ ns, -101 ≤ n ∧ n ≤ 101) → bds (ns.map .int) ≤ 6 * ns.length
  | [], _ => by simp [bds]
  | n :: r, h => by
    have q := bds_ints r (fun m hm => h m (List.mem_cons_of_mem _ hm))
    have e : bd (.int n) = 4 := by unfold bd; rw [if_pos (h n (by simp))]
    simp only [List.map_cons, bds, e, List.length_cons]
    omega
/-- how many places a number has -/
def lg (x : Int) (k : Nat) : Prop := x.natAbs < 2 ^ k
theorem lg_one : lg 1 1 := by unfold lg; decide
theorem lg_mul {x y : Int} {a b : Nat} (h : lg x a) (g : lg y b) : lg (x * y) (a + b) := by
  unfold lg at *
  rw [Int.natAbs_mul, Nat.pow_add] -- ev
  exact Nat.mul_lt_mul'' h g
theorem lg_log {x : Int} {k : Nat} (h : lg x k) : x.natAbs.log2 ≤ k := by
  by_cases h0 : x.natAbs = 0
  · rw [h0]
    exact Nat.zero_le _
  · exact Nat.le_of_lt ((Nat.log2_lt h0).2 h)
theorem lg_mono {x : Int} {a b : Nat} (h : lg x a) (g : a ≤ b) : lg x b := Nat.lt_of_lt_of_le h (Nat.pow_le_pow_right (by omega) g)
theorem lg_add {x y : Int} {a : Nat} (h : lg x a) (g : lg y a) : lg (x + y) (a + 1) := by
  unfold lg at *
  rw [Nat.pow_succ]
  omega
theorem mulA_lg {x y : Int} {a b : Nat} (h : lg x a) (g : lg y b) (hk : a + b < 1000000) : dMulA (.int x) (.int y) = some (.per (.int (x * y))) := by
  have h1 := lg_log h
  have h2 := lg_log g
  unfold dMulA
  dsimp only
  rw [if_pos (Nat.lt_of_le_of_lt (Nat.add_le_add h1 h2) hk)]
  rfl
theorem lg_sum {k : Nat} : ∀ (ns : List Int) , (∀ n ∈ ns, lg n k) → lg ns.sum (k + ns.length)
  | [], _ => by
    show (0 : Int).natAbs < 2 ^ (k + 0)
    exact Nat.pow_pos (by omega)
  | n :: r, h => by
    have q := lg_sum r (fun m hm => h m (List.mem_cons_of_mem _ hm))
    have q2 := lg_mono (h n (by simp)) (show k ≤ k + r.length by omega)
    rw [List.sum_cons]
    exact lg_mono (lg_add q2 q) (by simp; omega)
end Ev
set_option Elab.async false -- ev
set_option linter.all false -- ev
set_option maxRecDepth 100000 -- ev
set_option maxHeartbeats 400000 -- ev
set_option autoImplicit false -- ev
/-! Runs of meanings, one step at a time by their shape alone. -/
namespace Ev
open PySem
section
variable {ρ ρ' ρ1 ρ2 : Env'} {st st1 st2 st3 : Store} {a b c d : D} {r r2 : RV} {as bs ds es : List D} {x : Str} {k k' : Bool} {z z' : RS} {α : Type}
/-- one of two -/
def csel {β : Type} (k : Bool) (x y : β) : β := cond k x y
def nxt (z : RS) (g : SS) : RS := match z with
  | .nx ρ' st' => g ρ' st'
  | r => r
theorem a_seq {f g : SS} (h : f ρ st = z) (h2 : nxt z g = z') : sSeq f g ρ st = z' := by
  unfold sSeq
  rw [h]
  exact h2
theorem n_nx {g : SS} (h : g ρ st = z) : nxt (.nx ρ st) g = z := h
theorem n_rt {g : SS} : nxt (.rt d st) g = .rt d st := rfl
theorem n_exc {g : SS} {cn : Str} : nxt (.exc cn as ρ st) g = .exc cn as ρ st := rfl
theorem n_bk {g : SS} : nxt (.bk ρ st) g = .bk ρ st := rfl
theorem n_ct {g : SS} : nxt (.ct ρ st) g = .ct ρ st := rfl
theorem a_frz {is : List Nat} {f : SS} (h : f (is.foldl (fun ρ i => ρ.modify i thaw) ρ) st = z) : sFrz is f ρ st = z := h
theorem a_if {t : Env' → M Bool} {f g : SS} (h : t ρ st = .ok k st1) (h1 : csel k f g ρ st1 = z) : sIfS t f g ρ st = z := by
  unfold sIfS thenS
  rw [h]
  cases k <;> exact h1
theorem c_T {f g : SS} (hk : k = true) (h : f ρ st = z) : csel k f g ρ st = z := by subst hk; exact h
theorem c_F {f g : SS} (hk : k = false) (h : g ρ st = z) : csel k f g ρ st = z := by subst hk; exact h
theorem a_ifM {t : Env' → M Bool} {f g : Env' → M α} {q : R α} (h : t ρ st = .ok k st1) (h1 : csel k (f ρ) (g ρ) st1 = q) : sIf t f g ρ st = q := by
  unfold sIf M.bind
  rw [h]
  cases k <;> exact h1
theorem c_TM {f g : M α} {q : R α} (hk : k = true) (h : f st = q) : csel k f g st = q := by subst hk; exact h
theorem c_FM {f g : M α} {q : R α} (hk : k = false) (h : g st = q) : csel k f g st = q := by subst hk; exact h
theorem m_pure {y : α} : M.pure y st = .ok y st := rfl
theorem a_and {f g : Env' → M Bool} {q : R Bool} (h : f ρ st = .ok k st1) (h1 : csel k (g ρ) (M.pure false) st1 = q) : sAndT f g ρ st = q := by
  unfold sAndT M.bind
  rw [h]
  cases k <;> exact h1
theorem a_or {f g : Env' → M Bool} {q : R Bool} (h : f ρ st = .ok k st1) (h1 : csel k (M.pure true) (g ρ) st1 = q) : sOrT f g ρ st = q := by
  unfold sOrT M.bind
  rw [h]
  cases k <;> exact h1
theorem a_andV {f g : Env' → M RV} {q : R RV} (h : f ρ st = .ok r st1) (ht : tru st1 r.d = some k) (h1 : csel k (g ρ) (M.pure r) st1 = q) : sAndV f g ρ st = q := by
  unfold sAndV M.bind M.opt'
  rw [h]
  dsimp only
  rw [ht]
  cases k <;> exact h1
theorem a_orV {f g : Env' → M RV} {q : R RV} (h : f ρ st = .ok r st1) (ht : tru st1 r.d = some k) (h1 : csel k (M.pure r) (g ρ) st1 = q) : sOrV f g ρ st = q := by
  unfold sOrV M.bind M.opt'
  rw [h]
  dsimp only
  rw [ht]
  cases k <;> exact h1
theorem a_not {f : Env' → M Bool} (h : f ρ st = .ok k st1) (hk : (!k) = k') : sNotT f ρ st = .ok k' st1 := by
  rw [← hk]
  exact t_not h
theorem a_notV {f : Env' → M RV} (h : f ρ st = .ok r st1) (ht : tru st1 r.d = some k) (hk : (!k) = k') : sNotV f ρ st = .ok (.per (.bl k')) st1 := by
  rw [← hk]
  exact w_not h ht
theorem nT : (!true) = false := rfl
theorem nF : (!false) = true := rfl
def seqD : D → Option (List D)
  | .lst ds => some ds
  | .tup ds => some ds
  | _ => none
theorem a_it {f : Env' → M D} (h : f ρ st = .ok d st1) (hd : seqD d = some ds) : itS f ρ st = .ok ds st1 := by
  cases d <;> first | (cases hd; first | exact i_lst h | exact i_tup h) | cases hd
theorem a_r1 {g : Env' → M (List D)} {j : Int} (h : g ρ st = .ok [.int j] st1) (h1 : -1000000000000 ≤ j) (h2 : j ≤ 1000000000000) : itR1 g ρ st = .ok (rngD 0 j.toNat) st1 := i_r1 h (bnd_lt h1 h2)
theorem a_r2 {g : Env' → M (List D)} {i j : Int} (h : g ρ st = .ok [.int i, .int j] st1) (h1 : -1000000000000 ≤ i) (h2 : i ≤ 1000000000000) (h3 : -1000000000000 ≤ j) (h4 : j ≤ 1000000000000) : itR2 g ρ st = .ok (rngD i (j - i).toNat) st1 := i_r2 h (bnd_lt h1 h2) (bnd_lt h3 h4)
theorem a_set {i : Nat} {f : Env' → M RV} {s : SV} (h : f ρ st = .ok r st1) (hs : slot r = some s) : sSet i f ρ st = .nx (ρ.set i s) st1 := s_set h hs rfl
theorem a_par {i j : Nat} {g : Env' → M (List D)} (h : g ρ st = .ok [a, b] st1) : sPar i j g ρ st = .nx ((ρ.set i (.val a)).set j (.val b)) st1 := by
  unfold sPar thenS
  rw [h]
theorem a_par3 {i j k : Nat} {g : Env' → M (List D)} (h : g ρ st = .ok [a, b, c] st1) : sPar3 i j k g ρ st = .nx (((ρ.set i (.val a)).set j (.val b)).set k (.val c)) st1 := by
  unfold sPar3 thenS
  rw [h]
theorem a_asg {f : Env' → M D} {g : D → Env' → Option Env'} (h : f ρ st = .ok d st1) (hg : g d ρ = some ρ') : sAsgT f g ρ st = .nx ρ' st1 := by
  unfold sAsgT thenS
  rw [h]
  dsimp only
  rw [hg]
theorem a_kpc {it : Env' → M (List D)} {g : D → Env' → Option Env'} {c : Env' → M Bool} {el : Env' → M D} {vs : List Nat} (h : it ρ st = .ok ds st1) (h1 : sLcL g c el (wipeE ρ vs) ds [] st1 = .ok es st2) : kp (sLc it g c el vs) ρ st = .ok (.lst es) st2 := w_kpf (w_lc h h1)
end
end Ev
set_option Elab.async false -- ev
set_option linter.all false -- ev
set_option maxRecDepth 100000 -- ev
set_option maxHeartbeats 0 -- ev
set_option autoImplicit false -- ev
namespace M02
open PySem Ev
def gv (x : Str) (g : GV) : Str × GV := (x, g)
def nm (x : Str) : Str := x
def kv (x : Str) (d : D) : Str × D := (x, d)
def xv (x y : Str) (b : Bool) : (Str × Str) × Bool := ((x, y), b)
def gls : List (Str × GV) := [
  gv "len" (.bfn .len),
  gv "all" (.bfn .all),
  gv "any" (.bfn .any),
  gv "sum" (.bfn .sum),
  gv "max" (.bfn .max),
  gv "min" (.bfn .min),
  gv "abs" (.bfn .abs),
  gv "divmod" (.bfn .divmod),
  gv "isinstance" (.bfn .isi),
  gv "repr" (.bfn .repr),
  gv "int" (.bty .int),
  gv "list" (.bty .list),
  gv "tuple" (.bty .tuple),
  gv "str" (.bty .str),
  gv "bool" (.bty .bool),
  gv "dict" (.bty .dict),
  gv "range" .it,
  gv "zip" .it,
  gv "enumerate" .it,
  gv "reversed" .it,
  gv "sorted" .it,
  gv "set" .it,
  gv "comb" .comb,
  gv "LEAST_MANY" (.int 2),
  gv "MOST_MANY" (.int 5),
  gv "MOST_NUMBER" (.int 12),
  gv "MOST_MEETINGS" (.int 2),
  gv "MOST_DEEP" (.int 10),
  gv "MOST_PARTS" (.int 60),
  gv "MOST_MARKS" (.int 12),
  gv "MOST_WIDTH" (.int 40),
  gv "MOST_MEMBERS" (.int 1000000000000000000000000000000),
  gv "FORMS" (.kd [kv "none" (.tup []), kv "one" (.tup []), kv "subset" (.tup [.str "number"]), kv "bag" (.tup [.str "number"]), kv "either" (.tup [.str "sort", .str "sort"]), kv "pair" (.tup [.str "sort", .str "sort"]), kv "list" (.tup [.str "number", .str "sort"]), kv "family" (.tup [.str "number", .str "sort"]), kv "heap" (.tup [.str "number", .str "sort"]), kv "rounds" (.tup [.str "meetings"]), kv "trees" (.tup []), kv "rooted" (.tup [])]),
  gv "UnitError" .base,
  gv "BadMany" (.exc [nm "value"]),
  gv "BadSort" (.exc [nm "path"]),
  gv "TooGreat" (.exc [nm "most"]),
  gv "is_whole" (.fn 0 1),
  gv "is_below" (.fn 1 2),
  gv "need_many" (.fn 2 1),
  gv "inner_indexes" (.fn 3 1),
  gv "inner_parts" (.fn 4 1),
  gv "_is_of_kind" (.fn 5 2),
  gv "_has_form" (.fn 6 1),
  gv "_things_met" (.fn 7 3),
  gv "need_sort" (.fn 8 2),
  gv "single_of" (.fn 9 1),
  gv "is_single" (.fn 10 2),
  gv "marks_of" (.fn 11 2),
  gv "marks" (.fn 12 2),
  gv "width_of" (.fn 13 2),
  gv "width" (.fn 14 2),
  gv "power" (.fn 15 2),
  gv "heaps_of" (.fn 16 2),
  gv "_count_from" (.fn 17 3),
  gv "count_of" (.fn 18 2),
  gv "how_many" (.fn 19 2),
  gv "_law_mixed" (.fn 20 2),
  gv "_law_begin" (.fn 21 1),
  gv "_law_draw" (.fn 22 2),
  gv "_law_of" (.fn 23 2),
  gv "_law_tuples" (.fn 24 3),
  gv "_law_rows" (.fn 25 2),
  gv "_law_meets" (.fn 26 1),
  gv "_law_joined" (.fn 27 2),
  gv "_law_trees" (.fn 28 1),
  gv "_law_listed" (.fn 29 2),
  gv "_law_ways" (.fn 30 2),
  gv "_law_power" (.fn 31 2),
  gv "_law_size" (.fn 32 2),
  gv "_law_weight" (.fn 33 2),
  gv "_law_single" (.fn 34 2),
  gv "_law_any_sort" (.fn 35 3),
  gv "_law_fits" (.fn 36 3),
  gv "_law_sort" (.fn 37 4),
  gv "_law_form" (.fn 38 1),
  gv "_law_alone" (.fn 39 1),
  gv "_law_walk" (.fn 40 4),
  gv "_law_wide" (.fn 41 1),
  gv "_law_capped" (.fn 42 3),
  gv "_law_rooms" (.fn 43 2),
  gv "_law_fault" (.fn 44 2),
  gv "_law_told" (.fn 45 2),
  gv "_law_good" (.fn 46 1),
  gv "law" (.fn 47 1)]
def gl0 (x : Str) : Option GV := gls.lookup x
def tb : List ((Str × Str) × Bool) := []
def nms : List (List Str) := [
  [nm "value"],
  [nm "value", nm "bound"],
  [nm "value"],
  [nm "sort", nm "at", nm "kind"],
  [nm "sort", nm "at"],
  [nm "kind", nm "value"],
  [nm "value", nm "word", nm "kinds", nm "kind", nm "thing"],
  [nm "value", nm "path", nm "met", nm "now", nm "at"],
  [nm "many", nm "value"],
  [nm "sort"],
  [nm "many", nm "sort"],
  [nm "many", nm "sort", nm "word", nm "inner", nm "part"],
  [nm "many", nm "sort"],
  [nm "many", nm "sort", nm "word", nm "inner", nm "part"],
  [nm "many", nm "sort"],
  [nm "base", nm "times", nm "product", nm "_"],
  [nm "kinds", nm "size"],
  [nm "many", nm "sort", nm "inner", nm "word"],
  [nm "many", nm "sort", nm "inner", nm "part", nm "count"],
  [nm "many", nm "sort"],
  [nm "cell", nm "k"],
  [nm "script", nm "cells_so", nm "cell"],
  [nm "state", nm "limit", nm "at", nm "place", nm "left", nm "number"],
  [nm "state", nm "some"],
  [nm "limit", nm "size", nm "again", nm "found", nm "step", nm "more", nm "one", nm "least", nm "item"],
  [nm "some", nm "size", nm "found", nm "step", nm "more", nm "one", nm "item"],
  [nm "n", nm "found", nm "low", nm "high"],
  [nm "n", nm "ties", nm "lot", nm "step", nm "one", nm "other"],
  [nm "n", nm "meets", nm "every", nm "lot", nm "k", nm "ties"],
  [nm "n", nm "sort", nm "word", nm "one", nm "found", nm "far", nm "other", nm "some", nm "lot", nm "k", nm "pair", nm "more", nm "won", nm "root", nm "ties"],
  [nm "limit", nm "size", nm "found", nm "k"],
  [nm "base", nm "many_so", nm "found", nm "step"],
  [nm "n", nm "sort", nm "word", nm "one", nm "other", nm "inner"],
  [nm "n", nm "sort", nm "word", nm "one", nm "other"],
  [nm "state", nm "n", nm "pick"],
  [nm "state", nm "n", nm "deep", nm "pick", nm "one"],
  [nm "n", nm "sort", nm "most", nm "inner", nm "part"],
  [nm "state", nm "n", nm "deep", nm "most", nm "found"],
  [nm "value", nm "word", nm "size", nm "low", nm "high"],
  [nm "value"],
  [nm "value", nm "path", nm "deep", nm "met", nm "indexes", nm "at", nm "fault"],
  [nm "sort", nm "one", nm "other"],
  [nm "n", nm "sort", nm "over", nm "word", nm "most", nm "found", nm "one", nm "other", nm "inner", nm "step"],
  [nm "value", nm "path", nm "found", nm "at"],
  [nm "n", nm "value", nm "fault", nm "over"],
  [nm "n", nm "sort"],
  [nm "state", nm "n", nm "rooms", nm "room", nm "part", nm "due", nm "far", nm "some", nm "sort"],
  [nm "script", nm "word", nm "state", nm "turn"]]
def cls : List (Nat × Nat) := [(170, 40), (390, 36), (397, 11)]
def L0 (run : Nat → List D → M D) : SS := (sSeq (sRet (sAndV (sCall dIsi (sCons (rd (sVar 0)) (sCons (rd (sC (.ty "int"))) sNil))) (sNotV (sCall dIsi (sCons (rd (sVar 0)) (sCons (rd (sC (.ty "bool"))) sNil)))))) sSkip)
def L1 (run : Nat → List D → M D) : SS := (sSeq (sFrz [0] (sRet (sAndV (sFn (run 0) (sCons (kp (sVar 0)) sNil)) (sChain dLe dLt (rd (sC (.int 0))) (rd (sVar 0)) (rd (sVar 1)))))) sSkip)
def L2 (run : Nat → List D → M D) : SS := (sSeq (sFrz [0] (sIfS (sOrT (sNotT (sTru (sFn (run 0) (sCons (kp (sVar 0)) sNil)))) (sNotT (sBoolT (sChain dLe dLe (rd (sC (.int 2))) (rd (sVar 0)) (rd (sC (.int 5))))))) (sSeq (sFrz [0] (sRaise "BadMany" 1 (sCons (kp (sVar 0)) sNil))) sSkip) sSkip)) (sSeq (sFrz [0] (sRet (sVar 0))) sSkip))
def L3 (run : Nat → List D → M D) : SS := (sSeq (sRet (sLc (itEn 1 (sCons (kp (sUn (kdIx [kv "none" (.tup []), kv "one" (.tup []), kv "subset" (.tup [.str "number"]), kv "bag" (.tup [.str "number"]), kv "either" (.tup [.str "sort", .str "sort"]), kv "pair" (.tup [.str "sort", .str "sort"]), kv "list" (.tup [.str "number", .str "sort"]), kv "family" (.tup [.str "number", .str "sort"]), kv "heap" (.tup [.str "number", .str "sort"]), kv "rounds" (.tup [.str "meetings"]), kv "trees" (.tup []), kv "rooted" (.tup [])]) (rd (sBinS ixSt (rd (sVar 0)) (rd (sC (.int 0))))))) sNil)) (gT (gsCons (gN 1) (gsCons (gN 2) gsNil))) (sBoolT (sBin dEq (rd (sVar 2)) (rd (sC (.str "sort"))))) (kp (sVar 1)) [1, 2])) sSkip)
def L4 (run : Nat → List D → M D) : SS := (sSeq (sFrz [0] (sRet (sLc (itS (kp (sFn (run 3) (sCons (kp (sVar 0)) sNil)))) (gN 1) sYes (kp (sBinS ixSt (rd (sVar 0)) (rd (sVar 1)))) [1]))) sSkip)
def L5 (run : Nat → List D → M D) : SS := (sSeq (sIfS (sBoolT (sBin dEq (rd (sVar 0)) (rd (sC (.str "number"))))) (sSeq (sFrz [1] (sRet (sFn (run 1) (sCons (kp (sVar 1)) (sCons (kp (sBin dAdd (rd (sC (.int 12))) (rd (sC (.int 1))))) sNil))))) sSkip) sSkip) (sSeq (sIfS (sBoolT (sBin dEq (rd (sVar 0)) (rd (sC (.str "meetings"))))) (sSeq (sFrz [1] (sRet (sAndV (sFn (run 0) (sCons (kp (sVar 1)) sNil)) (sChain dLe dLe (rd (sC (.int 1))) (rd (sVar 1)) (rd (sC (.int 2))))))) sSkip) sSkip) (sSeq (sRet (sC (.bl true))) sSkip)))
def L6 (run : Nat → List D → M D) : SS := (sSeq (sIfS (sOrT (sNotT (sTru (sCall dIsi (sCons (rd (sVar 0)) (sCons (rd (sC (.ty "tuple"))) sNil))))) (sBoolT (sBin dEq (rd (sCall dLen (sCons (rd (sVar 0)) sNil))) (rd (sC (.int 0)))))) (sSeq (sRet (sC (.bl false))) sSkip) sSkip) (sSeq (sSet 1 (sBinS ixSt (rd (sVar 0)) (rd (sC (.int 0))))) (sSeq (sIfS (sOrT (sNotT (sTru (sCall dIsi (sCons (rd (sVar 1)) (sCons (rd (sC (.ty "str"))) sNil))))) (sBoolT (sUn (kdIn [kv "none" (.tup []), kv "one" (.tup []), kv "subset" (.tup [.str "number"]), kv "bag" (.tup [.str "number"]), kv "either" (.tup [.str "sort", .str "sort"]), kv "pair" (.tup [.str "sort", .str "sort"]), kv "list" (.tup [.str "number", .str "sort"]), kv "family" (.tup [.str "number", .str "sort"]), kv "heap" (.tup [.str "number", .str "sort"]), kv "rounds" (.tup [.str "meetings"]), kv "trees" (.tup []), kv "rooted" (.tup [])] true) (rd (sVar 1))))) (sSeq (sRet (sC (.bl false))) sSkip) sSkip) (sSeq (sSet 2 (sUn (kdIx [kv "none" (.tup []), kv "one" (.tup []), kv "subset" (.tup [.str "number"]), kv "bag" (.tup [.str "number"]), kv "either" (.tup [.str "sort", .str "sort"]), kv "pair" (.tup [.str "sort", .str "sort"]), kv "list" (.tup [.str "number", .str "sort"]), kv "family" (.tup [.str "number", .str "sort"]), kv "heap" (.tup [.str "number", .str "sort"]), kv "rounds" (.tup [.str "meetings"]), kv "trees" (.tup []), kv "rooted" (.tup [])]) (rd (sVar 1)))) (sSeq (sIfS (sBoolT (sBin dNe (rd (sCall dLen (sCons (rd (sVar 0)) sNil))) (rd (sBin dAdd (rd (sCall dLen (sCons (rd (sVar 2)) sNil))) (rd (sC (.int 1))))))) (sSeq (sRet (sC (.bl false))) sSkip) sSkip) (sSeq (sRet (sCall dAll (sCons (rd (sLc (itZipM (sCons (kp (sVar 2)) (sCons (kp (sSlice (rd (sVar 0)) (sPS (rd (sC (.int 1)))) sPN)) sNil))) (gT (gsCons (gN 3) (gsCons (gN 4) gsNil))) sYes (kp (sFn (run 5) (sCons (kp (sVar 3)) (sCons (kp (sVar 4)) sNil)))) [3, 4])) sNil))) sSkip))))))
def L7 (run : Nat → List D → M D) : SS := (sSeq (sIfS (sBoolT (sBin dEq (rd (sCall dLen (sCons (rd (sVar 1)) sNil))) (rd (sC (.int 10))))) (sSeq (sRaise "TooGreat" 1 (sCons (kp (sC (.int 10))) sNil)) sSkip) sSkip) (sSeq (sIfS (sBoolT (sBin dEq (rd (sVar 2)) (rd (sC (.int 60))))) (sSeq (sRaise "TooGreat" 1 (sCons (kp (sC (.int 60))) sNil)) sSkip) sSkip) (sSeq (sFrz [0] (sIfS (sNotT (sTru (sFn (run 6) (sCons (kp (sVar 0)) sNil)))) (sSeq (sFrz [1] (sRaise "BadSort" 1 (sCons (kp (sVar 1)) sNil))) sSkip) sSkip)) (sSeq (sSet 3 (sBin dAdd (rd (sVar 2)) (rd (sC (.int 1))))) (sSeq (sFrz [0] (sFor (itS (kp (sFn (run 3) (sCons (kp (sVar 0)) sNil)))) (gN 4) (sSeq (sFrz [4, 3] (sSet 3 (sFn (run 7) (sCons (kp (sBinS ixSt (rd (sVar 0)) (rd (sVar 4)))) (sCons (kp (sBin dAdd (rd (sVar 1)) (rd (sTup (sCons (kp (sVar 4)) sNil))))) (sCons (kp (sVar 3)) sNil)))))) (sSeq (sIfS (sAndT (sBoolT (sBin dIn (rd (sBinS ixSt (rd (sVar 0)) (rd (sC (.int 0))))) (rd (sTup (sCons (kp (sC (.str "family"))) (sCons (kp (sC (.str "heap"))) sNil)))))) (sNotT (sTru (sFn (run 9) (sCons (kp (sBinS ixSt (rd (sVar 0)) (rd (sVar 4)))) sNil))))) (sSeq (sFrz [4] (sRaise "BadSort" 1 (sCons (kp (sBin dAdd (rd (sVar 1)) (rd (sTup (sCons (kp (sVar 4)) sNil))))) sNil))) sSkip) sSkip) sSkip)))) (sSeq (sFrz [3] (sRet (sVar 3))) sSkip))))))
def L8 (run : Nat → List D → M D) : SS := (sSeq (sFrz [0] (sDrop (sFn (run 2) (sCons (kp (sVar 0)) sNil)))) (sSeq (sFrz [1] (sDrop (sFn (run 7) (sCons (kp (sVar 1)) (sCons (kp (sTup sNil)) (sCons (kp (sC (.int 0))) sNil)))))) (sSeq (sFrz [0, 1] (sIfS (sBoolT (sBin dGt (rd (sFn (run 11) (sCons (kp (sVar 0)) (sCons (kp (sVar 1)) sNil)))) (rd (sC (.int 12))))) (sSeq (sRaise "TooGreat" 1 (sCons (kp (sC (.int 12))) sNil)) sSkip) sSkip)) (sSeq (sFrz [0, 1] (sIfS (sBoolT (sBin dGt (rd (sFn (run 13) (sCons (kp (sVar 0)) (sCons (kp (sVar 1)) sNil)))) (rd (sC (.int 40))))) (sSeq (sRaise "TooGreat" 1 (sCons (kp (sC (.int 40))) sNil)) sSkip) sSkip)) (sSeq (sFrz [0, 1] (sDrop (sFn (run 18) (sCons (kp (sVar 0)) (sCons (kp (sVar 1)) sNil))))) (sSeq (sFrz [1] (sRet (sVar 1))) sSkip))))))
def L9 (run : Nat → List D → M D) : SS := (sSeq (sIfS (sBoolT (sBin dEq (rd (sBinS ixSt (rd (sVar 0)) (rd (sC (.int 0))))) (rd (sC (.str "either"))))) (sSeq (sRet (sAndV (sFn (run 9) (sCons (kp (sBinS ixSt (rd (sVar 0)) (rd (sC (.int 1))))) sNil)) (sFn (run 9) (sCons (kp (sBinS ixSt (rd (sVar 0)) (rd (sC (.int 2))))) sNil)))) sSkip) sSkip) (sSeq (sRet (sBin dIn (rd (sBinS ixSt (rd (sVar 0)) (rd (sC (.int 0))))) (rd (sTup (sCons (kp (sC (.str "none"))) (sCons (kp (sC (.str "one"))) (sCons (kp (sC (.str "subset"))) sNil))))))) sSkip))
def L10 (run : Nat → List D → M D) : SS := (sSeq (sFrz [0, 1] (sDrop (sFn (run 8) (sCons (kp (sVar 0)) (sCons (kp (sVar 1)) sNil))))) (sSeq (sFrz [1] (sRet (sFn (run 9) (sCons (kp (sVar 1)) sNil)))) sSkip))
def L11 (run : Nat → List D → M D) : SS := (sSeq (sSet 2 (sBinS ixSt (rd (sVar 1)) (rd (sC (.int 0))))) (sSeq (sFrz [0, 1] (sSet 3 (sLc (itS (kp (sFn (run 4) (sCons (kp (sVar 1)) sNil)))) (gN 4) sYes (kp (sFn (run 11) (sCons (kp (sVar 0)) (sCons (kp (sVar 4)) sNil)))) [4]))) (sSeq (sIfS (sBoolT (sBin dEq (rd (sVar 2)) (rd (sC (.str "none"))))) (sSeq (sRet (sC (.int 0))) sSkip) sSkip) (sSeq (sIfS (sBoolT (sBin dEq (rd (sVar 2)) (rd (sC (.str "one"))))) (sSeq (sRet (sC (.int 1))) sSkip) sSkip) (sSeq (sIfS (sBoolT (sBin dIn (rd (sVar 2)) (rd (sTup (sCons (kp (sC (.str "subset"))) (sCons (kp (sC (.str "bag"))) sNil)))))) (sSeq (sRet (sBinS ixSt (rd (sVar 1)) (rd (sC (.int 1))))) sSkip) sSkip) (sSeq (sIfS (sBoolT (sBin dEq (rd (sVar 2)) (rd (sC (.str "either"))))) (sSeq (sRet (sCall dMax (sCons (rd (sVar 3)) sNil))) sSkip) sSkip) (sSeq (sIfS (sBoolT (sBin dEq (rd (sVar 2)) (rd (sC (.str "pair"))))) (sSeq (sRet (sCall dSum (sCons (rd (sVar 3)) sNil))) sSkip) sSkip) (sSeq (sIfS (sBoolT (sBin dEq (rd (sVar 2)) (rd (sC (.str "rounds"))))) (sSeq (sRet (sBin dDiv (rd (sBin dMulA (rd (sBin dMulA (rd (sBinS ixSt (rd (sVar 1)) (rd (sC (.int 1))))) (rd (sVar 0)))) (rd (sBin dSub (rd (sVar 0)) (rd (sC (.int 1))))))) (rd (sC (.int 2))))) sSkip) sSkip) (sSeq (sIfS (sBoolT (sBin dEq (rd (sVar 2)) (rd (sC (.str "trees"))))) (sSeq (sRet (sBin dMulA (rd (sC (.int 2))) (rd (sBin dSub (rd (sVar 0)) (rd (sC (.int 1))))))) sSkip) sSkip) (sSeq (sIfS (sBoolT (sBin dEq (rd (sVar 2)) (rd (sC (.str "rooted"))))) (sSeq (sRet (sBin dSub (rd (sVar 0)) (rd (sC (.int 1))))) sSkip) sSkip) (sSeq (sRet (sBin dMulA (rd (sBinS ixSt (rd (sVar 1)) (rd (sC (.int 1))))) (rd (sBinS ixSt (rd (sVar 3)) (rd (sC (.int 0))))))) sSkip)))))))))))
def L12 (run : Nat → List D → M D) : SS := (sSeq (sFrz [0, 1] (sDrop (sFn (run 8) (sCons (kp (sVar 0)) (sCons (kp (sVar 1)) sNil))))) (sSeq (sFrz [0, 1] (sRet (sFn (run 11) (sCons (kp (sVar 0)) (sCons (kp (sVar 1)) sNil))))) sSkip))
def L13 (run : Nat → List D → M D) : SS := (sSeq (sSet 2 (sBinS ixSt (rd (sVar 1)) (rd (sC (.int 0))))) (sSeq (sFrz [0, 1] (sSet 3 (sLc (itS (kp (sFn (run 4) (sCons (kp (sVar 1)) sNil)))) (gN 4) sYes (kp (sFn (run 13) (sCons (kp (sVar 0)) (sCons (kp (sVar 4)) sNil)))) [4]))) (sSeq (sIfS (sBoolT (sBin dEq (rd (sVar 2)) (rd (sC (.str "either"))))) (sSeq (sRet (sCall dMax (sCons (rd (sVar 3)) sNil))) sSkip) sSkip) (sSeq (sIfS (sBoolT (sBin dEq (rd (sVar 2)) (rd (sC (.str "pair"))))) (sSeq (sRet (sCall dSum (sCons (rd (sVar 3)) sNil))) sSkip) sSkip) (sSeq (sIfS (sBoolT (sBin dIn (rd (sVar 2)) (rd (sTup (sCons (kp (sC (.str "list"))) (sCons (kp (sC (.str "family"))) (sCons (kp (sC (.str "heap"))) sNil))))))) (sSeq (sRet (sBin dMulA (rd (sBinS ixSt (rd (sVar 1)) (rd (sC (.int 1))))) (rd (sBinS ixSt (rd (sVar 3)) (rd (sC (.int 0))))))) sSkip) sSkip) (sSeq (sRet (sC (.int 1))) sSkip))))))
def L14 (run : Nat → List D → M D) : SS := (sSeq (sFrz [0, 1] (sDrop (sFn (run 8) (sCons (kp (sVar 0)) (sCons (kp (sVar 1)) sNil))))) (sSeq (sFrz [0, 1] (sRet (sFn (run 13) (sCons (kp (sVar 0)) (sCons (kp (sVar 1)) sNil))))) sSkip))
def L15 (run : Nat → List D → M D) : SS := (sSeq (sSet 2 (sC (.int 1))) (sSeq (sFor (itR1 (sCons (kp (sVar 1)) sNil)) (gN 3) (sSeq (sSet 2 (sBin dMulA (rd (sVar 2)) (rd (sVar 0)))) sSkip)) (sSeq (sFrz [2] (sRet (sVar 2))) sSkip)))
def L16 (run : Nat → List D → M D) : SS := (sSeq (sIfS (sBoolT (sBin dEq (rd (sVar 1)) (rd (sC (.int 0))))) (sSeq (sRet (sC (.int 1))) sSkip) sSkip) (sSeq (sRet (sCall dComb (sCons (rd (sBin dSub (rd (sBin dAdd (rd (sVar 0)) (rd (sVar 1)))) (rd (sC (.int 1))))) (sCons (rd (sVar 1)) sNil)))) sSkip))
def L17 (run : Nat → List D → M D) : SS := (sSeq (sSet 3 (sBinS ixSt (rd (sVar 1)) (rd (sC (.int 0))))) (sSeq (sIfS (sBoolT (sBin dEq (rd (sVar 3)) (rd (sC (.str "none"))))) (sSeq (sRet (sC (.int 0))) sSkip) sSkip) (sSeq (sIfS (sBoolT (sBin dEq (rd (sVar 3)) (rd (sC (.str "one"))))) (sSeq (sFrz [0] (sRet (sVar 0))) sSkip) sSkip) (sSeq (sIfS (sBoolT (sBin dEq (rd (sVar 3)) (rd (sC (.str "subset"))))) (sSeq (sRet (sCall dComb (sCons (rd (sVar 0)) (sCons (rd (sBinS ixSt (rd (sVar 1)) (rd (sC (.int 1))))) sNil)))) sSkip) sSkip) (sSeq (sIfS (sBoolT (sBin dEq (rd (sVar 3)) (rd (sC (.str "bag"))))) (sSeq (sFrz [0] (sRet (sFn (run 16) (sCons (kp (sVar 0)) (sCons (kp (sBinS ixSt (rd (sVar 1)) (rd (sC (.int 1))))) sNil))))) sSkip) sSkip) (sSeq (sIfS (sBoolT (sBin dEq (rd (sVar 3)) (rd (sC (.str "either"))))) (sSeq (sRet (sBin dAdd (rd (sBinS ixSt (rd (sVar 2)) (rd (sC (.int 0))))) (rd (sBinS ixSt (rd (sVar 2)) (rd (sC (.int 1))))))) sSkip) sSkip) (sSeq (sIfS (sBoolT (sBin dEq (rd (sVar 3)) (rd (sC (.str "pair"))))) (sSeq (sRet (sBin dMulA (rd (sBinS ixSt (rd (sVar 2)) (rd (sC (.int 0))))) (rd (sBinS ixSt (rd (sVar 2)) (rd (sC (.int 1))))))) sSkip) sSkip) (sSeq (sIfS (sBoolT (sBin dEq (rd (sVar 3)) (rd (sC (.str "list"))))) (sSeq (sRet (sFn (run 15) (sCons (kp (sBinS ixSt (rd (sVar 2)) (rd (sC (.int 0))))) (sCons (kp (sBinS ixSt (rd (sVar 1)) (rd (sC (.int 1))))) sNil)))) sSkip) sSkip) (sSeq (sIfS (sBoolT (sBin dEq (rd (sVar 3)) (rd (sC (.str "family"))))) (sSeq (sRet (sCall dComb (sCons (rd (sBinS ixSt (rd (sVar 2)) (rd (sC (.int 0))))) (sCons (rd (sBinS ixSt (rd (sVar 1)) (rd (sC (.int 1))))) sNil)))) sSkip) sSkip) (sSeq (sIfS (sBoolT (sBin dEq (rd (sVar 3)) (rd (sC (.str "heap"))))) (sSeq (sRet (sFn (run 16) (sCons (kp (sBinS ixSt (rd (sVar 2)) (rd (sC (.int 0))))) (sCons (kp (sBinS ixSt (rd (sVar 1)) (rd (sC (.int 1))))) sNil)))) sSkip) sSkip) (sSeq (sIfS (sBoolT (sBin dEq (rd (sVar 3)) (rd (sC (.str "rounds"))))) (sSeq (sRet (sFn (run 15) (sCons (kp (sC (.int 2))) (sCons (kp (sBin dDiv (rd (sBin dMulA (rd (sBin dMulA (rd (sBinS ixSt (rd (sVar 1)) (rd (sC (.int 1))))) (rd (sVar 0)))) (rd (sBin dSub (rd (sVar 0)) (rd (sC (.int 1))))))) (rd (sC (.int 2))))) sNil)))) sSkip) sSkip) (sSeq (sIfS (sBoolT (sBin dEq (rd (sVar 3)) (rd (sC (.str "trees"))))) (sSeq (sFrz [0] (sRet (sFn (run 15) (sCons (kp (sVar 0)) (sCons (kp (sBin dSub (rd (sVar 0)) (rd (sC (.int 2))))) sNil))))) sSkip) sSkip) (sSeq (sFrz [0] (sRet (sFn (run 15) (sCons (kp (sVar 0)) (sCons (kp (sBin dSub (rd (sVar 0)) (rd (sC (.int 1))))) sNil))))) sSkip)))))))))))))
def L18 (run : Nat → List D → M D) : SS := (sSeq (sFrz [0, 1] (sSet 2 (sLc (itS (kp (sFn (run 4) (sCons (kp (sVar 1)) sNil)))) (gN 3) sYes (kp (sFn (run 18) (sCons (kp (sVar 0)) (sCons (kp (sVar 3)) sNil)))) [3]))) (sSeq (sFrz [0, 1, 2] (sSet 4 (sFn (run 17) (sCons (kp (sVar 0)) (sCons (kp (sVar 1)) (sCons (kp (sVar 2)) sNil)))))) (sSeq (sIfS (sBoolT (sBin dGt (rd (sVar 4)) (rd (sC (.int 1000000000000000000000000000000))))) (sSeq (sRaise "TooGreat" 1 (sCons (kp (sC (.int 1000000000000000000000000000000))) sNil)) sSkip) sSkip) (sSeq (sFrz [4] (sRet (sVar 4))) sSkip))))
def L19 (run : Nat → List D → M D) : SS := (sSeq (sFrz [0, 1] (sDrop (sFn (run 8) (sCons (kp (sVar 0)) (sCons (kp (sVar 1)) sNil))))) (sSeq (sFrz [0, 1] (sRet (sFn (run 18) (sCons (kp (sVar 0)) (sCons (kp (sVar 1)) sNil))))) sSkip))
def L20 (run : Nat → List D → M D) : SS := (sSeq (sSet 0 (sBin dMod (rd (sCall dInt (sCons (rd (sVar 0)) sNil))) (rd (sC (.int 2147483647))))) (sSeq (sRet (sBin dMod (rd (sBin dMulA (rd (sBin dMod (rd (sBin dAdd (rd (sBin dAdd (rd (sBin dMulA (rd (sVar 0)) (rd (sBin dAdd (rd (sC (.int 48271))) (rd (sBin dMulA (rd (sBin dMulA (rd (sC (.int 2))) (rd (sVar 1)))) (rd (sVar 1)))))))) (rd (sBin dMulA (rd (sC (.int 69621))) (rd (sVar 1)))))) (rd (sC (.int 11))))) (rd (sC (.int 2147483647))))) (rd (sC (.int 69621))))) (rd (sC (.int 2147483629))))) sSkip))
def L21 (run : Nat → List D → M D) : SS := (sSeq (sSet 1 (sIf (sBoolT (sBin dNe (rd (sVar 0)) (rd (sLst sNil)))) (sCall dList (sCons (rd (sVar 0)) sNil)) (sLst (sCons (kp (sC (.int 0))) sNil)))) (sSeq (sFrz [1] (sRet (sDict [nm "cells", nm "lefts", nm "at"] (sCons (kp (sVar 1)) (sCons (kp (toCell (sLc (itS (kp (sVar 1))) (gN 2) sYes (kp (sIf (sBoolT (sBin dGe (rd (sVar 2)) (rd (sBin dPow (rd (sC (.int 10))) (rd (sC (.int 18))))))) (sVar 2) (sC (.int 0)))) [2]))) (sCons (kp (sC (.int 0))) sNil)))))) sSkip))
def L22 (run : Nat → List D → M D) : SS := (sSeq (sSet 2 (sBinS ixSt (rd (sVar 0)) (rd (sC (.str "at"))))) (sSeq (sSetN 0 (kp (sBin dAdd (rd (sVar 2)) (rd (sC (.int 1))))) (rd (sC (.str "at")))) (sSeq (sSet 3 (sBin dMod (rd (sCall dInt (sCons (rd (sVar 2)) sNil))) (rd (sCall dLen (sCons (rd (sBinS ixSt (rd (sVar 0)) (rd (sC (.str "cells"))))) sNil))))) (sSeq (sSet 4 (sBinS ixSt (rd (sBinS ixSt (rd (sVar 0)) (rd (sC (.str "lefts"))))) (rd (sVar 3)))) (sSeq (sIfS (sBoolT (sBin dGt (rd (sVar 4)) (rd (sC (.int 0))))) (sSeq (sSetIx (kp (sBin dDiv (rd (sVar 4)) (rd (sVar 1)))) (rd (sBinS ixSt (rd (sVar 0)) (rd (sC (.str "lefts"))))) (rd (sVar 3))) (sSeq (sRet (sBin dMod (rd (sCall dInt (sCons (rd (sVar 4)) sNil))) (rd (sVar 1)))) sSkip)) sSkip) (sSeq (sFrz [2] (sSet 5 (sFn (run 20) (sCons (kp (sFn (run 20) (sCons (kp (sBinS ixSt (rd (sBinS ixSt (rd (sVar 0)) (rd (sC (.str "cells"))))) (rd (sVar 3)))) (sCons (kp (sVar 2)) sNil)))) (sCons (kp (sBin dAdd (rd (sC (.int 40))) (rd (sVar 2)))) sNil))))) (sSeq (sFrz [5] (sRet (sBin dMod (rd (sBin dDiv (rd (sCall dInt (sCons (rd (sBin dAdd (rd (sBin dMulA (rd (sVar 5)) (rd (sC (.int 2147483647))))) (rd (sFn (run 20) (sCons (kp (sVar 5)) (sCons (kp (sBin dAdd (rd (sC (.int 7))) (rd (sVar 2)))) sNil)))))) sNil))) (rd (sC (.int 64))))) (rd (sVar 1))))) sSkip)))))))
def L23 (run : Nat → List D → M D) : SS := (sSeq (sFrz [0] (sRet (sBinS ixSt (rd (sVar 1)) (rd (sFn (run 22) (sCons (kp (sVar 0)) (sCons (kp (sCall dLen (sCons (rd (sVar 1)) sNil))) sNil))))))) sSkip)
def L24 (run : Nat → List D → M D) : SS := (sSeq (sSet 3 (sLst (sCons (kp (sTup sNil)) sNil))) (sSeq (sFor (itR1 (sCons (kp (sVar 1)) sNil)) (gN 4) (sSeq (sSet 5 (sLst sNil)) (sSeq (sFrz [3] (sFor (itS (kp (sVar 3))) (gN 6) (sSeq (sSet 7 (sIf (sBoolT (sBin dEq (rd (sVar 6)) (rd (sTup sNil)))) (sC (.int 0)) (sBin dAdd (rd (sBinS ixSt (rd (sVar 6)) (rd (sUn dNeg (rd (sC (.int 1))))))) (rd (sIf (sTru (sVar 2)) (sC (.int 0)) (sC (.int 1))))))) (sSeq (sFor (itR2 (sCons (kp (sVar 7)) (sCons (kp (sVar 0)) sNil))) (gN 8) (sSeq (sFrz [8] (sMut 5 lAppend (sCons (kp (sBin dAdd (rd (sVar 6)) (rd (sTup (sCons (kp (sVar 8)) sNil))))) sNil))) sSkip)) sSkip)))) (sSeq (sSet 3 (sCall dList (sCons (rd (sVar 5)) sNil))) sSkip)))) (sSeq (sFrz [3] (sRet (sVar 3))) sSkip)))
def L25 (run : Nat → List D → M D) : SS := (sSeq (sSet 2 (sLst (sCons (kp (sTup sNil)) sNil))) (sSeq (sFor (itR1 (sCons (kp (sVar 1)) sNil)) (gN 3) (sSeq (sSet 4 (sLst sNil)) (sSeq (sFrz [2] (sFor (itS (kp (sVar 2))) (gN 5) (sSeq (sFrz [0] (sFor (itS (kp (sVar 0))) (gN 6) (sSeq (sFrz [6] (sMut 4 lAppend (sCons (kp (sBin dAdd (rd (sVar 5)) (rd (sTup (sCons (kp (sVar 6)) sNil))))) sNil))) sSkip))) sSkip))) (sSeq (sSet 2 (sCall dList (sCons (rd (sVar 4)) sNil))) sSkip)))) (sSeq (sFrz [2] (sRet (sVar 2))) sSkip)))
def L26 (run : Nat → List D → M D) : SS := (sSeq (sSet 1 (sLst sNil)) (sSeq (sFor (itR1 (sCons (kp (sVar 0)) sNil)) (gN 2) (sSeq (sFrz [2] (sSet 1 (sBin dAdd (rd (sVar 1)) (rd (sLc (itR2 (sCons (kp (sBin dAdd (rd (sVar 2)) (rd (sC (.int 1))))) (sCons (kp (sVar 0)) sNil))) (gN 3) sYes (kp (sTup (sCons (kp (sVar 2)) (sCons (kp (sVar 3)) sNil)))) [3]))))) sSkip)) (sSeq (sFrz [1] (sRet (sVar 1))) sSkip)))
def L27 (run : Nat → List D → M D) : SS := (sSeq (sSet 2 (sLst (sCons (kp (sC (.int 0))) sNil))) (sSeq (sFor (itR1 (sCons (kp (sVar 0)) sNil)) (gN 3) (sSeq (sFrz [1] (sFor (itS (kp (sVar 1))) (gT (gsCons (gN 4) (gsCons (gN 5) gsNil))) (sSeq (sIfS (sAndT (sBoolT (sBin dIn (rd (sVar 4)) (rd (sVar 2)))) (sBoolT (sBin dNotIn (rd (sVar 5)) (rd (sVar 2))))) (sSeq (sFrz [5] (sMut 2 lAppend (sCons (kp (sVar 5)) sNil))) sSkip) (sSeq (sIfS (sAndT (sBoolT (sBin dIn (rd (sVar 5)) (rd (sVar 2)))) (sBoolT (sBin dNotIn (rd (sVar 4)) (rd (sVar 2))))) (sSeq (sFrz [4] (sMut 2 lAppend (sCons (kp (sVar 4)) sNil))) sSkip) sSkip) sSkip)) sSkip))) sSkip)) (sSeq (sRet (sBin dEq (rd (sCall dLen (sCons (rd (sVar 2)) sNil))) (rd (sVar 0)))) sSkip)))
def L28 (run : Nat → List D → M D) : SS := (sSeq (sFrz [0] (sSet 1 (sFn (run 26) (sCons (kp (sVar 0)) sNil)))) (sSeq (sSet 2 (sLc (itS (kp (sFn (run 24) (sCons (kp (sCall dLen (sCons (rd (sVar 1)) sNil))) (sCons (kp (sBin dSub (rd (sVar 0)) (rd (sC (.int 1))))) (sCons (kp (sC (.bl false))) sNil)))))) (gN 3) sYes (kp (sCall dTuple (sCons (rd (sLc (itS (kp (sVar 3))) (gN 4) sYes (kp (sBinS ixSt (rd (sVar 1)) (rd (sVar 4)))) [4])) sNil))) [3])) (sSeq (sFrz [2, 0] (sRet (sLc (itS (kp (sVar 2))) (gN 5) (sTru (sFn (run 27) (sCons (kp (sVar 0)) (sCons (kp (sVar 5)) sNil)))) (kp (sVar 5)) [5]))) sSkip)))
def L29 (run : Nat → List D → M D) : SS := (sSeq (sSet 2 (sBinS ixSt (rd (sVar 1)) (rd (sC (.int 0))))) (sSeq (sIfS (sBoolT (sBin dEq (rd (sVar 2)) (rd (sC (.str "none"))))) (sSeq (sRet (sLst sNil)) sSkip) sSkip) (sSeq (sIfS (sBoolT (sBin dEq (rd (sVar 2)) (rd (sC (.str "one"))))) (sSeq (sRet (sLR1 (rd (sVar 0)))) sSkip) sSkip) (sSeq (sIfS (sBoolT (sBin dIn (rd (sVar 2)) (rd (sTup (sCons (kp (sC (.str "subset"))) (sCons (kp (sC (.str "bag"))) sNil)))))) (sSeq (sFrz [0] (sRet (sFn (run 24) (sCons (kp (sVar 0)) (sCons (kp (sBinS ixSt (rd (sVar 1)) (rd (sC (.int 1))))) (sCons (kp (sBin dEq (rd (sVar 2)) (rd (sC (.str "bag"))))) sNil)))))) sSkip) sSkip) (sSeq (sIfS (sBoolT (sBin dEq (rd (sVar 2)) (rd (sC (.str "either"))))) (sSeq (sFrz [3, 0] (sRet (sBin dAdd (rd (sLc (itS (kp (sFn (run 29) (sCons (kp (sVar 0)) (sCons (kp (sBinS ixSt (rd (sVar 1)) (rd (sC (.int 1))))) sNil))))) (gN 3) sYes (kp (sTup (sCons (kp (sC (.int 0))) (sCons (kp (sVar 3)) sNil)))) [3])) (rd (sLc (itS (kp (sFn (run 29) (sCons (kp (sVar 0)) (sCons (kp (sBinS ixSt (rd (sVar 1)) (rd (sC (.int 2))))) sNil))))) (gN 3) sYes (kp (sTup (sCons (kp (sC (.int 1))) (sCons (kp (sVar 3)) sNil)))) [3]))))) sSkip) sSkip) (sSeq (sSet 4 (sLst sNil)) (sSeq (sIfS (sBoolT (sBin dEq (rd (sVar 2)) (rd (sC (.str "pair"))))) (sSeq (sFrz [0] (sSet 5 (sFn (run 29) (sCons (kp (sVar 0)) (sCons (kp (sBinS ixSt (rd (sVar 1)) (rd (sC (.int 2))))) sNil))))) (sSeq (sFrz [0] (sFor (itS (kp (sFn (run 29) (sCons (kp (sVar 0)) (sCons (kp (sBinS ixSt (rd (sVar 1)) (rd (sC (.int 1))))) sNil))))) (gN 3) (sSeq (sFrz [3, 5] (sSet 4 (sBin dAdd (rd (sVar 4)) (rd (sLc (itS (kp (sVar 5))) (gN 6) sYes (kp (sTup (sCons (kp (sVar 3)) (sCons (kp (sVar 6)) sNil)))) [6]))))) sSkip))) (sSeq (sFrz [4] (sRet (sVar 4))) sSkip))) sSkip) (sSeq (sIfS (sBoolT (sBin dEq (rd (sVar 2)) (rd (sC (.str "list"))))) (sSeq (sFrz [0] (sRet (sFn (run 25) (sCons (kp (sFn (run 29) (sCons (kp (sVar 0)) (sCons (kp (sBinS ixSt (rd (sVar 1)) (rd (sC (.int 2))))) sNil)))) (sCons (kp (sBinS ixSt (rd (sVar 1)) (rd (sC (.int 1))))) sNil))))) sSkip) sSkip) (sSeq (sIfS (sBoolT (sBin dIn (rd (sVar 2)) (rd (sTup (sCons (kp (sC (.str "family"))) (sCons (kp (sC (.str "heap"))) sNil)))))) (sSeq (sFrz [0] (sSet 7 (sFn (run 29) (sCons (kp (sVar 0)) (sCons (kp (sBinS ixSt (rd (sVar 1)) (rd (sC (.int 2))))) sNil))))) (sSeq (sRet (sLc (itS (kp (sFn (run 24) (sCons (kp (sCall dLen (sCons (rd (sVar 7)) sNil))) (sCons (kp (sBinS ixSt (rd (sVar 1)) (rd (sC (.int 1))))) (sCons (kp (sBin dEq (rd (sVar 2)) (rd (sC (.str "heap"))))) sNil)))))) (gN 8) sYes (kp (sCall dTuple (sCons (rd (sLc (itS (kp (sVar 8))) (gN 9) sYes (kp (sBinS ixSt (rd (sVar 7)) (rd (sVar 9)))) [9])) sNil))) [8])) sSkip)) sSkip) (sSeq (sIfS (sBoolT (sBin dEq (rd (sVar 2)) (rd (sC (.str "rounds"))))) (sSeq (sSet 4 (sLst (sCons (kp (sTup sNil)) sNil))) (sSeq (sFrz [0] (sFor (itS (kp (sFn (run 26) (sCons (kp (sVar 0)) sNil)))) (gN 10) (sSeq (sSet 11 (sLst sNil)) (sSeq (sFrz [4] (sFor (itS (kp (sVar 4))) (gN 3) (sSeq (sFrz [10] (sSet 11 (sBin dAdd (rd (sVar 11)) (rd (sLc (itS (kp (sFn (run 25) (sCons (kp (sVar 10)) (sCons (kp (sBinS ixSt (rd (sVar 1)) (rd (sC (.int 1))))) sNil))))) (gN 12) sYes (kp (sBin dAdd (rd (sVar 3)) (rd (sTup (sCons (kp (sVar 12)) sNil))))) [12]))))) sSkip))) (sSeq (sFrz [11] (sSet 4 (sVar 11))) sSkip))))) (sSeq (sFrz [4] (sRet (sVar 4))) sSkip))) sSkip) (sSeq (sIfS (sBoolT (sBin dEq (rd (sVar 2)) (rd (sC (.str "trees"))))) (sSeq (sFrz [0] (sRet (sFn (run 28) (sCons (kp (sVar 0)) sNil)))) sSkip) sSkip) (sSeq (sFor (itR1 (sCons (kp (sVar 0)) sNil)) (gN 13) (sSeq (sFrz [13, 0] (sSet 4 (sBin dAdd (rd (sVar 4)) (rd (sLc (itS (kp (sFn (run 28) (sCons (kp (sVar 0)) sNil)))) (gN 14) sYes (kp (sTup (sCons (kp (sVar 13)) (sCons (kp (sVar 14)) sNil)))) [14]))))) sSkip)) (sSeq (sFrz [4] (sRet (sVar 4))) sSkip)))))))))))))
def L30 (run : Nat → List D → M D) : SS := (sSeq (sSet 2 (sC (.int 1))) (sSeq (sFor (itR1 (sCons (kp (sVar 1)) sNil)) (gN 3) (sSeq (sSet 2 (sBin dDiv (rd (sBin dMulA (rd (sVar 2)) (rd (sCall dMax (sCons (rd (sC (.int 0))) (sCons (rd (sBin dSub (rd (sVar 0)) (rd (sVar 3)))) sNil)))))) (rd (sBin dAdd (rd (sVar 3)) (rd (sC (.int 1))))))) sSkip)) (sSeq (sFrz [2] (sRet (sVar 2))) sSkip)))
def L31 (run : Nat → List D → M D) : SS := (sSeq (sSet 2 (sC (.int 1))) (sSeq (sFor (itR1 (sCons (kp (sVar 1)) sNil)) (gN 3) (sSeq (sSet 2 (sBin dMulA (rd (sVar 2)) (rd (sVar 0)))) sSkip)) (sSeq (sFrz [2] (sRet (sVar 2))) sSkip)))
def L32 (run : Nat → List D → M D) : SS := (sSeq (sSet 2 (sBinS ixSt (rd (sVar 1)) (rd (sC (.int 0))))) (sSeq (sIfS (sBoolT (sBin dIn (rd (sVar 2)) (rd (sTup (sCons (kp (sC (.str "none"))) (sCons (kp (sC (.str "one"))) sNil)))))) (sSeq (sFrz [0] (sRet (sIf (sBoolT (sBin dEq (rd (sVar 2)) (rd (sC (.str "none"))))) (sC (.int 0)) (sVar 0)))) sSkip) sSkip) (sSeq (sIfS (sBoolT (sBin dIn (rd (sVar 2)) (rd (sTup (sCons (kp (sC (.str "subset"))) (sCons (kp (sC (.str "bag"))) sNil)))))) (sSeq (sFrz [0] (sRet (sFn (run 30) (sCons (kp (sIf (sBoolT (sBin dEq (rd (sVar 2)) (rd (sC (.str "subset"))))) (sVar 0) (sBin dSub (rd (sBin dAdd (rd (sVar 0)) (rd (sBinS ixSt (rd (sVar 1)) (rd (sC (.int 1))))))) (rd (sC (.int 1)))))) (sCons (kp (sBinS ixSt (rd (sVar 1)) (rd (sC (.int 1))))) sNil))))) sSkip) sSkip) (sSeq (sIfS (sBoolT (sBin dIn (rd (sVar 2)) (rd (sTup (sCons (kp (sC (.str "either"))) (sCons (kp (sC (.str "pair"))) sNil)))))) (sSeq (sFrz [0] (sPar 3 4 (sCons (kp (sFn (run 32) (sCons (kp (sVar 0)) (sCons (kp (sBinS ixSt (rd (sVar 1)) (rd (sC (.int 1))))) sNil)))) (sCons (kp (sFn (run 32) (sCons (kp (sVar 0)) (sCons (kp (sBinS ixSt (rd (sVar 1)) (rd (sC (.int 2))))) sNil)))) sNil)))) (sSeq (sRet (sIf (sBoolT (sBin dEq (rd (sVar 2)) (rd (sC (.str "either"))))) (sBin dAdd (rd (sVar 3)) (rd (sVar 4))) (sBin dMulA (rd (sVar 3)) (rd (sVar 4))))) sSkip)) sSkip) (sSeq (sIfS (sBoolT (sBin dEq (rd (sVar 2)) (rd (sC (.str "rounds"))))) (sSeq (sRet (sFn (run 31) (sCons (kp (sC (.int 2))) (sCons (kp (sBin dDiv (rd (sBin dMulA (rd (sBin dMulA (rd (sBinS ixSt (rd (sVar 1)) (rd (sC (.int 1))))) (rd (sVar 0)))) (rd (sBin dSub (rd (sVar 0)) (rd (sC (.int 1))))))) (rd (sC (.int 2))))) sNil)))) sSkip) sSkip) (sSeq (sIfS (sBoolT (sBin dIn (rd (sVar 2)) (rd (sTup (sCons (kp (sC (.str "trees"))) (sCons (kp (sC (.str "rooted"))) sNil)))))) (sSeq (sFrz [0] (sRet (sFn (run 31) (sCons (kp (sVar 0)) (sCons (kp (sIf (sBoolT (sBin dEq (rd (sVar 2)) (rd (sC (.str "trees"))))) (sBin dSub (rd (sVar 0)) (rd (sC (.int 2)))) (sBin dSub (rd (sVar 0)) (rd (sC (.int 1)))))) sNil))))) sSkip) sSkip) (sSeq (sFrz [0] (sSet 5 (sFn (run 32) (sCons (kp (sVar 0)) (sCons (kp (sBinS ixSt (rd (sVar 1)) (rd (sC (.int 2))))) sNil))))) (sSeq (sIfS (sBoolT (sBin dEq (rd (sVar 2)) (rd (sC (.str "list"))))) (sSeq (sFrz [5] (sRet (sFn (run 31) (sCons (kp (sVar 5)) (sCons (kp (sBinS ixSt (rd (sVar 1)) (rd (sC (.int 1))))) sNil))))) sSkip) sSkip) (sSeq (sFrz [5] (sRet (sFn (run 30) (sCons (kp (sIf (sBoolT (sBin dEq (rd (sVar 2)) (rd (sC (.str "family"))))) (sVar 5) (sBin dSub (rd (sBin dAdd (rd (sVar 5)) (rd (sBinS ixSt (rd (sVar 1)) (rd (sC (.int 1))))))) (rd (sC (.int 1)))))) (sCons (kp (sBinS ixSt (rd (sVar 1)) (rd (sC (.int 1))))) sNil))))) sSkip)))))))))
def L33 (run : Nat → List D → M D) : SS := (sSeq (sSet 2 (sBinS ixSt (rd (sVar 1)) (rd (sC (.int 0))))) (sSeq (sIfS (sBoolT (sBin dIn (rd (sVar 2)) (rd (sTup (sCons (kp (sC (.str "none"))) (sCons (kp (sC (.str "one"))) sNil)))))) (sSeq (sRet (sIf (sBoolT (sBin dEq (rd (sVar 2)) (rd (sC (.str "none"))))) (sC (.int 0)) (sC (.int 1)))) sSkip) sSkip) (sSeq (sIfS (sBoolT (sBin dIn (rd (sVar 2)) (rd (sTup (sCons (kp (sC (.str "subset"))) (sCons (kp (sC (.str "bag"))) sNil)))))) (sSeq (sRet (sBinS ixSt (rd (sVar 1)) (rd (sC (.int 1))))) sSkip) sSkip) (sSeq (sIfS (sBoolT (sBin dIn (rd (sVar 2)) (rd (sTup (sCons (kp (sC (.str "either"))) (sCons (kp (sC (.str "pair"))) sNil)))))) (sSeq (sFrz [0] (sPar 3 4 (sCons (kp (sFn (run 33) (sCons (kp (sVar 0)) (sCons (kp (sBinS ixSt (rd (sVar 1)) (rd (sC (.int 1))))) sNil)))) (sCons (kp (sFn (run 33) (sCons (kp (sVar 0)) (sCons (kp (sBinS ixSt (rd (sVar 1)) (rd (sC (.int 2))))) sNil)))) sNil)))) (sSeq (sRet (sIf (sBoolT (sBin dEq (rd (sVar 2)) (rd (sC (.str "either"))))) (sCall dMax (sCons (rd (sVar 3)) (sCons (rd (sVar 4)) sNil))) (sBin dAdd (rd (sVar 3)) (rd (sVar 4))))) sSkip)) sSkip) (sSeq (sIfS (sBoolT (sBin dEq (rd (sVar 2)) (rd (sC (.str "rounds"))))) (sSeq (sRet (sBin dDiv (rd (sBin dMulA (rd (sBin dMulA (rd (sBinS ixSt (rd (sVar 1)) (rd (sC (.int 1))))) (rd (sVar 0)))) (rd (sBin dSub (rd (sVar 0)) (rd (sC (.int 1))))))) (rd (sC (.int 2))))) sSkip) sSkip) (sSeq (sIfS (sBoolT (sBin dIn (rd (sVar 2)) (rd (sTup (sCons (kp (sC (.str "trees"))) (sCons (kp (sC (.str "rooted"))) sNil)))))) (sSeq (sRet (sIf (sBoolT (sBin dEq (rd (sVar 2)) (rd (sC (.str "trees"))))) (sBin dMulA (rd (sC (.int 2))) (rd (sBin dSub (rd (sVar 0)) (rd (sC (.int 1)))))) (sBin dSub (rd (sVar 0)) (rd (sC (.int 1)))))) sSkip) sSkip) (sSeq (sFrz [0] (sRet (sBin dMulA (rd (sBinS ixSt (rd (sVar 1)) (rd (sC (.int 1))))) (rd (sFn (run 33) (sCons (kp (sVar 0)) (sCons (kp (sBinS ixSt (rd (sVar 1)) (rd (sC (.int 2))))) sNil))))))) sSkip)))))))
def L34 (run : Nat → List D → M D) : SS := (sSeq (sFrz [0] (sSet 2 (sFn (run 22) (sCons (kp (sVar 0)) (sCons (kp (sC (.int 6))) sNil))))) (sSeq (sIfS (sBoolT (sBin dLt (rd (sVar 2)) (rd (sC (.int 2))))) (sSeq (sRet (sTup (sCons (kp (sC (.str "one"))) sNil))) sSkip) sSkip) (sSeq (sIfS (sBoolT (sBin dLt (rd (sVar 2)) (rd (sC (.int 4))))) (sSeq (sFrz [0] (sRet (sTup (sCons (kp (sC (.str "subset"))) (sCons (kp (sFn (run 22) (sCons (kp (sVar 0)) (sCons (kp (sBin dAdd (rd (sVar 1)) (rd (sC (.int 1))))) sNil)))) sNil))))) sSkip) sSkip) (sSeq (sIfS (sBoolT (sBin dEq (rd (sVar 2)) (rd (sC (.int 4))))) (sSeq (sFrz [0] (sRet (sTup (sCons (kp (sC (.str "either"))) (sCons (kp (sTup (sCons (kp (sC (.str "subset"))) (sCons (kp (sFn (run 22) (sCons (kp (sVar 0)) (sCons (kp (sBin dAdd (rd (sVar 1)) (rd (sC (.int 1))))) sNil)))) sNil)))) (sCons (kp (sTup (sCons (kp (sC (.str "one"))) sNil))) sNil)))))) sSkip) sSkip) (sSeq (sRet (sTup (sCons (kp (sC (.str "either"))) (sCons (kp (sTup (sCons (kp (sC (.str "one"))) sNil))) (sCons (kp (sTup (sCons (kp (sC (.str "subset"))) (sCons (kp (sC (.int 2))) sNil)))) sNil))))) sSkip)))))
def L35 (run : Nat → List D → M D) : SS := (sSeq (sFrz [0] (sSet 3 (sFn (run 22) (sCons (kp (sVar 0)) (sCons (kp (sIf (sBoolT (sBin dGt (rd (sVar 2)) (rd (sC (.int 0))))) (sC (.int 16)) (sC (.int 6)))) sNil))))) (sSeq (sIfS (sBoolT (sBin dLt (rd (sVar 3)) (rd (sC (.int 2))))) (sSeq (sFrz [0] (sRet (sIf (sBoolT (sBin dEq (rd (sVar 3)) (rd (sC (.int 0))))) (sTup (sCons (kp (sC (.str "one"))) sNil)) (sTup (sCons (kp (sC (.str "subset"))) (sCons (kp (sFn (run 22) (sCons (kp (sVar 0)) (sCons (kp (sBin dAdd (rd (sVar 1)) (rd (sC (.int 1))))) sNil)))) sNil)))))) sSkip) sSkip) (sSeq (sIfS (sBoolT (sBin dLt (rd (sVar 3)) (rd (sC (.int 4))))) (sSeq (sFrz [0] (sRet (sIf (sBoolT (sBin dEq (rd (sVar 3)) (rd (sC (.int 2))))) (sTup (sCons (kp (sC (.str "bag"))) (sCons (kp (sFn (run 22) (sCons (kp (sVar 0)) (sCons (kp (sC (.int 4))) sNil)))) sNil))) (sTup (sCons (kp (sC (.str "rounds"))) (sCons (kp (sIf (sBoolT (sBin dLt (rd (sVar 1)) (rd (sC (.int 4))))) (sBin dAdd (rd (sC (.int 1))) (rd (sFn (run 22) (sCons (kp (sVar 0)) (sCons (kp (sC (.int 2))) sNil))))) (sC (.int 1)))) sNil)))))) sSkip) sSkip) (sSeq (sIfS (sBoolT (sBin dLt (rd (sVar 3)) (rd (sC (.int 6))))) (sSeq (sFrz [0] (sRet (sIf (sBoolT (sBin dEq (rd (sVar 3)) (rd (sC (.int 4))))) (sBinS ixSt (rd (sLst (sCons (kp (sTup (sCons (kp (sC (.str "trees"))) sNil))) (sCons (kp (sTup (sCons (kp (sC (.str "rooted"))) sNil))) (sCons (kp (sTup (sCons (kp (sC (.str "none"))) sNil))) sNil))))) (rd (sFn (run 22) (sCons (kp (sVar 0)) (sCons (kp (sC (.int 3))) sNil))))) (sTup (sCons (kp (sC (.str "bag"))) (sCons (kp (sBin dAdd (rd (sC (.int 1))) (rd (sFn (run 22) (sCons (kp (sVar 0)) (sCons (kp (sC (.int 3))) sNil)))))) sNil)))))) sSkip) sSkip) (sSeq (sIfS (sBoolT (sBin dLt (rd (sVar 3)) (rd (sC (.int 9))))) (sSeq (sFrz [0, 1] (sRet (sTup (sCons (kp (sBinS ixSt (rd (sLst (sCons (kp (sC (.str "family"))) (sCons (kp (sC (.str "heap"))) sNil)))) (rd (sFn (run 22) (sCons (kp (sVar 0)) (sCons (kp (sC (.int 2))) sNil)))))) (sCons (kp (sFn (run 22) (sCons (kp (sVar 0)) (sCons (kp (sC (.int 4))) sNil)))) (sCons (kp (sFn (run 34) (sCons (kp (sVar 0)) (sCons (kp (sVar 1)) sNil)))) sNil)))))) sSkip) sSkip) (sSeq (sIfS (sBoolT (sBin dLt (rd (sVar 3)) (rd (sC (.int 11))))) (sSeq (sFrz [0, 1] (sRet (sTup (sCons (kp (sC (.str "list"))) (sCons (kp (sFn (run 22) (sCons (kp (sVar 0)) (sCons (kp (sC (.int 4))) sNil)))) (sCons (kp (sFn (run 35) (sCons (kp (sVar 0)) (sCons (kp (sVar 1)) (sCons (kp (sBin dSub (rd (sVar 2)) (rd (sC (.int 1))))) sNil))))) sNil)))))) sSkip) sSkip) (sSeq (sFrz [0, 1] (sSet 4 (sFn (run 35) (sCons (kp (sVar 0)) (sCons (kp (sVar 1)) (sCons (kp (sBin dSub (rd (sVar 2)) (rd (sC (.int 1))))) sNil)))))) (sSeq (sFrz [4, 0, 1] (sRet (sTup (sCons (kp (sIf (sBoolT (sBin dLt (rd (sVar 3)) (rd (sC (.int 14))))) (sC (.str "pair")) (sC (.str "either")))) (sCons (kp (sVar 4)) (sCons (kp (sFn (run 35) (sCons (kp (sVar 0)) (sCons (kp (sVar 1)) (sCons (kp (sBin dSub (rd (sVar 2)) (rd (sC (.int 1))))) sNil))))) sNil)))))) sSkip))))))))
def L36 (run : Nat → List D → M D) : SS := (sSeq (sFrz [1] (sSet 3 (sLc (itS (kp (sVar 1))) (gN 4) (sTru (sCall dIsi (sCons (rd (sVar 4)) (sCons (rd (sC (.ty "tuple"))) sNil)))) (kp (sVar 4)) [4]))) (sSeq (sFrz [0, 1, 3, 2] (sRet (sAndV (sBin dLe (rd (sFn (run 32) (sCons (kp (sVar 0)) (sCons (kp (sVar 1)) sNil)))) (rd (sVar 2))) (sBin dEq (rd (sLc (itS (kp (sVar 3))) (gN 4) (sNotT (sTru (sFn (run 36) (sCons (kp (sVar 0)) (sCons (kp (sVar 4)) (sCons (kp (sVar 2)) sNil)))))) (kp (sC (.int 1))) [4])) (rd (sLst sNil)))))) sSkip))
def L37 (run : Nat → List D → M D) : SS := (sSeq (sFrz [0, 1, 2] (sSet 4 (sFn (run 35) (sCons (kp (sVar 0)) (sCons (kp (sVar 1)) (sCons (kp (sVar 2)) sNil)))))) (sSeq (sFrz [1, 4, 3] (sIfS (sAndT (sTru (sFn (run 36) (sCons (kp (sVar 1)) (sCons (kp (sVar 4)) (sCons (kp (sVar 3)) sNil))))) (sBoolT (sBin dLe (rd (sFn (run 33) (sCons (kp (sVar 1)) (sCons (kp (sVar 4)) sNil)))) (rd (sC (.int 12)))))) (sSeq (sFrz [4] (sRet (sVar 4))) sSkip) sSkip)) (sSeq (sFrz [0] (sRet (sBinS ixSt (rd (sLst (sCons (kp (sTup (sCons (kp (sC (.str "one"))) sNil))) (sCons (kp (sTup (sCons (kp (sC (.str "subset"))) (sCons (kp (sC (.int 2))) sNil)))) (sCons (kp (sTup (sCons (kp (sC (.str "bag"))) (sCons (kp (sC (.int 2))) sNil)))) (sCons (kp (sTup (sCons (kp (sC (.str "family"))) (sCons (kp (sC (.int 2))) (sCons (kp (sTup (sCons (kp (sC (.str "subset"))) (sCons (kp (sBin dSub (rd (sVar 1)) (rd (sC (.int 1))))) sNil)))) sNil))))) sNil)))))) (rd (sFn (run 22) (sCons (kp (sVar 0)) (sCons (kp (sC (.int 4))) sNil))))))) sSkip)))
def L38 (run : Nat → List D → M D) : SS := (sSeq (sIfS (sOrT (sNotT (sTru (sCall dIsi (sCons (rd (sVar 0)) (sCons (rd (sC (.ty "tuple"))) sNil))))) (sOrT (sBoolT (sBin dEq (rd (sCall dLen (sCons (rd (sVar 0)) sNil))) (rd (sC (.int 0))))) (sNotT (sTru (sCall dIsi (sCons (rd (sBinS ixSt (rd (sVar 0)) (rd (sC (.int 0))))) (sCons (rd (sC (.ty "str"))) sNil))))))) (sSeq (sRet (sC .non)) sSkip) sSkip) (sSeq (sPar 1 2 (sCons (kp (sBinS ixSt (rd (sVar 0)) (rd (sC (.int 0))))) (sCons (kp (sCall dLen (sCons (rd (sVar 0)) sNil))) sNil))) (sSeq (sIfS (sBoolT (sBin dIn (rd (sVar 1)) (rd (sTup (sCons (kp (sC (.str "none"))) (sCons (kp (sC (.str "one"))) (sCons (kp (sC (.str "trees"))) (sCons (kp (sC (.str "rooted"))) sNil)))))))) (sSeq (sRet (sIf (sBoolT (sBin dEq (rd (sVar 2)) (rd (sC (.int 1))))) (sTup sNil) (sC .non))) sSkip) sSkip) (sSeq (sIfS (sBoolT (sBin dIn (rd (sVar 1)) (rd (sTup (sCons (kp (sC (.str "either"))) (sCons (kp (sC (.str "pair"))) sNil)))))) (sSeq (sRet (sIf (sBoolT (sBin dEq (rd (sVar 2)) (rd (sC (.int 3))))) (sTup (sCons (kp (sC (.int 1))) (sCons (kp (sC (.int 2))) sNil))) (sC .non))) sSkip) sSkip) (sSeq (sIfS (sOrT (sBoolT (sBin dNotIn (rd (sVar 1)) (rd (sTup (sCons (kp (sC (.str "subset"))) (sCons (kp (sC (.str "bag"))) (sCons (kp (sC (.str "rounds"))) (sCons (kp (sC (.str "list"))) (sCons (kp (sC (.str "family"))) (sCons (kp (sC (.str "heap"))) sNil)))))))))) (sBoolT (sBin dLt (rd (sVar 2)) (rd (sC (.int 2)))))) (sSeq (sRet (sC .non)) sSkip) sSkip) (sSeq (sAsgT (kp (sIf (sBoolT (sBin dEq (rd (sVar 1)) (rd (sC (.str "rounds"))))) (sTup (sCons (kp (sC (.int 1))) (sCons (kp (sC (.int 2))) sNil))) (sTup (sCons (kp (sC (.int 0))) (sCons (kp (sC (.int 12))) sNil))))) (gT (gsCons (gN 3) (gsCons (gN 4) gsNil)))) (sSeq (sIfS (sOrT (sNotT (sTru (sCall dIsi (sCons (rd (sBinS ixSt (rd (sVar 0)) (rd (sC (.int 1))))) (sCons (rd (sC (.ty "int"))) sNil))))) (sOrT (sTru (sCall dIsi (sCons (rd (sBinS ixSt (rd (sVar 0)) (rd (sC (.int 1))))) (sCons (rd (sC (.ty "bool"))) sNil)))) (sOrT (sBoolT (sBin dLt (rd (sBinS ixSt (rd (sVar 0)) (rd (sC (.int 1))))) (rd (sVar 3)))) (sBoolT (sBin dGt (rd (sBinS ixSt (rd (sVar 0)) (rd (sC (.int 1))))) (rd (sVar 4))))))) (sSeq (sRet (sC .non)) sSkip) sSkip) (sSeq (sIfS (sBoolT (sBin dIn (rd (sVar 1)) (rd (sTup (sCons (kp (sC (.str "subset"))) (sCons (kp (sC (.str "bag"))) (sCons (kp (sC (.str "rounds"))) sNil))))))) (sSeq (sRet (sIf (sBoolT (sBin dEq (rd (sVar 2)) (rd (sC (.int 2))))) (sTup sNil) (sC .non))) sSkip) sSkip) (sSeq (sRet (sIf (sBoolT (sBin dEq (rd (sVar 2)) (rd (sC (.int 3))))) (sTup (sCons (kp (sC (.int 2))) sNil)) (sC .non))) sSkip)))))))))
def L39 (run : Nat → List D → M D) : SS := (sSeq (sIfS (sBoolT (sBin dEq (rd (sBinS ixSt (rd (sVar 0)) (rd (sC (.int 0))))) (rd (sC (.str "either"))))) (sSeq (sRet (sAndV (sFn (run 39) (sCons (kp (sBinS ixSt (rd (sVar 0)) (rd (sC (.int 1))))) sNil)) (sFn (run 39) (sCons (kp (sBinS ixSt (rd (sVar 0)) (rd (sC (.int 2))))) sNil)))) sSkip) sSkip) (sSeq (sRet (sBin dIn (rd (sBinS ixSt (rd (sVar 0)) (rd (sC (.int 0))))) (rd (sTup (sCons (kp (sC (.str "none"))) (sCons (kp (sC (.str "one"))) (sCons (kp (sC (.str "subset"))) sNil))))))) sSkip))
def L40 (run : Nat → List D → M D) : SS := (sSeq (sIfS (sBoolT (sBin dGt (rd (sVar 2)) (rd (sC (.int 10))))) (sSeq (sRet (sTup (sCons (kp (sC (.str "great"))) (sCons (kp (sC (.int 10))) sNil)))) sSkip) sSkip) (sSeq (sSetN 3 (kp (sBin dAdd (rd (sBinS ixSt (rd (sVar 3)) (rd (sC (.int 0))))) (rd (sC (.int 1))))) (rd (sC (.int 0)))) (sSeq (sIfS (sBoolT (sBin dGt (rd (sBinS ixSt (rd (sVar 3)) (rd (sC (.int 0))))) (rd (sC (.int 60))))) (sSeq (sRet (sTup (sCons (kp (sC (.str "great"))) (sCons (kp (sC (.int 60))) sNil)))) sSkip) sSkip) (sSeq (sFrz [0] (sSet 4 (sFn (run 38) (sCons (kp (sVar 0)) sNil)))) (sSeq (sIfS (sBoolT (sBin dIs (rd (sVar 4)) (rd (sC .non)))) (sSeq (sFrz [1] (sRet (sTup (sCons (kp (sC (.str "sort"))) (sCons (kp (sVar 1)) sNil))))) sSkip) sSkip) (sSeq (sFrz [4] (sFor (itS (kp (sVar 4))) (gN 5) (sSeq (sFrz [5, 3] (sSet 6 (sFn (run 40) (sCons (kp (sBinS ixSt (rd (sVar 0)) (rd (sVar 5)))) (sCons (kp (sBin dAdd (rd (sVar 1)) (rd (sTup (sCons (kp (sVar 5)) sNil))))) (sCons (kp (sBin dAdd (rd (sVar 2)) (rd (sC (.int 1))))) (sCons (kp (sVar 3)) sNil))))))) (sSeq (sIfS (sBoolT (sBin dIsNot (rd (sVar 6)) (rd (sC .non)))) (sSeq (sFrz [6] (sRet (sVar 6))) sSkip) sSkip) (sSeq (sIfS (sAndT (sBoolT (sBin dIn (rd (sBinS ixSt (rd (sVar 0)) (rd (sC (.int 0))))) (rd (sTup (sCons (kp (sC (.str "family"))) (sCons (kp (sC (.str "heap"))) sNil)))))) (sNotT (sTru (sFn (run 39) (sCons (kp (sBinS ixSt (rd (sVar 0)) (rd (sVar 5)))) sNil))))) (sSeq (sFrz [5] (sRet (sTup (sCons (kp (sC (.str "sort"))) (sCons (kp (sBin dAdd (rd (sVar 1)) (rd (sTup (sCons (kp (sVar 5)) sNil))))) sNil))))) sSkip) sSkip) sSkip))))) (sSeq (sRet (sC .non)) sSkip)))))))
def L41 (run : Nat → List D → M D) : SS := (sSeq (sIfS (sBoolT (sBin dIn (rd (sBinS ixSt (rd (sVar 0)) (rd (sC (.int 0))))) (rd (sTup (sCons (kp (sC (.str "either"))) (sCons (kp (sC (.str "pair"))) sNil)))))) (sSeq (sPar 1 2 (sCons (kp (sFn (run 41) (sCons (kp (sBinS ixSt (rd (sVar 0)) (rd (sC (.int 1))))) sNil))) (sCons (kp (sFn (run 41) (sCons (kp (sBinS ixSt (rd (sVar 0)) (rd (sC (.int 2))))) sNil))) sNil))) (sSeq (sRet (sIf (sBoolT (sBin dEq (rd (sBinS ixSt (rd (sVar 0)) (rd (sC (.int 0))))) (rd (sC (.str "either"))))) (sCall dMax (sCons (rd (sVar 1)) (sCons (rd (sVar 2)) sNil))) (sBin dAdd (rd (sVar 1)) (rd (sVar 2))))) sSkip)) sSkip) (sSeq (sRet (sIf (sBoolT (sBin dIn (rd (sBinS ixSt (rd (sVar 0)) (rd (sC (.int 0))))) (rd (sTup (sCons (kp (sC (.str "list"))) (sCons (kp (sC (.str "family"))) (sCons (kp (sC (.str "heap"))) sNil))))))) (sBin dMulA (rd (sBinS ixSt (rd (sVar 0)) (rd (sC (.int 1))))) (rd (sFn (run 41) (sCons (kp (sBinS ixSt (rd (sVar 0)) (rd (sC (.int 2))))) sNil)))) (sC (.int 1)))) sSkip))
def L42 (run : Nat → List D → M D) : SS := (sSeq (sPar3 3 4 5 (sCons (kp (sBinS ixSt (rd (sVar 1)) (rd (sC (.int 0))))) (sCons (kp (sBin dAdd (rd (sBin dPow (rd (sC (.int 10))) (rd (sC (.int 30))))) (rd (sC (.int 1))))) (sCons (kp (sC (.int 1))) sNil)))) (sSeq (sIfS (sBoolT (sBin dIn (rd (sVar 3)) (rd (sTup (sCons (kp (sC (.str "either"))) (sCons (kp (sC (.str "pair"))) sNil)))))) (sSeq (sFrz [0, 2] (sPar 6 7 (sCons (kp (sFn (run 42) (sCons (kp (sVar 0)) (sCons (kp (sBinS ixSt (rd (sVar 1)) (rd (sC (.int 1))))) (sCons (kp (sVar 2)) sNil))))) (sCons (kp (sFn (run 42) (sCons (kp (sVar 0)) (sCons (kp (sBinS ixSt (rd (sVar 1)) (rd (sC (.int 2))))) (sCons (kp (sVar 2)) sNil))))) sNil)))) (sSeq (sSet 5 (sCall dMin (sCons (rd (sVar 4)) (sCons (rd (sIf (sBoolT (sBin dEq (rd (sVar 3)) (rd (sC (.str "either"))))) (sBin dAdd (rd (sVar 6)) (rd (sVar 7))) (sBin dMulA (rd (sVar 6)) (rd (sVar 7))))) sNil)))) sSkip)) (sSeq (sIfS (sBoolT (sBin dEq (rd (sVar 3)) (rd (sC (.str "list"))))) (sSeq (sFrz [0, 2] (sSet 8 (sFn (run 42) (sCons (kp (sVar 0)) (sCons (kp (sBinS ixSt (rd (sVar 1)) (rd (sC (.int 2))))) (sCons (kp (sVar 2)) sNil)))))) (sSeq (sFor (itR1 (sCons (kp (sBinS ixSt (rd (sVar 1)) (rd (sC (.int 1))))) sNil)) (gN 9) (sSeq (sSet 5 (sCall dMin (sCons (rd (sVar 4)) (sCons (rd (sBin dMulA (rd (sVar 5)) (rd (sVar 8)))) sNil)))) sSkip)) sSkip)) (sSeq (sIfS (sBoolT (sBin dIn (rd (sVar 3)) (rd (sTup (sCons (kp (sC (.str "family"))) (sCons (kp (sC (.str "heap"))) sNil)))))) (sSeq (sFrz [0, 2] (sSet 8 (sFn (run 42) (sCons (kp (sVar 0)) (sCons (kp (sBinS ixSt (rd (sVar 1)) (rd (sC (.int 2))))) (sCons (kp (sVar 2)) sNil)))))) (sSeq (sFrz [8] (sSet 5 (sCall dMin (sCons (rd (sVar 4)) (sCons (rd (sFn (run 30) (sCons (kp (sIf (sBoolT (sBin dEq (rd (sVar 3)) (rd (sC (.str "family"))))) (sVar 8) (sBin dSub (rd (sBin dAdd (rd (sVar 8)) (rd (sBinS ixSt (rd (sVar 1)) (rd (sC (.int 1))))))) (rd (sC (.int 1)))))) (sCons (kp (sBinS ixSt (rd (sVar 1)) (rd (sC (.int 1))))) sNil)))) sNil))))) sSkip)) (sSeq (sFrz [0, 1] (sSet 5 (sFn (run 32) (sCons (kp (sVar 0)) (sCons (kp (sVar 1)) sNil))))) sSkip)) sSkip)) sSkip)) (sSeq (sIfS (sBoolT (sBin dEq (rd (sVar 5)) (rd (sVar 4)))) (sSeq (sFrz [3] (sMut 2 lAppend (sCons (kp (sVar 3)) sNil))) sSkip) sSkip) (sSeq (sFrz [5] (sRet (sVar 5))) sSkip))))
def L43 (run : Nat → List D → M D) : SS := (sSeq (sFrz [1, 0] (sSet 2 (sLst (sCons (kp (sTup (sCons (kp (sVar 1)) (sCons (kp (sVar 0)) sNil)))) sNil)))) (sSeq (sFrz [0] (sFor (itS (kp (sOrV (sFn (run 38) (sCons (kp (sVar 0)) sNil)) (sTup sNil)))) (gN 3) (sSeq (sFrz [3] (sSet 2 (sBin dAdd (rd (sVar 2)) (rd (sFn (run 43) (sCons (kp (sBinS ixSt (rd (sVar 0)) (rd (sVar 3)))) (sCons (kp (sBin dAdd (rd (sVar 1)) (rd (sTup (sCons (kp (sVar 3)) sNil))))) sNil))))))) sSkip))) (sSeq (sFrz [2] (sRet (sVar 2))) sSkip)))
def L44 (run : Nat → List D → M D) : SS := (sSeq (sFrz [1] (sSet 2 (sFn (run 40) (sCons (kp (sVar 1)) (sCons (kp (sTup sNil)) (sCons (kp (sC (.int 1))) (sCons (kp (toCell (sLst (sCons (kp (sC (.int 0))) sNil)))) sNil))))))) (sSeq (sIfS (sBoolT (sBin dIsNot (rd (sVar 2)) (rd (sC .non)))) (sSeq (sFrz [2] (sRet (sVar 2))) sSkip) sSkip) (sSeq (sFrz [0, 1] (sIfS (sBoolT (sBin dGt (rd (sFn (run 33) (sCons (kp (sVar 0)) (sCons (kp (sVar 1)) sNil)))) (rd (sC (.int 12))))) (sSeq (sRet (sTup (sCons (kp (sC (.str "great"))) (sCons (kp (sC (.int 12))) sNil)))) sSkip) sSkip)) (sSeq (sFrz [1] (sIfS (sBoolT (sBin dGt (rd (sFn (run 41) (sCons (kp (sVar 1)) sNil))) (rd (sC (.int 40))))) (sSeq (sRet (sTup (sCons (kp (sC (.str "great"))) (sCons (kp (sC (.int 40))) sNil)))) sSkip) sSkip)) (sSeq (sSet 3 (toCell (sLst sNil))) (sSeq (sFrz [0, 1, 3] (sDrop (sFn (run 42) (sCons (kp (sVar 0)) (sCons (kp (sVar 1)) (sCons (kp (sVar 3)) sNil)))))) (sSeq (sRet (sIf (sBoolT (sBin dNe (rd (sVar 3)) (rd (sLst sNil)))) (sTup (sCons (kp (sC (.str "great"))) (sCons (kp (sBin dPow (rd (sC (.int 10))) (rd (sC (.int 30))))) sNil))) (sC .non))) sSkip)))))))
def L45 (run : Nat → List D → M D) : SS := (sSeq (sFrz [0, 1] (sRet (sLst (sCons (kp (sFn (run 19) (sCons (kp (sVar 0)) (sCons (kp (sVar 1)) sNil)))) (sCons (kp (sFn (run 12) (sCons (kp (sVar 0)) (sCons (kp (sVar 1)) sNil)))) (sCons (kp (sFn (run 14) (sCons (kp (sVar 0)) (sCons (kp (sVar 1)) sNil)))) (sCons (kp (sFn (run 10) (sCons (kp (sVar 0)) (sCons (kp (sVar 1)) sNil)))) sNil))))))) sSkip)
def L46 (run : Nat → List D → M D) : SS := (sSeq (sFrz [0] (sSet 1 (sBin dAdd (rd (sC (.int 2))) (rd (sFn (run 22) (sCons (kp (sVar 0)) (sCons (kp (sC (.int 3))) sNil))))))) (sSeq (sFrz [0, 1] (sSet 2 (sLc (itS (kp (sFn (run 43) (sCons (kp (sFn (run 37) (sCons (kp (sVar 0)) (sCons (kp (sVar 1)) (sCons (kp (sC (.int 3))) (sCons (kp (sC (.int 60))) sNil)))))) (sCons (kp (sTup sNil)) sNil))))) (gN 3) sYes (kp (sBinS ixSt (rd (sVar 3)) (rd (sC (.int 1))))) [3]))) (sSeq (sFrz [4, 2, 1] (sFor (itS (kp (sLc (itS (kp (sVar 2))) (gN 4) (sBoolT (sBin dIs (rd (sFn (run 44) (sCons (kp (sVar 1)) (sCons (kp (sVar 4)) sNil)))) (rd (sC .non)))) (kp (sVar 4)) [4]))) (gN 4) (sSeq (sFrz [1, 4] (sSet 5 (sLst (sCons (kp (sCall dLen (sCons (rd (sFn (run 29) (sCons (kp (sVar 1)) (sCons (kp (sVar 4)) sNil)))) sNil))) (sCons (kp (sFn (run 33) (sCons (kp (sVar 1)) (sCons (kp (sVar 4)) sNil)))) (sCons (kp (sFn (run 41) (sCons (kp (sVar 4)) sNil))) (sCons (kp (sFn (run 39) (sCons (kp (sVar 4)) sNil))) sNil))))))) (sSeq (sFrz [1, 4] (sIfS (sBoolT (sBin dNe (rd (sCall dRepr (sCons (rd (sFn (run 45) (sCons (kp (sVar 1)) (sCons (kp (sVar 4)) sNil)))) sNil))) (rd (sCall dRepr (sCons (rd (sVar 5)) sNil))))) (sSeq (sRet (sC (.bl false))) sSkip) sSkip)) sSkip)))) (sSeq (sFrz [0] (sSet 6 (sBin dAdd (rd (sC (.int 2))) (rd (sFn (run 22) (sCons (kp (sVar 0)) (sCons (kp (sC (.int 4))) sNil))))))) (sSeq (sSet 7 (sLst (sCons (kp (sTup (sCons (kp (sC (.str "list"))) (sCons (kp (sC (.int 6))) (sCons (kp (sTup (sCons (kp (sC (.str "bag"))) (sCons (kp (sC (.int 2))) sNil)))) sNil))))) (sCons (kp (sTup (sCons (kp (sC (.str "bag"))) (sCons (kp (sC (.int 12))) sNil)))) (sCons (kp (sTup (sCons (kp (sC (.str "heap"))) (sCons (kp (sC (.int 4))) (sCons (kp (sTup (sCons (kp (sC (.str "either"))) (sCons (kp (sTup (sCons (kp (sC (.str "subset"))) (sCons (kp (sC (.int 2))) sNil)))) (sCons (kp (sTup (sCons (kp (sC (.str "subset"))) (sCons (kp (sC (.int 3))) sNil)))) sNil))))) sNil))))) (sCons (kp (sTup (sCons (kp (sC (.str "rounds"))) (sCons (kp (sC (.int 1))) sNil)))) sNil)))))) (sSeq (sFrz [0, 6, 7] (sSet 8 (sFn (run 23) (sCons (kp (sVar 0)) (sCons (kp (sLst (sCons (kp (sFn (run 35) (sCons (kp (sVar 0)) (sCons (kp (sVar 6)) (sCons (kp (sC (.int 3))) sNil))))) (sCons (kp (sTup (sCons (kp (sC (.str "pair"))) (sCons (kp (sFn (run 23) (sCons (kp (sVar 0)) (sCons (kp (sVar 7)) sNil)))) (sCons (kp (sTup (sCons (kp (sC (.str "either"))) (sCons (kp (sTup (sCons (kp (sC (.str "none"))) sNil))) (sCons (kp (sTup (sCons (kp (sC (.str "subset"))) (sCons (kp (sC (.int 0))) sNil)))) sNil))))) sNil))))) sNil)))) sNil))))) (sSeq (sFrz [6, 8] (sIfS (sBoolT (sBin dIsNot (rd (sFn (run 44) (sCons (kp (sVar 6)) (sCons (kp (sVar 8)) sNil)))) (rd (sC .non)))) (sSeq (sFrz [0] (sSet 8 (sTup (sCons (kp (sC (.str "list"))) (sCons (kp (sBin dAdd (rd (sC (.int 1))) (rd (sFn (run 22) (sCons (kp (sVar 0)) (sCons (kp (sC (.int 12))) sNil)))))) (sCons (kp (sTup (sCons (kp (sC (.str "one"))) sNil))) sNil)))))) sSkip) sSkip)) (sSeq (sFrz [6, 8] (sRet (sBin dEq (rd (sCall dRepr (sCons (rd (sFn (run 45) (sCons (kp (sVar 6)) (sCons (kp (sVar 8)) sNil)))) sNil))) (rd (sCall dRepr (sCons (rd (sLst (sCons (kp (sFn (run 32) (sCons (kp (sVar 6)) (sCons (kp (sVar 8)) sNil)))) (sCons (kp (sFn (run 33) (sCons (kp (sVar 6)) (sCons (kp (sVar 8)) sNil)))) (sCons (kp (sFn (run 41) (sCons (kp (sVar 8)) sNil))) (sCons (kp (sFn (run 39) (sCons (kp (sVar 8)) sNil))) sNil)))))) sNil)))))) sSkip))))))))
def L47 (run : Nat → List D → M D) : SS := (sSeq (sIfS (sBoolT (sBin dNe (rd (sLst (sCons (kp (sFn (run 19) (sCons (kp (sC (.int 5))) (sCons (kp (sTup (sCons (kp (sC (.str "trees"))) sNil))) sNil)))) (sCons (kp (sFn (run 19) (sCons (kp (sC (.int 5))) (sCons (kp (sTup (sCons (kp (sC (.str "rooted"))) sNil))) sNil)))) (sCons (kp (sFn (run 19) (sCons (kp (sC (.int 5))) (sCons (kp (sTup (sCons (kp (sC (.str "rounds"))) (sCons (kp (sC (.int 1))) sNil)))) sNil)))) (sCons (kp (sFn (run 19) (sCons (kp (sC (.int 2))) (sCons (kp (sTup (sCons (kp (sC (.str "rounds"))) (sCons (kp (sC (.int 2))) sNil)))) sNil)))) sNil)))))) (rd (sLst (sCons (kp (sC (.int 125))) (sCons (kp (sC (.int 625))) (sCons (kp (sC (.int 1024))) (sCons (kp (sC (.int 4))) sNil)))))))) (sSeq (sRet (sC (.bl false))) sSkip) sSkip) (sSeq (sIfS (sBoolT (sBin dNe (rd (sLc (itS (kp (sTup (sCons (kp (sC (.str "list"))) (sCons (kp (sC (.str "family"))) (sCons (kp (sC (.str "heap"))) sNil)))))) (gN 1) sYes (kp (sFn (run 19) (sCons (kp (sC (.int 3))) (sCons (kp (sTup (sCons (kp (sVar 1)) (sCons (kp (sC (.int 0))) (sCons (kp (sTup (sCons (kp (sC (.str "none"))) sNil))) sNil))))) sNil)))) [1])) (rd (sLst (sCons (kp (sC (.int 1))) (sCons (kp (sC (.int 1))) (sCons (kp (sC (.int 1))) sNil))))))) (sSeq (sRet (sC (.bl false))) sSkip) sSkip) (sSeq (sIfS (sOrT (sBoolT (sBin dNe (rd (sFn (run 12) (sCons (kp (sC (.int 3))) (sCons (kp (sTup (sCons (kp (sC (.str "pair"))) (sCons (kp (sTup (sCons (kp (sC (.str "rounds"))) (sCons (kp (sC (.int 1))) sNil)))) (sCons (kp (sTup (sCons (kp (sC (.str "subset"))) (sCons (kp (sC (.int 2))) sNil)))) sNil))))) sNil)))) (rd (sC (.int 5))))) (sBoolT (sBin dNe (rd (sFn (run 14) (sCons (kp (sC (.int 4))) (sCons (kp (sTup (sCons (kp (sC (.str "heap"))) (sCons (kp (sC (.int 3))) (sCons (kp (sTup (sCons (kp (sC (.str "either"))) (sCons (kp (sTup (sCons (kp (sC (.str "one"))) sNil))) (sCons (kp (sTup (sCons (kp (sC (.str "one"))) sNil))) sNil))))) sNil))))) sNil)))) (rd (sC (.int 3)))))) (sSeq (sRet (sC (.bl false))) sSkip) sSkip) (sSeq (sFrz [0] (sSet 2 (sFn (run 21) (sCons (kp (sVar 0)) sNil)))) (sSeq (sFor (itR1 (sCons (kp (sBin dAdd (rd (sC (.int 2))) (rd (sCall dMin (sCons (rd (sCall dLen (sCons (rd (sVar 0)) sNil))) (sCons (rd (sC (.int 2))) sNil)))))) sNil)) (gN 3) (sSeq (sFrz [2] (sIfS (sNotT (sTru (sFn (run 46) (sCons (kp (sVar 2)) sNil)))) (sSeq (sRet (sC (.bl false))) sSkip) sSkip)) sSkip)) (sSeq (sRet (sC (.bl true))) sSkip))))))
def bods : List (Nat × ((Nat → List D → M D) → SS)) := [(1, L0), (2, L1), (1, L2), (3, L3), (2, L4), (2, L5), (5, L6), (5, L7), (2, L8), (1, L9), (2, L10), (5, L11), (2, L12), (5, L13), (2, L14), (4, L15), (2, L16), (4, L17), (5, L18), (2, L19), (2, L20), (3, L21), (6, L22), (2, L23), (9, L24), (7, L25), (4, L26), (6, L27), (6, L28), (15, L29), (4, L30), (4, L31), (6, L32), (5, L33), (3, L34), (5, L35), (5, L36), (5, L37), (5, L38), (1, L39), (7, L40), (3, L41), (10, L42), (4, L43), (4, L44), (2, L45), (9, L46), (4, L47)]
def Q : Nat → Nat → List D → M D
  | 0, _ => fun _ => M.bad
  | l + 1, i => match bods[i]? with
    | some d => semF d.1 (d.2 (Q l))
    | none => fun _ => M.bad
theorem u0 (l : Nat) : Q (l + 1) 0 = semF 1 (L0 (Q l)) := rfl
theorem u1 (l : Nat) : Q (l + 1) 1 = semF 2 (L1 (Q l)) := rfl
theorem u2 (l : Nat) : Q (l + 1) 2 = semF 1 (L2 (Q l)) := rfl
theorem u3 (l : Nat) : Q (l + 1) 3 = semF 3 (L3 (Q l)) := rfl
theorem u4 (l : Nat) : Q (l + 1) 4 = semF 2 (L4 (Q l)) := rfl
theorem u5 (l : Nat) : Q (l + 1) 5 = semF 2 (L5 (Q l)) := rfl
theorem u6 (l : Nat) : Q (l + 1) 6 = semF 5 (L6 (Q l)) := rfl
theorem u7 (l : Nat) : Q (l + 1) 7 = semF 5 (L7 (Q l)) := rfl
theorem u8 (l : Nat) : Q (l + 1) 8 = semF 2 (L8 (Q l)) := rfl
theorem u9 (l : Nat) : Q (l + 1) 9 = semF 1 (L9 (Q l)) := rfl
theorem u10 (l : Nat) : Q (l + 1) 10 = semF 2 (L10 (Q l)) := rfl
theorem u11 (l : Nat) : Q (l + 1) 11 = semF 5 (L11 (Q l)) := rfl
theorem u12 (l : Nat) : Q (l + 1) 12 = semF 2 (L12 (Q l)) := rfl
theorem u13 (l : Nat) : Q (l + 1) 13 = semF 5 (L13 (Q l)) := rfl
theorem u14 (l : Nat) : Q (l + 1) 14 = semF 2 (L14 (Q l)) := rfl
theorem u15 (l : Nat) : Q (l + 1) 15 = semF 4 (L15 (Q l)) := rfl
theorem u16 (l : Nat) : Q (l + 1) 16 = semF 2 (L16 (Q l)) := rfl
theorem u17 (l : Nat) : Q (l + 1) 17 = semF 4 (L17 (Q l)) := rfl
theorem u18 (l : Nat) : Q (l + 1) 18 = semF 5 (L18 (Q l)) := rfl
theorem u19 (l : Nat) : Q (l + 1) 19 = semF 2 (L19 (Q l)) := rfl
theorem u20 (l : Nat) : Q (l + 1) 20 = semF 2 (L20 (Q l)) := rfl
theorem u21 (l : Nat) : Q (l + 1) 21 = semF 3 (L21 (Q l)) := rfl
theorem u22 (l : Nat) : Q (l + 1) 22 = semF 6 (L22 (Q l)) := rfl
theorem u23 (l : Nat) : Q (l + 1) 23 = semF 2 (L23 (Q l)) := rfl
theorem u24 (l : Nat) : Q (l + 1) 24 = semF 9 (L24 (Q l)) := rfl
theorem u25 (l : Nat) : Q (l + 1) 25 = semF 7 (L25 (Q l)) := rfl
theorem u26 (l : Nat) : Q (l + 1) 26 = semF 4 (L26 (Q l)) := rfl
theorem u27 (l : Nat) : Q (l + 1) 27 = semF 6 (L27 (Q l)) := rfl
theorem u28 (l : Nat) : Q (l + 1) 28 = semF 6 (L28 (Q l)) := rfl
theorem u29 (l : Nat) : Q (l + 1) 29 = semF 15 (L29 (Q l)) := rfl
theorem u30 (l : Nat) : Q (l + 1) 30 = semF 4 (L30 (Q l)) := rfl
theorem u31 (l : Nat) : Q (l + 1) 31 = semF 4 (L31 (Q l)) := rfl
theorem u32 (l : Nat) : Q (l + 1) 32 = semF 6 (L32 (Q l)) := rfl
theorem u33 (l : Nat) : Q (l + 1) 33 = semF 5 (L33 (Q l)) := rfl
theorem u34 (l : Nat) : Q (l + 1) 34 = semF 3 (L34 (Q l)) := rfl
theorem u35 (l : Nat) : Q (l + 1) 35 = semF 5 (L35 (Q l)) := rfl
theorem u36 (l : Nat) : Q (l + 1) 36 = semF 5 (L36 (Q l)) := rfl
theorem u37 (l : Nat) : Q (l + 1) 37 = semF 5 (L37 (Q l)) := rfl
theorem u38 (l : Nat) : Q (l + 1) 38 = semF 5 (L38 (Q l)) := rfl
theorem u39 (l : Nat) : Q (l + 1) 39 = semF 1 (L39 (Q l)) := rfl
theorem u40 (l : Nat) : Q (l + 1) 40 = semF 7 (L40 (Q l)) := rfl
theorem u41 (l : Nat) : Q (l + 1) 41 = semF 3 (L41 (Q l)) := rfl
theorem u42 (l : Nat) : Q (l + 1) 42 = semF 10 (L42 (Q l)) := rfl
theorem u43 (l : Nat) : Q (l + 1) 43 = semF 4 (L43 (Q l)) := rfl
theorem u44 (l : Nat) : Q (l + 1) 44 = semF 4 (L44 (Q l)) := rfl
theorem u45 (l : Nat) : Q (l + 1) 45 = semF 2 (L45 (Q l)) := rfl
theorem u46 (l : Nat) : Q (l + 1) 46 = semF 9 (L46 (Q l)) := rfl
theorem u47 (l : Nat) : Q (l + 1) 47 = semF 4 (L47 (Q l)) := rfl
-- 0 is_whole, 1 is_below, 2 need_many, 3 inner_indexes, 4 inner_parts, 5 _is_of_kind, 6 _has_form, 7 _things_met, 8 need_sort, 9 single_of, 10 is_single, 11 marks_of, 12 marks, 13 width_of, 14 width, 15 power, 16 heaps_of, 17 _count_from, 18 count_of, 19 how_many, 20 _law_mixed, 21 _law_begin, 22 _law_draw, 23 _law_of, 24 _law_tuples, 25 _law_rows, 26 _law_meets, 27 _law_joined, 28 _law_trees, 29 _law_listed, 30 _law_ways, 31 _law_power, 32 _law_size, 33 _law_weight, 34 _law_single, 35 _law_any_sort, 36 _law_fits, 37 _law_sort, 38 _law_form, 39 _law_alone, 40 _law_walk, 41 _law_wide, 42 _law_capped, 43 _law_rooms, 44 _law_fault, 45 _law_told, 46 _law_good, 47 law
end M02
set_option Elab.async false -- ev
set_option linter.all false -- ev
set_option maxRecDepth 100000 -- ev
set_option maxHeartbeats 0 -- ev
set_option autoImplicit false -- ev
namespace K02
open PySem PySem.Spec PyProof.Rows L2 Ev M02
abbrev row := PySem.Challenge.rw_unithouse_k02_whole_numbers_of_members
def body : List Stmt := PySem.Challenge.pw_unithouse_k02_whole_numbers_of_members.main.body
def st (i : Nat) : Stmt := body.getD i (.Pass ⟨0, 0, 0, 0⟩)
def clsIn : Stmt → List Stmt
  | .ClassDef _ _ _ b _ _ _ _ _ _ _ => b
  | _ => []
def sti (i j : Nat) : Stmt := (clsIn (st i)).getD j (.Pass ⟨0, 0, 0, 0⟩)
def dd (x : Str) (i : Nat) (k : List (Str × D)) : He.DefD := ⟨(x, none), x, x, defArgs (st i), defBody (st i), defScope (st i), [], k.map fun q => (q.1, dvOf q.2)⟩
def di (x q : Str) (i j : Nat) : He.DefD := ⟨(x, some ("__init__" : Str)), "__init__", q, defArgs (sti i j), defBody (sti i j), defScope (sti i j), [], []⟩
def ini : List He.DefD := [di "BadMany" "BadMany.__init__" 3 0, di "BadSort" "BadSort.__init__" 4 0, di "TooGreat" "TooGreat.__init__" 5 0]
def fn : List He.DefD := [dd "is_whole" 17 [], dd "is_below" 18 [], dd "need_many" 19 [], dd "inner_indexes" 20 [], dd "inner_parts" 21 [], dd "_is_of_kind" 22 [], dd "_has_form" 23 [], dd "_things_met" 24 [], dd "need_sort" 25 [], dd "single_of" 26 [], dd "is_single" 27 [], dd "marks_of" 28 [], dd "marks" 29 [], dd "width_of" 30 [], dd "width" 31 [], dd "power" 32 [], dd "heaps_of" 33 [], dd "_count_from" 34 [], dd "count_of" 35 [], dd "how_many" 36 [], dd "_law_mixed" 38 [], dd "_law_begin" 39 [], dd "_law_draw" 40 [], dd "_law_of" 41 [], dd "_law_tuples" 42 [], dd "_law_rows" 43 [], dd "_law_meets" 44 [], dd "_law_joined" 45 [], dd "_law_trees" 46 [], dd "_law_listed" 47 [], dd "_law_ways" 48 [], dd "_law_power" 49 [], dd "_law_size" 50 [], dd "_law_weight" 51 [], dd "_law_single" 52 [], dd "_law_any_sort" 53 [], dd "_law_fits" 54 [], dd "_law_sort" 55 [], dd "_law_form" 56 [], dd "_law_alone" 57 [], dd "_law_walk" 58 [], dd "_law_wide" 59 [], dd "_law_capped" 60 [], dd "_law_rooms" 61 [], dd "_law_fault" 62 [], dd "_law_told" 63 [], dd "_law_good" 64 [], dd "law" 65 []] ++ ini
def loose : List Str := (PySem.Challenge.pw_unithouse_k02_whole_numbers_of_members.main.scope.names.map (·.1)).filter fun x => !(x == ("law" : Str) || x == ("__name__" : Str) || x == ("comb" : Str))
abbrev R : PySem.W.OpenRow := PySem.W.OpenLaw.row row
abbrev hk : PySem.W.Hook := hookU 4 fn gls tb
def ob (s : PySem.W.SharedT) : AlU := obsUG 4 fn gls tb (HandSHeadRun.getT s)
theorem ob_eq (s : PySem.W.SharedT) : ob s = hk.obs s.abs := obsUG_eq (HandSHeadRun.getT_eq s)
abbrev vw := PySem.W.view R.prog [0, 65]
theorem runF (w : World) : HandSHeadRun.RunEqI R vw hk ob 20000 loose (w.withFollow "special-get-raises" false) := by
  unfold HandSHeadRun.RunEqI
  kernel_rfl
theorem runT (w : World) : HandSHeadRun.RunEqI R vw hk ob 20000 loose (w.withFollow "special-get-raises" true) := by
  unfold HandSHeadRun.RunEqI
  kernel_rfl
theorem run (w : World) : HandSHeadRun.RunEqI R vw hk ob 20000 loose w := PySem.W.byRow2 "special-get-raises" runF runT w
end K02
set_option Elab.async false -- ev
set_option linter.all false -- ev
set_option maxRecDepth 100000 -- ev
set_option maxHeartbeats 0 -- ev
set_option autoImplicit false -- ev
namespace K02
open PySem PySem.Spec PyProof.Rows L2 Ev M02
def d0 : Df := ⟨"is_whole", defArgs (st 17), defBody (st 17), defScope (st 17), nms.getD 0 [], [nm "value"], L0, []⟩
def d1 : Df := ⟨"is_below", defArgs (st 18), defBody (st 18), defScope (st 18), nms.getD 1 [], [nm "value", nm "bound"], L1, []⟩
def d2 : Df := ⟨"need_many", defArgs (st 19), defBody (st 19), defScope (st 19), nms.getD 2 [], [nm "value"], L2, []⟩
def d3 : Df := ⟨"inner_indexes", defArgs (st 20), defBody (st 20), defScope (st 20), nms.getD 3 [], [nm "sort"], L3, []⟩
def d4 : Df := ⟨"inner_parts", defArgs (st 21), defBody (st 21), defScope (st 21), nms.getD 4 [], [nm "sort"], L4, []⟩
def d5 : Df := ⟨"_is_of_kind", defArgs (st 22), defBody (st 22), defScope (st 22), nms.getD 5 [], [nm "kind", nm "value"], L5, []⟩
def d6 : Df := ⟨"_has_form", defArgs (st 23), defBody (st 23), defScope (st 23), nms.getD 6 [], [nm "value"], L6, []⟩
def d7 : Df := ⟨"_things_met", defArgs (st 24), defBody (st 24), defScope (st 24), nms.getD 7 [], [nm "value", nm "path", nm "met"], L7, []⟩
def d8 : Df := ⟨"need_sort", defArgs (st 25), defBody (st 25), defScope (st 25), nms.getD 8 [], [nm "many", nm "value"], L8, []⟩
def d9 : Df := ⟨"single_of", defArgs (st 26), defBody (st 26), defScope (st 26), nms.getD 9 [], [nm "sort"], L9, []⟩
def d10 : Df := ⟨"is_single", defArgs (st 27), defBody (st 27), defScope (st 27), nms.getD 10 [], [nm "many", nm "sort"], L10, []⟩
def d11 : Df := ⟨"marks_of", defArgs (st 28), defBody (st 28), defScope (st 28), nms.getD 11 [], [nm "many", nm "sort"], L11, []⟩
def d12 : Df := ⟨"marks", defArgs (st 29), defBody (st 29), defScope (st 29), nms.getD 12 [], [nm "many", nm "sort"], L12, []⟩
def d13 : Df := ⟨"width_of", defArgs (st 30), defBody (st 30), defScope (st 30), nms.getD 13 [], [nm "many", nm "sort"], L13, []⟩
def d14 : Df := ⟨"width", defArgs (st 31), defBody (st 31), defScope (st 31), nms.getD 14 [], [nm "many", nm "sort"], L14, []⟩
def d15 : Df := ⟨"power", defArgs (st 32), defBody (st 32), defScope (st 32), nms.getD 15 [], [nm "base", nm "times"], L15, []⟩
def d16 : Df := ⟨"heaps_of", defArgs (st 33), defBody (st 33), defScope (st 33), nms.getD 16 [], [nm "kinds", nm "size"], L16, []⟩
def d17 : Df := ⟨"_count_from", defArgs (st 34), defBody (st 34), defScope (st 34), nms.getD 17 [], [nm "many", nm "sort", nm "inner"], L17, []⟩
def d18 : Df := ⟨"count_of", defArgs (st 35), defBody (st 35), defScope (st 35), nms.getD 18 [], [nm "many", nm "sort"], L18, []⟩
def d19 : Df := ⟨"how_many", defArgs (st 36), defBody (st 36), defScope (st 36), nms.getD 19 [], [nm "many", nm "sort"], L19, []⟩
def d20 : Df := ⟨"_law_mixed", defArgs (st 38), defBody (st 38), defScope (st 38), nms.getD 20 [], [nm "cell", nm "k"], L20, []⟩
def d21 : Df := ⟨"_law_begin", defArgs (st 39), defBody (st 39), defScope (st 39), nms.getD 21 [], [nm "script"], L21, []⟩
def d22 : Df := ⟨"_law_draw", defArgs (st 40), defBody (st 40), defScope (st 40), nms.getD 22 [], [nm "state", nm "limit"], L22, []⟩
def d23 : Df := ⟨"_law_of", defArgs (st 41), defBody (st 41), defScope (st 41), nms.getD 23 [], [nm "state", nm "some"], L23, []⟩
def d24 : Df := ⟨"_law_tuples", defArgs (st 42), defBody (st 42), defScope (st 42), nms.getD 24 [], [nm "limit", nm "size", nm "again"], L24, []⟩
def d25 : Df := ⟨"_law_rows", defArgs (st 43), defBody (st 43), defScope (st 43), nms.getD 25 [], [nm "some", nm "size"], L25, []⟩
def d26 : Df := ⟨"_law_meets", defArgs (st 44), defBody (st 44), defScope (st 44), nms.getD 26 [], [nm "n"], L26, []⟩
def d27 : Df := ⟨"_law_joined", defArgs (st 45), defBody (st 45), defScope (st 45), nms.getD 27 [], [nm "n", nm "ties"], L27, []⟩
def d28 : Df := ⟨"_law_trees", defArgs (st 46), defBody (st 46), defScope (st 46), nms.getD 28 [], [nm "n"], L28, []⟩
def d29 : Df := ⟨"_law_listed", defArgs (st 47), defBody (st 47), defScope (st 47), nms.getD 29 [], [nm "n", nm "sort"], L29, []⟩
def d30 : Df := ⟨"_law_ways", defArgs (st 48), defBody (st 48), defScope (st 48), nms.getD 30 [], [nm "limit", nm "size"], L30, []⟩
def d31 : Df := ⟨"_law_power", defArgs (st 49), defBody (st 49), defScope (st 49), nms.getD 31 [], [nm "base", nm "many_so"], L31, []⟩
def d32 : Df := ⟨"_law_size", defArgs (st 50), defBody (st 50), defScope (st 50), nms.getD 32 [], [nm "n", nm "sort"], L32, []⟩
def d33 : Df := ⟨"_law_weight", defArgs (st 51), defBody (st 51), defScope (st 51), nms.getD 33 [], [nm "n", nm "sort"], L33, []⟩
def d34 : Df := ⟨"_law_single", defArgs (st 52), defBody (st 52), defScope (st 52), nms.getD 34 [], [nm "state", nm "n"], L34, []⟩
def d35 : Df := ⟨"_law_any_sort", defArgs (st 53), defBody (st 53), defScope (st 53), nms.getD 35 [], [nm "state", nm "n", nm "deep"], L35, []⟩
def d36 : Df := ⟨"_law_fits", defArgs (st 54), defBody (st 54), defScope (st 54), nms.getD 36 [], [nm "n", nm "sort", nm "most"], L36, []⟩
def d37 : Df := ⟨"_law_sort", defArgs (st 55), defBody (st 55), defScope (st 55), nms.getD 37 [], [nm "state", nm "n", nm "deep", nm "most"], L37, []⟩
def d38 : Df := ⟨"_law_form", defArgs (st 56), defBody (st 56), defScope (st 56), nms.getD 38 [], [nm "value"], L38, []⟩
def d39 : Df := ⟨"_law_alone", defArgs (st 57), defBody (st 57), defScope (st 57), nms.getD 39 [], [nm "value"], L39, []⟩
def d40 : Df := ⟨"_law_walk", defArgs (st 58), defBody (st 58), defScope (st 58), nms.getD 40 [], [nm "value", nm "path", nm "deep", nm "met"], L40, []⟩
def d41 : Df := ⟨"_law_wide", defArgs (st 59), defBody (st 59), defScope (st 59), nms.getD 41 [], [nm "sort"], L41, []⟩
def d42 : Df := ⟨"_law_capped", defArgs (st 60), defBody (st 60), defScope (st 60), nms.getD 42 [], [nm "n", nm "sort", nm "over"], L42, []⟩
def d43 : Df := ⟨"_law_rooms", defArgs (st 61), defBody (st 61), defScope (st 61), nms.getD 43 [], [nm "value", nm "path"], L43, []⟩
def d44 : Df := ⟨"_law_fault", defArgs (st 62), defBody (st 62), defScope (st 62), nms.getD 44 [], [nm "n", nm "value"], L44, []⟩
def d45 : Df := ⟨"_law_told", defArgs (st 63), defBody (st 63), defScope (st 63), nms.getD 45 [], [nm "n", nm "sort"], L45, []⟩
def d46 : Df := ⟨"_law_good", defArgs (st 64), defBody (st 64), defScope (st 64), nms.getD 46 [], [nm "state"], L46, []⟩
def d47 : Df := ⟨"law", defArgs (st 65), defBody (st 65), defScope (st 65), nms.getD 47 [], [nm "script"], L47, []⟩
def fs : List Df := [d0, d1, d2, d3, d4, d5, d6, d7, d8, d9, d10, d11, d12, d13, d14, d15, d16, d17, d18, d19, d20, d21, d22, d23, d24, d25, d26, d27, d28, d29, d30, d31, d32, d33, d34, d35, d36, d37, d38, d39, d40, d41, d42, d43, d44, d45, d46, d47]
theorem q0 (run : Nat → List D → M D) (k : Nat) : (cBody (conO gls tb run k) ⟨d0.scope, d0.N, fun _ => true, true, cls⟩ d0.body).map (·.1) = some (d0.L run) := by kernel_rfl
theorem q1 (run : Nat → List D → M D) (k : Nat) : (cBody (conO gls tb run k) ⟨d1.scope, d1.N, fun _ => true, true, cls⟩ d1.body).map (·.1) = some (d1.L run) := by kernel_rfl
theorem q2 (run : Nat → List D → M D) (k : Nat) : (cBody (conO gls tb run k) ⟨d2.scope, d2.N, fun _ => true, true, cls⟩ d2.body).map (·.1) = some (d2.L run) := by kernel_rfl
theorem q3 (run : Nat → List D → M D) (k : Nat) : (cBody (conO gls tb run k) ⟨d3.scope, d3.N, fun _ => true, true, cls⟩ d3.body).map (·.1) = some (d3.L run) := by kernel_rfl
theorem q4 (run : Nat → List D → M D) (k : Nat) : (cBody (conO gls tb run k) ⟨d4.scope, d4.N, fun _ => true, true, cls⟩ d4.body).map (·.1) = some (d4.L run) := by kernel_rfl
theorem q5 (run : Nat → List D → M D) (k : Nat) : (cBody (conO gls tb run k) ⟨d5.scope, d5.N, fun _ => true, true, cls⟩ d5.body).map (·.1) = some (d5.L run) := by kernel_rfl
theorem q6 (run : Nat → List D → M D) (k : Nat) : (cBody (conO gls tb run k) ⟨d6.scope, d6.N, fun _ => true, true, cls⟩ d6.body).map (·.1) = some (d6.L run) := by kernel_rfl
theorem q7 (run : Nat → List D → M D) (k : Nat) : (cBody (conO gls tb run k) ⟨d7.scope, d7.N, fun _ => true, true, cls⟩ d7.body).map (·.1) = some (d7.L run) := by kernel_rfl
theorem q8 (run : Nat → List D → M D) (k : Nat) : (cBody (conO gls tb run k) ⟨d8.scope, d8.N, fun _ => true, true, cls⟩ d8.body).map (·.1) = some (d8.L run) := by kernel_rfl
theorem q9 (run : Nat → List D → M D) (k : Nat) : (cBody (conO gls tb run k) ⟨d9.scope, d9.N, fun _ => true, true, cls⟩ d9.body).map (·.1) = some (d9.L run) := by kernel_rfl
theorem q10 (run : Nat → List D → M D) (k : Nat) : (cBody (conO gls tb run k) ⟨d10.scope, d10.N, fun _ => true, true, cls⟩ d10.body).map (·.1) = some (d10.L run) := by kernel_rfl
theorem q11 (run : Nat → List D → M D) (k : Nat) : (cBody (conO gls tb run k) ⟨d11.scope, d11.N, fun _ => true, true, cls⟩ d11.body).map (·.1) = some (d11.L run) := by kernel_rfl
theorem q12 (run : Nat → List D → M D) (k : Nat) : (cBody (conO gls tb run k) ⟨d12.scope, d12.N, fun _ => true, true, cls⟩ d12.body).map (·.1) = some (d12.L run) := by kernel_rfl
theorem q13 (run : Nat → List D → M D) (k : Nat) : (cBody (conO gls tb run k) ⟨d13.scope, d13.N, fun _ => true, true, cls⟩ d13.body).map (·.1) = some (d13.L run) := by kernel_rfl
theorem q14 (run : Nat → List D → M D) (k : Nat) : (cBody (conO gls tb run k) ⟨d14.scope, d14.N, fun _ => true, true, cls⟩ d14.body).map (·.1) = some (d14.L run) := by kernel_rfl
theorem q15 (run : Nat → List D → M D) (k : Nat) : (cBody (conO gls tb run k) ⟨d15.scope, d15.N, fun _ => true, true, cls⟩ d15.body).map (·.1) = some (d15.L run) := by kernel_rfl
theorem q16 (run : Nat → List D → M D) (k : Nat) : (cBody (conO gls tb run k) ⟨d16.scope, d16.N, fun _ => true, true, cls⟩ d16.body).map (·.1) = some (d16.L run) := by kernel_rfl
theorem q17 (run : Nat → List D → M D) (k : Nat) : (cBody (conO gls tb run k) ⟨d17.scope, d17.N, fun _ => true, true, cls⟩ d17.body).map (·.1) = some (d17.L run) := by kernel_rfl
theorem q18 (run : Nat → List D → M D) (k : Nat) : (cBody (conO gls tb run k) ⟨d18.scope, d18.N, fun _ => true, true, cls⟩ d18.body).map (·.1) = some (d18.L run) := by kernel_rfl
theorem q19 (run : Nat → List D → M D) (k : Nat) : (cBody (conO gls tb run k) ⟨d19.scope, d19.N, fun _ => true, true, cls⟩ d19.body).map (·.1) = some (d19.L run) := by kernel_rfl
theorem q20 (run : Nat → List D → M D) (k : Nat) : (cBody (conO gls tb run k) ⟨d20.scope, d20.N, fun _ => true, true, cls⟩ d20.body).map (·.1) = some (d20.L run) := by kernel_rfl
theorem q21 (run : Nat → List D → M D) (k : Nat) : (cBody (conO gls tb run k) ⟨d21.scope, d21.N, fun _ => true, true, cls⟩ d21.body).map (·.1) = some (d21.L run) := by kernel_rfl
theorem q22 (run : Nat → List D → M D) (k : Nat) : (cBody (conO gls tb run k) ⟨d22.scope, d22.N, fun _ => true, true, cls⟩ d22.body).map (·.1) = some (d22.L run) := by kernel_rfl
theorem q23 (run : Nat → List D → M D) (k : Nat) : (cBody (conO gls tb run k) ⟨d23.scope, d23.N, fun _ => true, true, cls⟩ d23.body).map (·.1) = some (d23.L run) := by kernel_rfl
theorem q24 (run : Nat → List D → M D) (k : Nat) : (cBody (conO gls tb run k) ⟨d24.scope, d24.N, fun _ => true, true, cls⟩ d24.body).map (·.1) = some (d24.L run) := by kernel_rfl
theorem q25 (run : Nat → List D → M D) (k : Nat) : (cBody (conO gls tb run k) ⟨d25.scope, d25.N, fun _ => true, true, cls⟩ d25.body).map (·.1) = some (d25.L run) := by kernel_rfl
theorem q26 (run : Nat → List D → M D) (k : Nat) : (cBody (conO gls tb run k) ⟨d26.scope, d26.N, fun _ => true, true, cls⟩ d26.body).map (·.1) = some (d26.L run) := by kernel_rfl
theorem q27 (run : Nat → List D → M D) (k : Nat) : (cBody (conO gls tb run k) ⟨d27.scope, d27.N, fun _ => true, true, cls⟩ d27.body).map (·.1) = some (d27.L run) := by kernel_rfl
theorem q28 (run : Nat → List D → M D) (k : Nat) : (cBody (conO gls tb run k) ⟨d28.scope, d28.N, fun _ => true, true, cls⟩ d28.body).map (·.1) = some (d28.L run) := by kernel_rfl
theorem q29 (run : Nat → List D → M D) (k : Nat) : (cBody (conO gls tb run k) ⟨d29.scope, d29.N, fun _ => true, true, cls⟩ d29.body).map (·.1) = some (d29.L run) := by kernel_rfl
theorem q30 (run : Nat → List D → M D) (k : Nat) : (cBody (conO gls tb run k) ⟨d30.scope, d30.N, fun _ => true, true, cls⟩ d30.body).map (·.1) = some (d30.L run) := by kernel_rfl
theorem q31 (run : Nat → List D → M D) (k : Nat) : (cBody (conO gls tb run k) ⟨d31.scope, d31.N, fun _ => true, true, cls⟩ d31.body).map (·.1) = some (d31.L run) := by kernel_rfl
theorem q32 (run : Nat → List D → M D) (k : Nat) : (cBody (conO gls tb run k) ⟨d32.scope, d32.N, fun _ => true, true, cls⟩ d32.body).map (·.1) = some (d32.L run) := by kernel_rfl
theorem q33 (run : Nat → List D → M D) (k : Nat) : (cBody (conO gls tb run k) ⟨d33.scope, d33.N, fun _ => true, true, cls⟩ d33.body).map (·.1) = some (d33.L run) := by kernel_rfl
theorem q34 (run : Nat → List D → M D) (k : Nat) : (cBody (conO gls tb run k) ⟨d34.scope, d34.N, fun _ => true, true, cls⟩ d34.body).map (·.1) = some (d34.L run) := by kernel_rfl
theorem q35 (run : Nat → List D → M D) (k : Nat) : (cBody (conO gls tb run k) ⟨d35.scope, d35.N, fun _ => true, true, cls⟩ d35.body).map (·.1) = some (d35.L run) := by kernel_rfl
theorem q36 (run : Nat → List D → M D) (k : Nat) : (cBody (conO gls tb run k) ⟨d36.scope, d36.N, fun _ => true, true, cls⟩ d36.body).map (·.1) = some (d36.L run) := by kernel_rfl
theorem q37 (run : Nat → List D → M D) (k : Nat) : (cBody (conO gls tb run k) ⟨d37.scope, d37.N, fun _ => true, true, cls⟩ d37.body).map (·.1) = some (d37.L run) := by kernel_rfl
theorem q38 (run : Nat → List D → M D) (k : Nat) : (cBody (conO gls tb run k) ⟨d38.scope, d38.N, fun _ => true, true, cls⟩ d38.body).map (·.1) = some (d38.L run) := by kernel_rfl
theorem q39 (run : Nat → List D → M D) (k : Nat) : (cBody (conO gls tb run k) ⟨d39.scope, d39.N, fun _ => true, true, cls⟩ d39.body).map (·.1) = some (d39.L run) := by kernel_rfl
theorem q40 (run : Nat → List D → M D) (k : Nat) : (cBody (conO gls tb run k) ⟨d40.scope, d40.N, fun _ => true, true, cls⟩ d40.body).map (·.1) = some (d40.L run) := by kernel_rfl
theorem q41 (run : Nat → List D → M D) (k : Nat) : (cBody (conO gls tb run k) ⟨d41.scope, d41.N, fun _ => true, true, cls⟩ d41.body).map (·.1) = some (d41.L run) := by kernel_rfl
theorem q42 (run : Nat → List D → M D) (k : Nat) : (cBody (conO gls tb run k) ⟨d42.scope, d42.N, fun _ => true, true, cls⟩ d42.body).map (·.1) = some (d42.L run) := by kernel_rfl
theorem q43 (run : Nat → List D → M D) (k : Nat) : (cBody (conO gls tb run k) ⟨d43.scope, d43.N, fun _ => true, true, cls⟩ d43.body).map (·.1) = some (d43.L run) := by kernel_rfl
theorem q44 (run : Nat → List D → M D) (k : Nat) : (cBody (conO gls tb run k) ⟨d44.scope, d44.N, fun _ => true, true, cls⟩ d44.body).map (·.1) = some (d44.L run) := by kernel_rfl
theorem q45 (run : Nat → List D → M D) (k : Nat) : (cBody (conO gls tb run k) ⟨d45.scope, d45.N, fun _ => true, true, cls⟩ d45.body).map (·.1) = some (d45.L run) := by kernel_rfl
theorem q46 (run : Nat → List D → M D) (k : Nat) : (cBody (conO gls tb run k) ⟨d46.scope, d46.N, fun _ => true, true, cls⟩ d46.body).map (·.1) = some (d46.L run) := by kernel_rfl
theorem q47 (run : Nat → List D → M D) (k : Nat) : (cBody (conO gls tb run k) ⟨d47.scope, d47.N, fun _ => true, true, cls⟩ d47.body).map (·.1) = some (d47.L run) := by kernel_rfl
theorem b0 : BindsL d0 := fun kV doc pm an cdv ct us hl => match us, hl with
  | [_], _ => rfl
theorem b1 : BindsL d1 := fun kV doc pm an cdv ct us hl => match us, hl with
  | [_, _], _ => rfl
theorem b2 : BindsL d2 := fun kV doc pm an cdv ct us hl => match us, hl with
  | [_], _ => rfl
theorem b3 : BindsL d3 := fun kV doc pm an cdv ct us hl => match us, hl with
  | [_], _ => rfl
theorem b4 : BindsL d4 := fun kV doc pm an cdv ct us hl => match us, hl with
  | [_], _ => rfl
theorem b5 : BindsL d5 := fun kV doc pm an cdv ct us hl => match us, hl with
  | [_, _], _ => rfl
theorem b6 : BindsL d6 := fun kV doc pm an cdv ct us hl => match us, hl with
  | [_], _ => rfl
theorem b7 : BindsL d7 := fun kV doc pm an cdv ct us hl => match us, hl with
  | [_, _, _], _ => rfl
theorem b8 : BindsL d8 := fun kV doc pm an cdv ct us hl => match us, hl with
  | [_, _], _ => rfl
theorem b9 : BindsL d9 := fun kV doc pm an cdv ct us hl => match us, hl with
  | [_], _ => rfl
theorem b10 : BindsL d10 := fun kV doc pm an cdv ct us hl => match us, hl with
  | [_, _], _ => rfl
theorem b11 : BindsL d11 := fun kV doc pm an cdv ct us hl => match us, hl with
  | [_, _], _ => rfl
theorem b12 : BindsL d12 := fun kV doc pm an cdv ct us hl => match us, hl with
  | [_, _], _ => rfl
theorem b13 : BindsL d13 := fun kV doc pm an cdv ct us hl => match us, hl with
  | [_, _], _ => rfl
theorem b14 : BindsL d14 := fun kV doc pm an cdv ct us hl => match us, hl with
  | [_, _], _ => rfl
theorem b15 : BindsL d15 := fun kV doc pm an cdv ct us hl => match us, hl with
  | [_, _], _ => rfl
theorem b16 : BindsL d16 := fun kV doc pm an cdv ct us hl => match us, hl with
  | [_, _], _ => rfl
theorem b17 : BindsL d17 := fun kV doc pm an cdv ct us hl => match us, hl with
  | [_, _, _], _ => rfl
theorem b18 : BindsL d18 := fun kV doc pm an cdv ct us hl => match us, hl with
  | [_, _], _ => rfl
theorem b19 : BindsL d19 := fun kV doc pm an cdv ct us hl => match us, hl with
  | [_, _], _ => rfl
theorem b20 : BindsL d20 := fun kV doc pm an cdv ct us hl => match us, hl with
  | [_, _], _ => rfl
theorem b21 : BindsL d21 := fun kV doc pm an cdv ct us hl => match us, hl with
  | [_], _ => rfl
theorem b22 : BindsL d22 := fun kV doc pm an cdv ct us hl => match us, hl with
  | [_, _], _ => rfl
theorem b23 : BindsL d23 := fun kV doc pm an cdv ct us hl => match us, hl with
  | [_, _], _ => rfl
theorem b24 : BindsL d24 := fun kV doc pm an cdv ct us hl => match us, hl with
  | [_, _, _], _ => rfl
theorem b25 : BindsL d25 := fun kV doc pm an cdv ct us hl => match us, hl with
  | [_, _], _ => rfl
theorem b26 : BindsL d26 := fun kV doc pm an cdv ct us hl => match us, hl with
  | [_], _ => rfl
theorem b27 : BindsL d27 := fun kV doc pm an cdv ct us hl => match us, hl with
  | [_, _], _ => rfl
theorem b28 : BindsL d28 := fun kV doc pm an cdv ct us hl => match us, hl with
  | [_], _ => rfl
theorem b29 : BindsL d29 := fun kV doc pm an cdv ct us hl => match us, hl with
  | [_, _], _ => rfl
theorem b30 : BindsL d30 := fun kV doc pm an cdv ct us hl => match us, hl with
  | [_, _], _ => rfl
theorem b31 : BindsL d31 := fun kV doc pm an cdv ct us hl => match us, hl with
  | [_, _], _ => rfl
theorem b32 : BindsL d32 := fun kV doc pm an cdv ct us hl => match us, hl with
  | [_, _], _ => rfl
theorem b33 : BindsL d33 := fun kV doc pm an cdv ct us hl => match us, hl with
  | [_, _], _ => rfl
theorem b34 : BindsL d34 := fun kV doc pm an cdv ct us hl => match us, hl with
  | [_, _], _ => rfl
theorem b35 : BindsL d35 := fun kV doc pm an cdv ct us hl => match us, hl with
  | [_, _, _], _ => rfl
theorem b36 : BindsL d36 := fun kV doc pm an cdv ct us hl => match us, hl with
  | [_, _, _], _ => rfl
theorem b37 : BindsL d37 := fun kV doc pm an cdv ct us hl => match us, hl with
  | [_, _, _, _], _ => rfl
theorem b38 : BindsL d38 := fun kV doc pm an cdv ct us hl => match us, hl with
  | [_], _ => rfl
theorem b39 : BindsL d39 := fun kV doc pm an cdv ct us hl => match us, hl with
  | [_], _ => rfl
theorem b40 : BindsL d40 := fun kV doc pm an cdv ct us hl => match us, hl with
  | [_, _, _, _], _ => rfl
theorem b41 : BindsL d41 := fun kV doc pm an cdv ct us hl => match us, hl with
  | [_], _ => rfl
theorem b42 : BindsL d42 := fun kV doc pm an cdv ct us hl => match us, hl with
  | [_, _, _], _ => rfl
theorem b43 : BindsL d43 := fun kV doc pm an cdv ct us hl => match us, hl with
  | [_, _], _ => rfl
theorem b44 : BindsL d44 := fun kV doc pm an cdv ct us hl => match us, hl with
  | [_, _], _ => rfl
theorem b45 : BindsL d45 := fun kV doc pm an cdv ct us hl => match us, hl with
  | [_, _], _ => rfl
theorem b46 : BindsL d46 := fun kV doc pm an cdv ct us hl => match us, hl with
  | [_], _ => rfl
theorem b47 : BindsL d47 := fun kV doc pm an cdv ct us hl => match us, hl with
  | [_], _ => rfl
theorem sc_all : ∀ d ∈ fs, FnScope d.N d.ps d.scope := by
  intro d hd
  simp only [fs, List.mem_cons, List.not_mem_nil, or_false] at hd
  rcases hd with rfl | rfl | rfl | rfl | rfl | rfl | rfl | rfl | rfl | rfl | rfl | rfl | rfl | rfl | rfl | rfl | rfl | rfl | rfl | rfl | rfl | rfl | rfl | rfl | rfl | rfl | rfl | rfl | rfl | rfl | rfl | rfl | rfl | rfl | rfl | rfl | rfl | rfl | rfl | rfl | rfl | rfl | rfl | rfl | rfl | rfl | rfl | rfl
  all_goals exact ⟨rfl, rfl, rfl, by decide +kernel, rfl, by decide +kernel, by decide +kernel⟩
end K02
set_option Elab.async false -- ev
set_option linter.all false -- ev
set_option maxRecDepth 100000 -- ev
set_option maxHeartbeats 4000000 -- ev
set_option autoImplicit false -- ev
/-! What is whole, below, many. -/
namespace M02
open PySem Ev
def pln : D → Bool
  | .cell _ => false
  | .ty _ => false
  | _ => true
theorem der {d : D} (st : Store) (h : pln d = true) : deref st d = d := by cases d <;> first | rfl | exact Bool.noConfusion h
def isW : D → Bool
  | .int _ => true
  | _ => false
theorem whole_ok (l : Nat) (d : D) (h : pln d = true) (st : Store) : Q (l + 1) 0 [d] st = .ok (.bl (isW d)) st := by
  rw [u0]
  cases d <;> first | exact Bool.noConfusion h | simp [L0, semF, sSeq, sSkip, sRet, sRetN, thenS, kp, rd, RV.d, M.bind, M.pure, M.bad, M.rdr, M.opt', M.cell, M.act, sVar, sC, sNil, sCons, sTup, sLst, sBin, sUn, sCall, sBinS, sChain, sAndT, sOrT, sNotT, sAndV, sOrV, sNotV, sIf, sBoolT, sTru, tru, isT, deref, per, yes, sFn, sFrz, thaw, sIfS, sSet, slot, sPar, sAsgT, gN, gT, gsCons, gsNil, sLc, sLcL, sYes, M.ne, wipeE, itS, sDrop, dIsi, isiB, isW]
def isB (d : D) (j : Int) : Bool := match d with
  | .int i => decide (0 ≤ i) && decide (i < j)
  | _ => false
theorem below_ok (l : Nat) (d : D) (j : Int) (h : pln d = true) (st : Store) : Q (l + 2) 1 [d, .int j] st = .ok (.bl (isB d j)) st := by
  rw [u1]
  cases d with
  | int i =>
    have e := whole_ok l (.int i) rfl st
    by_cases h : 0 ≤ i
    · simp [L1, semF, sSeq, sSkip, sRet, sRetN, thenS, kp, rd, RV.d, M.bind, M.pure, M.bad, M.rdr, M.opt', M.cell, M.act, sVar, sC, sNil, sCons, sTup, sLst, sBin, sUn, sCall, sBinS, sChain, sAndT, sOrT, sNotT, sAndV, sOrV, sNotV, sIf, sBoolT, sTru, tru, isT, deref, per, yes, sFn, sFrz, thaw, sIfS, sSet, slot, sPar, sAsgT, gN, gT, gsCons, gsNil, sLc, sLcL, sYes, M.ne, wipeE, itS, sDrop, e, isW, isB, dLe, dLt, h]
    · simp [L1, semF, sSeq, sSkip, sRet, sRetN, thenS, kp, rd, RV.d, M.bind, M.pure, M.bad, M.rdr, M.opt', M.cell, M.act, sVar, sC, sNil, sCons, sTup, sLst, sBin, sUn, sCall, sBinS, sChain, sAndT, sOrT, sNotT, sAndV, sOrV, sNotV, sIf, sBoolT, sTru, tru, isT, deref, per, yes, sFn, sFrz, thaw, sIfS, sSet, slot, sPar, sAsgT, gN, gT, gsCons, gsNil, sLc, sLcL, sYes, M.ne, wipeE, itS, sDrop, e, isW, isB, dLe, dLt, h]
  | cell k => cases h
  | ty k => cases h
  | _ =>
    have e := whole_ok l _ h st
    simp [L1, semF, sSeq, sSkip, sRet, sRetN, thenS, kp, rd, RV.d, M.bind, M.pure, M.bad, M.rdr, M.opt', M.cell, M.act, sVar, sC, sNil, sCons, sTup, sLst, sBin, sUn, sCall, sBinS, sChain, sAndT, sOrT, sNotT, sAndV, sOrV, sNotV, sIf, sBoolT, sTru, tru, isT, deref, per, yes, sFn, sFrz, thaw, sIfS, sSet, slot, sPar, sAsgT, gN, gT, gsCons, gsNil, sLc, sLcL, sYes, M.ne, wipeE, itS, sDrop, e, isW, isB]
def isM : D → Bool
  | .int i => decide (2 ≤ i) && decide (i ≤ 5)
  | _ => false
theorem many_ok (l : Nat) (n : Int) (h1 : 2 ≤ n) (h2 : n ≤ 5) (st : Store) : Q (l + 2) 2 [.int n] st = .ok (.int n) st := by
  rw [u2]
  have e := whole_ok l (.int n) rfl st
  simp [L2, semF, sSeq, sSkip, sRet, sRetN, thenS, kp, rd, RV.d, M.bind, M.pure, M.bad, M.rdr, M.opt', M.cell, M.act, sVar, sC, sNil, sCons, sTup, sLst, sBin, sUn, sCall, sBinS, sChain, sAndT, sOrT, sNotT, sAndV, sOrV, sNotV, sIf, sBoolT, sTru, tru, isT, deref, per, yes, sFn, sFrz, thaw, sIfS, sSet, slot, sPar, sAsgT, gN, gT, gsCons, gsNil, sLc, sLcL, sYes, M.ne, wipeE, itS, sDrop, e, isW, dLe, h1, h2]
theorem many_bad (l : Nat) (d : D) (hp : pln d = true) (h : isM d = false) (st : Store) : Q (l + 2) 2 [d] st = .exc "BadMany" [d] st := by
  rw [u2]
  cases d with
  | int i =>
    have e := whole_ok l (.int i) rfl st
    by_cases h1 : 2 ≤ i
    · have h2 : ¬ i ≤ 5 := by simpa [isM, h1] using h
      simp [L2, semF, sSeq, sSkip, sRet, sRetN, thenS, kp, rd, RV.d, M.bind, M.pure, M.bad, M.rdr, M.opt', M.cell, M.act, sVar, sC, sNil, sCons, sTup, sLst, sBin, sUn, sCall, sBinS, sChain, sAndT, sOrT, sNotT, sAndV, sOrV, sNotV, sIf, sBoolT, sTru, tru, isT, deref, per, yes, sFn, sFrz, thaw, sIfS, sSet, slot, sPar, sAsgT, gN, gT, gsCons, gsNil, sLc, sLcL, sYes, M.ne, wipeE, itS, sDrop, e, isW, dLe, h1, h2, sRaise]
    · simp [L2, semF, sSeq, sSkip, sRet, sRetN, thenS, kp, rd, RV.d, M.bind, M.pure, M.bad, M.rdr, M.opt', M.cell, M.act, sVar, sC, sNil, sCons, sTup, sLst, sBin, sUn, sCall, sBinS, sChain, sAndT, sOrT, sNotT, sAndV, sOrV, sNotV, sIf, sBoolT, sTru, tru, isT, deref, per, yes, sFn, sFrz, thaw, sIfS, sSet, slot, sPar, sAsgT, gN, gT, gsCons, gsNil, sLc, sLcL, sYes, M.ne, wipeE, itS, sDrop, e, isW, dLe, h1, sRaise]
  | cell k => cases hp
  | ty k => cases hp
  | _ =>
    have e := whole_ok l _ hp st
    simp [L2, semF, sSeq, sSkip, sRet, sRetN, thenS, kp, rd, RV.d, M.bind, M.pure, M.bad, M.rdr, M.opt', M.cell, M.act, sVar, sC, sNil, sCons, sTup, sLst, sBin, sUn, sCall, sBinS, sChain, sAndT, sOrT, sNotT, sAndV, sOrV, sNotV, sIf, sBoolT, sTru, tru, isT, deref, per, yes, sFn, sFrz, thaw, sIfS, sSet, slot, sPar, sAsgT, gN, gT, gsCons, gsNil, sLc, sLcL, sYes, M.ne, wipeE, itS, sDrop, e, isW, sRaise]
theorem size_ge : 1000 ≤ sizeLine := by unfold sizeLine; decide
def val : D → Int
  | .int i => i
  | _ => 0
theorem val_map (l : List Int) : (l.map D.int).map val = l := by
  rw [List.map_map]
  exact List.map_id l
theorem sum_map {α : Type} (f : α → Int) (L : List α) : dSum [.lst (L.map fun a => .int (f a))] = some (.per (.int (L.map f).sum)) := by
  have e : L.map (fun a => D.int (f a)) = (L.map f).map D.int := by simp
  rw [e]
  unfold dSum
  dsimp only
  rw [ints_map]
  rfl
theorem all_map {α : Type} (f : α → Bool) (l : List α) : dAll [.lst (l.map fun a => D.bl (f a))] = some (.per (.bl (l.all f))) := by
  have e : l.map (fun a => D.bl (f a)) = (l.map f).map D.bl := by simp
  rw [e]
  unfold dAll
  dsimp only
  rw [bools_map]
  simp [yes, per]
theorem eqvs_ints : ∀ a b : List Int, D.eqvs (a.map .int) (b.map .int) = decide (a = b)
  | [], [] => by simp [D.eqvs]
  | [], _ :: _ => by simp [D.eqvs]
  | _ :: _, [] => by simp [D.eqvs]
  | x :: a, y :: b => by
    have h := eqvs_ints a b
    simp only [List.map_cons, D.eqvs, D.eqv, h]
    by_cases h1 : x = y <;> by_cases h2 : a = b <;> simp [h1, h2]
theorem pls_tups (l : Nat) : ∀ L : List (List Int), D.pls (l + 1) (L.map fun r => D.tup (r.map .int)) = true
  | [] => by simp [D.pls]
  | r :: L => by simp only [List.map_cons, D.pls, D.pl, pls_ints, pls_tups l L, Bool.and_self]
theorem rng_len (lo : Int) (n : Nat) : (rngD lo n).length = n := by simp [rngD]
end M02
set_option Elab.async false -- ev
set_option linter.all false -- ev
set_option maxRecDepth 100000 -- ev
set_option maxHeartbeats 4000000 -- ev
set_option autoImplicit false -- ev
/-! What is drawn. -/
namespace M02
open PySem Ev
theorem lg_nn {x : Int} {k : Nat} (h0 : 0 ≤ x) (h : x.toNat < 2 ^ k) : lg x k := by
  unfold lg
  omega
theorem mod_ok (i : Int) {j : Int} (h : 0 < j) : dMod (.int i) (.int j) = some (.per (.int (i % j))) := by
  unfold dMod
  dsimp only
  rw [if_pos h]
  rfl
theorem mix_ok (l : Nat) (x : Int) (k : Nat) (hk : k ≤ 3000) (st : Store) : ∃ v, Q (l + 1) 20 [.int x, .int (k : Int)] st = .ok (.int v) st ∧ 0 ≤ v ∧ v < 2147483629 := by
  rw [u20]
  have p31 : (2 : Nat) ^ 31 = 2147483648 := by decide
  have hx0 : 0 ≤ x % 2147483647 := Int.emod_nonneg _ (by decide)
  have hx1 : x % 2147483647 < 2147483647 := Int.emod_lt_of_pos _ (by decide)
  generalize hy : x % 2147483647 = y at hx0 hx1
  have ec : ((2 * k * k : Nat) : Int) = 2 * (k : Int) * (k : Int) := by simp
  have kk : (2 * (k : Int)) * (k : Int) ≤ 18000000 := by
    have h : 2 * k * k ≤ 2 * 3000 * 3000 := Nat.mul_le_mul (Nat.mul_le_mul_left 2 hk) hk
    omega
  have kk0 : 0 ≤ (2 * (k : Int)) * (k : Int) := by omega
  have m1 : dMulA (.int 2) (.int (k : Int)) = some (.per (.int (2 * (k : Int)))) := mulA_lg (lg_nn (k := 31) (by omega) (by omega)) (lg_nn (k := 31) (by omega) (by omega)) (by omega)
  have m2 : dMulA (.int (2 * (k : Int))) (.int (k : Int)) = some (.per (.int (2 * (k : Int) * (k : Int)))) := mulA_lg (lg_nn (k := 31) (by omega) (by omega)) (lg_nn (k := 31) (by omega) (by omega)) (by omega)
  generalize hz : 2 * (k : Int) * (k : Int) = z at kk kk0 m2
  have m3 : dMulA (.int y) (.int (48271 + z)) = some (.per (.int (y * (48271 + z)))) := mulA_lg (lg_nn (k := 31) (by omega) (by omega)) (lg_nn (k := 31) (by omega) (by omega)) (by omega)
  have m4 : dMulA (.int 69621) (.int (k : Int)) = some (.per (.int (69621 * (k : Int)))) := mulA_lg (lg_nn (k := 31) (by omega) (by omega)) (lg_nn (k := 31) (by omega) (by omega)) (by omega)
  generalize hu : y * (48271 + z) + 69621 * (k : Int) + 11 = u
  have hu0 : 0 ≤ u % 2147483647 := Int.emod_nonneg _ (by decide)
  have hu1 : u % 2147483647 < 2147483647 := Int.emod_lt_of_pos _ (by decide)
  have m5 : dMulA (.int (u % 2147483647)) (.int 69621) = some (.per (.int (u % 2147483647 * 69621))) := mulA_lg (lg_nn (k := 31) (by omega) (by omega)) (lg_nn (k := 31) (by omega) (by omega)) (by omega)
  refine ⟨u % 2147483647 * 69621 % 2147483629, ?_, Int.emod_nonneg _ (by decide), Int.emod_lt_of_pos _ (by decide)⟩
  have a1 : dAdd (.int (y * (48271 + z))) (.int (69621 * (k : Int))) = some (.per (.int (y * (48271 + z) + 69621 * (k : Int)))) := rfl
  have a2 : dAdd (.int (y * (48271 + z) + 69621 * (k : Int))) (.int 11) = some (.per (.int u)) := by rw [← hu]; rfl
  have a3 : dAdd (.int 48271) (.int z) = some (.per (.int (48271 + z))) := rfl
  have b1 := mod_ok x (show (0 : Int) < 2147483647 by decide)
  rw [hy] at b1
  have b2 := mod_ok u (show (0 : Int) < 2147483647 by decide)
  have b3 := mod_ok (u % 2147483647 * 69621) (show (0 : Int) < 2147483629 by decide)
  refine f_rt rfl (s_seq (s_set (s := .val (.int y)) (w_bin (w_rd (w_call (w_cons (w_rd (w_var rfl)) w_nil) rfl)) (w_rd w_c) b1) rfl rfl) (s_seqR (s_ret ?_)))
  repeat' (first | exact w_c | exact w_nil | exact s_skip | exact t_yes | exact w_pn | exact w_var rfl | with_reducible apply w_rd | with_reducible apply w_kpl | with_reducible apply w_kp | with_reducible apply w_cons | with_reducible apply w_bin | with_reducible apply w_binS | with_reducible apply w_call | with_reducible apply w_un | with_reducible apply w_fn | with_reducible apply w_fnD | with_reducible apply w_fnK | with_reducible apply w_tup | with_reducible apply w_lst | with_reducible apply w_ps | with_reducible apply w_slice | with_reducible apply t_bool | with_reducible apply t_not | assumption | rfl)
/-! ### what stands between two draws -/
def kc : Int ⊕ Str := Sum.inr "cells"
def kl : Int ⊕ Str := Sum.inr "lefts"
def ka : Int ⊕ Str := Sum.inr "at"
def ST (ls cs : List D) (a : Int) (R : Store) : Store := .lst ls :: .dct [(kc, .lst cs), (kl, .cell 0), (ka, .int a)] :: R
def WS (st : Store) (a : Nat) : Prop := ∃ (ls cs : List Int) (R : Store), st = ST (ls.map .int) (cs.map .int) a R ∧ ls.length = cs.length ∧ 0 < cs.length ∧ cs.length ≤ 64
variable {ls cs : List D} {a b : Int} {R : Store}
theorem g_at : ixSt (ST ls cs a R) (.cell 1) (.str "at") = some (.per (.int a)) := by kernel_rfl
theorem g_cells : ixSt (ST ls cs a R) (.cell 1) (.str "cells") = some (.per (.lst cs)) := by kernel_rfl
theorem g_lefts : ixSt (ST ls cs a R) (.cell 1) (.str "lefts") = some (.per (.cell 0)) := by kernel_rfl
theorem p_at : setSt (.cell 1) (.str "at") (.int b) (ST ls cs a R) = some ((), ST ls cs b R) := by kernel_rfl
theorem ix_lst (c : List Int) (k : Int) (h0 : 0 ≤ k) (h : k < c.length) : dIx (.lst (c.map .int)) (.int k) = some (.per (.int (c.getD k.toNat 0))) := by
  have e1 : L2.ixN (c.map D.int).length k = some k.toNat := by
    unfold L2.ixN
    rw [if_pos h0, if_pos (by rw [List.length_map]; omega)]
  have e2 : k.toNat < c.length := by omega
  unfold dIx
  dsimp only
  unfold L2.atI
  rw [e1]
  simp [e2]
theorem g_left (c : List Int) (k : Int) (h0 : 0 ≤ k) (h : k < c.length) : ixSt (ST (c.map .int) cs a R) (.cell 0) (.int k) = some (.per (.int (c.getD k.toNat 0))) := (show _ = dIx (.lst (c.map .int)) (.int k) from rfl).trans (ix_lst c k h0 h)
theorem g_cell (st : Store) (c : List Int) (k : Int) (h0 : 0 ≤ k) (h : k < c.length) : ixSt st (.lst (c.map .int)) (.int k) = some (.per (.int (c.getD k.toNat 0))) := (show _ = dIx (.lst (c.map .int)) (.int k) from rfl).trans (ix_lst c k h0 h)
theorem p_left (c : List Int) (k v : Int) (h0 : 0 ≤ k) (h : k < c.length) : setSt (.cell 0) (.int k) (.int v) (ST (c.map .int) cs a R) = some ((), ST ((c.set k.toNat v).map .int) cs a R) := by
  have e1 : L2.ixN (c.map D.int).length k = some k.toNat := by
    unfold L2.ixN
    rw [if_pos h0, if_pos (by rw [List.length_map]; omega)]
  show (L2.ixN (c.map D.int).length k).map (fun n => ((), (ST (c.map .int) cs a R).set 0 (.lst ((c.map D.int).set n (.int v))))) = _
  rw [e1]
  show some ((), (ST (c.map .int) cs a R).set 0 (.lst ((c.map D.int).set k.toNat (.int v)))) = _
  rw [← List.map_set]
  rfl
theorem div_ok (i : Int) {j : Int} (h : 0 < j) (h2 : j ≤ 1000) : dDiv (.int i) (.int j) = some (.per (.int (i / j))) := by
  have e10 : (2 : Nat) ^ 10 = 1024 := by decide
  have h3 := lg_log (x := j) (k := 10) (lg_nn (by omega) (by omega))
  unfold dDiv
  dsimp only
  rw [if_pos ⟨h, by omega⟩]
  rfl
theorem s_setIx {ρ : Env'} {st st' : Store} {f fo fi : Env' → M D} {d o i : D} (h : f ρ st = .ok d st) (h1 : fo ρ st = .ok o st) (h2 : fi ρ st = .ok i st) (h3 : setSt o i d st = some ((), st')) : sSetIx f fo fi ρ st = .nx ρ st' := by
  unfold sSetIx thenS M.bind M.act
  dsimp only
  rw [h]
  dsimp only
  rw [h1]
  dsimp only
  rw [h2]
  dsimp only
  rw [h3]
theorem draw_ok (l : Nat) {st : Store} {a : Nat} (ha : a ≤ 2900) {m : Int} (hm : 0 < m) (hm2 : m ≤ 1000) (ws : WS st a) : ∃ v st', Q (l + 2) 22 [.cell 1, .int m] st = .ok (.int v) st' ∧ 0 ≤ v ∧ v < m ∧ WS st' (a + 1) := by
  obtain ⟨ls, cs, R, rfl, hlen, hpos, h64⟩ := ws
  rw [u22]
  have hp0 : 0 ≤ (a : Int) % (cs.length : Int) := Int.emod_nonneg _ (by omega)
  have hp1 : (a : Int) % (cs.length : Int) < cs.length := Int.emod_lt_of_pos _ (by omega)
  generalize hp : (a : Int) % (cs.length : Int) = p at hp0 hp1
  have hq1 : p < ls.length := by omega
  have ea : dAdd (.int (a : Int)) (.int 1) = some (.per (.int ((a + 1 : Nat) : Int))) := rfl
  have el : dLen [.lst (cs.map .int)] = some (.per (.int (cs.length : Int))) := by simp [dLen, per]
  have em := mod_ok (a : Int) (show (0 : Int) < (cs.length : Int) by omega)
  rw [hp] at em
  have e1 : sSetN 0 (kp (sBin dAdd (rd (sVar 2)) (rd (sC (.int 1))))) (rd (sC (.str "at"))) [.val (.cell 1), .val (.int m), .val (.int (a : Int)), .un, .un, .un] (ST (ls.map .int) (cs.map .int) a R) = .nx [.val (.cell 1), .val (.int m), .val (.int (a : Int)), .un, .un, .un] (ST (ls.map .int) (cs.map .int) ((a + 1 : Nat) : Int) R) := by
    show sSetIx _ (rd (sVar 0)) _ _ _ = _
    exact s_setIx (w_kp (w_bin (w_rd (w_var rfl)) (w_rd w_c) ea)) (w_rd (w_var rfl)) (w_rd w_c) p_at
  have e2 : sSet 3 (sBin dMod (rd (sCall dInt (sCons (rd (sVar 2)) sNil))) (rd (sCall dLen (sCons (rd (sBinS ixSt (rd (sVar 0)) (rd (sC (.str "cells"))))) sNil)))) [.val (.cell 1), .val (.int m), .val (.int (a : Int)), .un, .un, .un] (ST (ls.map .int) (cs.map .int) ((a + 1 : Nat) : Int) R) = .nx [.val (.cell 1), .val (.int m), .val (.int (a : Int)), .val (.int p), .un, .un] (ST (ls.map .int) (cs.map .int) ((a + 1 : Nat) : Int) R) :=
    s_set (s := .val (.int p)) (w_bin (w_rd (w_call (w_cons (w_rd (w_var rfl)) w_nil) rfl)) (w_rd (w_call (w_cons (w_rd (w_binS (w_rd (w_var rfl)) (w_rd w_c) g_cells)) w_nil) el)) em) rfl rfl
  have e3 : sSet 4 (sBinS ixSt (rd (sBinS ixSt (rd (sVar 0)) (rd (sC (.str "lefts"))))) (rd (sVar 3))) [.val (.cell 1), .val (.int m), .val (.int (a : Int)), .val (.int p), .un, .un] (ST (ls.map .int) (cs.map .int) ((a + 1 : Nat) : Int) R) = .nx [.val (.cell 1), .val (.int m), .val (.int (a : Int)), .val (.int p), .val (.int (ls.getD p.toNat 0)), .un] (ST (ls.map .int) (cs.map .int) ((a + 1 : Nat) : Int) R) :=
    s_set (s := .val (.int (ls.getD p.toNat 0))) (w_binS (w_rd (w_binS (w_rd (w_var rfl)) (w_rd w_c) g_lefts)) (w_rd (w_var rfl)) (g_left ls p hp0 hq1)) rfl rfl
  generalize hL : ls.getD p.toNat 0 = L at e3
  by_cases hL0 : 0 < L
  · refine ⟨L % m, ST ((ls.set p.toNat (L / m)).map .int) (cs.map .int) ((a + 1 : Nat) : Int) R, ?_, Int.emod_nonneg _ (by omega), Int.emod_lt_of_pos _ hm, ls.set p.toNat (L / m), cs, R, rfl, by simpa using hlen, hpos, h64⟩
    have ed := div_ok L hm hm2
    have eg : dGt (.int L) (.int 0) = some (.per (.bl true)) := by simp [dGt, hL0]; rfl
    have e4 : sSetIx (kp (sBin dDiv (rd (sVar 4)) (rd (sVar 1)))) (rd (sBinS ixSt (rd (sVar 0)) (rd (sC (.str "lefts"))))) (rd (sVar 3)) [.val (.cell 1), .val (.int m), .val (.int (a : Int)), .val (.int p), .val (.int L), .un] (ST (ls.map .int) (cs.map .int) ((a + 1 : Nat) : Int) R) = .nx [.val (.cell 1), .val (.int m), .val (.int (a : Int)), .val (.int p), .val (.int L), .un] (ST ((ls.set p.toNat (L / m)).map .int) (cs.map .int) ((a + 1 : Nat) : Int) R) :=
      s_setIx (w_kp (w_bin (w_rd (w_var rfl)) (w_rd (w_var rfl)) ed)) (w_rd (w_binS (w_rd (w_var rfl)) (w_rd w_c) g_lefts)) (w_rd (w_var rfl)) (p_left ls p (L / m) hp0 hq1)
    refine f_rt rfl (s_seq (s_set (s := .val (.int (a : Int))) (w_binS (w_rd (w_var rfl)) (w_rd w_c) g_at) rfl rfl) (s_seq e1 (s_seq e2 (s_seq e3 (s_seqR (s_ifT (t_bool (w_bin (w_rd (w_var rfl)) (w_rd w_c) eg)) (s_seq e4 (s_seqR (s_ret (w_kp (w_bin (w_rd (w_call (w_cons (w_rd (w_var rfl)) w_nil) rfl)) (w_rd (w_var rfl)) (mod_ok L hm)))))))))))) 
  · have eg : dGt (.int L) (.int 0) = some (.per (.bl false)) := by simp [dGt, hL0]; rfl
    obtain ⟨x1, m1, m2, m3⟩ := mix_ok l (cs.getD p.toNat 0) a (by omega) (ST (ls.map .int) (cs.map .int) ((a + 1 : Nat) : Int) R)
    obtain ⟨x2, m4, m5, m6⟩ := mix_ok l x1 (40 + a) (by omega) (ST (ls.map .int) (cs.map .int) ((a + 1 : Nat) : Int) R)
    obtain ⟨x3, m7, m8, m9⟩ := mix_ok l x2 (7 + a) (by omega) (ST (ls.map .int) (cs.map .int) ((a + 1 : Nat) : Int) R)
    have p31 : (2 : Nat) ^ 31 = 2147483648 := by decide
    have mm : dMulA (.int x2) (.int 2147483647) = some (.per (.int (x2 * 2147483647))) := mulA_lg (lg_nn (k := 31) (by omega) (by omega)) (lg_nn (k := 31) (by omega) (by omega)) (by omega)
    have a40 : dAdd (.int 40) (.int (a : Int)) = some (.per (.int ((40 + a : Nat) : Int))) := rfl
    have a7 : dAdd (.int 7) (.int (a : Int)) = some (.per (.int ((7 + a : Nat) : Int))) := rfl
    have ad : dAdd (.int (x2 * 2147483647)) (.int x3) = some (.per (.int (x2 * 2147483647 + x3))) := rfl
    generalize x2 * 2147483647 + x3 = y at ad
    have dv := div_ok y (show (0 : Int) < 64 by decide) (by decide)
    generalize y / 64 = z at dv
    have md := mod_ok z hm
    have gc := g_cell (ST (ls.map .int) (cs.map .int) ((a + 1 : Nat) : Int) R) cs p hp0 hp1
    refine ⟨z % m, ST (ls.map .int) (cs.map .int) ((a + 1 : Nat) : Int) R, ?_, Int.emod_nonneg _ (by omega), Int.emod_lt_of_pos _ hm, ls, cs, R, rfl, hlen, hpos, h64⟩
    refine f_rt rfl (s_seq (s_set (s := .val (.int (a : Int))) (w_binS (w_rd (w_var rfl)) (w_rd w_c) g_at) rfl rfl) (s_seq e1 (s_seq e2 (s_seq e3 (s_seq (s_ifF (t_bool (w_bin (w_rd (w_var rfl)) (w_rd w_c) eg)) s_skip) (s_seq (s_frz rfl (s_set (s := .val (.int x2)) (w_fn (w_cons (w_kp (w_fn (w_cons (w_kp (w_binS (w_rd (w_binS (w_rd (w_var rfl)) (w_rd w_c) g_cells)) (w_rd (w_var rfl)) gc)) (w_cons (w_kp (w_var rfl)) w_nil)) m1)) (w_cons (w_kp (w_bin (w_rd w_c) (w_rd (w_var rfl)) a40)) w_nil)) m4) rfl rfl)) (s_seqR (s_frz rfl (s_ret ?_)))))))))
    refine w_kp (w_bin (w_rd (w_bin (w_rd (w_call (w_cons (w_rd (w_bin (w_rd (w_bin (w_rd (w_var rfl)) (w_rd w_c) mm)) (w_rd (w_fn (w_cons (w_kp (w_var rfl)) (w_cons (w_kp (w_bin (w_rd w_c) (w_rd (w_var rfl)) a7)) w_nil)) m7)) ad)) w_nil) rfl)) (w_rd w_c) dv)) (w_rd (w_var rfl)) md)
theorem begin_ok (l : Nat) (ns : List Int) (h : ns.length ≤ 63) : ∃ st, Q (l + 1) 21 [.lst (ns.map .int)] [] = .ok (.cell 1) st ∧ WS st 0 := by
  rw [u21]
  obtain ⟨cs, hcs, hpos, h64⟩ : ∃ cs : List Int, sSet 1 (sIf (sBoolT (sBin dNe (rd (sVar 0)) (rd (sLst sNil)))) (sCall dList (sCons (rd (sVar 0)) sNil)) (sLst (sCons (kp (sC (.int 0))) sNil))) [.val (.lst (ns.map .int)), .un, .un] [] = .nx [.val (.lst (ns.map .int)), .own (cs.map .int), .un] [] ∧ 0 < cs.length ∧ cs.length ≤ 64 := by
    have ne : dNe (.lst (ns.map .int)) (.lst []) = some (.per (.bl (!decide (ns = [])))) := by
      have e1 := eqvs_ints ns []
      have e2 : D.pl 60 (.lst (ns.map .int)) = true := pls_ints 59 ns
      unfold dNe
      dsimp only
      rw [if_pos ⟨e2, rfl⟩]
      unfold D.eqv
      rw [List.map_nil] at e1
      rw [e1]
      rfl
    by_cases hn : ns = []
    · subst hn
      exact ⟨[0], s_set (s := .own [.int 0]) (w_ifF (t_bool (w_bin (w_rd (w_var rfl)) (w_rd (w_lst w_nil (Nat.zero_le _))) (ne.trans rfl))) (w_lst (w_cons (w_kp w_c) w_nil) (by have := size_ge; simp; omega))) rfl rfl, by decide, by decide⟩
    · refine ⟨ns, s_set (s := .own (ns.map .int)) (w_ifT (t_bool (w_bin (w_rd (w_var rfl)) (w_rd (w_lst w_nil (Nat.zero_le _))) (ne.trans (by simp [hn])))) (w_call (w_cons (w_rd (w_var rfl)) w_nil) rfl)) rfl rfl, ?_, by omega⟩
      cases ns with
      | nil => exact absurd rfl hn -- ev
      | cons _ _ => simp
  have pw : dPow (.int 10) (.int 18) = some (.per (.int 1000000000000000000)) := by kernel_rfl
  have e2 : sLcL (gN 2) sYes (kp (sIf (sBoolT (sBin dGe (rd (sVar 2)) (rd (sBin dPow (rd (sC (.int 10))) (rd (sC (.int 18))))))) (sVar 2) (sC (.int 0)))) [.val (.lst (ns.map .int)), .val (.lst (cs.map .int)), .un] (cs.map .int) [] [] = .ok ([] ++ (cs.map .int).map fun d => .int (if 1000000000000000000 ≤ val d then val d else 0)) [] := by
    refine lc_map _ _ (fun d hd => ?_) (by have := size_ge; simp; omega)
    obtain ⟨i, hi, rfl⟩ := List.mem_map.1 hd
    refine ⟨[.val (.lst (ns.map .int)), .val (.lst (cs.map .int)), .val (.int i)], rfl, rfl, ?_⟩
    have ge : dGe (.int i) (.int 1000000000000000000) = some (.per (.bl (decide ((1000000000000000000 : Int) ≤ i)))) := rfl
    by_cases hi : (1000000000000000000 : Int) ≤ i
    · rw [decide_eq_true hi] at ge
      rw [show val (.int i) = i from rfl, if_pos hi]
      exact w_kp (w_ifT (t_bool (w_bin (w_rd (w_var rfl)) (w_rd (w_bin (w_rd w_c) (w_rd w_c) pw)) ge)) (w_var rfl))
    · rw [decide_eq_false hi] at ge
      rw [show val (.int i) = i from rfl, if_neg hi]
      exact w_kp (w_ifF (t_bool (w_bin (w_rd (w_var rfl)) (w_rd (w_bin (w_rd w_c) (w_rd w_c) pw)) ge)) w_c)
  refine ⟨ST ((cs.map fun i => if 1000000000000000000 ≤ i then i else 0).map .int) (cs.map .int) ((0 : Nat) : Int) [], ?_, ⟨_, cs, [], rfl, by simp, hpos, h64⟩⟩
  have e3 : ([] : List D) ++ (cs.map D.int).map (fun d => D.int (if 1000000000000000000 ≤ val d then val d else 0)) = (cs.map fun i => if (1000000000000000000 : Int) ≤ i then i else 0).map .int := by
    rw [List.nil_append, List.map_map, List.map_map]
    rfl
  rw [e3] at e2
  refine f_rt rfl (s_seq hcs (s_seqR (s_frz (ρ' := [.val (.lst (ns.map .int)), .val (.lst (cs.map .int)), .un]) rfl (s_ret (w_kp ?_)))))
  have e4 := w_cons (w_kp (w_var (ρ := [.val (.lst (ns.map .int)), .val (.lst (cs.map .int)), .un]) (st := []) (i := 1) (r := .per (.lst (cs.map .int))) rfl)) (w_cons (w_kp (w_toCell (w_lc (vs := [2]) (i_lst (w_kp (w_var (i := 1) (r := .per (.lst (cs.map .int))) rfl))) e2))) (w_cons (w_kp (w_c (d := .int 0))) w_nil))
  unfold sDict M.bind
  dsimp only
  rw [show (sCons (kp (sVar 1)) (sCons (kp (toCell (sLc (itS (kp (sVar 1))) (gN 2) sYes (kp (sIf (sBoolT (sBin dGe (rd (sVar 2)) (rd (sBin dPow (rd (sC (.int 10))) (rd (sC (.int 18))))))) (sVar 2) (sC (.int 0)))) [2]))) (sCons (kp (sC (.int 0))) sNil))) [.val (.lst (ns.map .int)), .val (.lst (cs.map .int)), .un] [] = _ from e4]
  rfl
theorem lc_draw {g : D → Env' → Option Env'} {el : Env' → M D} {P : Int → Prop} {ρ : Env'} : ∀ (ds acc : List D) (st : Store) (a : Nat), (∀ d ∈ ds, ∀ (st : Store) (a : Nat), WS st a → a ≤ 2900 → ∃ ρ1 v st', g d ρ = some ρ1 ∧ el ρ1 st = .ok (.int v) st' ∧ P v ∧ WS st' (a + 1)) → WS st a → a + ds.length ≤ 2900 → acc.length + ds.length ≤ 1000 →
    ∃ (vs : List Int) (st' : Store), sLcL g sYes el ρ ds acc st = .ok (acc ++ vs.map .int) st' ∧ vs.length = ds.length ∧ (∀ v ∈ vs, P v) ∧ WS st' (a + ds.length)
  | [], acc, st, a, _, ws, _, _ => ⟨[], st, by simp [sLcL, M.pure], rfl, by simp, ws⟩
  | d :: ds, acc, st, a, h, ws, ha, hl => by
    have ha : a + (ds.length + 1) ≤ 2900 := ha
    have hl : acc.length + (ds.length + 1) ≤ 1000 := hl
    obtain ⟨ρ1, v, st1, e1, e2, e3, ws1⟩ := h d (by simp) st a ws (by omega)
    obtain ⟨vs, st2, e4, e5, e6, ws2⟩ := lc_draw ds (acc ++ [.int v]) st1 (a + 1) (fun e he => h e (List.mem_cons_of_mem _ he)) ws1 (by omega) (by simp; omega)
    refine ⟨v :: vs, st2, ?_, by simp [e5], ?_, ?_⟩
    · unfold sLcL
      rw [e1]
      dsimp only
      rw [bok (nok (show sYes ρ1 st = .ok true st from rfl))]
      refine iteT ?_
      rw [bok (nok e2)]
      refine iteP (by have := size_ge; omega) ?_
      rw [e4]
      simp
    · intro x hx
      rcases List.mem_cons.1 hx with rfl | hx
      · exact e3
      · exact e6 x hx
    · rw [List.length_cons, show a + (ds.length + 1) = a + 1 + ds.length by omega]
      exact ws2
theorem of_ok (l : Nat) (ds : List D) (h0 : 0 < ds.length) (h : ds.length ≤ 100) {st : Store} {a : Nat} (ha : a ≤ 2900) (ws : WS st a) : ∃ d st', Q (l + 3) 23 [.cell 1, .lst ds] st = .ok d st' ∧ d ∈ ds ∧ WS st' (a + 1) := by
  rw [u23]
  obtain ⟨v, st1, e1, v0, v1, ws1⟩ := draw_ok l (by omega) (show (0 : Int) < (ds.length : Int) by omega) (by omega) ws
  have hv : v.toNat < ds.length := by omega
  refine ⟨ds[v.toNat], st1, ?_, List.getElem_mem hv, ws1⟩
  have e2 : ixSt st1 (.lst ds) (.int v) = some (.per ds[v.toNat]) := by
    show dIx (.lst ds) (.int v) = _
    have e3 : L2.ixN ds.length v = some v.toNat := by
      unfold L2.ixN
      rw [if_pos v0, if_pos v1]
    unfold dIx
    dsimp only
    unfold L2.atI
    rw [e3]
    simp [hv]
  exact f_rt rfl (s_seqR (s_frz rfl (s_ret (w_kp (w_binS (w_rd (w_var rfl)) (w_rd (w_fn (w_cons (w_kp (w_var rfl)) (w_cons (w_kp (w_call (w_cons (w_rd (w_var rfl)) w_nil) rfl)) w_nil)) e1)) e2)))))
theorem ws_app {st : Store} {a : Nat} (ws : WS st a) (X : Store) : WS (st ++ X) a := by
  obtain ⟨ls, cs, R, rfl, h⟩ := ws
  exact ⟨ls, cs, R ++ X, rfl, h⟩
end M02
set_option Elab.async false -- ev
set_option linter.all false -- ev
set_option maxRecDepth 100000 -- ev
set_option maxHeartbeats 4000000 -- ev
set_option autoImplicit false -- ev
/-! Sorts. -/
namespace M02
open PySem Ev
/-! ### steps that words decide -/
theorem eqsT {a b : D} {x y : Str} (ha : a = .str x) (hb : b = .str y) (h : x = y) : dEq a b = some (.per (.bl true)) := by subst ha hb; simp [dEq, yes, h]
theorem eqsF {a b : D} {x y : Str} (ha : a = .str x) (hb : b = .str y) (h : ¬ x = y) : dEq a b = some (.per (.bl false)) := by subst ha hb; simp [dEq, yes, h]
theorem inT {a b : D} {x : Str} {ws : List D} (ha : a = .str x) (hb : b = .tup ws) (h : (D.pl 60 (.str x) && D.pls 59 ws && ws.any fun z => D.eqv z (.str x)) = true) : dIn a b = some (.per (.bl true)) := by
  subst ha hb
  simp only [Bool.and_eq_true] at h -- ev
  unfold dIn dInB
  dsimp only
  rw [if_pos h.1, h.2]
  rfl
theorem inF {a b : D} {x : Str} {ws : List D} (ha : a = .str x) (hb : b = .tup ws) (h : (D.pl 60 (.str x) && D.pls 59 ws && !ws.any fun z => D.eqv z (.str x)) = true) : dIn a b = some (.per (.bl false)) := by
  subst ha hb
  simp only [Bool.and_eq_true, Bool.not_eq_true'] at h -- ev
  unfold dIn dInB
  dsimp only
  rw [if_pos h.1, h.2]
  rfl
theorem ninT {a b : D} {x : Str} {ws : List D} (ha : a = .str x) (hb : b = .tup ws) (h : (D.pl 60 (.str x) && D.pls 59 ws && !ws.any fun z => D.eqv z (.str x)) = true) : dNotIn a b = some (.per (.bl true)) := by
  subst ha hb
  simp only [Bool.and_eq_true, Bool.not_eq_true'] at h -- ev
  unfold dNotIn dInB
  dsimp only
  rw [if_pos h.1, h.2]
  rfl
theorem ninF {a b : D} {x : Str} {ws : List D} (ha : a = .str x) (hb : b = .tup ws) (h : (D.pl 60 (.str x) && D.pls 59 ws && ws.any fun z => D.eqv z (.str x)) = true) : dNotIn a b = some (.per (.bl false)) := by
  subst ha hb
  simp only [Bool.and_eq_true] at h -- ev
  unfold dNotIn dInB
  dsimp only
  rw [if_pos h.1, h.2]
  rfl
theorem lv {P : Nat → Prop} {k : Nat} (h : ∀ l, P (l + k)) {m : Nat} (hm : k ≤ m) : P m := by
  obtain ⟨l, rfl⟩ : ∃ l, m = l + k := ⟨m - k, by omega⟩
  exact h l
/-! ### the type of sorts -/
inductive W0 where
  | none | one | trees | rooted
inductive W1 where
  | subset | bag | rounds
inductive W2 where
  | list | family | heap
inductive W3 where
  | either | pair
inductive S where
  | c0 (w : W0)
  | c1 (w : W1) (k : Nat)
  | c2 (w : W2) (k : Nat) (a : S)
  | c3 (w : W3) (a b : S)
def W0.s : W0 → D
  | .none => .str "none"
  | .one => .str "one"
  | .trees => .str "trees"
  | .rooted => .str "rooted"
def W1.s : W1 → D
  | .subset => .str "subset"
  | .bag => .str "bag"
  | .rounds => .str "rounds"
def W2.s : W2 → D
  | .list => .str "list"
  | .family => .str "family"
  | .heap => .str "heap"
def W3.s : W3 → D
  | .either => .str "either"
  | .pair => .str "pair"
def S.d : S → D
  | .c0 w => .tup [w.s]
  | .c1 w k => .tup [w.s, .int (k : Int)]
  | .c2 w k a => .tup [w.s, .int (k : Int), a.d]
  | .c3 w a b => .tup [w.s, a.d, b.d]
def S.depth : S → Nat
  | .c0 _ => 1
  | .c1 _ _ => 1
  | .c2 _ _ a => a.depth + 1
  | .c3 _ a b => max a.depth b.depth + 1
def S.parts : S → Nat
  | .c0 _ => 1
  | .c1 _ _ => 1
  | .c2 _ _ a => a.parts + 1
  | .c3 _ a b => a.parts + b.parts + 1
def S.single : S → Bool
  | .c0 .none => true
  | .c0 .one => true
  | .c0 _ => false
  | .c1 .subset _ => true
  | .c1 _ _ => false
  | .c2 _ _ _ => false
  | .c3 .either a b => a.single && b.single
  | .c3 .pair _ _ => false
theorem S.depth_pos (s : S) : 1 ≤ s.depth := by cases s <;> simp [S.depth]
theorem S.parts_pos (s : S) : 1 ≤ s.parts := by cases s <;> simp [S.parts]
/-! ### the inner parts -/
theorem ii0 (w : W0) (l : Nat) (st : Store) : Q (l + 1) 3 [.tup [w.s]] st = .ok (.lst []) st := by cases w <;> kernel_rfl
theorem ii1 (w : W1) (k : D) (l : Nat) (st : Store) : Q (l + 1) 3 [.tup [w.s, k]] st = .ok (.lst []) st := by cases w <;> kernel_rfl
theorem ii2 (w : W2) (k a : D) (l : Nat) (st : Store) : Q (l + 1) 3 [.tup [w.s, k, a]] st = .ok (.lst [.int 2]) st := by cases w <;> kernel_rfl
theorem ii3 (w : W3) (a b : D) (l : Nat) (st : Store) : Q (l + 1) 3 [.tup [w.s, a, b]] st = .ok (.lst [.int 1, .int 2]) st := by cases w <;> kernel_rfl
theorem ip0 (w : W0) (l : Nat) (st : Store) : Q (l + 2) 4 [.tup [w.s]] st = .ok (.lst []) st := by cases w <;> kernel_rfl
theorem ip1 (w : W1) (k : D) (l : Nat) (st : Store) : Q (l + 2) 4 [.tup [w.s, k]] st = .ok (.lst []) st := by cases w <;> kernel_rfl
theorem ip2 (w : W2) (k a : D) (l : Nat) (st : Store) : Q (l + 2) 4 [.tup [w.s, k, a]] st = .ok (.lst [a]) st := by cases w <;> kernel_rfl
theorem ip3 (w : W3) (a b : D) (l : Nat) (st : Store) : Q (l + 2) 4 [.tup [w.s, a, b]] st = .ok (.lst [a, b]) st := by cases w <;> kernel_rfl
/-! ### forms -/
def okN : W1 → Nat → Bool
  | .rounds, k => decide (1 ≤ k) && decide (k ≤ 2)
  | _, k => decide (k ≤ 12)
theorem le12 {P : Nat → Prop} (h : P 0 ∧ P 1 ∧ P 2 ∧ P 3 ∧ P 4 ∧ P 5 ∧ P 6 ∧ P 7 ∧ P 8 ∧ P 9 ∧ P 10 ∧ P 11 ∧ P 12) {k : Nat} (hk : k ≤ 12) : P k := by
  obtain ⟨h0, h1, h2, h3, h4, h5, h6, h7, h8, h9, h10, h11, h12⟩ := h
  match k, hk with
  | 0, _ => exact h0
  | 1, _ => exact h1
  | 2, _ => exact h2
  | 3, _ => exact h3
  | 4, _ => exact h4
  | 5, _ => exact h5
  | 6, _ => exact h6
  | 7, _ => exact h7
  | 8, _ => exact h8
  | 9, _ => exact h9
  | 10, _ => exact h10
  | 11, _ => exact h11
  | 12, _ => exact h12
  | k + 13, h => omega
theorem hf0 (w : W0) (l : Nat) (st : Store) : Q (l + 4) 6 [.tup [w.s]] st = .ok (.bl true) st := by cases w <;> kernel_rfl
theorem hf1s (k : Nat) (hk : k ≤ 12) (l : Nat) (st : Store) : Q (l + 4) 6 [.tup [W1.subset.s, .int (k : Int)]] st = .ok (.bl true) st := le12 (P := fun k => Q (l + 4) 6 [.tup [W1.subset.s, .int (k : Int)]] st = .ok (.bl true) st) (by refine ⟨?_, ?_, ?_, ?_, ?_, ?_, ?_, ?_, ?_, ?_, ?_, ?_, ?_⟩ <;> kernel_rfl) hk
theorem hf1b (k : Nat) (hk : k ≤ 12) (l : Nat) (st : Store) : Q (l + 4) 6 [.tup [W1.bag.s, .int (k : Int)]] st = .ok (.bl true) st := le12 (P := fun k => Q (l + 4) 6 [.tup [W1.bag.s, .int (k : Int)]] st = .ok (.bl true) st) (by refine ⟨?_, ?_, ?_, ?_, ?_, ?_, ?_, ?_, ?_, ?_, ?_, ?_, ?_⟩ <;> kernel_rfl) hk
theorem hf1r1 (l : Nat) (st : Store) : Q (l + 4) 6 [.tup [W1.rounds.s, .int ((1 : Nat) : Int)]] st = .ok (.bl true) st := by kernel_rfl
theorem hf1r2 (l : Nat) (st : Store) : Q (l + 4) 6 [.tup [W1.rounds.s, .int ((2 : Nat) : Int)]] st = .ok (.bl true) st := by kernel_rfl
theorem hf1 (w : W1) (k : Nat) (hk : okN w k = true) (l : Nat) (st : Store) : Q (l + 4) 6 [.tup [w.s, .int (k : Int)]] st = .ok (.bl true) st := by
  cases w with
  | subset => exact hf1s k (by simpa [okN] using hk) l st
  | bag => exact hf1b k (by simpa [okN] using hk) l st
  | rounds =>
    have h : 1 ≤ k ∧ k ≤ 2 := by simpa [okN] using hk
    have h2 : k = 1 ∨ k = 2 := by omega
    rcases h2 with rfl | rfl
    · exact hf1r1 l st
    · exact hf1r2 l st
theorem hf2l (k : Nat) (hk : k ≤ 12) (a : D) (l : Nat) (st : Store) : Q (l + 4) 6 [.tup [W2.list.s, .int (k : Int), a]] st = .ok (.bl true) st := le12 (P := fun k => Q (l + 4) 6 [.tup [W2.list.s, .int (k : Int), a]] st = .ok (.bl true) st) (by refine ⟨?_, ?_, ?_, ?_, ?_, ?_, ?_, ?_, ?_, ?_, ?_, ?_, ?_⟩ <;> kernel_rfl) hk
theorem hf2f (k : Nat) (hk : k ≤ 12) (a : D) (l : Nat) (st : Store) : Q (l + 4) 6 [.tup [W2.family.s, .int (k : Int), a]] st = .ok (.bl true) st := le12 (P := fun k => Q (l + 4) 6 [.tup [W2.family.s, .int (k : Int), a]] st = .ok (.bl true) st) (by refine ⟨?_, ?_, ?_, ?_, ?_, ?_, ?_, ?_, ?_, ?_, ?_, ?_, ?_⟩ <;> kernel_rfl) hk
theorem hf2h (k : Nat) (hk : k ≤ 12) (a : D) (l : Nat) (st : Store) : Q (l + 4) 6 [.tup [W2.heap.s, .int (k : Int), a]] st = .ok (.bl true) st := le12 (P := fun k => Q (l + 4) 6 [.tup [W2.heap.s, .int (k : Int), a]] st = .ok (.bl true) st) (by refine ⟨?_, ?_, ?_, ?_, ?_, ?_, ?_, ?_, ?_, ?_, ?_, ?_, ?_⟩ <;> kernel_rfl) hk
theorem hf2 (w : W2) (k : Nat) (hk : k ≤ 12) (a : D) (l : Nat) (st : Store) : Q (l + 4) 6 [.tup [w.s, .int (k : Int), a]] st = .ok (.bl true) st := by
  cases w with
  | list => exact hf2l k hk a l st
  | family => exact hf2f k hk a l st
  | heap => exact hf2h k hk a l st
theorem hf3 (w : W3) (a b : D) (l : Nat) (st : Store) : Q (l + 4) 6 [.tup [w.s, a, b]] st = .ok (.bl true) st := by cases w <;> kernel_rfl
/-! ### single ones -/
theorem sg0 (w : W0) (l : Nat) (st : Store) : Q (l + 1) 9 [.tup [w.s]] st = .ok (.bl (S.c0 w).single) st := by cases w <;> kernel_rfl
theorem sg1 (w : W1) (k : Nat) (l : Nat) (st : Store) : Q (l + 1) 9 [.tup [w.s, .int (k : Int)]] st = .ok (.bl (S.c1 w k).single) st := by cases w <;> kernel_rfl
theorem sg2 (w : W2) (k a : D) (l : Nat) (st : Store) : Q (l + 1) 9 [.tup [w.s, k, a]] st = .ok (.bl false) st := by cases w <;> kernel_rfl
theorem sgp (a b : D) (l : Nat) (st : Store) : Q (l + 1) 9 [.tup [W3.pair.s, a, b]] st = .ok (.bl false) st := by kernel_rfl
theorem sgeT (l : Nat) {a b : D} {x : Bool} {st : Store} (h1 : Q l 9 [a] st = .ok (.bl true) st) (h2 : Q l 9 [b] st = .ok (.bl x) st) : Q (l + 1) 9 [.tup [W3.either.s, a, b]] st = .ok (.bl x) st := by
  rw [u9]
  simp only [W3.s]
  refine f_rt rfl ?_
  unfold L9
  repeat' (first | with_reducible exact w_c | with_reducible exact w_nil | with_reducible exact s_skip | with_reducible exact t_yes | with_reducible exact w_pn | with_reducible exact m_pure | with_reducible exact n_rt | with_reducible exact n_exc | with_reducible exact n_bk | with_reducible exact n_ct | with_reducible exact nT | with_reducible exact nF | with_reducible exact l_nil | ((with_reducible apply l_nx); exact rfl) | ((with_reducible apply w_var); exact rfl) | with_reducible apply w_rd | with_reducible apply w_kpl | with_reducible apply a_kpc | with_reducible apply w_kp | with_reducible apply w_cons | with_reducible apply w_bin | with_reducible apply w_binS | with_reducible apply w_call | with_reducible apply w_un | with_reducible apply w_fn | with_reducible apply w_fnD | with_reducible apply w_fnK | with_reducible apply w_tup | with_reducible apply w_lst | with_reducible apply w_ps | with_reducible apply w_slice | with_reducible apply t_bool | with_reducible apply t_tru | with_reducible apply a_not | with_reducible apply a_notV | with_reducible apply a_and | with_reducible apply a_or | with_reducible apply a_andV | with_reducible apply a_orV | with_reducible apply a_ifM | with_reducible apply a_it | with_reducible apply a_r1 | with_reducible apply a_r2 | with_reducible apply w_lc | with_reducible apply a_seq | with_reducible apply n_nx | with_reducible apply a_frz | with_reducible apply a_if | with_reducible apply a_set | with_reducible apply s_ret | with_reducible apply s_drop | with_reducible apply s_for | with_reducible apply a_par | with_reducible apply a_par3 | with_reducible apply a_asg | ((with_reducible apply c_T); exact rfl) | ((with_reducible apply c_F); exact rfl) | ((with_reducible apply c_TM); exact rfl) | ((with_reducible apply c_FM); exact rfl) | ((try dsimp only [RV.d, deref, List.map]); with_reducible assumption) | ((with_reducible apply eqsF); exact rfl; exact rfl; decide +kernel) | ((with_reducible apply eqsT); exact rfl; exact rfl; decide +kernel) | ((with_reducible apply inT); exact rfl; exact rfl; decide +kernel) | ((with_reducible apply inF); exact rfl; exact rfl; decide +kernel) | ((with_reducible apply ninT); exact rfl; exact rfl; decide +kernel) | ((with_reducible apply ninF); exact rfl; exact rfl; decide +kernel) | exact @rfl (Option RV) _ | exact @rfl (Option SV) _ | exact @rfl (Option D) _ | exact @rfl (Option (List D)) _ | exact @rfl (Option Bool) _ | exact @rfl (Option Env') _ | assumption | exact Nat.le_of_ble_eq_true rfl | exact s_skip | exact l_nil)
theorem sgeF (l : Nat) {a b : D} {st : Store} (h1 : Q l 9 [a] st = .ok (.bl false) st) : Q (l + 1) 9 [.tup [W3.either.s, a, b]] st = .ok (.bl false) st := by
  rw [u9]
  simp only [W3.s]
  refine f_rt rfl ?_
  unfold L9
  repeat' (first | with_reducible exact w_c | with_reducible exact w_nil | with_reducible exact s_skip | with_reducible exact t_yes | with_reducible exact w_pn | with_reducible exact m_pure | with_reducible exact n_rt | with_reducible exact n_exc | with_reducible exact n_bk | with_reducible exact n_ct | with_reducible exact nT | with_reducible exact nF | with_reducible exact l_nil | ((with_reducible apply l_nx); exact rfl) | ((with_reducible apply w_var); exact rfl) | with_reducible apply w_rd | with_reducible apply w_kpl | with_reducible apply a_kpc | with_reducible apply w_kp | with_reducible apply w_cons | with_reducible apply w_bin | with_reducible apply w_binS | with_reducible apply w_call | with_reducible apply w_un | with_reducible apply w_fn | with_reducible apply w_fnD | with_reducible apply w_fnK | with_reducible apply w_tup | with_reducible apply w_lst | with_reducible apply w_ps | with_reducible apply w_slice | with_reducible apply t_bool | with_reducible apply t_tru | with_reducible apply a_not | with_reducible apply a_notV | with_reducible apply a_and | with_reducible apply a_or | with_reducible apply a_andV | with_reducible apply a_orV | with_reducible apply a_ifM | with_reducible apply a_it | with_reducible apply a_r1 | with_reducible apply a_r2 | with_reducible apply w_lc | with_reducible apply a_seq | with_reducible apply n_nx | with_reducible apply a_frz | with_reducible apply a_if | with_reducible apply a_set | with_reducible apply s_ret | with_reducible apply s_drop | with_reducible apply s_for | with_reducible apply a_par | with_reducible apply a_par3 | with_reducible apply a_asg | ((with_reducible apply c_T); exact rfl) | ((with_reducible apply c_F); exact rfl) | ((with_reducible apply c_TM); exact rfl) | ((with_reducible apply c_FM); exact rfl) | ((try dsimp only [RV.d, deref, List.map]); with_reducible assumption) | ((with_reducible apply eqsF); exact rfl; exact rfl; decide +kernel) | ((with_reducible apply eqsT); exact rfl; exact rfl; decide +kernel) | ((with_reducible apply inT); exact rfl; exact rfl; decide +kernel) | ((with_reducible apply inF); exact rfl; exact rfl; decide +kernel) | ((with_reducible apply ninT); exact rfl; exact rfl; decide +kernel) | ((with_reducible apply ninF); exact rfl; exact rfl; decide +kernel) | exact @rfl (Option RV) _ | exact @rfl (Option SV) _ | exact @rfl (Option D) _ | exact @rfl (Option (List D)) _ | exact @rfl (Option Bool) _ | exact @rfl (Option Env') _ | assumption | exact Nat.le_of_ble_eq_true rfl | exact s_skip | exact l_nil)
theorem single_ok : ∀ (s : S) (l : Nat), s.depth ≤ l → ∀ st, Q l 9 [s.d] st = .ok (.bl s.single) st := by
  intro s
  induction s with
  | c0 w => intro l hl st; exact lv (P := fun l => Q l 9 [.tup [w.s]] st = .ok (.bl (S.c0 w).single) st) (fun l => sg0 w l st) hl
  | c1 w k => intro l hl st; exact lv (P := fun l => Q l 9 [.tup [w.s, .int (k : Int)]] st = .ok (.bl (S.c1 w k).single) st) (fun l => sg1 w k l st) hl
  | c2 w k a ih => intro l hl st; exact lv (k := 1) (P := fun l => Q l 9 [.tup [w.s, .int (k : Int), a.d]] st = .ok (.bl false) st) (fun l => sg2 w (.int (k : Int)) a.d l st) (by simp only [S.depth] at hl; omega)
  | c3 w a b iha ihb =>
    intro l hl st
    simp only [S.depth] at hl
    obtain ⟨m, rfl⟩ : ∃ m, l = m + 1 := ⟨l - 1, by omega⟩
    cases w with
    | pair => exact sgp a.d b.d m st
    | either =>
      have h1 := iha m (by omega) st
      have h2 := ihb m (by omega) st
      show Q (m + 1) 9 [.tup [W3.either.s, a.d, b.d]] st = .ok (.bl (a.single && b.single)) st
      cases ha : a.single with
      | true =>
        rw [ha] at h1
        exact sgeT m h1 h2
      | false =>
        rw [ha] at h1
        exact sgeF m h1
end M02
set_option Elab.async false -- ev
set_option linter.all false -- ev
set_option maxRecDepth 100000 -- ev
set_option maxHeartbeats 4000000 -- ev
set_option autoImplicit false -- ev
/-! Marks, widths and numbers of sorts. -/
namespace M02
open PySem Ev
def mk (n : Int) : S → Int
  | .c0 .none => 0
  | .c0 .one => 1
  | .c0 .trees => 2 * (n - 1)
  | .c0 .rooted => n - 1
  | .c1 .rounds k => (k : Int) * n * (n - 1) / 2
  | .c1 _ k => (k : Int)
  | .c2 _ k a => (k : Int) * mk n a
  | .c3 .either a b => max (mk n a) (mk n b)
  | .c3 .pair a b => mk n a + mk n b
def wd : S → Int
  | .c0 _ => 1
  | .c1 _ _ => 1
  | .c2 _ k a => (k : Int) * wd a
  | .c3 .either a b => max (wd a) (wd b)
  | .c3 .pair a b => wd a + wd b
def hp (x : Int) (k : Nat) : Int := if k = 0 then 1 else PySem.W.mcComb (x + (k : Int) - 1) (k : Int)
def cnt (n : Int) : S → Int
  | .c0 .none => 0
  | .c0 .one => n
  | .c0 .trees => n ^ (n - 2).toNat
  | .c0 .rooted => n ^ (n - 1).toNat
  | .c1 .subset k => PySem.W.mcComb n (k : Int)
  | .c1 .bag k => hp n k
  | .c1 .rounds k => 2 ^ ((k : Int) * n * (n - 1) / 2).toNat
  | .c2 .list k a => cnt n a ^ k
  | .c2 .family k a => PySem.W.mcComb (cnt n a) (k : Int)
  | .c2 .heap k a => hp (cnt n a) k
  | .c3 .either a b => cnt n a + cnt n b
  | .c3 .pair a b => cnt n a * cnt n b
def isL : W2 → Bool
  | .list => true
  | _ => false
def forms : S → Prop
  | .c0 _ => True
  | .c1 w k => okN w k = true
  | .c2 w k a => k ≤ 12 ∧ forms a ∧ (isL w = true ∨ a.single = true)
  | .c3 _ a b => forms a ∧ forms b
theorem okN_le {w : W1} {k : Nat} (h : okN w k = true) : k ≤ 12 := by
  cases w with
  | subset => simpa [okN] using h
  | bag => simpa [okN] using h
  | rounds =>
    have h2 : 1 ≤ k ∧ k ≤ 2 := by simpa [okN] using h
    omega
/-! ### how great they are -/
def pw (d : Nat) : Nat := 40 * 24 ^ d
theorem pw_succ (d : Nat) : pw (d + 1) = 24 * pw d := by
  unfold pw
  rw [Nat.pow_succ]
  omega
theorem pw_mono {a b : Nat} (h : a ≤ b) : pw a ≤ pw b := Nat.mul_le_mul_left 40 (Nat.pow_le_pow_right (by omega) h)
theorem pw_pos (d : Nat) : 40 ≤ pw d := by
  have : 1 ≤ 24 ^ d := Nat.pow_pos (by omega)
  unfold pw
  omega
theorem pw_ten : pw 10 < 2 ^ 60 := by decide
theorem kmul {k : Nat} {x : Int} {B : Nat} (hk : k ≤ 12) (h0 : 0 ≤ x) (h1 : x ≤ (B : Int)) : 0 ≤ (k : Int) * x ∧ (k : Int) * x ≤ ((12 * B : Nat) : Int) := by
  obtain ⟨y, rfl⟩ : ∃ y : Nat, x = (y : Int) := ⟨x.toNat, by omega⟩
  have h : k * y ≤ 12 * B := Nat.mul_le_mul hk (by omega)
  have e : ((k * y : Nat) : Int) = (k : Int) * (y : Int) := by simp
  omega
theorem mk_b {n : Int} (h1 : 2 ≤ n) (h2 : n ≤ 5) : ∀ s : S, forms s → 0 ≤ mk n s ∧ mk n s ≤ (pw s.depth : Int)
  | .c0 w, _ => by
    have := pw_pos (S.c0 w).depth
    cases w <;> simp only [mk] <;> omega
  | .c1 .rounds k, h => by
    have hk : 1 ≤ k ∧ k ≤ 2 := by simpa [forms, okN] using h
    have := pw_pos (S.c1 .rounds k).depth
    have hn : n = 2 ∨ n = 3 ∨ n = 4 ∨ n = 5 := by omega
    have hk2 : k = 1 ∨ k = 2 := by omega
    rcases hn with rfl | rfl | rfl | rfl <;> rcases hk2 with rfl | rfl <;> simp only [mk] <;> omega
  | .c1 .subset k, h => by
    have hk := okN_le (show okN .subset k = true from h)
    have := pw_pos (S.c1 .subset k).depth
    simp only [mk]
    omega
  | .c1 .bag k, h => by
    have hk := okN_le (show okN .bag k = true from h)
    have := pw_pos (S.c1 .bag k).depth
    simp only [mk]
    omega
  | .c2 w k a, h => by
    obtain ⟨i1, i2⟩ := mk_b h1 h2 a h.2.1
    have q := kmul h.1 i1 i2
    have e := pw_succ a.depth
    simp only [mk, S.depth]
    rw [e]
    omega
  | .c3 w a b, h => by
    obtain ⟨i1, i2⟩ := mk_b h1 h2 a h.1
    obtain ⟨j1, j2⟩ := mk_b h1 h2 b h.2
    have e := pw_succ (max a.depth b.depth)
    have m1 := pw_mono (Nat.le_max_left a.depth b.depth)
    have m2 := pw_mono (Nat.le_max_right a.depth b.depth)
    cases w <;> simp only [mk, S.depth] <;> rw [e] <;> omega
theorem wd_b : ∀ s : S, forms s → 0 ≤ wd s ∧ wd s ≤ (pw s.depth : Int)
  | .c0 w, _ => by
    have := pw_pos (S.c0 w).depth
    simp only [wd]
    omega
  | .c1 w k, _ => by
    have := pw_pos (S.c1 w k).depth
    simp only [wd]
    omega
  | .c2 w k a, h => by
    obtain ⟨i1, i2⟩ := wd_b a h.2.1
    have q := kmul h.1 i1 i2
    have e := pw_succ a.depth
    simp only [wd, S.depth]
    rw [e]
    omega
  | .c3 w a b, h => by
    obtain ⟨i1, i2⟩ := wd_b a h.1
    obtain ⟨j1, j2⟩ := wd_b b h.2
    have e := pw_succ (max a.depth b.depth)
    have m1 := pw_mono (Nat.le_max_left a.depth b.depth)
    have m2 := pw_mono (Nat.le_max_right a.depth b.depth)
    cases w <;> simp only [wd, S.depth] <;> rw [e] <;> omega
theorem lg60 {x : Int} {d : Nat} (hd : d ≤ 10) (h0 : 0 ≤ x) (h : x ≤ (pw d : Int)) : lg x 60 := by
  have m := pw_mono hd
  have t := pw_ten
  exact lg_nn h0 (by omega)
theorem km {k : Nat} {x : Int} {d : Nat} (hk : k ≤ 12) (hd : d ≤ 10) (h0 : 0 ≤ x) (h : x ≤ (pw d : Int)) : dMulA (.int (k : Int)) (.int x) = some (.per (.int ((k : Int) * x))) :=
  mulA_lg (lg_nn (k := 4) (by omega) (by have : (2 : Nat) ^ 4 = 16 := by decide
                                         omega)) (lg60 hd h0 h) (by omega)
theorem max2 (x y : Int) : dMax [.lst [.int x, .int y]] = some (.per (.int (max x y))) := by simp [dMax, ints?, maxI, per]
theorem sum2 (x y : Int) : dSum [.lst [.int x, .int y]] = some (.per (.int (x + y))) := by simp [dSum, ints?, per]
/-! ### marks -/
def rn (n : Int) (k : Nat) : Int := (k : Int) * n * (n - 1) / 2
theorem mo0 {n : Int} (h1 : 2 ≤ n) (h2 : n ≤ 5) (w : W0) (l : Nat) (st : Store) : Q (l + 3) 11 [.int n, .tup [w.s]] st = .ok (.int (mk n (.c0 w))) st := by
  have hn : n = 2 ∨ n = 3 ∨ n = 4 ∨ n = 5 := by omega
  rcases hn with rfl | rfl | rfl | rfl <;> cases w <;> kernel_rfl
theorem mo1r {n : Int} (h1 : 2 ≤ n) (h2 : n ≤ 5) (k : Nat) (hk : 1 ≤ k ∧ k ≤ 2) (l : Nat) (st : Store) : Q (l + 3) 11 [.int n, .tup [W1.rounds.s, .int (k : Int)]] st = .ok (.int (mk n (.c1 .rounds k))) st := by
  have hn : n = 2 ∨ n = 3 ∨ n = 4 ∨ n = 5 := by omega
  have hk : k = 1 ∨ k = 2 := by omega
  rcases hn with rfl | rfl | rfl | rfl <;> rcases hk with rfl | rfl <;> kernel_rfl
theorem mo1s (n : Int) (k : D) (l : Nat) (st : Store) : Q (l + 3) 11 [.int n, .tup [W1.subset.s, k]] st = .ok k st := by kernel_rfl
theorem mo1b (n : Int) (k : D) (l : Nat) (st : Store) : Q (l + 3) 11 [.int n, .tup [W1.bag.s, k]] st = .ok k st := by kernel_rfl
theorem marks_ok {n : Int} (h1 : 2 ≤ n) (h2 : n ≤ 5) : ∀ (s : S) (l : Nat), forms s → s.depth ≤ 10 → s.depth + 2 ≤ l → ∀ st, Q l 11 [.int n, s.d] st = .ok (.int (mk n s)) st
  | .c0 w, l, _, _, hl, st => lv (P := fun l => Q l 11 [.int n, .tup [w.s]] st = .ok (.int (mk n (.c0 w))) st) (fun l => mo0 h1 h2 w l st) hl
  | .c1 .rounds k, l, h, _, hl, st => lv (P := fun l => Q l 11 [.int n, .tup [W1.rounds.s, .int (k : Int)]] st = .ok (.int (mk n (.c1 .rounds k))) st) (fun l => mo1r h1 h2 k (by simpa [forms, okN] using h) l st) hl
  | .c1 .subset k, l, h, _, hl, st => lv (P := fun l => Q l 11 [.int n, .tup [W1.subset.s, .int (k : Int)]] st = .ok (.int (k : Int)) st) (fun l => mo1s n (.int (k : Int)) l st) hl
  | .c1 .bag k, l, h, _, hl, st => lv (P := fun l => Q l 11 [.int n, .tup [W1.bag.s, .int (k : Int)]] st = .ok (.int (k : Int)) st) (fun l => mo1b n (.int (k : Int)) l st) hl
  | .c2 w k a, l, h, hd, hl, st => by
    simp only [S.depth] at hl hd
    obtain ⟨m, rfl⟩ : ∃ m, l = m + 3 := ⟨l - 3, by omega⟩
    have ih := marks_ok h1 h2 a (m + 2) h.2.1 (by omega) (by omega) st
    have b := mk_b h1 h2 a h.2.1
    have e := km h.1 (show a.depth ≤ 10 by omega) b.1 b.2
    have ip := ip2 w (.int (k : Int)) a.d m st
    have lc : sLcL (gN 4) sYes (kp (sFn (Q (m + 2) 11) (sCons (kp (sVar 0)) (sCons (kp (sVar 4)) sNil)))) [.val (.int n), .val (.tup [w.s, .int (k : Int), a.d]), .val w.s, .un, .un] [a.d] [] st = .ok ([] ++ [a.d].map fun _ => .int (mk n a)) st :=
      lc_map _ _ (fun d hd => by
        have : d = a.d := by simpa using hd
        subst this
        exact ⟨_, rfl, rfl, w_kp (w_fn (w_cons (w_kp (w_var rfl)) (w_cons (w_kp (w_var rfl)) w_nil)) ih)⟩) (by have := size_ge; simp; omega)
    show Q (m + 3) 11 [.int n, .tup [w.s, .int (k : Int), a.d]] st = .ok (.int ((k : Int) * mk n a)) st
    rw [u11]
    refine f_rt rfl ?_
    unfold L11
    cases w <;> (simp only [W2.s] at ip lc ⊢; repeat' (first | with_reducible exact w_c | with_reducible exact w_nil | with_reducible exact s_skip | with_reducible exact t_yes | with_reducible exact w_pn | with_reducible exact m_pure | with_reducible exact n_rt | with_reducible exact n_exc | with_reducible exact n_bk | with_reducible exact n_ct | with_reducible exact nT | with_reducible exact nF | with_reducible exact l_nil | ((with_reducible apply l_nx); exact rfl) | ((with_reducible apply w_var); exact rfl) | with_reducible apply w_rd | with_reducible apply w_kpl | with_reducible apply a_kpc | with_reducible apply w_kp | with_reducible apply w_cons | with_reducible apply w_bin | with_reducible apply w_binS | with_reducible apply w_call | with_reducible apply w_un | with_reducible apply w_fn | with_reducible apply w_fnD | with_reducible apply w_fnK | with_reducible apply w_tup | with_reducible apply w_lst | with_reducible apply w_ps | with_reducible apply w_slice | with_reducible apply t_bool | with_reducible apply t_tru | with_reducible apply a_not | with_reducible apply a_notV | with_reducible apply a_and | with_reducible apply a_or | with_reducible apply a_andV | with_reducible apply a_orV | with_reducible apply a_ifM | with_reducible apply a_it | with_reducible apply a_r1 | with_reducible apply a_r2 | with_reducible apply w_lc | with_reducible apply a_seq | with_reducible apply n_nx | with_reducible apply a_frz | with_reducible apply a_if | with_reducible apply a_set | with_reducible apply s_ret | with_reducible apply s_drop | with_reducible apply s_for | with_reducible apply a_par | with_reducible apply a_par3 | with_reducible apply a_asg | ((with_reducible apply c_T); exact rfl) | ((with_reducible apply c_F); exact rfl) | ((with_reducible apply c_TM); exact rfl) | ((with_reducible apply c_FM); exact rfl) | ((try dsimp only [RV.d, deref, List.map]); with_reducible assumption) | ((with_reducible apply eqsF); exact rfl; exact rfl; decide +kernel) | ((with_reducible apply eqsT); exact rfl; exact rfl; decide +kernel) | ((with_reducible apply inT); exact rfl; exact rfl; decide +kernel) | ((with_reducible apply inF); exact rfl; exact rfl; decide +kernel) | ((with_reducible apply ninT); exact rfl; exact rfl; decide +kernel) | ((with_reducible apply ninF); exact rfl; exact rfl; decide +kernel) | exact @rfl (Option RV) _ | exact @rfl (Option SV) _ | exact @rfl (Option D) _ | exact @rfl (Option (List D)) _ | exact @rfl (Option Bool) _ | exact @rfl (Option Env') _ | assumption | exact Nat.le_of_ble_eq_true rfl | exact s_skip | exact l_nil))
  | .c3 w a b, l, h, hd, hl, st => by
    simp only [S.depth] at hl hd
    obtain ⟨m, rfl⟩ : ∃ m, l = m + 3 := ⟨l - 3, by omega⟩
    have iha := marks_ok h1 h2 a (m + 2) h.1 (by omega) (by omega) st
    have ihb := marks_ok h1 h2 b (m + 2) h.2 (by omega) (by omega) st
    have ip := ip3 w a.d b.d m st
    have e1 := max2 (mk n a) (mk n b)
    have e2 := sum2 (mk n a) (mk n b)
    have lc : sLcL (gN 4) sYes (kp (sFn (Q (m + 2) 11) (sCons (kp (sVar 0)) (sCons (kp (sVar 4)) sNil)))) [.val (.int n), .val (.tup [w.s, a.d, b.d]), .val w.s, .un, .un] [a.d, b.d] [] st = .ok [.int (mk n a), .int (mk n b)] st := by
      unfold sLcL
      dsimp only [gN]
      rw [bok (nok (show sYes _ st = .ok true st from rfl))]
      refine iteT ?_
      rw [bok (nok (w_kp (w_fn (w_cons (w_kp (w_var rfl)) (w_cons (w_kp (w_var rfl)) w_nil)) iha)))]
      refine iteP (by have := size_ge; simp; omega) ?_
      unfold sLcL
      dsimp only [gN]
      rw [bok (nok (show sYes _ st = .ok true st from rfl))]
      refine iteT ?_
      rw [bok (nok (w_kp (w_fn (w_cons (w_kp (w_var rfl)) (w_cons (w_kp (w_var rfl)) w_nil)) ihb)))]
      refine iteP (by have := size_ge; simp; omega) ?_
      rfl
    rw [u11]
    cases w with
    | either =>
      show semF 5 (L11 (Q (m + 2))) [.int n, .tup [W3.either.s, a.d, b.d]] st = .ok (.int (max (mk n a) (mk n b))) st
      refine f_rt rfl ?_
      unfold L11
      simp only [W3.s] at ip lc ⊢
      repeat' (first | with_reducible exact w_c | with_reducible exact w_nil | with_reducible exact s_skip | with_reducible exact t_yes | with_reducible exact w_pn | with_reducible exact m_pure | with_reducible exact n_rt | with_reducible exact n_exc | with_reducible exact n_bk | with_reducible exact n_ct | with_reducible exact nT | with_reducible exact nF | with_reducible exact l_nil | ((with_reducible apply l_nx); exact rfl) | ((with_reducible apply w_var); exact rfl) | with_reducible apply w_rd | with_reducible apply w_kpl | with_reducible apply a_kpc | with_reducible apply w_kp | with_reducible apply w_cons | with_reducible apply w_bin | with_reducible apply w_binS | with_reducible apply w_call | with_reducible apply w_un | with_reducible apply w_fn | with_reducible apply w_fnD | with_reducible apply w_fnK | with_reducible apply w_tup | with_reducible apply w_lst | with_reducible apply w_ps | with_reducible apply w_slice | with_reducible apply t_bool | with_reducible apply t_tru | with_reducible apply a_not | with_reducible apply a_notV | with_reducible apply a_and | with_reducible apply a_or | with_reducible apply a_andV | with_reducible apply a_orV | with_reducible apply a_ifM | with_reducible apply a_it | with_reducible apply a_r1 | with_reducible apply a_r2 | with_reducible apply w_lc | with_reducible apply a_seq | with_reducible apply n_nx | with_reducible apply a_frz | with_reducible apply a_if | with_reducible apply a_set | with_reducible apply s_ret | with_reducible apply s_drop | with_reducible apply s_for | with_reducible apply a_par | with_reducible apply a_par3 | with_reducible apply a_asg | ((with_reducible apply c_T); exact rfl) | ((with_reducible apply c_F); exact rfl) | ((with_reducible apply c_TM); exact rfl) | ((with_reducible apply c_FM); exact rfl) | ((try dsimp only [RV.d, deref, List.map]); with_reducible assumption) | ((with_reducible apply eqsF); exact rfl; exact rfl; decide +kernel) | ((with_reducible apply eqsT); exact rfl; exact rfl; decide +kernel) | ((with_reducible apply inT); exact rfl; exact rfl; decide +kernel) | ((with_reducible apply inF); exact rfl; exact rfl; decide +kernel) | ((with_reducible apply ninT); exact rfl; exact rfl; decide +kernel) | ((with_reducible apply ninF); exact rfl; exact rfl; decide +kernel) | exact @rfl (Option RV) _ | exact @rfl (Option SV) _ | exact @rfl (Option D) _ | exact @rfl (Option (List D)) _ | exact @rfl (Option Bool) _ | exact @rfl (Option Env') _ | assumption | exact Nat.le_of_ble_eq_true rfl | exact s_skip | exact l_nil)
    | pair =>
      show semF 5 (L11 (Q (m + 2))) [.int n, .tup [W3.pair.s, a.d, b.d]] st = .ok (.int (mk n a + mk n b)) st
      refine f_rt rfl ?_
      unfold L11
      simp only [W3.s] at ip lc ⊢
      repeat' (first | with_reducible exact w_c | with_reducible exact w_nil | with_reducible exact s_skip | with_reducible exact t_yes | with_reducible exact w_pn | with_reducible exact m_pure | with_reducible exact n_rt | with_reducible exact n_exc | with_reducible exact n_bk | with_reducible exact n_ct | with_reducible exact nT | with_reducible exact nF | with_reducible exact l_nil | ((with_reducible apply l_nx); exact rfl) | ((with_reducible apply w_var); exact rfl) | with_reducible apply w_rd | with_reducible apply w_kpl | with_reducible apply a_kpc | with_reducible apply w_kp | with_reducible apply w_cons | with_reducible apply w_bin | with_reducible apply w_binS | with_reducible apply w_call | with_reducible apply w_un | with_reducible apply w_fn | with_reducible apply w_fnD | with_reducible apply w_fnK | with_reducible apply w_tup | with_reducible apply w_lst | with_reducible apply w_ps | with_reducible apply w_slice | with_reducible apply t_bool | with_reducible apply t_tru | with_reducible apply a_not | with_reducible apply a_notV | with_reducible apply a_and | with_reducible apply a_or | with_reducible apply a_andV | with_reducible apply a_orV | with_reducible apply a_ifM | with_reducible apply a_it | with_reducible apply a_r1 | with_reducible apply a_r2 | with_reducible apply w_lc | with_reducible apply a_seq | with_reducible apply n_nx | with_reducible apply a_frz | with_reducible apply a_if | with_reducible apply a_set | with_reducible apply s_ret | with_reducible apply s_drop | with_reducible apply s_for | with_reducible apply a_par | with_reducible apply a_par3 | with_reducible apply a_asg | ((with_reducible apply c_T); exact rfl) | ((with_reducible apply c_F); exact rfl) | ((with_reducible apply c_TM); exact rfl) | ((with_reducible apply c_FM); exact rfl) | ((try dsimp only [RV.d, deref, List.map]); with_reducible assumption) | ((with_reducible apply eqsF); exact rfl; exact rfl; decide +kernel) | ((with_reducible apply eqsT); exact rfl; exact rfl; decide +kernel) | ((with_reducible apply inT); exact rfl; exact rfl; decide +kernel) | ((with_reducible apply inF); exact rfl; exact rfl; decide +kernel) | ((with_reducible apply ninT); exact rfl; exact rfl; decide +kernel) | ((with_reducible apply ninF); exact rfl; exact rfl; decide +kernel) | exact @rfl (Option RV) _ | exact @rfl (Option SV) _ | exact @rfl (Option D) _ | exact @rfl (Option (List D)) _ | exact @rfl (Option Bool) _ | exact @rfl (Option Env') _ | assumption | exact Nat.le_of_ble_eq_true rfl | exact s_skip | exact l_nil)
end M02
set_option Elab.async false -- ev
set_option linter.all false -- ev
set_option maxRecDepth 100000 -- ev
set_option maxHeartbeats 4000000 -- ev
set_option autoImplicit false -- ev
/-! Widths and numbers. -/
namespace M02
open PySem Ev
theorem lc_one {i : Nat} {el : Env' → M D} {ρ : Env'} {a x : D} {st : Store} (h : el (ρ.set i (.val a)) st = .ok x st) : sLcL (gN i) sYes el ρ [a] [] st = .ok [x] st := by
  refine (lc_map (F := fun _ => x) [a] [] (fun d hd => ?_) (by have := size_ge; simp; omega)).trans rfl
  have : d = a := by simpa using hd
  subst this
  exact ⟨_, rfl, rfl, h⟩
theorem lc_two {i : Nat} {el : Env' → M D} {ρ : Env'} {a b x y : D} {st : Store} (h1 : el (ρ.set i (.val a)) st = .ok x st) (h2 : el (ρ.set i (.val b)) st = .ok y st) : sLcL (gN i) sYes el ρ [a, b] [] st = .ok [x, y] st := by
  unfold sLcL
  dsimp only [gN]
  rw [bok (nok (show sYes _ st = .ok true st from rfl))]
  refine iteT ?_
  rw [bok (nok h1)]
  refine iteP (by have := size_ge; simp; omega) ?_
  unfold sLcL
  dsimp only [gN]
  rw [bok (nok (show sYes _ st = .ok true st from rfl))]
  refine iteT ?_
  rw [bok (nok h2)]
  refine iteP (by have := size_ge; simp; omega) ?_
  rfl
/-! ### widths -/
theorem wo0 (n : D) (w : W0) (l : Nat) (st : Store) : Q (l + 3) 13 [n, .tup [w.s]] st = .ok (.int 1) st := by cases w <;> kernel_rfl
theorem wo1 (n k : D) (w : W1) (l : Nat) (st : Store) : Q (l + 3) 13 [n, .tup [w.s, k]] st = .ok (.int 1) st := by cases w <;> kernel_rfl
theorem width_ok (n : D) : ∀ (s : S) (l : Nat), forms s → s.depth ≤ 10 → s.depth + 2 ≤ l → ∀ st, Q l 13 [n, s.d] st = .ok (.int (wd s)) st
  | .c0 w, l, _, _, hl, st => lv (P := fun l => Q l 13 [n, .tup [w.s]] st = .ok (.int 1) st) (fun l => wo0 n w l st) hl
  | .c1 w k, l, h, _, hl, st => lv (P := fun l => Q l 13 [n, .tup [w.s, .int (k : Int)]] st = .ok (.int 1) st) (fun l => wo1 n (.int (k : Int)) w l st) hl
  | .c2 w k a, l, h, hd, hl, st => by
    simp only [S.depth] at hl hd
    obtain ⟨m, rfl⟩ : ∃ m, l = m + 3 := ⟨l - 3, by omega⟩
    have ih := width_ok n a (m + 2) h.2.1 (by omega) (by omega) st
    have b := wd_b a h.2.1
    have e := km h.1 (show a.depth ≤ 10 by omega) b.1 b.2
    have ip := ip2 w (.int (k : Int)) a.d m st
    have lc : sLcL (gN 4) sYes (kp (sFn (Q (m + 2) 13) (sCons (kp (sVar 0)) (sCons (kp (sVar 4)) sNil)))) [.val n, .val (.tup [w.s, .int (k : Int), a.d]), .val w.s, .un, .un] [a.d] [] st = .ok [.int (wd a)] st :=
      lc_one (w_kp (w_fn (w_cons (w_kp (w_var rfl)) (w_cons (w_kp (w_var rfl)) w_nil)) ih))
    show Q (m + 3) 13 [n, .tup [w.s, .int (k : Int), a.d]] st = .ok (.int ((k : Int) * wd a)) st
    rw [u13]
    refine f_rt rfl ?_
    unfold L13
    cases w <;> (simp only [W2.s] at ip lc ⊢; repeat' (first | with_reducible exact w_c | with_reducible exact w_nil | with_reducible exact s_skip | with_reducible exact t_yes | with_reducible exact w_pn | with_reducible exact m_pure | with_reducible exact n_rt | with_reducible exact n_exc | with_reducible exact n_bk | with_reducible exact n_ct | with_reducible exact nT | with_reducible exact nF | with_reducible exact l_nil | ((with_reducible apply l_nx); exact rfl) | ((with_reducible apply w_var); exact rfl) | with_reducible apply w_rd | with_reducible apply w_kpl | with_reducible apply a_kpc | with_reducible apply w_kp | with_reducible apply w_cons | with_reducible apply w_bin | with_reducible apply w_binS | with_reducible apply w_call | with_reducible apply w_un | with_reducible apply w_fn | with_reducible apply w_fnD | with_reducible apply w_fnK | with_reducible apply w_tup | with_reducible apply w_lst | with_reducible apply w_ps | with_reducible apply w_slice | with_reducible apply t_bool | with_reducible apply t_tru | with_reducible apply a_not | with_reducible apply a_notV | with_reducible apply a_and | with_reducible apply a_or | with_reducible apply a_andV | with_reducible apply a_orV | with_reducible apply a_ifM | with_reducible apply a_it | with_reducible apply a_r1 | with_reducible apply a_r2 | with_reducible apply w_lc | with_reducible apply a_seq | with_reducible apply n_nx | with_reducible apply a_frz | with_reducible apply a_if | with_reducible apply a_set | with_reducible apply s_ret | with_reducible apply s_drop | with_reducible apply s_for | with_reducible apply a_par | with_reducible apply a_par3 | with_reducible apply a_asg | ((with_reducible apply c_T); exact rfl) | ((with_reducible apply c_F); exact rfl) | ((with_reducible apply c_TM); exact rfl) | ((with_reducible apply c_FM); exact rfl) | ((try dsimp only [RV.d, deref, List.map]); with_reducible assumption) | ((with_reducible apply eqsF); exact rfl; exact rfl; decide +kernel) | ((with_reducible apply eqsT); exact rfl; exact rfl; decide +kernel) | ((with_reducible apply inT); exact rfl; exact rfl; decide +kernel) | ((with_reducible apply inF); exact rfl; exact rfl; decide +kernel) | ((with_reducible apply ninT); exact rfl; exact rfl; decide +kernel) | ((with_reducible apply ninF); exact rfl; exact rfl; decide +kernel) | exact @rfl (Option RV) _ | exact @rfl (Option SV) _ | exact @rfl (Option D) _ | exact @rfl (Option (List D)) _ | exact @rfl (Option Bool) _ | exact @rfl (Option Env') _ | assumption | exact Nat.le_of_ble_eq_true rfl | exact s_skip | exact l_nil))
  | .c3 w a b, l, h, hd, hl, st => by
    simp only [S.depth] at hl hd
    obtain ⟨m, rfl⟩ : ∃ m, l = m + 3 := ⟨l - 3, by omega⟩
    have iha := width_ok n a (m + 2) h.1 (by omega) (by omega) st
    have ihb := width_ok n b (m + 2) h.2 (by omega) (by omega) st
    have ip := ip3 w a.d b.d m st
    have e1 := max2 (wd a) (wd b)
    have e2 := sum2 (wd a) (wd b)
    have lc : sLcL (gN 4) sYes (kp (sFn (Q (m + 2) 13) (sCons (kp (sVar 0)) (sCons (kp (sVar 4)) sNil)))) [.val n, .val (.tup [w.s, a.d, b.d]), .val w.s, .un, .un] [a.d, b.d] [] st = .ok [.int (wd a), .int (wd b)] st :=
      lc_two (w_kp (w_fn (w_cons (w_kp (w_var rfl)) (w_cons (w_kp (w_var rfl)) w_nil)) iha)) (w_kp (w_fn (w_cons (w_kp (w_var rfl)) (w_cons (w_kp (w_var rfl)) w_nil)) ihb))
    rw [u13]
    cases w with
    | either =>
      show semF 5 (L13 (Q (m + 2))) [n, .tup [W3.either.s, a.d, b.d]] st = .ok (.int (max (wd a) (wd b))) st
      refine f_rt rfl ?_
      unfold L13
      simp only [W3.s] at ip lc ⊢
      repeat' (first | with_reducible exact w_c | with_reducible exact w_nil | with_reducible exact s_skip | with_reducible exact t_yes | with_reducible exact w_pn | with_reducible exact m_pure | with_reducible exact n_rt | with_reducible exact n_exc | with_reducible exact n_bk | with_reducible exact n_ct | with_reducible exact nT | with_reducible exact nF | with_reducible exact l_nil | ((with_reducible apply l_nx); exact rfl) | ((with_reducible apply w_var); exact rfl) | with_reducible apply w_rd | with_reducible apply w_kpl | with_reducible apply a_kpc | with_reducible apply w_kp | with_reducible apply w_cons | with_reducible apply w_bin | with_reducible apply w_binS | with_reducible apply w_call | with_reducible apply w_un | with_reducible apply w_fn | with_reducible apply w_fnD | with_reducible apply w_fnK | with_reducible apply w_tup | with_reducible apply w_lst | with_reducible apply w_ps | with_reducible apply w_slice | with_reducible apply t_bool | with_reducible apply t_tru | with_reducible apply a_not | with_reducible apply a_notV | with_reducible apply a_and | with_reducible apply a_or | with_reducible apply a_andV | with_reducible apply a_orV | with_reducible apply a_ifM | with_reducible apply a_it | with_reducible apply a_r1 | with_reducible apply a_r2 | with_reducible apply w_lc | with_reducible apply a_seq | with_reducible apply n_nx | with_reducible apply a_frz | with_reducible apply a_if | with_reducible apply a_set | with_reducible apply s_ret | with_reducible apply s_drop | with_reducible apply s_for | with_reducible apply a_par | with_reducible apply a_par3 | with_reducible apply a_asg | ((with_reducible apply c_T); exact rfl) | ((with_reducible apply c_F); exact rfl) | ((with_reducible apply c_TM); exact rfl) | ((with_reducible apply c_FM); exact rfl) | ((try dsimp only [RV.d, deref, List.map]); with_reducible assumption) | ((with_reducible apply eqsF); exact rfl; exact rfl; decide +kernel) | ((with_reducible apply eqsT); exact rfl; exact rfl; decide +kernel) | ((with_reducible apply inT); exact rfl; exact rfl; decide +kernel) | ((with_reducible apply inF); exact rfl; exact rfl; decide +kernel) | ((with_reducible apply ninT); exact rfl; exact rfl; decide +kernel) | ((with_reducible apply ninF); exact rfl; exact rfl; decide +kernel) | exact @rfl (Option RV) _ | exact @rfl (Option SV) _ | exact @rfl (Option D) _ | exact @rfl (Option (List D)) _ | exact @rfl (Option Bool) _ | exact @rfl (Option Env') _ | assumption | exact Nat.le_of_ble_eq_true rfl | exact s_skip | exact l_nil)
    | pair =>
      show semF 5 (L13 (Q (m + 2))) [n, .tup [W3.pair.s, a.d, b.d]] st = .ok (.int (wd a + wd b)) st
      refine f_rt rfl ?_
      unfold L13
      simp only [W3.s] at ip lc ⊢
      repeat' (first | with_reducible exact w_c | with_reducible exact w_nil | with_reducible exact s_skip | with_reducible exact t_yes | with_reducible exact w_pn | with_reducible exact m_pure | with_reducible exact n_rt | with_reducible exact n_exc | with_reducible exact n_bk | with_reducible exact n_ct | with_reducible exact nT | with_reducible exact nF | with_reducible exact l_nil | ((with_reducible apply l_nx); exact rfl) | ((with_reducible apply w_var); exact rfl) | with_reducible apply w_rd | with_reducible apply w_kpl | with_reducible apply a_kpc | with_reducible apply w_kp | with_reducible apply w_cons | with_reducible apply w_bin | with_reducible apply w_binS | with_reducible apply w_call | with_reducible apply w_un | with_reducible apply w_fn | with_reducible apply w_fnD | with_reducible apply w_fnK | with_reducible apply w_tup | with_reducible apply w_lst | with_reducible apply w_ps | with_reducible apply w_slice | with_reducible apply t_bool | with_reducible apply t_tru | with_reducible apply a_not | with_reducible apply a_notV | with_reducible apply a_and | with_reducible apply a_or | with_reducible apply a_andV | with_reducible apply a_orV | with_reducible apply a_ifM | with_reducible apply a_it | with_reducible apply a_r1 | with_reducible apply a_r2 | with_reducible apply w_lc | with_reducible apply a_seq | with_reducible apply n_nx | with_reducible apply a_frz | with_reducible apply a_if | with_reducible apply a_set | with_reducible apply s_ret | with_reducible apply s_drop | with_reducible apply s_for | with_reducible apply a_par | with_reducible apply a_par3 | with_reducible apply a_asg | ((with_reducible apply c_T); exact rfl) | ((with_reducible apply c_F); exact rfl) | ((with_reducible apply c_TM); exact rfl) | ((with_reducible apply c_FM); exact rfl) | ((try dsimp only [RV.d, deref, List.map]); with_reducible assumption) | ((with_reducible apply eqsF); exact rfl; exact rfl; decide +kernel) | ((with_reducible apply eqsT); exact rfl; exact rfl; decide +kernel) | ((with_reducible apply inT); exact rfl; exact rfl; decide +kernel) | ((with_reducible apply inF); exact rfl; exact rfl; decide +kernel) | ((with_reducible apply ninT); exact rfl; exact rfl; decide +kernel) | ((with_reducible apply ninF); exact rfl; exact rfl; decide +kernel) | exact @rfl (Option RV) _ | exact @rfl (Option SV) _ | exact @rfl (Option D) _ | exact @rfl (Option (List D)) _ | exact @rfl (Option Bool) _ | exact @rfl (Option Env') _ | assumption | exact Nat.le_of_ble_eq_true rfl | exact s_skip | exact l_nil)
/-! ### powers -/
theorem lg_pow {b : Int} {a : Nat} (h : lg b a) : ∀ n : Nat, lg (b ^ n) (a * n + 1)
  | 0 => by
    rw [Int.pow_zero]
    exact lg_mono lg_one (by omega)
  | n + 1 => by
    rw [Int.pow_succ]
    exact lg_mono (lg_mul (lg_pow h n) h) (by rw [Nat.mul_succ]; omega)
def bPow : SS := sSeq (sSet 2 (sBin dMulA (rd (sVar 2)) (rd (sVar 0)))) sSkip
theorem pow_loop {b : Int} {q : Nat} (hb : lg b q) (B : SV) : ∀ (ds : List D) (acc : Int) (e : Nat) (x : SV) (st : Store), lg acc e → e + q * ds.length < 900000 → ∃ x', sForL (gN 3) bPow ds [.val (.int b), B, .val (.int acc), x] st = .nx [.val (.int b), B, .val (.int (acc * b ^ ds.length)), x'] st
  | [], acc, e, x, st, _, _ => ⟨x, by simp [sForL]⟩
  | d :: ds, acc, e, x, st, he, hl => by
    have hl : e + q * (ds.length + 1) < 900000 := hl
    rw [Nat.mul_succ] at hl
    obtain ⟨x', h⟩ := pow_loop hb B ds (acc * b) (e + q) (.val d) st (lg_mul he hb) (by omega)
    refine ⟨x', l_nx rfl ?_ (h.trans ?_)⟩
    · have e1 := mulA_lg he hb (by omega)
      exact s_seq (s_set (s := .val (.int (acc * b))) (w_bin (w_rd (w_var rfl)) (w_rd (w_var rfl)) e1) rfl rfl) s_skip
    · rw [List.length_cons, Int.pow_succ, Int.mul_assoc, Int.mul_comm b]
theorem pow_ok (l : Nat) {b : Int} {q : Nat} (hb : lg b q) (k : Nat) (hk : k ≤ 1000) (hq : q * k < 899000) (st : Store) : Q (l + 1) 15 [.int b, .int (k : Int)] st = .ok (.int (b ^ k)) st := by
  rw [u15]
  obtain ⟨x', h⟩ := pow_loop hb (.val (.int (k : Int))) (rngD 0 k) 1 1 .un st lg_one (by rw [rng_len]; omega)
  rw [rng_len, Int.one_mul] at h
  have h2 : sForL (gN 3) bPow (rngD 0 (k : Int).toNat) [.val (.int b), .val (.int (k : Int)), .val (.int 1), .un] st = .nx [.val (.int b), .val (.int (k : Int)), .val (.int (b ^ k)), x'] st := by
    rw [Int.toNat_natCast]
    exact h
  refine f_rt rfl (s_seq (s_set (s := .val (.int 1)) w_c rfl rfl) (s_seq (s_for (i_r1 (w_cons (w_kp (w_var rfl)) w_nil) (bnd_lt (by omega) (by omega))) h2) (s_seqR (s_frz rfl (s_ret (w_kp (w_var rfl)))))))
/-! ### numbers -/
theorem comb_ok {x : Int} {k : Nat} (h0 : 0 ≤ x) (h1 : x ≤ 1000000) (hk : k ≤ 1000) : dComb [.int x, .int (k : Int)] = some (.per (.int (PySem.W.mcComb x (k : Int)))) := by
  have e : (2 : Int) ^ 64 = 18446744073709551616 := by decide
  unfold dComb
  dsimp only
  rw [if_pos (by rw [e]; omega)]
  rfl
theorem heaps_ok (l : Nat) {x : Int} {k : Nat} (h0 : 0 ≤ x) (h1 : x ≤ 100000) (hk : k ≤ 1000) (st : Store) : Q (l + 1) 16 [.int x, .int (k : Int)] st = .ok (.int (hp x k)) st := by
  rw [u16]
  refine f_rt rfl ?_
  unfold L16 hp
  by_cases h : k = 0
  · subst h
    rw [if_pos rfl]
    repeat' (first | with_reducible exact w_c | with_reducible exact w_nil | with_reducible exact s_skip | with_reducible exact t_yes | with_reducible exact w_pn | with_reducible exact m_pure | with_reducible exact n_rt | with_reducible exact n_exc | with_reducible exact n_bk | with_reducible exact n_ct | with_reducible exact nT | with_reducible exact nF | with_reducible exact l_nil | ((with_reducible apply l_nx); exact rfl) | ((with_reducible apply w_var); exact rfl) | with_reducible apply w_rd | with_reducible apply w_kpl | with_reducible apply a_kpc | with_reducible apply w_kp | with_reducible apply w_cons | with_reducible apply w_bin | with_reducible apply w_binS | with_reducible apply w_call | with_reducible apply w_un | with_reducible apply w_fn | with_reducible apply w_fnD | with_reducible apply w_fnK | with_reducible apply w_tup | with_reducible apply w_lst | with_reducible apply w_ps | with_reducible apply w_slice | with_reducible apply t_bool | with_reducible apply t_tru | with_reducible apply a_not | with_reducible apply a_notV | with_reducible apply a_and | with_reducible apply a_or | with_reducible apply a_andV | with_reducible apply a_orV | with_reducible apply a_ifM | with_reducible apply a_it | with_reducible apply a_r1 | with_reducible apply a_r2 | with_reducible apply w_lc | with_reducible apply a_seq | with_reducible apply n_nx | with_reducible apply a_frz | with_reducible apply a_if | with_reducible apply a_set | with_reducible apply s_ret | with_reducible apply s_drop | with_reducible apply s_for | with_reducible apply a_par | with_reducible apply a_par3 | with_reducible apply a_asg | ((with_reducible apply c_T); exact rfl) | ((with_reducible apply c_F); exact rfl) | ((with_reducible apply c_TM); exact rfl) | ((with_reducible apply c_FM); exact rfl) | ((try dsimp only [RV.d, deref, List.map]); with_reducible assumption) | ((with_reducible apply eqsF); exact rfl; exact rfl; decide +kernel) | ((with_reducible apply eqsT); exact rfl; exact rfl; decide +kernel) | ((with_reducible apply inT); exact rfl; exact rfl; decide +kernel) | ((with_reducible apply inF); exact rfl; exact rfl; decide +kernel) | ((with_reducible apply ninT); exact rfl; exact rfl; decide +kernel) | ((with_reducible apply ninF); exact rfl; exact rfl; decide +kernel) | exact @rfl (Option RV) _ | exact @rfl (Option SV) _ | exact @rfl (Option D) _ | exact @rfl (Option (List D)) _ | exact @rfl (Option Bool) _ | exact @rfl (Option Env') _ | assumption | exact Nat.le_of_ble_eq_true rfl | exact s_skip | exact l_nil)
  · rw [if_neg h]
    have e : dEq (.int (k : Int)) (.int 0) = some (.per (.bl false)) := by
      show some (RV.per (.bl ((k : Int) == 0))) = _
      have : ((k : Int) == 0) = false := by simpa using h
      rw [this]
    have e2 := comb_ok (x := x + (k : Int) - 1) (k := k) (by omega) (by omega) hk
    repeat' (first | with_reducible exact w_c | with_reducible exact w_nil | with_reducible exact s_skip | with_reducible exact t_yes | with_reducible exact w_pn | with_reducible exact m_pure | with_reducible exact n_rt | with_reducible exact n_exc | with_reducible exact n_bk | with_reducible exact n_ct | with_reducible exact nT | with_reducible exact nF | with_reducible exact l_nil | ((with_reducible apply l_nx); exact rfl) | ((with_reducible apply w_var); exact rfl) | with_reducible apply w_rd | with_reducible apply w_kpl | with_reducible apply a_kpc | with_reducible apply w_kp | with_reducible apply w_cons | with_reducible apply w_bin | with_reducible apply w_binS | with_reducible apply w_call | with_reducible apply w_un | with_reducible apply w_fn | with_reducible apply w_fnD | with_reducible apply w_fnK | with_reducible apply w_tup | with_reducible apply w_lst | with_reducible apply w_ps | with_reducible apply w_slice | with_reducible apply t_bool | with_reducible apply t_tru | with_reducible apply a_not | with_reducible apply a_notV | with_reducible apply a_and | with_reducible apply a_or | with_reducible apply a_andV | with_reducible apply a_orV | with_reducible apply a_ifM | with_reducible apply a_it | with_reducible apply a_r1 | with_reducible apply a_r2 | with_reducible apply w_lc | with_reducible apply a_seq | with_reducible apply n_nx | with_reducible apply a_frz | with_reducible apply a_if | with_reducible apply a_set | with_reducible apply s_ret | with_reducible apply s_drop | with_reducible apply s_for | with_reducible apply a_par | with_reducible apply a_par3 | with_reducible apply a_asg | ((with_reducible apply c_T); exact rfl) | ((with_reducible apply c_F); exact rfl) | ((with_reducible apply c_TM); exact rfl) | ((with_reducible apply c_FM); exact rfl) | ((try dsimp only [RV.d, deref, List.map]); with_reducible assumption) | ((with_reducible apply eqsF); exact rfl; exact rfl; decide +kernel) | ((with_reducible apply eqsT); exact rfl; exact rfl; decide +kernel) | ((with_reducible apply inT); exact rfl; exact rfl; decide +kernel) | ((with_reducible apply inF); exact rfl; exact rfl; decide +kernel) | ((with_reducible apply ninT); exact rfl; exact rfl; decide +kernel) | ((with_reducible apply ninF); exact rfl; exact rfl; decide +kernel) | exact @rfl (Option RV) _ | exact @rfl (Option SV) _ | exact @rfl (Option D) _ | exact @rfl (Option (List D)) _ | exact @rfl (Option Bool) _ | exact @rfl (Option Env') _ | assumption | exact Nat.le_of_ble_eq_true rfl | exact s_skip | exact l_nil)
end M02
set_option Elab.async false -- ev
set_option linter.all false -- ev
set_option maxRecDepth 100000 -- ev
set_option maxHeartbeats 4000000 -- ev
set_option autoImplicit false -- ev
/-! Numbers of members, and what is asked of a sort. -/
namespace M02
open PySem Ev
def MM : Int := 1000000000000000000000000000000
def fitS (n : Int) : S → Prop
  | .c0 w => cnt n (.c0 w) ≤ MM
  | .c1 w k => cnt n (.c1 w k) ≤ MM
  | .c2 w k a => fitS n a ∧ cnt n (.c2 w k a) ≤ MM
  | .c3 w a b => fitS n a ∧ fitS n b ∧ cnt n (.c3 w a b) ≤ MM
theorem fitS.le {n : Int} : ∀ {s : S}, fitS n s → cnt n s ≤ MM
  | .c0 _, h => h
  | .c1 _ _, h => h
  | .c2 _ _ _, h => h.2
  | .c3 _ _ _, h => h.2.2
theorem comb_nn {x y : Int} (h : 0 ≤ y) : 0 ≤ PySem.W.mcComb x y := by
  by_cases h1 : y ≤ x
  · have := PySem.W.mcComb_pos h h1
    omega
  · rw [PySem.W.mcComb_above (by omega)]
    omega
theorem hp_nn (x : Int) (k : Nat) : 0 ≤ hp x k := by
  unfold hp
  split
  · omega
  · exact comb_nn (by omega)
theorem cnt_nn {n : Int} (h1 : 2 ≤ n) : ∀ s : S, 0 ≤ cnt n s
  | .c0 .none => by simp only [cnt]; omega
  | .c0 .one => by simp only [cnt]; omega
  | .c0 .trees => by simp only [cnt]; exact Int.pow_nonneg (by omega)
  | .c0 .rooted => by simp only [cnt]; exact Int.pow_nonneg (by omega)
  | .c1 .subset k => by simp only [cnt]; exact comb_nn (by omega)
  | .c1 .bag k => by simp only [cnt]; exact hp_nn n k
  | .c1 .rounds k => by simp only [cnt]; exact Int.pow_nonneg (by omega)
  | .c2 .list k a => by simp only [cnt]; exact Int.pow_nonneg (cnt_nn h1 a)
  | .c2 .family k a => by simp only [cnt]; exact comb_nn (by omega)
  | .c2 .heap k a => by simp only [cnt]; exact hp_nn _ k
  | .c3 .either a b => by
    have := cnt_nn h1 a
    have := cnt_nn h1 b
    simp only [cnt]
    omega
  | .c3 .pair a b => by simp only [cnt]; exact Int.mul_nonneg (cnt_nn h1 a) (cnt_nn h1 b)
theorem sub10 : ∀ n ∈ [2, 3, 4, 5], ∀ k ∈ [0, 1, 2, 3, 4, 5, 6, 7, 8, 9, 10, 11, 12], PySem.W.mcComb ((n : Nat) : Int) ((k : Nat) : Int) ≤ 10 := by decide +kernel
theorem in13 {k : Nat} (h : k ≤ 12) : k ∈ [0, 1, 2, 3, 4, 5, 6, 7, 8, 9, 10, 11, 12] := by
  have : k = 0 ∨ k = 1 ∨ k = 2 ∨ k = 3 ∨ k = 4 ∨ k = 5 ∨ k = 6 ∨ k = 7 ∨ k = 8 ∨ k = 9 ∨ k = 10 ∨ k = 11 ∨ k = 12 := by omega
  simpa using this
theorem single_cnt {n : Int} (h1 : 2 ≤ n) (h2 : n ≤ 5) : ∀ s : S, forms s → s.single = true → cnt n s ≤ 10 * (s.parts : Int)
  | .c0 .none, _, _ => by simp only [cnt, S.parts]; omega
  | .c0 .one, _, _ => by simp only [cnt, S.parts]; omega
  | .c0 .trees, _, h => by simp [S.single] at h
  | .c0 .rooted, _, h => by simp [S.single] at h
  | .c1 .subset k, f, _ => by
    obtain ⟨m, rfl⟩ : ∃ m : Nat, n = (m : Int) := ⟨n.toNat, by omega⟩
    have hm : m ∈ [2, 3, 4, 5] := by
      have : m = 2 ∨ m = 3 ∨ m = 4 ∨ m = 5 := by omega
      simpa using this
    have := sub10 m hm k (in13 (okN_le (show okN .subset k = true from f)))
    simp only [cnt, S.parts]
    omega
  | .c1 .bag k, _, h => by simp [S.single] at h
  | .c1 .rounds k, _, h => by simp [S.single] at h
  | .c2 _ _ _, _, h => by simp [S.single] at h
  | .c3 .pair _ _, _, h => by simp [S.single] at h
  | .c3 .either a b, f, h => by
    have h : a.single = true ∧ b.single = true := by simpa [S.single] using h
    have := single_cnt h1 h2 a f.1 h.1
    have := single_cnt h1 h2 b f.2 h.2
    simp only [cnt, S.parts]
    omega
/-! ### a number from the inner numbers -/
theorem cf0 {n : Int} (h1 : 2 ≤ n) (h2 : n ≤ 5) (w : W0) (l : Nat) (st : Store) : Q (l + 3) 17 [.int n, .tup [w.s], .lst []] st = .ok (.int (cnt n (.c0 w))) st := by
  have hn : n = 2 ∨ n = 3 ∨ n = 4 ∨ n = 5 := by omega
  rcases hn with rfl | rfl | rfl | rfl <;> cases w <;> kernel_rfl
theorem cf1r {n : Int} (h1 : 2 ≤ n) (h2 : n ≤ 5) (k : Nat) (hk : 1 ≤ k ∧ k ≤ 2) (l : Nat) (st : Store) : Q (l + 3) 17 [.int n, .tup [W1.rounds.s, .int (k : Int)], .lst []] st = .ok (.int (cnt n (.c1 .rounds k))) st := by
  have hn : n = 2 ∨ n = 3 ∨ n = 4 ∨ n = 5 := by omega
  have hk : k = 1 ∨ k = 2 := by omega
  rcases hn with rfl | rfl | rfl | rfl <;> rcases hk with rfl | rfl <;> kernel_rfl
theorem cf1s {n : Int} (h1 : 2 ≤ n) (h2 : n ≤ 5) (k : Nat) (hk : k ≤ 12) (l : Nat) (st : Store) : Q (l + 3) 17 [.int n, .tup [W1.subset.s, .int (k : Int)], .lst []] st = .ok (.int (cnt n (.c1 .subset k))) st := by
  have e := comb_ok (x := n) (k := k) (by omega) (by omega) (by omega)
  rw [u17]
  refine f_rt rfl ?_
  unfold L17
  simp only [W1.s, cnt]
  repeat' (first | with_reducible exact w_c | with_reducible exact w_nil | with_reducible exact s_skip | with_reducible exact t_yes | with_reducible exact w_pn | with_reducible exact m_pure | with_reducible exact n_rt | with_reducible exact n_exc | with_reducible exact n_bk | with_reducible exact n_ct | with_reducible exact nT | with_reducible exact nF | with_reducible exact l_nil | ((with_reducible apply l_nx); exact rfl) | ((with_reducible apply w_var); exact rfl) | with_reducible apply w_rd | with_reducible apply w_kpl | with_reducible apply a_kpc | with_reducible apply w_kp | with_reducible apply w_cons | with_reducible apply w_bin | with_reducible apply w_binS | with_reducible apply w_call | with_reducible apply w_un | with_reducible apply w_fn | with_reducible apply w_fnD | with_reducible apply w_fnK | with_reducible apply w_tup | with_reducible apply w_lst | with_reducible apply w_ps | with_reducible apply w_slice | with_reducible apply t_bool | with_reducible apply t_tru | with_reducible apply a_not | with_reducible apply a_notV | with_reducible apply a_and | with_reducible apply a_or | with_reducible apply a_andV | with_reducible apply a_orV | with_reducible apply a_ifM | with_reducible apply a_it | with_reducible apply a_r1 | with_reducible apply a_r2 | with_reducible apply w_lc | with_reducible apply a_seq | with_reducible apply n_nx | with_reducible apply a_frz | with_reducible apply a_if | with_reducible apply a_set | with_reducible apply s_ret | with_reducible apply s_drop | with_reducible apply s_for | with_reducible apply a_par | with_reducible apply a_par3 | with_reducible apply a_asg | ((with_reducible apply c_T); exact rfl) | ((with_reducible apply c_F); exact rfl) | ((with_reducible apply c_TM); exact rfl) | ((with_reducible apply c_FM); exact rfl) | ((try dsimp only [RV.d, deref, List.map]); with_reducible assumption) | ((with_reducible apply eqsF); exact rfl; exact rfl; decide +kernel) | ((with_reducible apply eqsT); exact rfl; exact rfl; decide +kernel) | ((with_reducible apply inT); exact rfl; exact rfl; decide +kernel) | ((with_reducible apply inF); exact rfl; exact rfl; decide +kernel) | ((with_reducible apply ninT); exact rfl; exact rfl; decide +kernel) | ((with_reducible apply ninF); exact rfl; exact rfl; decide +kernel) | exact @rfl (Option RV) _ | exact @rfl (Option SV) _ | exact @rfl (Option D) _ | exact @rfl (Option (List D)) _ | exact @rfl (Option Bool) _ | exact @rfl (Option Env') _ | assumption | exact Nat.le_of_ble_eq_true rfl | exact s_skip | exact l_nil)
theorem cf1b {n : Int} (h1 : 2 ≤ n) (h2 : n ≤ 5) (k : Nat) (hk : k ≤ 12) (l : Nat) (st : Store) : Q (l + 3) 17 [.int n, .tup [W1.bag.s, .int (k : Int)], .lst []] st = .ok (.int (cnt n (.c1 .bag k))) st := by
  have e := heaps_ok (l + 1) (x := n) (k := k) (by omega) (by omega) (by omega) st
  rw [u17]
  refine f_rt rfl ?_
  unfold L17
  simp only [W1.s, cnt]
  repeat' (first | with_reducible exact w_c | with_reducible exact w_nil | with_reducible exact s_skip | with_reducible exact t_yes | with_reducible exact w_pn | with_reducible exact m_pure | with_reducible exact n_rt | with_reducible exact n_exc | with_reducible exact n_bk | with_reducible exact n_ct | with_reducible exact nT | with_reducible exact nF | with_reducible exact l_nil | ((with_reducible apply l_nx); exact rfl) | ((with_reducible apply w_var); exact rfl) | with_reducible apply w_rd | with_reducible apply w_kpl | with_reducible apply a_kpc | with_reducible apply w_kp | with_reducible apply w_cons | with_reducible apply w_bin | with_reducible apply w_binS | with_reducible apply w_call | with_reducible apply w_un | with_reducible apply w_fn | with_reducible apply w_fnD | with_reducible apply w_fnK | with_reducible apply w_tup | with_reducible apply w_lst | with_reducible apply w_ps | with_reducible apply w_slice | with_reducible apply t_bool | with_reducible apply t_tru | with_reducible apply a_not | with_reducible apply a_notV | with_reducible apply a_and | with_reducible apply a_or | with_reducible apply a_andV | with_reducible apply a_orV | with_reducible apply a_ifM | with_reducible apply a_it | with_reducible apply a_r1 | with_reducible apply a_r2 | with_reducible apply w_lc | with_reducible apply a_seq | with_reducible apply n_nx | with_reducible apply a_frz | with_reducible apply a_if | with_reducible apply a_set | with_reducible apply s_ret | with_reducible apply s_drop | with_reducible apply s_for | with_reducible apply a_par | with_reducible apply a_par3 | with_reducible apply a_asg | ((with_reducible apply c_T); exact rfl) | ((with_reducible apply c_F); exact rfl) | ((with_reducible apply c_TM); exact rfl) | ((with_reducible apply c_FM); exact rfl) | ((try dsimp only [RV.d, deref, List.map]); with_reducible assumption) | ((with_reducible apply eqsF); exact rfl; exact rfl; decide +kernel) | ((with_reducible apply eqsT); exact rfl; exact rfl; decide +kernel) | ((with_reducible apply inT); exact rfl; exact rfl; decide +kernel) | ((with_reducible apply inF); exact rfl; exact rfl; decide +kernel) | ((with_reducible apply ninT); exact rfl; exact rfl; decide +kernel) | ((with_reducible apply ninF); exact rfl; exact rfl; decide +kernel) | exact @rfl (Option RV) _ | exact @rfl (Option SV) _ | exact @rfl (Option D) _ | exact @rfl (Option (List D)) _ | exact @rfl (Option Bool) _ | exact @rfl (Option Env') _ | assumption | exact Nat.le_of_ble_eq_true rfl | exact s_skip | exact l_nil)
theorem cf2l (n : D) {x : Int} {q : Nat} (hx : lg x q) (hq : q ≤ 200) (k : Nat) (hk : k ≤ 12) (a : D) (l : Nat) (st : Store) : Q (l + 3) 17 [n, .tup [W2.list.s, .int (k : Int), a], .lst [.int x]] st = .ok (.int (x ^ k)) st := by
  have e := pow_ok (l + 1) hx k (by omega) (by have := Nat.mul_le_mul hq hk; omega) st
  rw [u17]
  refine f_rt rfl ?_
  unfold L17
  simp only [W2.s]
  repeat' (first | with_reducible exact w_c | with_reducible exact w_nil | with_reducible exact s_skip | with_reducible exact t_yes | with_reducible exact w_pn | with_reducible exact m_pure | with_reducible exact n_rt | with_reducible exact n_exc | with_reducible exact n_bk | with_reducible exact n_ct | with_reducible exact nT | with_reducible exact nF | with_reducible exact l_nil | ((with_reducible apply l_nx); exact rfl) | ((with_reducible apply w_var); exact rfl) | with_reducible apply w_rd | with_reducible apply w_kpl | with_reducible apply a_kpc | with_reducible apply w_kp | with_reducible apply w_cons | with_reducible apply w_bin | with_reducible apply w_binS | with_reducible apply w_call | with_reducible apply w_un | with_reducible apply w_fn | with_reducible apply w_fnD | with_reducible apply w_fnK | with_reducible apply w_tup | with_reducible apply w_lst | with_reducible apply w_ps | with_reducible apply w_slice | with_reducible apply t_bool | with_reducible apply t_tru | with_reducible apply a_not | with_reducible apply a_notV | with_reducible apply a_and | with_reducible apply a_or | with_reducible apply a_andV | with_reducible apply a_orV | with_reducible apply a_ifM | with_reducible apply a_it | with_reducible apply a_r1 | with_reducible apply a_r2 | with_reducible apply w_lc | with_reducible apply a_seq | with_reducible apply n_nx | with_reducible apply a_frz | with_reducible apply a_if | with_reducible apply a_set | with_reducible apply s_ret | with_reducible apply s_drop | with_reducible apply s_for | with_reducible apply a_par | with_reducible apply a_par3 | with_reducible apply a_asg | ((with_reducible apply c_T); exact rfl) | ((with_reducible apply c_F); exact rfl) | ((with_reducible apply c_TM); exact rfl) | ((with_reducible apply c_FM); exact rfl) | ((try dsimp only [RV.d, deref, List.map]); with_reducible assumption) | ((with_reducible apply eqsF); exact rfl; exact rfl; decide +kernel) | ((with_reducible apply eqsT); exact rfl; exact rfl; decide +kernel) | ((with_reducible apply inT); exact rfl; exact rfl; decide +kernel) | ((with_reducible apply inF); exact rfl; exact rfl; decide +kernel) | ((with_reducible apply ninT); exact rfl; exact rfl; decide +kernel) | ((with_reducible apply ninF); exact rfl; exact rfl; decide +kernel) | exact @rfl (Option RV) _ | exact @rfl (Option SV) _ | exact @rfl (Option D) _ | exact @rfl (Option (List D)) _ | exact @rfl (Option Bool) _ | exact @rfl (Option Env') _ | assumption | exact Nat.le_of_ble_eq_true rfl | exact s_skip | exact l_nil)
theorem cf2f (n : D) {x : Int} (h0 : 0 ≤ x) (h1 : x ≤ 1000) (k : Nat) (hk : k ≤ 12) (a : D) (l : Nat) (st : Store) : Q (l + 3) 17 [n, .tup [W2.family.s, .int (k : Int), a], .lst [.int x]] st = .ok (.int (PySem.W.mcComb x (k : Int))) st := by
  have e := comb_ok (x := x) (k := k) (by omega) (by omega) (by omega)
  rw [u17]
  refine f_rt rfl ?_
  unfold L17
  simp only [W2.s]
  repeat' (first | with_reducible exact w_c | with_reducible exact w_nil | with_reducible exact s_skip | with_reducible exact t_yes | with_reducible exact w_pn | with_reducible exact m_pure | with_reducible exact n_rt | with_reducible exact n_exc | with_reducible exact n_bk | with_reducible exact n_ct | with_reducible exact nT | with_reducible exact nF | with_reducible exact l_nil | ((with_reducible apply l_nx); exact rfl) | ((with_reducible apply w_var); exact rfl) | with_reducible apply w_rd | with_reducible apply w_kpl | with_reducible apply a_kpc | with_reducible apply w_kp | with_reducible apply w_cons | with_reducible apply w_bin | with_reducible apply w_binS | with_reducible apply w_call | with_reducible apply w_un | with_reducible apply w_fn | with_reducible apply w_fnD | with_reducible apply w_fnK | with_reducible apply w_tup | with_reducible apply w_lst | with_reducible apply w_ps | with_reducible apply w_slice | with_reducible apply t_bool | with_reducible apply t_tru | with_reducible apply a_not | with_reducible apply a_notV | with_reducible apply a_and | with_reducible apply a_or | with_reducible apply a_andV | with_reducible apply a_orV | with_reducible apply a_ifM | with_reducible apply a_it | with_reducible apply a_r1 | with_reducible apply a_r2 | with_reducible apply w_lc | with_reducible apply a_seq | with_reducible apply n_nx | with_reducible apply a_frz | with_reducible apply a_if | with_reducible apply a_set | with_reducible apply s_ret | with_reducible apply s_drop | with_reducible apply s_for | with_reducible apply a_par | with_reducible apply a_par3 | with_reducible apply a_asg | ((with_reducible apply c_T); exact rfl) | ((with_reducible apply c_F); exact rfl) | ((with_reducible apply c_TM); exact rfl) | ((with_reducible apply c_FM); exact rfl) | ((try dsimp only [RV.d, deref, List.map]); with_reducible assumption) | ((with_reducible apply eqsF); exact rfl; exact rfl; decide +kernel) | ((with_reducible apply eqsT); exact rfl; exact rfl; decide +kernel) | ((with_reducible apply inT); exact rfl; exact rfl; decide +kernel) | ((with_reducible apply inF); exact rfl; exact rfl; decide +kernel) | ((with_reducible apply ninT); exact rfl; exact rfl; decide +kernel) | ((with_reducible apply ninF); exact rfl; exact rfl; decide +kernel) | exact @rfl (Option RV) _ | exact @rfl (Option SV) _ | exact @rfl (Option D) _ | exact @rfl (Option (List D)) _ | exact @rfl (Option Bool) _ | exact @rfl (Option Env') _ | assumption | exact Nat.le_of_ble_eq_true rfl | exact s_skip | exact l_nil)
theorem cf2h (n : D) {x : Int} (h0 : 0 ≤ x) (h1 : x ≤ 1000) (k : Nat) (hk : k ≤ 12) (a : D) (l : Nat) (st : Store) : Q (l + 3) 17 [n, .tup [W2.heap.s, .int (k : Int), a], .lst [.int x]] st = .ok (.int (hp x k)) st := by
  have e := heaps_ok (l + 1) (x := x) (k := k) (by omega) (by omega) (by omega) st
  rw [u17]
  refine f_rt rfl ?_
  unfold L17
  simp only [W2.s]
  repeat' (first | with_reducible exact w_c | with_reducible exact w_nil | with_reducible exact s_skip | with_reducible exact t_yes | with_reducible exact w_pn | with_reducible exact m_pure | with_reducible exact n_rt | with_reducible exact n_exc | with_reducible exact n_bk | with_reducible exact n_ct | with_reducible exact nT | with_reducible exact nF | with_reducible exact l_nil | ((with_reducible apply l_nx); exact rfl) | ((with_reducible apply w_var); exact rfl) | with_reducible apply w_rd | with_reducible apply w_kpl | with_reducible apply a_kpc | with_reducible apply w_kp | with_reducible apply w_cons | with_reducible apply w_bin | with_reducible apply w_binS | with_reducible apply w_call | with_reducible apply w_un | with_reducible apply w_fn | with_reducible apply w_fnD | with_reducible apply w_fnK | with_reducible apply w_tup | with_reducible apply w_lst | with_reducible apply w_ps | with_reducible apply w_slice | with_reducible apply t_bool | with_reducible apply t_tru | with_reducible apply a_not | with_reducible apply a_notV | with_reducible apply a_and | with_reducible apply a_or | with_reducible apply a_andV | with_reducible apply a_orV | with_reducible apply a_ifM | with_reducible apply a_it | with_reducible apply a_r1 | with_reducible apply a_r2 | with_reducible apply w_lc | with_reducible apply a_seq | with_reducible apply n_nx | with_reducible apply a_frz | with_reducible apply a_if | with_reducible apply a_set | with_reducible apply s_ret | with_reducible apply s_drop | with_reducible apply s_for | with_reducible apply a_par | with_reducible apply a_par3 | with_reducible apply a_asg | ((with_reducible apply c_T); exact rfl) | ((with_reducible apply c_F); exact rfl) | ((with_reducible apply c_TM); exact rfl) | ((with_reducible apply c_FM); exact rfl) | ((try dsimp only [RV.d, deref, List.map]); with_reducible assumption) | ((with_reducible apply eqsF); exact rfl; exact rfl; decide +kernel) | ((with_reducible apply eqsT); exact rfl; exact rfl; decide +kernel) | ((with_reducible apply inT); exact rfl; exact rfl; decide +kernel) | ((with_reducible apply inF); exact rfl; exact rfl; decide +kernel) | ((with_reducible apply ninT); exact rfl; exact rfl; decide +kernel) | ((with_reducible apply ninF); exact rfl; exact rfl; decide +kernel) | exact @rfl (Option RV) _ | exact @rfl (Option SV) _ | exact @rfl (Option D) _ | exact @rfl (Option (List D)) _ | exact @rfl (Option Bool) _ | exact @rfl (Option Env') _ | assumption | exact Nat.le_of_ble_eq_true rfl | exact s_skip | exact l_nil)
theorem cf3e (n : D) (x y : Int) (a b : D) (l : Nat) (st : Store) : Q (l + 3) 17 [n, .tup [W3.either.s, a, b], .lst [.int x, .int y]] st = .ok (.int (x + y)) st := by
  rw [u17]
  refine f_rt rfl ?_
  unfold L17
  simp only [W3.s]
  repeat' (first | with_reducible exact w_c | with_reducible exact w_nil | with_reducible exact s_skip | with_reducible exact t_yes | with_reducible exact w_pn | with_reducible exact m_pure | with_reducible exact n_rt | with_reducible exact n_exc | with_reducible exact n_bk | with_reducible exact n_ct | with_reducible exact nT | with_reducible exact nF | with_reducible exact l_nil | ((with_reducible apply l_nx); exact rfl) | ((with_reducible apply w_var); exact rfl) | with_reducible apply w_rd | with_reducible apply w_kpl | with_reducible apply a_kpc | with_reducible apply w_kp | with_reducible apply w_cons | with_reducible apply w_bin | with_reducible apply w_binS | with_reducible apply w_call | with_reducible apply w_un | with_reducible apply w_fn | with_reducible apply w_fnD | with_reducible apply w_fnK | with_reducible apply w_tup | with_reducible apply w_lst | with_reducible apply w_ps | with_reducible apply w_slice | with_reducible apply t_bool | with_reducible apply t_tru | with_reducible apply a_not | with_reducible apply a_notV | with_reducible apply a_and | with_reducible apply a_or | with_reducible apply a_andV | with_reducible apply a_orV | with_reducible apply a_ifM | with_reducible apply a_it | with_reducible apply a_r1 | with_reducible apply a_r2 | with_reducible apply w_lc | with_reducible apply a_seq | with_reducible apply n_nx | with_reducible apply a_frz | with_reducible apply a_if | with_reducible apply a_set | with_reducible apply s_ret | with_reducible apply s_drop | with_reducible apply s_for | with_reducible apply a_par | with_reducible apply a_par3 | with_reducible apply a_asg | ((with_reducible apply c_T); exact rfl) | ((with_reducible apply c_F); exact rfl) | ((with_reducible apply c_TM); exact rfl) | ((with_reducible apply c_FM); exact rfl) | ((try dsimp only [RV.d, deref, List.map]); with_reducible assumption) | ((with_reducible apply eqsF); exact rfl; exact rfl; decide +kernel) | ((with_reducible apply eqsT); exact rfl; exact rfl; decide +kernel) | ((with_reducible apply inT); exact rfl; exact rfl; decide +kernel) | ((with_reducible apply inF); exact rfl; exact rfl; decide +kernel) | ((with_reducible apply ninT); exact rfl; exact rfl; decide +kernel) | ((with_reducible apply ninF); exact rfl; exact rfl; decide +kernel) | exact @rfl (Option RV) _ | exact @rfl (Option SV) _ | exact @rfl (Option D) _ | exact @rfl (Option (List D)) _ | exact @rfl (Option Bool) _ | exact @rfl (Option Env') _ | assumption | exact Nat.le_of_ble_eq_true rfl | exact s_skip | exact l_nil)
theorem cf3p (n : D) {x y : Int} {q : Nat} (hx : lg x q) (hy : lg y q) (hq : q ≤ 200) (a b : D) (l : Nat) (st : Store) : Q (l + 3) 17 [n, .tup [W3.pair.s, a, b], .lst [.int x, .int y]] st = .ok (.int (x * y)) st := by
  have e := mulA_lg hx hy (by omega)
  rw [u17]
  refine f_rt rfl ?_
  unfold L17
  simp only [W3.s]
  repeat' (first | with_reducible exact w_c | with_reducible exact w_nil | with_reducible exact s_skip | with_reducible exact t_yes | with_reducible exact w_pn | with_reducible exact m_pure | with_reducible exact n_rt | with_reducible exact n_exc | with_reducible exact n_bk | with_reducible exact n_ct | with_reducible exact nT | with_reducible exact nF | with_reducible exact l_nil | ((with_reducible apply l_nx); exact rfl) | ((with_reducible apply w_var); exact rfl) | with_reducible apply w_rd | with_reducible apply w_kpl | with_reducible apply a_kpc | with_reducible apply w_kp | with_reducible apply w_cons | with_reducible apply w_bin | with_reducible apply w_binS | with_reducible apply w_call | with_reducible apply w_un | with_reducible apply w_fn | with_reducible apply w_fnD | with_reducible apply w_fnK | with_reducible apply w_tup | with_reducible apply w_lst | with_reducible apply w_ps | with_reducible apply w_slice | with_reducible apply t_bool | with_reducible apply t_tru | with_reducible apply a_not | with_reducible apply a_notV | with_reducible apply a_and | with_reducible apply a_or | with_reducible apply a_andV | with_reducible apply a_orV | with_reducible apply a_ifM | with_reducible apply a_it | with_reducible apply a_r1 | with_reducible apply a_r2 | with_reducible apply w_lc | with_reducible apply a_seq | with_reducible apply n_nx | with_reducible apply a_frz | with_reducible apply a_if | with_reducible apply a_set | with_reducible apply s_ret | with_reducible apply s_drop | with_reducible apply s_for | with_reducible apply a_par | with_reducible apply a_par3 | with_reducible apply a_asg | ((with_reducible apply c_T); exact rfl) | ((with_reducible apply c_F); exact rfl) | ((with_reducible apply c_TM); exact rfl) | ((with_reducible apply c_FM); exact rfl) | ((try dsimp only [RV.d, deref, List.map]); with_reducible assumption) | ((with_reducible apply eqsF); exact rfl; exact rfl; decide +kernel) | ((with_reducible apply eqsT); exact rfl; exact rfl; decide +kernel) | ((with_reducible apply inT); exact rfl; exact rfl; decide +kernel) | ((with_reducible apply inF); exact rfl; exact rfl; decide +kernel) | ((with_reducible apply ninT); exact rfl; exact rfl; decide +kernel) | ((with_reducible apply ninF); exact rfl; exact rfl; decide +kernel) | exact @rfl (Option RV) _ | exact @rfl (Option SV) _ | exact @rfl (Option D) _ | exact @rfl (Option (List D)) _ | exact @rfl (Option Bool) _ | exact @rfl (Option Env') _ | assumption | exact Nat.le_of_ble_eq_true rfl | exact s_skip | exact l_nil)
theorem lgM {x : Int} (h0 : 0 ≤ x) (h : x ≤ MM) : lg x 100 := by
  have e : (2 : Nat) ^ 100 = 1267650600228229401496703205376 := by decide
  have e2 : MM = 1000000000000000000000000000000 := rfl
  exact lg_nn h0 (by omega)
theorem count_step {n : D} {d : D} {is : List D} {x : Int} {m : Nat} {st : Store} (hx : x ≤ MM)
    (e1 : Q (m + 3) 4 [d] st = .ok (.lst is) st) {es : List D} (lc : sLcL (gN 3) sYes (kp (sFn (Q (m + 3) 18) (sCons (kp (sVar 0)) (sCons (kp (sVar 3)) sNil)))) [.val n, .val d, .un, .un, .un] is [] st = .ok es st)
    (e2 : Q (m + 3) 17 [n, d, .lst es] st = .ok (.int x) st) : Q (m + 4) 18 [n, d] st = .ok (.int x) st := by
  have e3 : dGt (.int x) (.int 1000000000000000000000000000000) = some (.per (.bl false)) := by
    have e : MM = 1000000000000000000000000000000 := rfl
    show some (RV.per (.bl (decide ((1000000000000000000000000000000 : Int) < x)))) = _
    rw [decide_eq_false (by omega)] -- ev
  rw [u18]
  refine f_rt rfl ?_
  unfold L18
  refine s_seq (s_frz rfl (s_set (s := .own es) (w_lc (i_lst (w_kp (w_fn (w_cons (w_kp (w_var rfl)) w_nil) e1))) lc) rfl rfl)) ?_
  refine s_seq (s_frz rfl (s_set (s := .val (.int x)) (w_fn (w_cons (w_kp (w_var rfl)) (w_cons (w_kp (w_var rfl)) (w_cons (w_kp (w_var rfl)) w_nil))) e2) rfl rfl)) ?_
  refine s_seq (s_ifF (t_bool (w_bin (w_rd (w_var rfl)) (w_rd w_c) e3)) s_skip) ?_
  exact s_seqR (s_frz rfl (s_ret (w_kp (w_var rfl))))
theorem count_ok {n : Int} (h1 : 2 ≤ n) (h2 : n ≤ 5) : ∀ (s : S) (l : Nat), forms s → fitS n s → s.parts ≤ 60 → s.depth + 3 ≤ l → ∀ st, Q l 18 [.int n, s.d] st = .ok (.int (cnt n s)) st
  | .c0 w, l, _, ft, _, hl, st => by
    simp only [S.depth] at hl
    obtain ⟨m, rfl⟩ : ∃ m, l = m + 4 := ⟨l - 4, by omega⟩
    exact count_step (d := .tup [w.s]) ft.le (ip0 w (m + 1) st) (es := []) rfl (cf0 h1 h2 w m st)
  | .c1 .rounds k, l, f, ft, _, hl, st => by
    simp only [S.depth] at hl
    obtain ⟨m, rfl⟩ : ∃ m, l = m + 4 := ⟨l - 4, by omega⟩
    exact count_step (d := .tup [W1.rounds.s, .int (k : Int)]) ft.le (ip1 .rounds (.int (k : Int)) (m + 1) st) (es := []) rfl (cf1r h1 h2 k (by simpa [forms, okN] using f) m st)
  | .c1 .subset k, l, f, ft, _, hl, st => by
    simp only [S.depth] at hl
    obtain ⟨m, rfl⟩ : ∃ m, l = m + 4 := ⟨l - 4, by omega⟩
    exact count_step (d := .tup [W1.subset.s, .int (k : Int)]) ft.le (ip1 .subset (.int (k : Int)) (m + 1) st) (es := []) rfl (cf1s h1 h2 k (okN_le f) m st)
  | .c1 .bag k, l, f, ft, _, hl, st => by
    simp only [S.depth] at hl
    obtain ⟨m, rfl⟩ : ∃ m, l = m + 4 := ⟨l - 4, by omega⟩
    exact count_step (d := .tup [W1.bag.s, .int (k : Int)]) ft.le (ip1 .bag (.int (k : Int)) (m + 1) st) (es := []) rfl (cf1b h1 h2 k (okN_le f) m st)
  | .c2 w k a, l, f, ft, hp, hl, st => by
    simp only [S.depth] at hl
    simp only [S.parts] at hp
    obtain ⟨m, rfl⟩ : ∃ m, l = m + 4 := ⟨l - 4, by omega⟩
    have ih := count_ok h1 h2 a (m + 3) f.2.1 ft.1 (by omega) (by omega) st
    have a0 := cnt_nn h1 a
    have aM := ft.1.le
    refine count_step (d := .tup [w.s, .int (k : Int), a.d]) ft.le (ip2 w (.int (k : Int)) a.d (m + 1) st) (es := [.int (cnt n a)]) (lc_one (w_kp (w_fn (w_cons (w_kp (w_var rfl)) (w_cons (w_kp (w_var rfl)) w_nil)) ih))) ?_
    have sm : isL w = false → cnt n a ≤ 1000 := fun hw => by
      have hs : a.single = true := by
        rcases f.2.2 with h | h
        · rw [hw] at h
          exact Bool.noConfusion h
        · exact h
      have := single_cnt h1 h2 a f.2.1 hs
      omega
    cases w with
    | list => exact cf2l _ (lgM a0 aM) (by omega) k f.1 a.d m st
    | family => exact cf2f _ a0 (sm rfl) k f.1 a.d m st
    | heap => exact cf2h _ a0 (sm rfl) k f.1 a.d m st
  | .c3 w a b, l, f, ft, hp, hl, st => by
    simp only [S.depth] at hl
    simp only [S.parts] at hp
    obtain ⟨m, rfl⟩ : ∃ m, l = m + 4 := ⟨l - 4, by omega⟩
    have iha := count_ok h1 h2 a (m + 3) f.1 ft.1 (by omega) (by omega) st
    have ihb := count_ok h1 h2 b (m + 3) f.2 ft.2.1 (by omega) (by omega) st
    refine count_step (d := .tup [w.s, a.d, b.d]) ft.le (ip3 w a.d b.d (m + 1) st) (es := [.int (cnt n a), .int (cnt n b)]) (lc_two (w_kp (w_fn (w_cons (w_kp (w_var rfl)) (w_cons (w_kp (w_var rfl)) w_nil)) iha)) (w_kp (w_fn (w_cons (w_kp (w_var rfl)) (w_cons (w_kp (w_var rfl)) w_nil)) ihb))) ?_
    cases w with
    | either => exact cf3e _ _ _ a.d b.d m st
    | pair => exact cf3p _ (lgM (cnt_nn h1 a) ft.1.le) (lgM (cnt_nn h1 b) ft.2.1.le) (by omega) a.d b.d m st
end M02
set_option Elab.async false -- ev
set_option linter.all false -- ev
set_option maxRecDepth 100000 -- ev
set_option maxHeartbeats 4000000 -- ev
set_option autoImplicit false -- ev
/-! What a sort is asked, and what it tells. -/
namespace M02
open PySem Ev
theorem tupAdd {ps qs : List D} (h : ps.length + qs.length ≤ 1000) : dAdd (.tup ps) (.tup qs) = some (.per (.tup (ps ++ qs))) := by
  unfold dAdd
  dsimp only
  rw [if_pos (by have := size_ge; omega)]
  rfl
theorem lenT (ps : List D) : dLen [.tup ps] = some (.per (.int (ps.length : Int))) := rfl
theorem eqF {i j : Int} (h : ¬ i = j) : dEq (.int i) (.int j) = some (.per (.bl false)) := by
  show some (RV.per (.bl (i == j))) = _
  have : (i == j) = false := by simpa using h
  rw [this]
theorem gtF {i j : Int} (h : ¬ j < i) : dGt (.int i) (.int j) = some (.per (.bl false)) := by
  show some (RV.per (.bl (decide (j < i)))) = _
  rw [decide_eq_false h]
theorem gtT {i j : Int} (h : j < i) : dGt (.int i) (.int j) = some (.per (.bl true)) := by
  show some (RV.per (.bl (decide (j < i)))) = _
  rw [decide_eq_true h]
theorem addN (m : Nat) : dAdd (.int (m : Int)) (.int 1) = some (.per (.int ((m + 1 : Nat) : Int))) := rfl
/-- the walk, at a value whose form is right -/
theorem tm_step {l : Nat} {d : D} {ps : List D} {m r : Nat} {is : List D} {st : Store} (hp : ps.length < 10) (hm : m < 60)
    (hf : Q l 6 [d] st = .ok (.bl true) st) (hi : Q l 3 [d] st = .ok (.lst is) st)
    (z : SV) (hl : sForL (gN 4) (sSeq (sFrz [4, 3] (sSet 3 (sFn (Q l 7) (sCons (kp (sBinS ixSt (rd (sVar 0)) (rd (sVar 4)))) (sCons (kp (sBin dAdd (rd (sVar 1)) (rd (sTup (sCons (kp (sVar 4)) sNil))))) (sCons (kp (sVar 3)) sNil)))))) (sSeq (sIfS (sAndT (sBoolT (sBin dIn (rd (sBinS ixSt (rd (sVar 0)) (rd (sC (.int 0))))) (rd (sTup (sCons (kp (sC (.str "family"))) (sCons (kp (sC (.str "heap"))) sNil)))))) (sNotT (sTru (sFn (Q l 9) (sCons (kp (sBinS ixSt (rd (sVar 0)) (rd (sVar 4)))) sNil))))) (sSeq (sFrz [4] (sRaise "BadSort" 1 (sCons (kp (sBin dAdd (rd (sVar 1)) (rd (sTup (sCons (kp (sVar 4)) sNil))))) sNil))) sSkip) sSkip) sSkip)) is [.val d, .val (.tup ps), .val (.int (m : Int)), .val (.int ((m + 1 : Nat) : Int)), .un] st = .nx [.val d, .val (.tup ps), .val (.int (m : Int)), .val (.int (r : Int)), z] st) :
    Q (l + 1) 7 [d, .tup ps, .int (m : Int)] st = .ok (.int (r : Int)) st := by
  rw [u7]
  refine f_rt rfl ?_
  unfold L7
  refine s_seq (s_ifF (t_bool (w_bin (w_rd (w_call (w_cons (w_rd (w_var rfl)) w_nil) (lenT ps))) (w_rd w_c) (eqF (by omega)))) s_skip) ?_
  refine s_seq (s_ifF (t_bool (w_bin (w_rd (w_var rfl)) (w_rd w_c) (eqF (by omega)))) s_skip) ?_
  refine s_seq (s_frz rfl (s_ifF (t_not (k := true) (t_tru (w_fn (w_cons (w_kp (w_var rfl)) w_nil) hf) rfl)) s_skip)) ?_
  refine s_seq (s_set (s := .val (.int ((m + 1 : Nat) : Int))) (w_bin (w_rd (w_var rfl)) (w_rd w_c) (addN m)) rfl rfl) ?_
  refine s_seq (s_frz rfl (s_for (i_lst (w_kp (w_fn (w_cons (w_kp (w_var rfl)) w_nil) hi))) hl)) ?_
  exact s_seqR (s_frz rfl (s_ret (w_kp (w_var rfl))))
theorem things_ok : ∀ (s : S) (l : Nat) (ps : List D) (m : Nat), forms s → s.depth + 4 ≤ l → ps.length + s.depth ≤ 10 → m + s.parts ≤ 60 → ∀ st, Q l 7 [s.d, .tup ps, .int (m : Int)] st = .ok (.int ((m + s.parts : Nat) : Int)) st
  | .c0 w, l, ps, m, f, hl, hd, hp, st => by
    simp only [S.depth] at hl hd
    simp only [S.parts] at hp ⊢
    obtain ⟨q, rfl⟩ : ∃ q, l = q + 5 := ⟨l - 5, by omega⟩
    exact tm_step (d := .tup [w.s]) (by omega) (by omega) (hf0 w q st) (ii0 w (q + 3) st) .un l_nil
  | .c1 w k, l, ps, m, f, hl, hd, hp, st => by
    simp only [S.depth] at hl hd
    simp only [S.parts] at hp ⊢
    obtain ⟨q, rfl⟩ : ∃ q, l = q + 5 := ⟨l - 5, by omega⟩
    exact tm_step (d := .tup [w.s, .int (k : Int)]) (by omega) (by omega) (hf1 w k f q st) (ii1 w (.int (k : Int)) (q + 3) st) .un l_nil
  | .c2 w k a, l, ps, m, f, hl, hd, hp, st => by
    simp only [S.depth] at hl hd
    simp only [S.parts] at hp ⊢
    obtain ⟨q, rfl⟩ : ∃ q, l = q + 5 := ⟨l - 5, by omega⟩
    have ih := things_ok a (q + 4) (ps ++ [.int 2]) (m + 1) f.2.1 (by omega) (by simp; omega) (by omega) st
    have ta := tupAdd (ps := ps) (qs := [.int 2]) (by simp; omega)
    have sg := single_ok a (q + 4) (by omega) st
    have e : m + 1 + a.parts = m + (a.parts + 1) := by omega
    rw [e] at ih
    refine tm_step (d := .tup [w.s, .int (k : Int), a.d]) (by omega) (by omega) (hf2 w k f.1 a.d q st) (ii2 w (.int (k : Int)) a.d (q + 3) st) (.val (.int 2)) (l_nx rfl ?_ l_nil)
    cases w with
    | list =>
      simp only [W2.s]
      repeat' (first | with_reducible exact w_c | with_reducible exact w_nil | with_reducible exact s_skip | with_reducible exact t_yes | with_reducible exact w_pn | with_reducible exact m_pure | with_reducible exact n_rt | with_reducible exact n_exc | with_reducible exact n_bk | with_reducible exact n_ct | with_reducible exact nT | with_reducible exact nF | with_reducible exact l_nil | ((with_reducible apply l_nx); exact rfl) | ((with_reducible apply w_var); exact rfl) | with_reducible apply w_rd | with_reducible apply w_kpl | with_reducible apply a_kpc | with_reducible apply w_kp | with_reducible apply w_cons | with_reducible apply w_bin | with_reducible apply w_binS | with_reducible apply w_call | with_reducible apply w_un | with_reducible apply w_fn | with_reducible apply w_fnD | with_reducible apply w_fnK | with_reducible apply w_tup | with_reducible apply w_lst | with_reducible apply w_ps | with_reducible apply w_slice | with_reducible apply t_bool | with_reducible apply t_tru | with_reducible apply a_not | with_reducible apply a_notV | with_reducible apply a_and | with_reducible apply a_or | with_reducible apply a_andV | with_reducible apply a_orV | with_reducible apply a_ifM | with_reducible apply a_it | with_reducible apply a_r1 | with_reducible apply a_r2 | with_reducible apply w_lc | with_reducible apply a_seq | with_reducible apply n_nx | with_reducible apply a_frz | with_reducible apply a_if | with_reducible apply a_set | with_reducible apply s_ret | with_reducible apply s_drop | with_reducible apply s_for | with_reducible apply a_par | with_reducible apply a_par3 | with_reducible apply a_asg | ((with_reducible apply c_T); exact rfl) | ((with_reducible apply c_F); exact rfl) | ((with_reducible apply c_TM); exact rfl) | ((with_reducible apply c_FM); exact rfl) | ((try dsimp only [RV.d, deref, List.map]); with_reducible assumption) | ((with_reducible apply eqsF); exact rfl; exact rfl; decide +kernel) | ((with_reducible apply eqsT); exact rfl; exact rfl; decide +kernel) | ((with_reducible apply inT); exact rfl; exact rfl; decide +kernel) | ((with_reducible apply inF); exact rfl; exact rfl; decide +kernel) | ((with_reducible apply ninT); exact rfl; exact rfl; decide +kernel) | ((with_reducible apply ninF); exact rfl; exact rfl; decide +kernel) | exact @rfl (Option RV) _ | exact @rfl (Option SV) _ | exact @rfl (Option D) _ | exact @rfl (Option (List D)) _ | exact @rfl (Option Bool) _ | exact @rfl (Option Env') _ | assumption | exact Nat.le_of_ble_eq_true rfl | exact s_skip | exact l_nil)
    | family =>
      have hs : a.single = true := by simpa [isL] using f.2.2
      rw [hs] at sg
      simp only [W2.s]
      repeat' (first | with_reducible exact w_c | with_reducible exact w_nil | with_reducible exact s_skip | with_reducible exact t_yes | with_reducible exact w_pn | with_reducible exact m_pure | with_reducible exact n_rt | with_reducible exact n_exc | with_reducible exact n_bk | with_reducible exact n_ct | with_reducible exact nT | with_reducible exact nF | with_reducible exact l_nil | ((with_reducible apply l_nx); exact rfl) | ((with_reducible apply w_var); exact rfl) | with_reducible apply w_rd | with_reducible apply w_kpl | with_reducible apply a_kpc | with_reducible apply w_kp | with_reducible apply w_cons | with_reducible apply w_bin | with_reducible apply w_binS | with_reducible apply w_call | with_reducible apply w_un | with_reducible apply w_fn | with_reducible apply w_fnD | with_reducible apply w_fnK | with_reducible apply w_tup | with_reducible apply w_lst | with_reducible apply w_ps | with_reducible apply w_slice | with_reducible apply t_bool | with_reducible apply t_tru | with_reducible apply a_not | with_reducible apply a_notV | with_reducible apply a_and | with_reducible apply a_or | with_reducible apply a_andV | with_reducible apply a_orV | with_reducible apply a_ifM | with_reducible apply a_it | with_reducible apply a_r1 | with_reducible apply a_r2 | with_reducible apply w_lc | with_reducible apply a_seq | with_reducible apply n_nx | with_reducible apply a_frz | with_reducible apply a_if | with_reducible apply a_set | with_reducible apply s_ret | with_reducible apply s_drop | with_reducible apply s_for | with_reducible apply a_par | with_reducible apply a_par3 | with_reducible apply a_asg | ((with_reducible apply c_T); exact rfl) | ((with_reducible apply c_F); exact rfl) | ((with_reducible apply c_TM); exact rfl) | ((with_reducible apply c_FM); exact rfl) | ((try dsimp only [RV.d, deref, List.map]); with_reducible assumption) | ((with_reducible apply eqsF); exact rfl; exact rfl; decide +kernel) | ((with_reducible apply eqsT); exact rfl; exact rfl; decide +kernel) | ((with_reducible apply inT); exact rfl; exact rfl; decide +kernel) | ((with_reducible apply inF); exact rfl; exact rfl; decide +kernel) | ((with_reducible apply ninT); exact rfl; exact rfl; decide +kernel) | ((with_reducible apply ninF); exact rfl; exact rfl; decide +kernel) | exact @rfl (Option RV) _ | exact @rfl (Option SV) _ | exact @rfl (Option D) _ | exact @rfl (Option (List D)) _ | exact @rfl (Option Bool) _ | exact @rfl (Option Env') _ | assumption | exact Nat.le_of_ble_eq_true rfl | exact s_skip | exact l_nil)
    | heap =>
      have hs : a.single = true := by simpa [isL] using f.2.2
      rw [hs] at sg
      simp only [W2.s]
      repeat' (first | with_reducible exact w_c | with_reducible exact w_nil | with_reducible exact s_skip | with_reducible exact t_yes | with_reducible exact w_pn | with_reducible exact m_pure | with_reducible exact n_rt | with_reducible exact n_exc | with_reducible exact n_bk | with_reducible exact n_ct | with_reducible exact nT | with_reducible exact nF | with_reducible exact l_nil | ((with_reducible apply l_nx); exact rfl) | ((with_reducible apply w_var); exact rfl) | with_reducible apply w_rd | with_reducible apply w_kpl | with_reducible apply a_kpc | with_reducible apply w_kp | with_reducible apply w_cons | with_reducible apply w_bin | with_reducible apply w_binS | with_reducible apply w_call | with_reducible apply w_un | with_reducible apply w_fn | with_reducible apply w_fnD | with_reducible apply w_fnK | with_reducible apply w_tup | with_reducible apply w_lst | with_reducible apply w_ps | with_reducible apply w_slice | with_reducible apply t_bool | with_reducible apply t_tru | with_reducible apply a_not | with_reducible apply a_notV | with_reducible apply a_and | with_reducible apply a_or | with_reducible apply a_andV | with_reducible apply a_orV | with_reducible apply a_ifM | with_reducible apply a_it | with_reducible apply a_r1 | with_reducible apply a_r2 | with_reducible apply w_lc | with_reducible apply a_seq | with_reducible apply n_nx | with_reducible apply a_frz | with_reducible apply a_if | with_reducible apply a_set | with_reducible apply s_ret | with_reducible apply s_drop | with_reducible apply s_for | with_reducible apply a_par | with_reducible apply a_par3 | with_reducible apply a_asg | ((with_reducible apply c_T); exact rfl) | ((with_reducible apply c_F); exact rfl) | ((with_reducible apply c_TM); exact rfl) | ((with_reducible apply c_FM); exact rfl) | ((try dsimp only [RV.d, deref, List.map]); with_reducible assumption) | ((with_reducible apply eqsF); exact rfl; exact rfl; decide +kernel) | ((with_reducible apply eqsT); exact rfl; exact rfl; decide +kernel) | ((with_reducible apply inT); exact rfl; exact rfl; decide +kernel) | ((with_reducible apply inF); exact rfl; exact rfl; decide +kernel) | ((with_reducible apply ninT); exact rfl; exact rfl; decide +kernel) | ((with_reducible apply ninF); exact rfl; exact rfl; decide +kernel) | exact @rfl (Option RV) _ | exact @rfl (Option SV) _ | exact @rfl (Option D) _ | exact @rfl (Option (List D)) _ | exact @rfl (Option Bool) _ | exact @rfl (Option Env') _ | assumption | exact Nat.le_of_ble_eq_true rfl | exact s_skip | exact l_nil)
  | .c3 w a b, l, ps, m, f, hl, hd, hp, st => by
    simp only [S.depth] at hl hd
    simp only [S.parts] at hp ⊢
    obtain ⟨q, rfl⟩ : ∃ q, l = q + 5 := ⟨l - 5, by omega⟩
    have iha := things_ok a (q + 4) (ps ++ [.int 1]) (m + 1) f.1 (by omega) (by simp; omega) (by omega) st
    have ihb := things_ok b (q + 4) (ps ++ [.int 2]) (m + 1 + a.parts) f.2 (by omega) (by simp; omega) (by omega) st
    have ta := tupAdd (ps := ps) (qs := [.int 1]) (by simp; omega)
    have tb := tupAdd (ps := ps) (qs := [.int 2]) (by simp; omega)
    have e : m + 1 + a.parts + b.parts = m + (a.parts + b.parts + 1) := by omega
    rw [e] at ihb
    refine tm_step (d := .tup [w.s, a.d, b.d]) (by omega) (by omega) (hf3 w a.d b.d q st) (ii3 w a.d b.d (q + 3) st) (.val (.int 2)) ?_
    refine l_nx (ρ2 := [.val (.tup [w.s, a.d, b.d]), .val (.tup ps), .val (.int (m : Int)), .val (.int ((m + 1 + a.parts : Nat) : Int)), .val (.int 1)]) (st1 := st) rfl ?_ (l_nx rfl ?_ l_nil)
    · cases w <;> (simp only [W3.s]; repeat' (first | with_reducible exact w_c | with_reducible exact w_nil | with_reducible exact s_skip | with_reducible exact t_yes | with_reducible exact w_pn | with_reducible exact m_pure | with_reducible exact n_rt | with_reducible exact n_exc | with_reducible exact n_bk | with_reducible exact n_ct | with_reducible exact nT | with_reducible exact nF | with_reducible exact l_nil | ((with_reducible apply l_nx); exact rfl) | ((with_reducible apply w_var); exact rfl) | with_reducible apply w_rd | with_reducible apply w_kpl | with_reducible apply a_kpc | with_reducible apply w_kp | with_reducible apply w_cons | with_reducible apply w_bin | with_reducible apply w_binS | with_reducible apply w_call | with_reducible apply w_un | with_reducible apply w_fn | with_reducible apply w_fnD | with_reducible apply w_fnK | with_reducible apply w_tup | with_reducible apply w_lst | with_reducible apply w_ps | with_reducible apply w_slice | with_reducible apply t_bool | with_reducible apply t_tru | with_reducible apply a_not | with_reducible apply a_notV | with_reducible apply a_and | with_reducible apply a_or | with_reducible apply a_andV | with_reducible apply a_orV | with_reducible apply a_ifM | with_reducible apply a_it | with_reducible apply a_r1 | with_reducible apply a_r2 | with_reducible apply w_lc | with_reducible apply a_seq | with_reducible apply n_nx | with_reducible apply a_frz | with_reducible apply a_if | with_reducible apply a_set | with_reducible apply s_ret | with_reducible apply s_drop | with_reducible apply s_for | with_reducible apply a_par | with_reducible apply a_par3 | with_reducible apply a_asg | ((with_reducible apply c_T); exact rfl) | ((with_reducible apply c_F); exact rfl) | ((with_reducible apply c_TM); exact rfl) | ((with_reducible apply c_FM); exact rfl) | ((try dsimp only [RV.d, deref, List.map]); with_reducible assumption) | ((with_reducible apply eqsF); exact rfl; exact rfl; decide +kernel) | ((with_reducible apply eqsT); exact rfl; exact rfl; decide +kernel) | ((with_reducible apply inT); exact rfl; exact rfl; decide +kernel) | ((with_reducible apply inF); exact rfl; exact rfl; decide +kernel) | ((with_reducible apply ninT); exact rfl; exact rfl; decide +kernel) | ((with_reducible apply ninF); exact rfl; exact rfl; decide +kernel) | exact @rfl (Option RV) _ | exact @rfl (Option SV) _ | exact @rfl (Option D) _ | exact @rfl (Option (List D)) _ | exact @rfl (Option Bool) _ | exact @rfl (Option Env') _ | assumption | exact Nat.le_of_ble_eq_true rfl | exact s_skip | exact l_nil))
    · cases w <;> (simp only [W3.s]; repeat' (first | with_reducible exact w_c | with_reducible exact w_nil | with_reducible exact s_skip | with_reducible exact t_yes | with_reducible exact w_pn | with_reducible exact m_pure | with_reducible exact n_rt | with_reducible exact n_exc | with_reducible exact n_bk | with_reducible exact n_ct | with_reducible exact nT | with_reducible exact nF | with_reducible exact l_nil | ((with_reducible apply l_nx); exact rfl) | ((with_reducible apply w_var); exact rfl) | with_reducible apply w_rd | with_reducible apply w_kpl | with_reducible apply a_kpc | with_reducible apply w_kp | with_reducible apply w_cons | with_reducible apply w_bin | with_reducible apply w_binS | with_reducible apply w_call | with_reducible apply w_un | with_reducible apply w_fn | with_reducible apply w_fnD | with_reducible apply w_fnK | with_reducible apply w_tup | with_reducible apply w_lst | with_reducible apply w_ps | with_reducible apply w_slice | with_reducible apply t_bool | with_reducible apply t_tru | with_reducible apply a_not | with_reducible apply a_notV | with_reducible apply a_and | with_reducible apply a_or | with_reducible apply a_andV | with_reducible apply a_orV | with_reducible apply a_ifM | with_reducible apply a_it | with_reducible apply a_r1 | with_reducible apply a_r2 | with_reducible apply w_lc | with_reducible apply a_seq | with_reducible apply n_nx | with_reducible apply a_frz | with_reducible apply a_if | with_reducible apply a_set | with_reducible apply s_ret | with_reducible apply s_drop | with_reducible apply s_for | with_reducible apply a_par | with_reducible apply a_par3 | with_reducible apply a_asg | ((with_reducible apply c_T); exact rfl) | ((with_reducible apply c_F); exact rfl) | ((with_reducible apply c_TM); exact rfl) | ((with_reducible apply c_FM); exact rfl) | ((try dsimp only [RV.d, deref, List.map]); with_reducible assumption) | ((with_reducible apply eqsF); exact rfl; exact rfl; decide +kernel) | ((with_reducible apply eqsT); exact rfl; exact rfl; decide +kernel) | ((with_reducible apply inT); exact rfl; exact rfl; decide +kernel) | ((with_reducible apply inF); exact rfl; exact rfl; decide +kernel) | ((with_reducible apply ninT); exact rfl; exact rfl; decide +kernel) | ((with_reducible apply ninF); exact rfl; exact rfl; decide +kernel) | exact @rfl (Option RV) _ | exact @rfl (Option SV) _ | exact @rfl (Option D) _ | exact @rfl (Option (List D)) _ | exact @rfl (Option Bool) _ | exact @rfl (Option Env') _ | assumption | exact Nat.le_of_ble_eq_true rfl | exact s_skip | exact l_nil))
/-- a sort -/
structure Sort' (n : Int) (s : S) : Prop where
  two : 2 ≤ n
  five : n ≤ 5
  forms : forms s
  deep : s.depth ≤ 10
  parts : s.parts ≤ 60
  marks : mk n s ≤ 12
  wide : wd s ≤ 40
  fit : fitS n s
variable {n : Int} {s : S}
theorem need_ok (h : Sort' n s) (l : Nat) (hl : 14 ≤ l) (st : Store) : Q (l + 1) 8 [.int n, s.d] st = .ok s.d st := by
  have hd := h.deep
  have e1 := lv (P := fun l => Q l 2 [.int n] st = .ok (.int n) st) (fun l => many_ok l n h.two h.five st) (show 2 ≤ l by omega)
  have e2 := things_ok s l [] 0 h.forms (by omega) (by simp; omega) (by have := h.parts; omega) st
  have e3 := marks_ok h.two h.five s l h.forms hd (by omega) st
  have e4 := width_ok (.int n) s l h.forms hd (by omega) st
  have e5 := count_ok h.two h.five s l h.forms h.fit h.parts (by omega) st
  have g1 := gtF (i := mk n s) (j := 12) (by have := h.marks; omega)
  have g2 := gtF (i := wd s) (j := 40) (by have := h.wide; omega)
  rw [u8]
  refine f_rt rfl ?_
  unfold L8
  refine s_seq (s_frz rfl (s_drop (w_fn (w_cons (w_kp (w_var rfl)) w_nil) e1))) ?_
  refine s_seq (s_frz rfl (s_drop (w_fn (w_cons (w_kp (w_var rfl)) (w_cons (w_kp (w_tup w_nil (Nat.zero_le _))) (w_cons (w_kp w_c) w_nil))) e2))) ?_
  refine s_seq (s_frz rfl (s_ifF (t_bool (w_bin (w_rd (w_fn (w_cons (w_kp (w_var rfl)) (w_cons (w_kp (w_var rfl)) w_nil)) e3)) (w_rd w_c) g1)) s_skip)) ?_
  refine s_seq (s_frz rfl (s_ifF (t_bool (w_bin (w_rd (w_fn (w_cons (w_kp (w_var rfl)) (w_cons (w_kp (w_var rfl)) w_nil)) e4)) (w_rd w_c) g2)) s_skip)) ?_
  refine s_seq (s_frz rfl (s_drop (w_fn (w_cons (w_kp (w_var rfl)) (w_cons (w_kp (w_var rfl)) w_nil)) e5))) ?_
  exact s_seqR (s_frz rfl (s_ret (w_kp (w_var rfl))))
end M02
set_option Elab.async false -- ev
set_option linter.all false -- ev
set_option maxRecDepth 100000 -- ev
set_option maxHeartbeats 4000000 -- ev
set_option autoImplicit false -- ev
/-! What is told of a sort; the law's own weights, widths, numbers. -/
namespace M02
open PySem Ev
/-! ### alone -/
theorem al0 (w : W0) (l : Nat) (st : Store) : Q (l + 1) 39 [.tup [w.s]] st = .ok (.bl (S.c0 w).single) st := by cases w <;> kernel_rfl
theorem al1 (w : W1) (k : Nat) (l : Nat) (st : Store) : Q (l + 1) 39 [.tup [w.s, .int (k : Int)]] st = .ok (.bl (S.c1 w k).single) st := by cases w <;> kernel_rfl
theorem al2 (w : W2) (k a : D) (l : Nat) (st : Store) : Q (l + 1) 39 [.tup [w.s, k, a]] st = .ok (.bl false) st := by cases w <;> kernel_rfl
theorem alp (a b : D) (l : Nat) (st : Store) : Q (l + 1) 39 [.tup [W3.pair.s, a, b]] st = .ok (.bl false) st := by kernel_rfl
theorem aleT (l : Nat) {a b : D} {x : Bool} {st : Store} (h1 : Q l 39 [a] st = .ok (.bl true) st) (h2 : Q l 39 [b] st = .ok (.bl x) st) : Q (l + 1) 39 [.tup [W3.either.s, a, b]] st = .ok (.bl x) st := by
  rw [u39]
  simp only [W3.s]
  refine f_rt rfl ?_
  unfold L39
  repeat' (first | with_reducible exact w_c | with_reducible exact w_nil | with_reducible exact s_skip | with_reducible exact t_yes | with_reducible exact w_pn | with_reducible exact m_pure | with_reducible exact n_rt | with_reducible exact n_exc | with_reducible exact n_bk | with_reducible exact n_ct | with_reducible exact nT | with_reducible exact nF | with_reducible exact l_nil | ((with_reducible apply l_nx); exact rfl) | ((with_reducible apply w_var); exact rfl) | with_reducible apply w_rd | with_reducible apply w_kpl | with_reducible apply a_kpc | with_reducible apply w_kp | with_reducible apply w_cons | with_reducible apply w_bin | with_reducible apply w_binS | with_reducible apply w_call | with_reducible apply w_un | with_reducible apply w_fn | with_reducible apply w_fnD | with_reducible apply w_fnK | with_reducible apply w_tup | with_reducible apply w_lst | with_reducible apply w_ps | with_reducible apply w_slice | with_reducible apply t_bool | with_reducible apply t_tru | with_reducible apply a_not | with_reducible apply a_notV | with_reducible apply a_and | with_reducible apply a_or | with_reducible apply a_andV | with_reducible apply a_orV | with_reducible apply a_ifM | with_reducible apply a_it | with_reducible apply a_r1 | with_reducible apply a_r2 | with_reducible apply w_lc | with_reducible apply a_seq | with_reducible apply n_nx | with_reducible apply a_frz | with_reducible apply a_if | with_reducible apply a_set | with_reducible apply s_ret | with_reducible apply s_drop | with_reducible apply s_for | with_reducible apply a_par | with_reducible apply a_par3 | with_reducible apply a_asg | ((with_reducible apply c_T); exact rfl) | ((with_reducible apply c_F); exact rfl) | ((with_reducible apply c_TM); exact rfl) | ((with_reducible apply c_FM); exact rfl) | ((try dsimp only [RV.d, deref, List.map]); with_reducible assumption) | ((with_reducible apply eqsF); exact rfl; exact rfl; decide +kernel) | ((with_reducible apply eqsT); exact rfl; exact rfl; decide +kernel) | ((with_reducible apply inT); exact rfl; exact rfl; decide +kernel) | ((with_reducible apply inF); exact rfl; exact rfl; decide +kernel) | ((with_reducible apply ninT); exact rfl; exact rfl; decide +kernel) | ((with_reducible apply ninF); exact rfl; exact rfl; decide +kernel) | exact @rfl (Option RV) _ | exact @rfl (Option SV) _ | exact @rfl (Option D) _ | exact @rfl (Option (List D)) _ | exact @rfl (Option Bool) _ | exact @rfl (Option Env') _ | assumption | exact Nat.le_of_ble_eq_true rfl | exact s_skip | exact l_nil)
theorem aleF (l : Nat) {a b : D} {st : Store} (h1 : Q l 39 [a] st = .ok (.bl false) st) : Q (l + 1) 39 [.tup [W3.either.s, a, b]] st = .ok (.bl false) st := by
  rw [u39]
  simp only [W3.s]
  refine f_rt rfl ?_
  unfold L39
  repeat' (first | with_reducible exact w_c | with_reducible exact w_nil | with_reducible exact s_skip | with_reducible exact t_yes | with_reducible exact w_pn | with_reducible exact m_pure | with_reducible exact n_rt | with_reducible exact n_exc | with_reducible exact n_bk | with_reducible exact n_ct | with_reducible exact nT | with_reducible exact nF | with_reducible exact l_nil | ((with_reducible apply l_nx); exact rfl) | ((with_reducible apply w_var); exact rfl) | with_reducible apply w_rd | with_reducible apply w_kpl | with_reducible apply a_kpc | with_reducible apply w_kp | with_reducible apply w_cons | with_reducible apply w_bin | with_reducible apply w_binS | with_reducible apply w_call | with_reducible apply w_un | with_reducible apply w_fn | with_reducible apply w_fnD | with_reducible apply w_fnK | with_reducible apply w_tup | with_reducible apply w_lst | with_reducible apply w_ps | with_reducible apply w_slice | with_reducible apply t_bool | with_reducible apply t_tru | with_reducible apply a_not | with_reducible apply a_notV | with_reducible apply a_and | with_reducible apply a_or | with_reducible apply a_andV | with_reducible apply a_orV | with_reducible apply a_ifM | with_reducible apply a_it | with_reducible apply a_r1 | with_reducible apply a_r2 | with_reducible apply w_lc | with_reducible apply a_seq | with_reducible apply n_nx | with_reducible apply a_frz | with_reducible apply a_if | with_reducible apply a_set | with_reducible apply s_ret | with_reducible apply s_drop | with_reducible apply s_for | with_reducible apply a_par | with_reducible apply a_par3 | with_reducible apply a_asg | ((with_reducible apply c_T); exact rfl) | ((with_reducible apply c_F); exact rfl) | ((with_reducible apply c_TM); exact rfl) | ((with_reducible apply c_FM); exact rfl) | ((try dsimp only [RV.d, deref, List.map]); with_reducible assumption) | ((with_reducible apply eqsF); exact rfl; exact rfl; decide +kernel) | ((with_reducible apply eqsT); exact rfl; exact rfl; decide +kernel) | ((with_reducible apply inT); exact rfl; exact rfl; decide +kernel) | ((with_reducible apply inF); exact rfl; exact rfl; decide +kernel) | ((with_reducible apply ninT); exact rfl; exact rfl; decide +kernel) | ((with_reducible apply ninF); exact rfl; exact rfl; decide +kernel) | exact @rfl (Option RV) _ | exact @rfl (Option SV) _ | exact @rfl (Option D) _ | exact @rfl (Option (List D)) _ | exact @rfl (Option Bool) _ | exact @rfl (Option Env') _ | assumption | exact Nat.le_of_ble_eq_true rfl | exact s_skip | exact l_nil)
theorem alone_ok : ∀ (s : S) (l : Nat), s.depth ≤ l → ∀ st, Q l 39 [s.d] st = .ok (.bl s.single) st
  | .c0 w, l, hl, st => lv (P := fun l => Q l 39 [.tup [w.s]] st = .ok (.bl (S.c0 w).single) st) (fun l => al0 w l st) hl
  | .c1 w k, l, hl, st => lv (P := fun l => Q l 39 [.tup [w.s, .int (k : Int)]] st = .ok (.bl (S.c1 w k).single) st) (fun l => al1 w k l st) hl
  | .c2 w k a, l, hl, st => lv (k := 1) (P := fun l => Q l 39 [.tup [w.s, .int (k : Int), a.d]] st = .ok (.bl false) st) (fun l => al2 w (.int (k : Int)) a.d l st) (by simp only [S.depth] at hl; omega)
  | .c3 .pair a b, l, hl, st => by
    simp only [S.depth] at hl
    obtain ⟨m, rfl⟩ : ∃ m, l = m + 1 := ⟨l - 1, by omega⟩
    exact alp a.d b.d m st
  | .c3 .either a b, l, hl, st => by
    simp only [S.depth] at hl
    obtain ⟨m, rfl⟩ : ∃ m, l = m + 1 := ⟨l - 1, by omega⟩
    have h1 := alone_ok a m (by omega) st
    have h2 := alone_ok b m (by omega) st
    show Q (m + 1) 39 [.tup [W3.either.s, a.d, b.d]] st = .ok (.bl (a.single && b.single)) st
    cases ha : a.single with
    | true =>
      rw [ha] at h1
      exact aleT m h1 h2
    | false =>
      rw [ha] at h1
      exact aleF m h1
/-! ### weights -/
theorem max2i (x y : Int) : dMax [.int x, .int y] = some (.per (.int (max x y))) := rfl
theorem lw0 {n : Int} (h1 : 2 ≤ n) (h2 : n ≤ 5) (w : W0) (l : Nat) (st : Store) : Q (l + 1) 33 [.int n, .tup [w.s]] st = .ok (.int (mk n (.c0 w))) st := by
  have hn : n = 2 ∨ n = 3 ∨ n = 4 ∨ n = 5 := by omega
  rcases hn with rfl | rfl | rfl | rfl <;> cases w <;> kernel_rfl
theorem lw1r {n : Int} (h1 : 2 ≤ n) (h2 : n ≤ 5) (k : Nat) (hk : 1 ≤ k ∧ k ≤ 2) (l : Nat) (st : Store) : Q (l + 1) 33 [.int n, .tup [W1.rounds.s, .int (k : Int)]] st = .ok (.int (mk n (.c1 .rounds k))) st := by
  have hn : n = 2 ∨ n = 3 ∨ n = 4 ∨ n = 5 := by omega
  have hk : k = 1 ∨ k = 2 := by omega
  rcases hn with rfl | rfl | rfl | rfl <;> rcases hk with rfl | rfl <;> kernel_rfl
theorem lw1s (n : Int) (k : D) (l : Nat) (st : Store) : Q (l + 1) 33 [.int n, .tup [W1.subset.s, k]] st = .ok k st := by kernel_rfl
theorem lw1b (n : Int) (k : D) (l : Nat) (st : Store) : Q (l + 1) 33 [.int n, .tup [W1.bag.s, k]] st = .ok k st := by kernel_rfl
theorem weight_ok {n : Int} (h1 : 2 ≤ n) (h2 : n ≤ 5) : ∀ (s : S) (l : Nat), forms s → s.depth ≤ 10 → s.depth ≤ l → ∀ st, Q l 33 [.int n, s.d] st = .ok (.int (mk n s)) st
  | .c0 w, l, _, _, hl, st => lv (P := fun l => Q l 33 [.int n, .tup [w.s]] st = .ok (.int (mk n (.c0 w))) st) (fun l => lw0 h1 h2 w l st) hl
  | .c1 .rounds k, l, h, _, hl, st => lv (P := fun l => Q l 33 [.int n, .tup [W1.rounds.s, .int (k : Int)]] st = .ok (.int (mk n (.c1 .rounds k))) st) (fun l => lw1r h1 h2 k (by simpa [forms, okN] using h) l st) hl
  | .c1 .subset k, l, h, _, hl, st => lv (P := fun l => Q l 33 [.int n, .tup [W1.subset.s, .int (k : Int)]] st = .ok (.int (k : Int)) st) (fun l => lw1s n (.int (k : Int)) l st) hl
  | .c1 .bag k, l, h, _, hl, st => lv (P := fun l => Q l 33 [.int n, .tup [W1.bag.s, .int (k : Int)]] st = .ok (.int (k : Int)) st) (fun l => lw1b n (.int (k : Int)) l st) hl
  | .c2 w k a, l, h, hd, hl, st => by
    simp only [S.depth] at hl hd
    obtain ⟨m, rfl⟩ : ∃ m, l = m + 1 := ⟨l - 1, by omega⟩
    have ih := weight_ok h1 h2 a m h.2.1 (by omega) (by omega) st
    have b := mk_b h1 h2 a h.2.1
    have e := km h.1 (show a.depth ≤ 10 by omega) b.1 b.2
    show Q (m + 1) 33 [.int n, .tup [w.s, .int (k : Int), a.d]] st = .ok (.int ((k : Int) * mk n a)) st
    rw [u33]
    refine f_rt rfl ?_
    unfold L33
    cases w <;> (simp only [W2.s]; repeat' (first | with_reducible exact w_c | with_reducible exact w_nil | with_reducible exact s_skip | with_reducible exact t_yes | with_reducible exact w_pn | with_reducible exact m_pure | with_reducible exact n_rt | with_reducible exact n_exc | with_reducible exact n_bk | with_reducible exact n_ct | with_reducible exact nT | with_reducible exact nF | with_reducible exact l_nil | ((with_reducible apply l_nx); exact rfl) | ((with_reducible apply w_var); exact rfl) | with_reducible apply w_rd | with_reducible apply w_kpl | with_reducible apply a_kpc | with_reducible apply w_kp | with_reducible apply w_cons | with_reducible apply w_bin | with_reducible apply w_binS | with_reducible apply w_call | with_reducible apply w_un | with_reducible apply w_fn | with_reducible apply w_fnD | with_reducible apply w_fnK | with_reducible apply w_tup | with_reducible apply w_lst | with_reducible apply w_ps | with_reducible apply w_slice | with_reducible apply t_bool | with_reducible apply t_tru | with_reducible apply a_not | with_reducible apply a_notV | with_reducible apply a_and | with_reducible apply a_or | with_reducible apply a_andV | with_reducible apply a_orV | with_reducible apply a_ifM | with_reducible apply a_it | with_reducible apply a_r1 | with_reducible apply a_r2 | with_reducible apply w_lc | with_reducible apply a_seq | with_reducible apply n_nx | with_reducible apply a_frz | with_reducible apply a_if | with_reducible apply a_set | with_reducible apply s_ret | with_reducible apply s_drop | with_reducible apply s_for | with_reducible apply a_par | with_reducible apply a_par3 | with_reducible apply a_asg | ((with_reducible apply c_T); exact rfl) | ((with_reducible apply c_F); exact rfl) | ((with_reducible apply c_TM); exact rfl) | ((with_reducible apply c_FM); exact rfl) | ((try dsimp only [RV.d, deref, List.map]); with_reducible assumption) | ((with_reducible apply eqsF); exact rfl; exact rfl; decide +kernel) | ((with_reducible apply eqsT); exact rfl; exact rfl; decide +kernel) | ((with_reducible apply inT); exact rfl; exact rfl; decide +kernel) | ((with_reducible apply inF); exact rfl; exact rfl; decide +kernel) | ((with_reducible apply ninT); exact rfl; exact rfl; decide +kernel) | ((with_reducible apply ninF); exact rfl; exact rfl; decide +kernel) | exact @rfl (Option RV) _ | exact @rfl (Option SV) _ | exact @rfl (Option D) _ | exact @rfl (Option (List D)) _ | exact @rfl (Option Bool) _ | exact @rfl (Option Env') _ | assumption | exact Nat.le_of_ble_eq_true rfl | exact s_skip | exact l_nil))
  | .c3 .either a b, l, h, hd, hl, st => by
    simp only [S.depth] at hl hd
    obtain ⟨m, rfl⟩ : ∃ m, l = m + 1 := ⟨l - 1, by omega⟩
    have iha := weight_ok h1 h2 a m h.1 (by omega) (by omega) st
    have ihb := weight_ok h1 h2 b m h.2 (by omega) (by omega) st
    have e := max2i (mk n a) (mk n b)
    show Q (m + 1) 33 [.int n, .tup [W3.either.s, a.d, b.d]] st = .ok (.int (max (mk n a) (mk n b))) st
    rw [u33]
    refine f_rt rfl ?_
    unfold L33
    simp only [W3.s]
    repeat' (first | with_reducible exact w_c | with_reducible exact w_nil | with_reducible exact s_skip | with_reducible exact t_yes | with_reducible exact w_pn | with_reducible exact m_pure | with_reducible exact n_rt | with_reducible exact n_exc | with_reducible exact n_bk | with_reducible exact n_ct | with_reducible exact nT | with_reducible exact nF | with_reducible exact l_nil | ((with_reducible apply l_nx); exact rfl) | ((with_reducible apply w_var); exact rfl) | with_reducible apply w_rd | with_reducible apply w_kpl | with_reducible apply a_kpc | with_reducible apply w_kp | with_reducible apply w_cons | with_reducible apply w_bin | with_reducible apply w_binS | with_reducible apply w_call | with_reducible apply w_un | with_reducible apply w_fn | with_reducible apply w_fnD | with_reducible apply w_fnK | with_reducible apply w_tup | with_reducible apply w_lst | with_reducible apply w_ps | with_reducible apply w_slice | with_reducible apply t_bool | with_reducible apply t_tru | with_reducible apply a_not | with_reducible apply a_notV | with_reducible apply a_and | with_reducible apply a_or | with_reducible apply a_andV | with_reducible apply a_orV | with_reducible apply a_ifM | with_reducible apply a_it | with_reducible apply a_r1 | with_reducible apply a_r2 | with_reducible apply w_lc | with_reducible apply a_seq | with_reducible apply n_nx | with_reducible apply a_frz | with_reducible apply a_if | with_reducible apply a_set | with_reducible apply s_ret | with_reducible apply s_drop | with_reducible apply s_for | with_reducible apply a_par | with_reducible apply a_par3 | with_reducible apply a_asg | ((with_reducible apply c_T); exact rfl) | ((with_reducible apply c_F); exact rfl) | ((with_reducible apply c_TM); exact rfl) | ((with_reducible apply c_FM); exact rfl) | ((try dsimp only [RV.d, deref, List.map]); with_reducible assumption) | ((with_reducible apply eqsF); exact rfl; exact rfl; decide +kernel) | ((with_reducible apply eqsT); exact rfl; exact rfl; decide +kernel) | ((with_reducible apply inT); exact rfl; exact rfl; decide +kernel) | ((with_reducible apply inF); exact rfl; exact rfl; decide +kernel) | ((with_reducible apply ninT); exact rfl; exact rfl; decide +kernel) | ((with_reducible apply ninF); exact rfl; exact rfl; decide +kernel) | exact @rfl (Option RV) _ | exact @rfl (Option SV) _ | exact @rfl (Option D) _ | exact @rfl (Option (List D)) _ | exact @rfl (Option Bool) _ | exact @rfl (Option Env') _ | assumption | exact Nat.le_of_ble_eq_true rfl | exact s_skip | exact l_nil)
  | .c3 .pair a b, l, h, hd, hl, st => by
    simp only [S.depth] at hl hd
    obtain ⟨m, rfl⟩ : ∃ m, l = m + 1 := ⟨l - 1, by omega⟩
    have iha := weight_ok h1 h2 a m h.1 (by omega) (by omega) st
    have ihb := weight_ok h1 h2 b m h.2 (by omega) (by omega) st
    show Q (m + 1) 33 [.int n, .tup [W3.pair.s, a.d, b.d]] st = .ok (.int (mk n a + mk n b)) st
    rw [u33]
    refine f_rt rfl ?_
    unfold L33
    simp only [W3.s]
    repeat' (first | with_reducible exact w_c | with_reducible exact w_nil | with_reducible exact s_skip | with_reducible exact t_yes | with_reducible exact w_pn | with_reducible exact m_pure | with_reducible exact n_rt | with_reducible exact n_exc | with_reducible exact n_bk | with_reducible exact n_ct | with_reducible exact nT | with_reducible exact nF | with_reducible exact l_nil | ((with_reducible apply l_nx); exact rfl) | ((with_reducible apply w_var); exact rfl) | with_reducible apply w_rd | with_reducible apply w_kpl | with_reducible apply a_kpc | with_reducible apply w_kp | with_reducible apply w_cons | with_reducible apply w_bin | with_reducible apply w_binS | with_reducible apply w_call | with_reducible apply w_un | with_reducible apply w_fn | with_reducible apply w_fnD | with_reducible apply w_fnK | with_reducible apply w_tup | with_reducible apply w_lst | with_reducible apply w_ps | with_reducible apply w_slice | with_reducible apply t_bool | with_reducible apply t_tru | with_reducible apply a_not | with_reducible apply a_notV | with_reducible apply a_and | with_reducible apply a_or | with_reducible apply a_andV | with_reducible apply a_orV | with_reducible apply a_ifM | with_reducible apply a_it | with_reducible apply a_r1 | with_reducible apply a_r2 | with_reducible apply w_lc | with_reducible apply a_seq | with_reducible apply n_nx | with_reducible apply a_frz | with_reducible apply a_if | with_reducible apply a_set | with_reducible apply s_ret | with_reducible apply s_drop | with_reducible apply s_for | with_reducible apply a_par | with_reducible apply a_par3 | with_reducible apply a_asg | ((with_reducible apply c_T); exact rfl) | ((with_reducible apply c_F); exact rfl) | ((with_reducible apply c_TM); exact rfl) | ((with_reducible apply c_FM); exact rfl) | ((try dsimp only [RV.d, deref, List.map]); with_reducible assumption) | ((with_reducible apply eqsF); exact rfl; exact rfl; decide +kernel) | ((with_reducible apply eqsT); exact rfl; exact rfl; decide +kernel) | ((with_reducible apply inT); exact rfl; exact rfl; decide +kernel) | ((with_reducible apply inF); exact rfl; exact rfl; decide +kernel) | ((with_reducible apply ninT); exact rfl; exact rfl; decide +kernel) | ((with_reducible apply ninF); exact rfl; exact rfl; decide +kernel) | exact @rfl (Option RV) _ | exact @rfl (Option SV) _ | exact @rfl (Option D) _ | exact @rfl (Option (List D)) _ | exact @rfl (Option Bool) _ | exact @rfl (Option Env') _ | assumption | exact Nat.le_of_ble_eq_true rfl | exact s_skip | exact l_nil)
/-! ### widths -/
theorem ld0 (w : W0) (l : Nat) (st : Store) : Q (l + 1) 41 [.tup [w.s]] st = .ok (.int 1) st := by cases w <;> kernel_rfl
theorem ld1 (w : W1) (k : D) (l : Nat) (st : Store) : Q (l + 1) 41 [.tup [w.s, k]] st = .ok (.int 1) st := by cases w <;> kernel_rfl
theorem wide_ok : ∀ (s : S) (l : Nat), forms s → s.depth ≤ 10 → s.depth ≤ l → ∀ st, Q l 41 [s.d] st = .ok (.int (wd s)) st
  | .c0 w, l, _, _, hl, st => lv (P := fun l => Q l 41 [.tup [w.s]] st = .ok (.int 1) st) (fun l => ld0 w l st) hl
  | .c1 w k, l, h, _, hl, st => lv (P := fun l => Q l 41 [.tup [w.s, .int (k : Int)]] st = .ok (.int 1) st) (fun l => ld1 w (.int (k : Int)) l st) hl
  | .c2 w k a, l, h, hd, hl, st => by
    simp only [S.depth] at hl hd
    obtain ⟨m, rfl⟩ : ∃ m, l = m + 1 := ⟨l - 1, by omega⟩
    have ih := wide_ok a m h.2.1 (by omega) (by omega) st
    have b := wd_b a h.2.1
    have e := km h.1 (show a.depth ≤ 10 by omega) b.1 b.2
    show Q (m + 1) 41 [.tup [w.s, .int (k : Int), a.d]] st = .ok (.int ((k : Int) * wd a)) st
    rw [u41]
    refine f_rt rfl ?_
    unfold L41
    cases w <;> (simp only [W2.s]; repeat' (first | with_reducible exact w_c | with_reducible exact w_nil | with_reducible exact s_skip | with_reducible exact t_yes | with_reducible exact w_pn | with_reducible exact m_pure | with_reducible exact n_rt | with_reducible exact n_exc | with_reducible exact n_bk | with_reducible exact n_ct | with_reducible exact nT | with_reducible exact nF | with_reducible exact l_nil | ((with_reducible apply l_nx); exact rfl) | ((with_reducible apply w_var); exact rfl) | with_reducible apply w_rd | with_reducible apply w_kpl | with_reducible apply a_kpc | with_reducible apply w_kp | with_reducible apply w_cons | with_reducible apply w_bin | with_reducible apply w_binS | with_reducible apply w_call | with_reducible apply w_un | with_reducible apply w_fn | with_reducible apply w_fnD | with_reducible apply w_fnK | with_reducible apply w_tup | with_reducible apply w_lst | with_reducible apply w_ps | with_reducible apply w_slice | with_reducible apply t_bool | with_reducible apply t_tru | with_reducible apply a_not | with_reducible apply a_notV | with_reducible apply a_and | with_reducible apply a_or | with_reducible apply a_andV | with_reducible apply a_orV | with_reducible apply a_ifM | with_reducible apply a_it | with_reducible apply a_r1 | with_reducible apply a_r2 | with_reducible apply w_lc | with_reducible apply a_seq | with_reducible apply n_nx | with_reducible apply a_frz | with_reducible apply a_if | with_reducible apply a_set | with_reducible apply s_ret | with_reducible apply s_drop | with_reducible apply s_for | with_reducible apply a_par | with_reducible apply a_par3 | with_reducible apply a_asg | ((with_reducible apply c_T); exact rfl) | ((with_reducible apply c_F); exact rfl) | ((with_reducible apply c_TM); exact rfl) | ((with_reducible apply c_FM); exact rfl) | ((try dsimp only [RV.d, deref, List.map]); with_reducible assumption) | ((with_reducible apply eqsF); exact rfl; exact rfl; decide +kernel) | ((with_reducible apply eqsT); exact rfl; exact rfl; decide +kernel) | ((with_reducible apply inT); exact rfl; exact rfl; decide +kernel) | ((with_reducible apply inF); exact rfl; exact rfl; decide +kernel) | ((with_reducible apply ninT); exact rfl; exact rfl; decide +kernel) | ((with_reducible apply ninF); exact rfl; exact rfl; decide +kernel) | exact @rfl (Option RV) _ | exact @rfl (Option SV) _ | exact @rfl (Option D) _ | exact @rfl (Option (List D)) _ | exact @rfl (Option Bool) _ | exact @rfl (Option Env') _ | assumption | exact Nat.le_of_ble_eq_true rfl | exact s_skip | exact l_nil))
  | .c3 .either a b, l, h, hd, hl, st => by
    simp only [S.depth] at hl hd
    obtain ⟨m, rfl⟩ : ∃ m, l = m + 1 := ⟨l - 1, by omega⟩
    have iha := wide_ok a m h.1 (by omega) (by omega) st
    have ihb := wide_ok b m h.2 (by omega) (by omega) st
    have e := max2i (wd a) (wd b)
    show Q (m + 1) 41 [.tup [W3.either.s, a.d, b.d]] st = .ok (.int (max (wd a) (wd b))) st
    rw [u41]
    refine f_rt rfl ?_
    unfold L41
    simp only [W3.s]
    repeat' (first | with_reducible exact w_c | with_reducible exact w_nil | with_reducible exact s_skip | with_reducible exact t_yes | with_reducible exact w_pn | with_reducible exact m_pure | with_reducible exact n_rt | with_reducible exact n_exc | with_reducible exact n_bk | with_reducible exact n_ct | with_reducible exact nT | with_reducible exact nF | with_reducible exact l_nil | ((with_reducible apply l_nx); exact rfl) | ((with_reducible apply w_var); exact rfl) | with_reducible apply w_rd | with_reducible apply w_kpl | with_reducible apply a_kpc | with_reducible apply w_kp | with_reducible apply w_cons | with_reducible apply w_bin | with_reducible apply w_binS | with_reducible apply w_call | with_reducible apply w_un | with_reducible apply w_fn | with_reducible apply w_fnD | with_reducible apply w_fnK | with_reducible apply w_tup | with_reducible apply w_lst | with_reducible apply w_ps | with_reducible apply w_slice | with_reducible apply t_bool | with_reducible apply t_tru | with_reducible apply a_not | with_reducible apply a_notV | with_reducible apply a_and | with_reducible apply a_or | with_reducible apply a_andV | with_reducible apply a_orV | with_reducible apply a_ifM | with_reducible apply a_it | with_reducible apply a_r1 | with_reducible apply a_r2 | with_reducible apply w_lc | with_reducible apply a_seq | with_reducible apply n_nx | with_reducible apply a_frz | with_reducible apply a_if | with_reducible apply a_set | with_reducible apply s_ret | with_reducible apply s_drop | with_reducible apply s_for | with_reducible apply a_par | with_reducible apply a_par3 | with_reducible apply a_asg | ((with_reducible apply c_T); exact rfl) | ((with_reducible apply c_F); exact rfl) | ((with_reducible apply c_TM); exact rfl) | ((with_reducible apply c_FM); exact rfl) | ((try dsimp only [RV.d, deref, List.map]); with_reducible assumption) | ((with_reducible apply eqsF); exact rfl; exact rfl; decide +kernel) | ((with_reducible apply eqsT); exact rfl; exact rfl; decide +kernel) | ((with_reducible apply inT); exact rfl; exact rfl; decide +kernel) | ((with_reducible apply inF); exact rfl; exact rfl; decide +kernel) | ((with_reducible apply ninT); exact rfl; exact rfl; decide +kernel) | ((with_reducible apply ninF); exact rfl; exact rfl; decide +kernel) | exact @rfl (Option RV) _ | exact @rfl (Option SV) _ | exact @rfl (Option D) _ | exact @rfl (Option (List D)) _ | exact @rfl (Option Bool) _ | exact @rfl (Option Env') _ | assumption | exact Nat.le_of_ble_eq_true rfl | exact s_skip | exact l_nil)
  | .c3 .pair a b, l, h, hd, hl, st => by
    simp only [S.depth] at hl hd
    obtain ⟨m, rfl⟩ : ∃ m, l = m + 1 := ⟨l - 1, by omega⟩
    have iha := wide_ok a m h.1 (by omega) (by omega) st
    have ihb := wide_ok b m h.2 (by omega) (by omega) st
    show Q (m + 1) 41 [.tup [W3.pair.s, a.d, b.d]] st = .ok (.int (wd a + wd b)) st
    rw [u41]
    refine f_rt rfl ?_
    unfold L41
    simp only [W3.s]
    repeat' (first | with_reducible exact w_c | with_reducible exact w_nil | with_reducible exact s_skip | with_reducible exact t_yes | with_reducible exact w_pn | with_reducible exact m_pure | with_reducible exact n_rt | with_reducible exact n_exc | with_reducible exact n_bk | with_reducible exact n_ct | with_reducible exact nT | with_reducible exact nF | with_reducible exact l_nil | ((with_reducible apply l_nx); exact rfl) | ((with_reducible apply w_var); exact rfl) | with_reducible apply w_rd | with_reducible apply w_kpl | with_reducible apply a_kpc | with_reducible apply w_kp | with_reducible apply w_cons | with_reducible apply w_bin | with_reducible apply w_binS | with_reducible apply w_call | with_reducible apply w_un | with_reducible apply w_fn | with_reducible apply w_fnD | with_reducible apply w_fnK | with_reducible apply w_tup | with_reducible apply w_lst | with_reducible apply w_ps | with_reducible apply w_slice | with_reducible apply t_bool | with_reducible apply t_tru | with_reducible apply a_not | with_reducible apply a_notV | with_reducible apply a_and | with_reducible apply a_or | with_reducible apply a_andV | with_reducible apply a_orV | with_reducible apply a_ifM | with_reducible apply a_it | with_reducible apply a_r1 | with_reducible apply a_r2 | with_reducible apply w_lc | with_reducible apply a_seq | with_reducible apply n_nx | with_reducible apply a_frz | with_reducible apply a_if | with_reducible apply a_set | with_reducible apply s_ret | with_reducible apply s_drop | with_reducible apply s_for | with_reducible apply a_par | with_reducible apply a_par3 | with_reducible apply a_asg | ((with_reducible apply c_T); exact rfl) | ((with_reducible apply c_F); exact rfl) | ((with_reducible apply c_TM); exact rfl) | ((with_reducible apply c_FM); exact rfl) | ((try dsimp only [RV.d, deref, List.map]); with_reducible assumption) | ((with_reducible apply eqsF); exact rfl; exact rfl; decide +kernel) | ((with_reducible apply eqsT); exact rfl; exact rfl; decide +kernel) | ((with_reducible apply inT); exact rfl; exact rfl; decide +kernel) | ((with_reducible apply inF); exact rfl; exact rfl; decide +kernel) | ((with_reducible apply ninT); exact rfl; exact rfl; decide +kernel) | ((with_reducible apply ninF); exact rfl; exact rfl; decide +kernel) | exact @rfl (Option RV) _ | exact @rfl (Option SV) _ | exact @rfl (Option D) _ | exact @rfl (Option (List D)) _ | exact @rfl (Option Bool) _ | exact @rfl (Option Env') _ | assumption | exact Nat.le_of_ble_eq_true rfl | exact s_skip | exact l_nil)
end M02
set_option Elab.async false -- ev
set_option linter.all false -- ev
set_option maxRecDepth 100000 -- ev
set_option maxHeartbeats 4000000 -- ev
set_option autoImplicit false -- ev
/-! The law's own numbers. -/
namespace M02
open PySem Ev
/-! ### ways -/
def wyS (x : Int) (f : Int) (i : Nat) : Int := f * max 0 (x - (0 + (i : Int))) / (0 + (i : Int) + 1)
def wy (x : Int) (k : Nat) : Int := (List.range k).foldl (wyS x) 1
def wyChk : Bool := (List.range 641).all fun x => (List.range 13).all fun k => wy (x : Int) k == PySem.W.mcComb (x : Int) (k : Int)
theorem wyChk_ok : wyChk = true := by decide +kernel
theorem wy_comb {x : Int} {k : Nat} (h0 : 0 ≤ x) (h1 : x ≤ 640) (hk : k ≤ 12) : wy x k = PySem.W.mcComb x (k : Int) := by
  have h := wyChk_ok
  unfold wyChk at h
  rw [List.all_eq_true] at h
  have h2 := h x.toNat (List.mem_range.2 (by omega))
  rw [List.all_eq_true] at h2
  have h3 := h2 k (List.mem_range.2 (by omega))
  rw [show ((x.toNat : Nat) : Int) = x by omega] at h3
  simpa using h3
theorem wy_hp {x : Int} {k : Nat} (h0 : 0 ≤ x) (h1 : x ≤ 620) (hk : k ≤ 12) : wy (x + (k : Int) - 1) k = hp x k := by
  unfold hp
  by_cases h : k = 0
  · subst h
    rfl
  · rw [if_neg h]
    exact wy_comb (by omega) (by omega) hk
def bWay : SS := sSeq (sSet 2 (sBin dDiv (rd (sBin dMulA (rd (sVar 2)) (rd (sCall dMax (sCons (rd (sC (.int 0))) (sCons (rd (sBin dSub (rd (sVar 0)) (rd (sVar 3)))) sNil)))))) (rd (sBin dAdd (rd (sVar 3)) (rd (sC (.int 1))))))) sSkip
theorem way_loop {x : Int} (hx : x ≤ 1000) (B : SV) : ∀ (ks : List Nat) (acc : Int) (e : Nat) (y : SV) (st : Store), 0 ≤ acc → lg acc e → e + 20 * ks.length < 900000 → (∀ k ∈ ks, k ≤ 500) →
    (∃ y', sForL (gN 3) bWay (ks.map fun (i : Nat) => .int (0 + (i : Int))) [.val (.int x), B, .val (.int acc), y] st = .nx [.val (.int x), B, .val (.int (ks.foldl (wyS x) acc)), y'] st) ∧ 0 ≤ ks.foldl (wyS x) acc ∧ lg (ks.foldl (wyS x) acc) (e + 20 * ks.length)
  | [], acc, e, y, st, h0, he, _, _ => ⟨⟨y, rfl⟩, h0, lg_mono he (by simp)⟩
  | k :: ks, acc, e, y, st, h0, he, hl, hk => by
    have hl : e + 20 * (ks.length + 1) < 900000 := hl
    have k5 := hk k (by simp)
    have p20 : (2 : Nat) ^ 20 = 1048576 := by decide
    have m0 : 0 ≤ max 0 (x - (0 + (k : Int))) := by omega
    have m1 : lg (max 0 (x - (0 + (k : Int)))) 20 := lg_nn m0 (by omega)
    have e1 := mulA_lg he m1 (by omega)
    have q0 : 0 ≤ acc * max 0 (x - (0 + (k : Int))) := Int.mul_nonneg h0 m0
    have ql := lg_mul he m1
    have s0 : 0 ≤ wyS x acc k := Int.ediv_nonneg q0 (by omega)
    have s1 : wyS x acc k ≤ acc * max 0 (x - (0 + (k : Int))) := Int.ediv_le_self _ q0
    have sl : lg (wyS x acc k) (e + 20) := by
      unfold lg at ql ⊢
      omega
    have e2 : dDiv (.int (acc * max 0 (x - (0 + (k : Int))))) (.int (0 + (k : Int) + 1)) = some (.per (.int (wyS x acc k))) := div_ok _ (by omega) (by omega)
    obtain ⟨⟨y', h⟩, g0, g1⟩ := way_loop hx B ks (wyS x acc k) (e + 20) (.val (.int (0 + (k : Int)))) st s0 sl (by omega) (fun j hj => hk j (List.mem_cons_of_mem _ hj))
    refine ⟨⟨y', l_nx rfl ?_ h⟩, g0, ?_⟩
    · exact s_seq (s_set (s := .val (.int (wyS x acc k))) (w_bin (w_rd (w_bin (w_rd (w_var rfl)) (w_rd (w_call (w_cons (w_rd w_c) (w_cons (w_rd (w_bin (w_rd (w_var rfl)) (w_rd (w_var rfl)) rfl)) w_nil)) rfl)) e1)) (w_rd (w_bin (w_rd (w_var rfl)) (w_rd w_c) rfl)) e2) rfl rfl) s_skip
    · rw [List.length_cons]
      exact lg_mono g1 (by omega)
theorem ways_ok (l : Nat) {x : Int} (hx : x ≤ 1000) {k : Nat} (hk : k ≤ 12) (st : Store) : Q (l + 1) 30 [.int x, .int (k : Int)] st = .ok (.int (wy x k)) st := by
  rw [u30]
  obtain ⟨⟨y', h⟩, _, _⟩ := way_loop hx (.val (.int (k : Int))) (List.range k) 1 1 .un st (by decide) lg_one (by simp; omega) (fun j hj => by have := List.mem_range.1 hj; omega)
  have h2 : sForL (gN 3) bWay (rngD 0 (k : Int).toNat) [.val (.int x), .val (.int (k : Int)), .val (.int 1), .un] st = .nx [.val (.int x), .val (.int (k : Int)), .val (.int (wy x k)), y'] st := by
    rw [Int.toNat_natCast]
    exact h
  exact f_rt rfl (s_seq (s_set (s := .val (.int 1)) w_c rfl rfl) (s_seq (s_for (i_r1 (w_cons (w_kp (w_var rfl)) w_nil) (bnd_lt (by omega) (by omega))) h2) (s_seqR (s_frz rfl (s_ret (w_kp (w_var rfl)))))))
theorem wy_lg {x : Int} (hx : x ≤ 1000) {k : Nat} (hk : k ≤ 12) : lg (wy x k) 250 := by
  obtain ⟨_, _, h⟩ := way_loop hx .un (List.range k) 1 1 .un [] (by decide) lg_one (by simp; omega) (fun j hj => by have := List.mem_range.1 hj; omega)
  exact lg_mono h (by simp; omega)
theorem qpow (l : Nat) : Q (l + 1) 31 = Q (l + 1) 15 := rfl
/-! ### numbers -/
def szB (n : Int) : S → Prop
  | .c0 _ => True
  | .c1 _ _ => True
  | .c2 _ _ a => szB n a ∧ lg (cnt n a) 50000
  | .c3 _ a b => szB n a ∧ szB n b ∧ lg (cnt n a) 50000 ∧ lg (cnt n b) 50000
theorem szB_of_fit {n : Int} (h1 : 2 ≤ n) : ∀ s : S, fitS n s → szB n s
  | .c0 _, _ => trivial
  | .c1 _ _, _ => trivial
  | .c2 _ _ a, h => ⟨szB_of_fit h1 a h.1, lg_mono (lgM (cnt_nn h1 a) h.1.le) (by omega)⟩
  | .c3 _ a b, h => ⟨szB_of_fit h1 a h.1, szB_of_fit h1 b h.2.1, lg_mono (lgM (cnt_nn h1 a) h.1.le) (by omega), lg_mono (lgM (cnt_nn h1 b) h.2.1.le) (by omega)⟩
theorem lz0 {n : Int} (h1 : 2 ≤ n) (h2 : n ≤ 5) (w : W0) (l : Nat) (st : Store) : Q (l + 2) 32 [.int n, .tup [w.s]] st = .ok (.int (cnt n (.c0 w))) st := by
  have hn : n = 2 ∨ n = 3 ∨ n = 4 ∨ n = 5 := by omega
  rcases hn with rfl | rfl | rfl | rfl <;> cases w <;> kernel_rfl
theorem lz1r {n : Int} (h1 : 2 ≤ n) (h2 : n ≤ 5) (k : Nat) (hk : 1 ≤ k ∧ k ≤ 2) (l : Nat) (st : Store) : Q (l + 2) 32 [.int n, .tup [W1.rounds.s, .int (k : Int)]] st = .ok (.int (cnt n (.c1 .rounds k))) st := by
  have hn : n = 2 ∨ n = 3 ∨ n = 4 ∨ n = 5 := by omega
  have hk : k = 1 ∨ k = 2 := by omega
  rcases hn with rfl | rfl | rfl | rfl <;> rcases hk with rfl | rfl <;> kernel_rfl
theorem lz1s {n : Int} (h1 : 2 ≤ n) (h2 : n ≤ 5) (k : Nat) (hk : k ≤ 12) (l : Nat) (st : Store) : Q (l + 2) 32 [.int n, .tup [W1.subset.s, .int (k : Int)]] st = .ok (.int (cnt n (.c1 .subset k))) st := by
  have e := ways_ok l (x := n) (by omega) hk st
  rw [wy_comb (by omega) (by omega) hk] at e
  rw [u32]
  refine f_rt rfl ?_
  unfold L32
  simp only [W1.s, cnt]
  repeat' (first | with_reducible exact w_c | with_reducible exact w_nil | with_reducible exact s_skip | with_reducible exact t_yes | with_reducible exact w_pn | with_reducible exact m_pure | with_reducible exact n_rt | with_reducible exact n_exc | with_reducible exact n_bk | with_reducible exact n_ct | with_reducible exact nT | with_reducible exact nF | with_reducible exact l_nil | ((with_reducible apply l_nx); exact rfl) | ((with_reducible apply w_var); exact rfl) | with_reducible apply w_rd | with_reducible apply w_kpl | with_reducible apply a_kpc | with_reducible apply w_kp | with_reducible apply w_cons | with_reducible apply w_bin | with_reducible apply w_binS | with_reducible apply w_call | with_reducible apply w_un | with_reducible apply w_fn | with_reducible apply w_fnD | with_reducible apply w_fnK | with_reducible apply w_tup | with_reducible apply w_lst | with_reducible apply w_ps | with_reducible apply w_slice | with_reducible apply t_bool | with_reducible apply t_tru | with_reducible apply a_not | with_reducible apply a_notV | with_reducible apply a_and | with_reducible apply a_or | with_reducible apply a_andV | with_reducible apply a_orV | with_reducible apply a_ifM | with_reducible apply a_it | with_reducible apply a_r1 | with_reducible apply a_r2 | with_reducible apply w_lc | with_reducible apply a_seq | with_reducible apply n_nx | with_reducible apply a_frz | with_reducible apply a_if | with_reducible apply a_set | with_reducible apply s_ret | with_reducible apply s_drop | with_reducible apply s_for | with_reducible apply a_par | with_reducible apply a_par3 | with_reducible apply a_asg | ((with_reducible apply c_T); exact rfl) | ((with_reducible apply c_F); exact rfl) | ((with_reducible apply c_TM); exact rfl) | ((with_reducible apply c_FM); exact rfl) | ((try dsimp only [RV.d, deref, List.map]); with_reducible assumption) | ((with_reducible apply eqsF); exact rfl; exact rfl; decide +kernel) | ((with_reducible apply eqsT); exact rfl; exact rfl; decide +kernel) | ((with_reducible apply inT); exact rfl; exact rfl; decide +kernel) | ((with_reducible apply inF); exact rfl; exact rfl; decide +kernel) | ((with_reducible apply ninT); exact rfl; exact rfl; decide +kernel) | ((with_reducible apply ninF); exact rfl; exact rfl; decide +kernel) | exact @rfl (Option RV) _ | exact @rfl (Option SV) _ | exact @rfl (Option D) _ | exact @rfl (Option (List D)) _ | exact @rfl (Option Bool) _ | exact @rfl (Option Env') _ | assumption | exact Nat.le_of_ble_eq_true rfl | exact s_skip | exact l_nil)
theorem lz1b {n : Int} (h1 : 2 ≤ n) (h2 : n ≤ 5) (k : Nat) (hk : k ≤ 12) (l : Nat) (st : Store) : Q (l + 2) 32 [.int n, .tup [W1.bag.s, .int (k : Int)]] st = .ok (.int (cnt n (.c1 .bag k))) st := by
  have e := ways_ok l (x := n + (k : Int) - 1) (by omega) hk st
  rw [wy_hp (by omega) (by omega) hk] at e
  rw [u32]
  refine f_rt rfl ?_
  unfold L32
  simp only [W1.s, cnt]
  repeat' (first | with_reducible exact w_c | with_reducible exact w_nil | with_reducible exact s_skip | with_reducible exact t_yes | with_reducible exact w_pn | with_reducible exact m_pure | with_reducible exact n_rt | with_reducible exact n_exc | with_reducible exact n_bk | with_reducible exact n_ct | with_reducible exact nT | with_reducible exact nF | with_reducible exact l_nil | ((with_reducible apply l_nx); exact rfl) | ((with_reducible apply w_var); exact rfl) | with_reducible apply w_rd | with_reducible apply w_kpl | with_reducible apply a_kpc | with_reducible apply w_kp | with_reducible apply w_cons | with_reducible apply w_bin | with_reducible apply w_binS | with_reducible apply w_call | with_reducible apply w_un | with_reducible apply w_fn | with_reducible apply w_fnD | with_reducible apply w_fnK | with_reducible apply w_tup | with_reducible apply w_lst | with_reducible apply w_ps | with_reducible apply w_slice | with_reducible apply t_bool | with_reducible apply t_tru | with_reducible apply a_not | with_reducible apply a_notV | with_reducible apply a_and | with_reducible apply a_or | with_reducible apply a_andV | with_reducible apply a_orV | with_reducible apply a_ifM | with_reducible apply a_it | with_reducible apply a_r1 | with_reducible apply a_r2 | with_reducible apply w_lc | with_reducible apply a_seq | with_reducible apply n_nx | with_reducible apply a_frz | with_reducible apply a_if | with_reducible apply a_set | with_reducible apply s_ret | with_reducible apply s_drop | with_reducible apply s_for | with_reducible apply a_par | with_reducible apply a_par3 | with_reducible apply a_asg | ((with_reducible apply c_T); exact rfl) | ((with_reducible apply c_F); exact rfl) | ((with_reducible apply c_TM); exact rfl) | ((with_reducible apply c_FM); exact rfl) | ((try dsimp only [RV.d, deref, List.map]); with_reducible assumption) | ((with_reducible apply eqsF); exact rfl; exact rfl; decide +kernel) | ((with_reducible apply eqsT); exact rfl; exact rfl; decide +kernel) | ((with_reducible apply inT); exact rfl; exact rfl; decide +kernel) | ((with_reducible apply inF); exact rfl; exact rfl; decide +kernel) | ((with_reducible apply ninT); exact rfl; exact rfl; decide +kernel) | ((with_reducible apply ninF); exact rfl; exact rfl; decide +kernel) | exact @rfl (Option RV) _ | exact @rfl (Option SV) _ | exact @rfl (Option D) _ | exact @rfl (Option (List D)) _ | exact @rfl (Option Bool) _ | exact @rfl (Option Env') _ | assumption | exact Nat.le_of_ble_eq_true rfl | exact s_skip | exact l_nil)
theorem small_in {n : Int} (h1 : 2 ≤ n) (h2 : n ≤ 5) {w : W2} {k : Nat} {a : S} (f : forms (.c2 w k a)) (hp : a.parts ≤ 60) (hw : isL w = false) : cnt n a ≤ 600 := by
  have hs : a.single = true := by
    rcases f.2.2 with h | h
    · rw [hw] at h
      exact Bool.noConfusion h
    · exact h
  have := single_cnt h1 h2 a f.2.1 hs
  omega
theorem size_ok {n : Int} (h1 : 2 ≤ n) (h2 : n ≤ 5) : ∀ (s : S) (l : Nat), forms s → szB n s → s.parts ≤ 60 → s.depth + 1 ≤ l → ∀ st, Q l 32 [.int n, s.d] st = .ok (.int (cnt n s)) st
  | .c0 w, l, _, _, _, hl, st => lv (P := fun l => Q l 32 [.int n, .tup [w.s]] st = .ok (.int (cnt n (.c0 w))) st) (fun l => lz0 h1 h2 w l st) hl
  | .c1 .rounds k, l, h, _, _, hl, st => lv (P := fun l => Q l 32 [.int n, .tup [W1.rounds.s, .int (k : Int)]] st = .ok (.int (cnt n (.c1 .rounds k))) st) (fun l => lz1r h1 h2 k (by simpa [forms, okN] using h) l st) hl
  | .c1 .subset k, l, h, _, _, hl, st => lv (P := fun l => Q l 32 [.int n, .tup [W1.subset.s, .int (k : Int)]] st = .ok (.int (cnt n (.c1 .subset k))) st) (fun l => lz1s h1 h2 k (okN_le h) l st) hl
  | .c1 .bag k, l, h, _, _, hl, st => lv (P := fun l => Q l 32 [.int n, .tup [W1.bag.s, .int (k : Int)]] st = .ok (.int (cnt n (.c1 .bag k))) st) (fun l => lz1b h1 h2 k (okN_le h) l st) hl
  | .c2 .list k a, l, f, sz, hp, hl, st => by
    simp only [S.depth] at hl
    simp only [S.parts] at hp
    obtain ⟨m, rfl⟩ : ∃ m, l = m + 2 := ⟨l - 2, by omega⟩
    have ih := size_ok h1 h2 a (m + 1) f.2.1 sz.1 (by omega) (by omega) st
    have e := pow_ok m sz.2 k (by have := f.1; omega) (by have := f.1; omega) st
    rw [← qpow] at e
    show Q (m + 2) 32 [.int n, .tup [W2.list.s, .int (k : Int), a.d]] st = .ok (.int (cnt n a ^ k)) st
    rw [u32]
    refine f_rt rfl ?_
    unfold L32
    simp only [W2.s]
    repeat' (first | with_reducible exact w_c | with_reducible exact w_nil | with_reducible exact s_skip | with_reducible exact t_yes | with_reducible exact w_pn | with_reducible exact m_pure | with_reducible exact n_rt | with_reducible exact n_exc | with_reducible exact n_bk | with_reducible exact n_ct | with_reducible exact nT | with_reducible exact nF | with_reducible exact l_nil | ((with_reducible apply l_nx); exact rfl) | ((with_reducible apply w_var); exact rfl) | with_reducible apply w_rd | with_reducible apply w_kpl | with_reducible apply a_kpc | with_reducible apply w_kp | with_reducible apply w_cons | with_reducible apply w_bin | with_reducible apply w_binS | with_reducible apply w_call | with_reducible apply w_un | with_reducible apply w_fn | with_reducible apply w_fnD | with_reducible apply w_fnK | with_reducible apply w_tup | with_reducible apply w_lst | with_reducible apply w_ps | with_reducible apply w_slice | with_reducible apply t_bool | with_reducible apply t_tru | with_reducible apply a_not | with_reducible apply a_notV | with_reducible apply a_and | with_reducible apply a_or | with_reducible apply a_andV | with_reducible apply a_orV | with_reducible apply a_ifM | with_reducible apply a_it | with_reducible apply a_r1 | with_reducible apply a_r2 | with_reducible apply w_lc | with_reducible apply a_seq | with_reducible apply n_nx | with_reducible apply a_frz | with_reducible apply a_if | with_reducible apply a_set | with_reducible apply s_ret | with_reducible apply s_drop | with_reducible apply s_for | with_reducible apply a_par | with_reducible apply a_par3 | with_reducible apply a_asg | ((with_reducible apply c_T); exact rfl) | ((with_reducible apply c_F); exact rfl) | ((with_reducible apply c_TM); exact rfl) | ((with_reducible apply c_FM); exact rfl) | ((try dsimp only [RV.d, deref, List.map]); with_reducible assumption) | ((with_reducible apply eqsF); exact rfl; exact rfl; decide +kernel) | ((with_reducible apply eqsT); exact rfl; exact rfl; decide +kernel) | ((with_reducible apply inT); exact rfl; exact rfl; decide +kernel) | ((with_reducible apply inF); exact rfl; exact rfl; decide +kernel) | ((with_reducible apply ninT); exact rfl; exact rfl; decide +kernel) | ((with_reducible apply ninF); exact rfl; exact rfl; decide +kernel) | exact @rfl (Option RV) _ | exact @rfl (Option SV) _ | exact @rfl (Option D) _ | exact @rfl (Option (List D)) _ | exact @rfl (Option Bool) _ | exact @rfl (Option Env') _ | assumption | exact Nat.le_of_ble_eq_true rfl | exact s_skip | exact l_nil)
  | .c2 .family k a, l, f, sz, hp, hl, st => by
    simp only [S.depth] at hl
    simp only [S.parts] at hp
    obtain ⟨m, rfl⟩ : ∃ m, l = m + 2 := ⟨l - 2, by omega⟩
    have ih := size_ok h1 h2 a (m + 1) f.2.1 sz.1 (by omega) (by omega) st
    have s6 := small_in h1 h2 f (by omega) rfl
    have s0 := cnt_nn h1 a
    have e := ways_ok m (x := cnt n a) (by omega) f.1 st
    rw [wy_comb s0 (by omega) f.1] at e
    show Q (m + 2) 32 [.int n, .tup [W2.family.s, .int (k : Int), a.d]] st = .ok (.int (PySem.W.mcComb (cnt n a) (k : Int))) st
    rw [u32]
    refine f_rt rfl ?_
    unfold L32
    simp only [W2.s]
    repeat' (first | with_reducible exact w_c | with_reducible exact w_nil | with_reducible exact s_skip | with_reducible exact t_yes | with_reducible exact w_pn | with_reducible exact m_pure | with_reducible exact n_rt | with_reducible exact n_exc | with_reducible exact n_bk | with_reducible exact n_ct | with_reducible exact nT | with_reducible exact nF | with_reducible exact l_nil | ((with_reducible apply l_nx); exact rfl) | ((with_reducible apply w_var); exact rfl) | with_reducible apply w_rd | with_reducible apply w_kpl | with_reducible apply a_kpc | with_reducible apply w_kp | with_reducible apply w_cons | with_reducible apply w_bin | with_reducible apply w_binS | with_reducible apply w_call | with_reducible apply w_un | with_reducible apply w_fn | with_reducible apply w_fnD | with_reducible apply w_fnK | with_reducible apply w_tup | with_reducible apply w_lst | with_reducible apply w_ps | with_reducible apply w_slice | with_reducible apply t_bool | with_reducible apply t_tru | with_reducible apply a_not | with_reducible apply a_notV | with_reducible apply a_and | with_reducible apply a_or | with_reducible apply a_andV | with_reducible apply a_orV | with_reducible apply a_ifM | with_reducible apply a_it | with_reducible apply a_r1 | with_reducible apply a_r2 | with_reducible apply w_lc | with_reducible apply a_seq | with_reducible apply n_nx | with_reducible apply a_frz | with_reducible apply a_if | with_reducible apply a_set | with_reducible apply s_ret | with_reducible apply s_drop | with_reducible apply s_for | with_reducible apply a_par | with_reducible apply a_par3 | with_reducible apply a_asg | ((with_reducible apply c_T); exact rfl) | ((with_reducible apply c_F); exact rfl) | ((with_reducible apply c_TM); exact rfl) | ((with_reducible apply c_FM); exact rfl) | ((try dsimp only [RV.d, deref, List.map]); with_reducible assumption) | ((with_reducible apply eqsF); exact rfl; exact rfl; decide +kernel) | ((with_reducible apply eqsT); exact rfl; exact rfl; decide +kernel) | ((with_reducible apply inT); exact rfl; exact rfl; decide +kernel) | ((with_reducible apply inF); exact rfl; exact rfl; decide +kernel) | ((with_reducible apply ninT); exact rfl; exact rfl; decide +kernel) | ((with_reducible apply ninF); exact rfl; exact rfl; decide +kernel) | exact @rfl (Option RV) _ | exact @rfl (Option SV) _ | exact @rfl (Option D) _ | exact @rfl (Option (List D)) _ | exact @rfl (Option Bool) _ | exact @rfl (Option Env') _ | assumption | exact Nat.le_of_ble_eq_true rfl | exact s_skip | exact l_nil)
  | .c2 .heap k a, l, f, sz, hp, hl, st => by
    simp only [S.depth] at hl
    simp only [S.parts] at hp
    obtain ⟨m, rfl⟩ : ∃ m, l = m + 2 := ⟨l - 2, by omega⟩
    have ih := size_ok h1 h2 a (m + 1) f.2.1 sz.1 (by omega) (by omega) st
    have s6 := small_in h1 h2 f (by omega) rfl
    have s0 := cnt_nn h1 a
    have e := ways_ok m (x := cnt n a + (k : Int) - 1) (by have := f.1; omega) f.1 st
    rw [wy_hp s0 (by omega) f.1] at e
    show Q (m + 2) 32 [.int n, .tup [W2.heap.s, .int (k : Int), a.d]] st = .ok (.int (M02.hp (cnt n a) k)) st
    rw [u32]
    refine f_rt rfl ?_
    unfold L32
    simp only [W2.s]
    repeat' (first | with_reducible exact w_c | with_reducible exact w_nil | with_reducible exact s_skip | with_reducible exact t_yes | with_reducible exact w_pn | with_reducible exact m_pure | with_reducible exact n_rt | with_reducible exact n_exc | with_reducible exact n_bk | with_reducible exact n_ct | with_reducible exact nT | with_reducible exact nF | with_reducible exact l_nil | ((with_reducible apply l_nx); exact rfl) | ((with_reducible apply w_var); exact rfl) | with_reducible apply w_rd | with_reducible apply w_kpl | with_reducible apply a_kpc | with_reducible apply w_kp | with_reducible apply w_cons | with_reducible apply w_bin | with_reducible apply w_binS | with_reducible apply w_call | with_reducible apply w_un | with_reducible apply w_fn | with_reducible apply w_fnD | with_reducible apply w_fnK | with_reducible apply w_tup | with_reducible apply w_lst | with_reducible apply w_ps | with_reducible apply w_slice | with_reducible apply t_bool | with_reducible apply t_tru | with_reducible apply a_not | with_reducible apply a_notV | with_reducible apply a_and | with_reducible apply a_or | with_reducible apply a_andV | with_reducible apply a_orV | with_reducible apply a_ifM | with_reducible apply a_it | with_reducible apply a_r1 | with_reducible apply a_r2 | with_reducible apply w_lc | with_reducible apply a_seq | with_reducible apply n_nx | with_reducible apply a_frz | with_reducible apply a_if | with_reducible apply a_set | with_reducible apply s_ret | with_reducible apply s_drop | with_reducible apply s_for | with_reducible apply a_par | with_reducible apply a_par3 | with_reducible apply a_asg | ((with_reducible apply c_T); exact rfl) | ((with_reducible apply c_F); exact rfl) | ((with_reducible apply c_TM); exact rfl) | ((with_reducible apply c_FM); exact rfl) | ((try dsimp only [RV.d, deref, List.map]); with_reducible assumption) | ((with_reducible apply eqsF); exact rfl; exact rfl; decide +kernel) | ((with_reducible apply eqsT); exact rfl; exact rfl; decide +kernel) | ((with_reducible apply inT); exact rfl; exact rfl; decide +kernel) | ((with_reducible apply inF); exact rfl; exact rfl; decide +kernel) | ((with_reducible apply ninT); exact rfl; exact rfl; decide +kernel) | ((with_reducible apply ninF); exact rfl; exact rfl; decide +kernel) | exact @rfl (Option RV) _ | exact @rfl (Option SV) _ | exact @rfl (Option D) _ | exact @rfl (Option (List D)) _ | exact @rfl (Option Bool) _ | exact @rfl (Option Env') _ | assumption | exact Nat.le_of_ble_eq_true rfl | exact s_skip | exact l_nil)
  | .c3 .either a b, l, f, sz, hp, hl, st => by
    simp only [S.depth] at hl
    simp only [S.parts] at hp
    obtain ⟨m, rfl⟩ : ∃ m, l = m + 2 := ⟨l - 2, by omega⟩
    have iha := size_ok h1 h2 a (m + 1) f.1 sz.1 (by omega) (by omega) st
    have ihb := size_ok h1 h2 b (m + 1) f.2 sz.2.1 (by omega) (by omega) st
    show Q (m + 2) 32 [.int n, .tup [W3.either.s, a.d, b.d]] st = .ok (.int (cnt n a + cnt n b)) st
    rw [u32]
    refine f_rt rfl ?_
    unfold L32
    simp only [W3.s]
    repeat' (first | with_reducible exact w_c | with_reducible exact w_nil | with_reducible exact s_skip | with_reducible exact t_yes | with_reducible exact w_pn | with_reducible exact m_pure | with_reducible exact n_rt | with_reducible exact n_exc | with_reducible exact n_bk | with_reducible exact n_ct | with_reducible exact nT | with_reducible exact nF | with_reducible exact l_nil | ((with_reducible apply l_nx); exact rfl) | ((with_reducible apply w_var); exact rfl) | with_reducible apply w_rd | with_reducible apply w_kpl | with_reducible apply a_kpc | with_reducible apply w_kp | with_reducible apply w_cons | with_reducible apply w_bin | with_reducible apply w_binS | with_reducible apply w_call | with_reducible apply w_un | with_reducible apply w_fn | with_reducible apply w_fnD | with_reducible apply w_fnK | with_reducible apply w_tup | with_reducible apply w_lst | with_reducible apply w_ps | with_reducible apply w_slice | with_reducible apply t_bool | with_reducible apply t_tru | with_reducible apply a_not | with_reducible apply a_notV | with_reducible apply a_and | with_reducible apply a_or | with_reducible apply a_andV | with_reducible apply a_orV | with_reducible apply a_ifM | with_reducible apply a_it | with_reducible apply a_r1 | with_reducible apply a_r2 | with_reducible apply w_lc | with_reducible apply a_seq | with_reducible apply n_nx | with_reducible apply a_frz | with_reducible apply a_if | with_reducible apply a_set | with_reducible apply s_ret | with_reducible apply s_drop | with_reducible apply s_for | with_reducible apply a_par | with_reducible apply a_par3 | with_reducible apply a_asg | ((with_reducible apply c_T); exact rfl) | ((with_reducible apply c_F); exact rfl) | ((with_reducible apply c_TM); exact rfl) | ((with_reducible apply c_FM); exact rfl) | ((try dsimp only [RV.d, deref, List.map]); with_reducible assumption) | ((with_reducible apply eqsF); exact rfl; exact rfl; decide +kernel) | ((with_reducible apply eqsT); exact rfl; exact rfl; decide +kernel) | ((with_reducible apply inT); exact rfl; exact rfl; decide +kernel) | ((with_reducible apply inF); exact rfl; exact rfl; decide +kernel) | ((with_reducible apply ninT); exact rfl; exact rfl; decide +kernel) | ((with_reducible apply ninF); exact rfl; exact rfl; decide +kernel) | exact @rfl (Option RV) _ | exact @rfl (Option SV) _ | exact @rfl (Option D) _ | exact @rfl (Option (List D)) _ | exact @rfl (Option Bool) _ | exact @rfl (Option Env') _ | assumption | exact Nat.le_of_ble_eq_true rfl | exact s_skip | exact l_nil)
  | .c3 .pair a b, l, f, sz, hp, hl, st => by
    simp only [S.depth] at hl
    simp only [S.parts] at hp
    obtain ⟨m, rfl⟩ : ∃ m, l = m + 2 := ⟨l - 2, by omega⟩
    have iha := size_ok h1 h2 a (m + 1) f.1 sz.1 (by omega) (by omega) st
    have ihb := size_ok h1 h2 b (m + 1) f.2 sz.2.1 (by omega) (by omega) st
    have e := mulA_lg sz.2.2.1 sz.2.2.2 (by omega)
    show Q (m + 2) 32 [.int n, .tup [W3.pair.s, a.d, b.d]] st = .ok (.int (cnt n a * cnt n b)) st
    rw [u32]
    refine f_rt rfl ?_
    unfold L32
    simp only [W3.s]
    repeat' (first | with_reducible exact w_c | with_reducible exact w_nil | with_reducible exact s_skip | with_reducible exact t_yes | with_reducible exact w_pn | with_reducible exact m_pure | with_reducible exact n_rt | with_reducible exact n_exc | with_reducible exact n_bk | with_reducible exact n_ct | with_reducible exact nT | with_reducible exact nF | with_reducible exact l_nil | ((with_reducible apply l_nx); exact rfl) | ((with_reducible apply w_var); exact rfl) | with_reducible apply w_rd | with_reducible apply w_kpl | with_reducible apply a_kpc | with_reducible apply w_kp | with_reducible apply w_cons | with_reducible apply w_bin | with_reducible apply w_binS | with_reducible apply w_call | with_reducible apply w_un | with_reducible apply w_fn | with_reducible apply w_fnD | with_reducible apply w_fnK | with_reducible apply w_tup | with_reducible apply w_lst | with_reducible apply w_ps | with_reducible apply w_slice | with_reducible apply t_bool | with_reducible apply t_tru | with_reducible apply a_not | with_reducible apply a_notV | with_reducible apply a_and | with_reducible apply a_or | with_reducible apply a_andV | with_reducible apply a_orV | with_reducible apply a_ifM | with_reducible apply a_it | with_reducible apply a_r1 | with_reducible apply a_r2 | with_reducible apply w_lc | with_reducible apply a_seq | with_reducible apply n_nx | with_reducible apply a_frz | with_reducible apply a_if | with_reducible apply a_set | with_reducible apply s_ret | with_reducible apply s_drop | with_reducible apply s_for | with_reducible apply a_par | with_reducible apply a_par3 | with_reducible apply a_asg | ((with_reducible apply c_T); exact rfl) | ((with_reducible apply c_F); exact rfl) | ((with_reducible apply c_TM); exact rfl) | ((with_reducible apply c_FM); exact rfl) | ((try dsimp only [RV.d, deref, List.map]); with_reducible assumption) | ((with_reducible apply eqsF); exact rfl; exact rfl; decide +kernel) | ((with_reducible apply eqsT); exact rfl; exact rfl; decide +kernel) | ((with_reducible apply inT); exact rfl; exact rfl; decide +kernel) | ((with_reducible apply inF); exact rfl; exact rfl; decide +kernel) | ((with_reducible apply ninT); exact rfl; exact rfl; decide +kernel) | ((with_reducible apply ninF); exact rfl; exact rfl; decide +kernel) | exact @rfl (Option RV) _ | exact @rfl (Option SV) _ | exact @rfl (Option D) _ | exact @rfl (Option (List D)) _ | exact @rfl (Option Bool) _ | exact @rfl (Option Env') _ | assumption | exact Nat.le_of_ble_eq_true rfl | exact s_skip | exact l_nil)
end M02
set_option Elab.async false -- ev
set_option linter.all false -- ev
set_option maxRecDepth 100000 -- ev
set_option maxHeartbeats 4000000 -- ev
set_option autoImplicit false -- ev
/-! The law's walk. -/
namespace M02
open PySem Ev
/-! ### forms -/
theorem fm0 (w : W0) (l : Nat) (st : Store) : Q (l + 1) 38 [.tup [w.s]] st = .ok (.tup []) st := by cases w <;> kernel_rfl
theorem fm1s (k : Nat) (hk : k ≤ 12) (l : Nat) (st : Store) : Q (l + 1) 38 [.tup [W1.subset.s, .int (k : Int)]] st = .ok (.tup []) st := le12 (P := fun k => Q (l + 1) 38 [.tup [W1.subset.s, .int (k : Int)]] st = .ok (.tup []) st) (by refine ⟨?_, ?_, ?_, ?_, ?_, ?_, ?_, ?_, ?_, ?_, ?_, ?_, ?_⟩ <;> kernel_rfl) hk
theorem fm1b (k : Nat) (hk : k ≤ 12) (l : Nat) (st : Store) : Q (l + 1) 38 [.tup [W1.bag.s, .int (k : Int)]] st = .ok (.tup []) st := le12 (P := fun k => Q (l + 1) 38 [.tup [W1.bag.s, .int (k : Int)]] st = .ok (.tup []) st) (by refine ⟨?_, ?_, ?_, ?_, ?_, ?_, ?_, ?_, ?_, ?_, ?_, ?_, ?_⟩ <;> kernel_rfl) hk
theorem fm1r1 (l : Nat) (st : Store) : Q (l + 1) 38 [.tup [W1.rounds.s, .int ((1 : Nat) : Int)]] st = .ok (.tup []) st := by kernel_rfl
theorem fm1r2 (l : Nat) (st : Store) : Q (l + 1) 38 [.tup [W1.rounds.s, .int ((2 : Nat) : Int)]] st = .ok (.tup []) st := by kernel_rfl
theorem fm1 (w : W1) (k : Nat) (hk : okN w k = true) (l : Nat) (st : Store) : Q (l + 1) 38 [.tup [w.s, .int (k : Int)]] st = .ok (.tup []) st := by
  cases w with
  | subset => exact fm1s k (okN_le hk) l st
  | bag => exact fm1b k (okN_le hk) l st
  | rounds =>
    have h : 1 ≤ k ∧ k ≤ 2 := by simpa [okN] using hk
    have h2 : k = 1 ∨ k = 2 := by omega
    rcases h2 with rfl | rfl
    · exact fm1r1 l st
    · exact fm1r2 l st
theorem fm2l (k : Nat) (hk : k ≤ 12) (a : D) (l : Nat) (st : Store) : Q (l + 1) 38 [.tup [W2.list.s, .int (k : Int), a]] st = .ok (.tup [.int 2]) st := le12 (P := fun k => Q (l + 1) 38 [.tup [W2.list.s, .int (k : Int), a]] st = .ok (.tup [.int 2]) st) (by refine ⟨?_, ?_, ?_, ?_, ?_, ?_, ?_, ?_, ?_, ?_, ?_, ?_, ?_⟩ <;> kernel_rfl) hk
theorem fm2f (k : Nat) (hk : k ≤ 12) (a : D) (l : Nat) (st : Store) : Q (l + 1) 38 [.tup [W2.family.s, .int (k : Int), a]] st = .ok (.tup [.int 2]) st := le12 (P := fun k => Q (l + 1) 38 [.tup [W2.family.s, .int (k : Int), a]] st = .ok (.tup [.int 2]) st) (by refine ⟨?_, ?_, ?_, ?_, ?_, ?_, ?_, ?_, ?_, ?_, ?_, ?_, ?_⟩ <;> kernel_rfl) hk
theorem fm2h (k : Nat) (hk : k ≤ 12) (a : D) (l : Nat) (st : Store) : Q (l + 1) 38 [.tup [W2.heap.s, .int (k : Int), a]] st = .ok (.tup [.int 2]) st := le12 (P := fun k => Q (l + 1) 38 [.tup [W2.heap.s, .int (k : Int), a]] st = .ok (.tup [.int 2]) st) (by refine ⟨?_, ?_, ?_, ?_, ?_, ?_, ?_, ?_, ?_, ?_, ?_, ?_, ?_⟩ <;> kernel_rfl) hk
theorem fm2 (w : W2) (k : Nat) (hk : k ≤ 12) (a : D) (l : Nat) (st : Store) : Q (l + 1) 38 [.tup [w.s, .int (k : Int), a]] st = .ok (.tup [.int 2]) st := by
  cases w with
  | list => exact fm2l k hk a l st
  | family => exact fm2f k hk a l st
  | heap => exact fm2h k hk a l st
theorem fm3 (w : W3) (a b : D) (l : Nat) (st : Store) : Q (l + 1) 38 [.tup [w.s, a, b]] st = .ok (.tup [.int 1, .int 2]) st := by cases w <;> kernel_rfl
/-! ### the walk -/
theorem get_set {st : Store} {c : Nat} {x y : Cell} (h : st[c]? = some x) : (st.set c y)[c]? = some y := by
  have hlt : c < st.length := by
    rcases Nat.lt_or_ge c st.length with h1 | h1
    · exact h1
    · rw [List.getElem?_eq_none h1] at h
      cases h
  rw [List.getElem?_set_self hlt]
theorem set_set' {st : Store} {c : Nat} {x y : Cell} : (st.set c x).set c y = st.set c y := by simp
theorem ixc {st : Store} {c : Nat} {d : D} {ds : List D} (h : st[c]? = some (.lst (d :: ds))) : ixSt st (.cell c) (.int 0) = some (.per d) := by
  unfold ixSt
  have e : deref st (.cell c) = .lst (d :: ds) := by
    unfold deref
    dsimp only
    rw [h]
  rw [e]
  have : L2.ixN (ds.length + 1) 0 = some 0 := by unfold L2.ixN; rw [if_pos (by omega), if_pos (by omega)]; rfl
  simp [deref, dIx, L2.atI, this]
theorem putc {st : Store} {c : Nat} {d e : D} {ds : List D} (h : st[c]? = some (.lst (d :: ds))) : setSt (.cell c) (.int 0) e st = some ((), st.set c (.lst (e :: ds))) := by
  unfold setSt
  dsimp only
  rw [h]
  have : L2.ixN (ds.length + 1) 0 = some 0 := by unfold L2.ixN; rw [if_pos (by omega), if_pos (by omega)]; rfl
  simp [this]
def bWalk (l : Nat) : SS := (sSeq (sFrz [5, 3] (sSet 6 (sFn (Q l 40) (sCons (kp (sBinS ixSt (rd (sVar 0)) (rd (sVar 5)))) (sCons (kp (sBin dAdd (rd (sVar 1)) (rd (sTup (sCons (kp (sVar 5)) sNil))))) (sCons (kp (sBin dAdd (rd (sVar 2)) (rd (sC (.int 1))))) (sCons (kp (sVar 3)) sNil))))))) (sSeq (sIfS (sBoolT (sBin dIsNot (rd (sVar 6)) (rd (sC .non)))) (sSeq (sFrz [6] (sRet (sVar 6))) sSkip) sSkip) (sSeq (sIfS (sAndT (sBoolT (sBin dIn (rd (sBinS ixSt (rd (sVar 0)) (rd (sC (.int 0))))) (rd (sTup (sCons (kp (sC (.str "family"))) (sCons (kp (sC (.str "heap"))) sNil)))))) (sNotT (sTru (sFn (Q l 39) (sCons (kp (sBinS ixSt (rd (sVar 0)) (rd (sVar 5)))) sNil))))) (sSeq (sFrz [5] (sRet (sTup (sCons (kp (sC (.str "sort"))) (sCons (kp (sBin dAdd (rd (sVar 1)) (rd (sTup (sCons (kp (sVar 5)) sNil))))) sNil))))) sSkip) sSkip) sSkip)))
theorem walk_step {l : Nat} {d : D} {ps : List D} {dp m c : Nat} {is : List D} {st st' : Store} (hd : dp ≤ 10) (hm : m < 60) (hc : st[c]? = some (.lst [.int (m : Int)]))
    (hf : ∀ st, Q l 38 [d] st = .ok (.tup is) st) (z1 z2 : SV)
    (hl : sForL (gN 5) (bWalk l) is [.val d, .val (.tup ps), .val (.int (dp : Int)), .val (.cell c), .val (.tup is), .un, .un] (st.set c (.lst [.int ((m + 1 : Nat) : Int)])) = .nx [.val d, .val (.tup ps), .val (.int (dp : Int)), .val (.cell c), .val (.tup is), z1, z2] st') :
    Q (l + 1) 40 [d, .tup ps, .int (dp : Int), .cell c] st = .ok .non st' := by
  have g1 := gtF (i := (dp : Int)) (j := 10) (by omega)
  have g2 := gtF (i := ((m + 1 : Nat) : Int)) (j := 60) (by omega)
  rw [u40]
  refine f_rt rfl ?_
  unfold L40
  refine s_seq (s_ifF (t_bool (w_bin (w_rd (w_var rfl)) (w_rd w_c) g1)) s_skip) ?_
  refine s_seq (ρ' := [.val d, .val (.tup ps), .val (.int (dp : Int)), .val (.cell c), .un, .un, .un]) (st1 := st.set c (.lst [.int ((m + 1 : Nat) : Int)])) ?_ ?_
  · show sSetIx _ (rd (sVar 3)) _ _ _ = _
    exact s_setIx (w_kp (w_bin (w_rd (w_binS (w_rd (w_var rfl)) (w_rd w_c) (ixc hc))) (w_rd w_c) (addN m))) (w_rd (w_var rfl)) (w_rd w_c) (putc hc)
  refine s_seq (s_ifF (t_bool (w_bin (w_rd (w_binS (w_rd (w_var rfl)) (w_rd w_c) (ixc (get_set hc)))) (w_rd w_c) g2)) s_skip) ?_
  refine s_seq (s_frz rfl (s_set (s := .val (.tup is)) (w_fn (w_cons (w_kp (w_var rfl)) w_nil) (hf _)) rfl rfl)) ?_
  refine s_seq (s_ifF (t_bool (w_bin (w_rd (w_var rfl)) (w_rd w_c) rfl)) s_skip) ?_
  refine s_seq (s_frz rfl (s_for (i_tup (w_kp (w_var rfl))) hl)) ?_
  exact s_seqR (s_ret (w_kp w_c))
theorem dpN (m : Nat) : dAdd (.int (m : Int)) (.int 1) = some (.per (.int ((m + 1 : Nat) : Int))) := rfl
theorem walk_ok : ∀ (s : S) (l : Nat) (ps : List D) (dp m c : Nat), forms s → s.depth + 1 ≤ l → dp + s.depth ≤ 11 → ps.length ≤ dp → m + s.parts ≤ 60 → ∀ st : Store, st[c]? = some (.lst [.int (m : Int)]) → Q l 40 [s.d, .tup ps, .int (dp : Int), .cell c] st = .ok .non (st.set c (.lst [.int ((m + s.parts : Nat) : Int)]))
  | .c0 w, l, ps, dp, m, c, f, hl, hd, hp, hm, st, hc => by
    simp only [S.depth] at hl hd
    simp only [S.parts] at hm ⊢
    obtain ⟨q, rfl⟩ : ∃ q, l = q + 2 := ⟨l - 2, by omega⟩
    exact walk_step (d := .tup [w.s]) (by omega) (by omega) hc (fm0 w q) .un .un l_nil
  | .c1 w k, l, ps, dp, m, c, f, hl, hd, hp, hm, st, hc => by
    simp only [S.depth] at hl hd
    simp only [S.parts] at hm ⊢
    obtain ⟨q, rfl⟩ : ∃ q, l = q + 2 := ⟨l - 2, by omega⟩
    exact walk_step (d := .tup [w.s, .int (k : Int)]) (by omega) (by omega) hc (fm1 w k f q) .un .un l_nil
  | .c2 w k a, l, ps, dp, m, c, f, hl, hd, hp, hm, st, hc => by
    simp only [S.depth] at hl hd
    simp only [S.parts] at hm ⊢
    obtain ⟨q, rfl⟩ : ∃ q, l = q + 2 := ⟨l - 2, by omega⟩
    have ih := walk_ok a (q + 1) (ps ++ [.int 2]) (dp + 1) (m + 1) c f.2.1 (by omega) (by omega) (by simp; omega) (by omega) _ (get_set hc (y := .lst [.int ((m + 1 : Nat) : Int)]))
    rw [set_set', show m + 1 + a.parts = m + (a.parts + 1) by omega] at ih
    have ta := tupAdd (ps := ps) (qs := [.int 2]) (by simp; omega)
    have td := dpN dp
    have sg := alone_ok a (q + 1) (by omega) (st.set c (.lst [.int ((m + (a.parts + 1) : Nat) : Int)]))
    refine walk_step (d := .tup [w.s, .int (k : Int), a.d]) (by omega) (by omega) hc (fm2 w k f.1 a.d q) (.val (.int 2)) (.val .non) (l_nx rfl ?_ l_nil)
    unfold bWalk
    cases w with
    | list =>
      simp only [W2.s]
      repeat' (first | with_reducible exact w_c | with_reducible exact w_nil | with_reducible exact s_skip | with_reducible exact t_yes | with_reducible exact w_pn | with_reducible exact m_pure | with_reducible exact n_rt | with_reducible exact n_exc | with_reducible exact n_bk | with_reducible exact n_ct | with_reducible exact nT | with_reducible exact nF | with_reducible exact l_nil | ((with_reducible apply l_nx); exact rfl) | ((with_reducible apply w_var); exact rfl) | with_reducible apply w_rd | with_reducible apply w_kpl | with_reducible apply a_kpc | with_reducible apply w_kp | with_reducible apply w_cons | with_reducible apply w_bin | with_reducible apply w_binS | with_reducible apply w_call | with_reducible apply w_un | with_reducible apply w_fn | with_reducible apply w_fnD | with_reducible apply w_fnK | with_reducible apply w_tup | with_reducible apply w_lst | with_reducible apply w_ps | with_reducible apply w_slice | with_reducible apply t_bool | with_reducible apply t_tru | with_reducible apply a_not | with_reducible apply a_notV | with_reducible apply a_and | with_reducible apply a_or | with_reducible apply a_andV | with_reducible apply a_orV | with_reducible apply a_ifM | with_reducible apply a_it | with_reducible apply a_r1 | with_reducible apply a_r2 | with_reducible apply w_lc | with_reducible apply a_seq | with_reducible apply n_nx | with_reducible apply a_frz | with_reducible apply a_if | with_reducible apply a_set | with_reducible apply s_ret | with_reducible apply s_drop | with_reducible apply s_for | with_reducible apply a_par | with_reducible apply a_par3 | with_reducible apply a_asg | ((with_reducible apply c_T); exact rfl) | ((with_reducible apply c_F); exact rfl) | ((with_reducible apply c_TM); exact rfl) | ((with_reducible apply c_FM); exact rfl) | ((try dsimp only [RV.d, deref, List.map]); with_reducible assumption) | ((with_reducible apply eqsF); exact rfl; exact rfl; decide +kernel) | ((with_reducible apply eqsT); exact rfl; exact rfl; decide +kernel) | ((with_reducible apply inT); exact rfl; exact rfl; decide +kernel) | ((with_reducible apply inF); exact rfl; exact rfl; decide +kernel) | ((with_reducible apply ninT); exact rfl; exact rfl; decide +kernel) | ((with_reducible apply ninF); exact rfl; exact rfl; decide +kernel) | exact @rfl (Option RV) _ | exact @rfl (Option SV) _ | exact @rfl (Option D) _ | exact @rfl (Option (List D)) _ | exact @rfl (Option Bool) _ | exact @rfl (Option Env') _ | assumption | exact Nat.le_of_ble_eq_true rfl | exact s_skip | exact l_nil)
    | family =>
      have hs : a.single = true := by simpa [isL] using f.2.2
      rw [hs] at sg
      simp only [W2.s]
      repeat' (first | with_reducible exact w_c | with_reducible exact w_nil | with_reducible exact s_skip | with_reducible exact t_yes | with_reducible exact w_pn | with_reducible exact m_pure | with_reducible exact n_rt | with_reducible exact n_exc | with_reducible exact n_bk | with_reducible exact n_ct | with_reducible exact nT | with_reducible exact nF | with_reducible exact l_nil | ((with_reducible apply l_nx); exact rfl) | ((with_reducible apply w_var); exact rfl) | with_reducible apply w_rd | with_reducible apply w_kpl | with_reducible apply a_kpc | with_reducible apply w_kp | with_reducible apply w_cons | with_reducible apply w_bin | with_reducible apply w_binS | with_reducible apply w_call | with_reducible apply w_un | with_reducible apply w_fn | with_reducible apply w_fnD | with_reducible apply w_fnK | with_reducible apply w_tup | with_reducible apply w_lst | with_reducible apply w_ps | with_reducible apply w_slice | with_reducible apply t_bool | with_reducible apply t_tru | with_reducible apply a_not | with_reducible apply a_notV | with_reducible apply a_and | with_reducible apply a_or | with_reducible apply a_andV | with_reducible apply a_orV | with_reducible apply a_ifM | with_reducible apply a_it | with_reducible apply a_r1 | with_reducible apply a_r2 | with_reducible apply w_lc | with_reducible apply a_seq | with_reducible apply n_nx | with_reducible apply a_frz | with_reducible apply a_if | with_reducible apply a_set | with_reducible apply s_ret | with_reducible apply s_drop | with_reducible apply s_for | with_reducible apply a_par | with_reducible apply a_par3 | with_reducible apply a_asg | ((with_reducible apply c_T); exact rfl) | ((with_reducible apply c_F); exact rfl) | ((with_reducible apply c_TM); exact rfl) | ((with_reducible apply c_FM); exact rfl) | ((try dsimp only [RV.d, deref, List.map]); with_reducible assumption) | ((with_reducible apply eqsF); exact rfl; exact rfl; decide +kernel) | ((with_reducible apply eqsT); exact rfl; exact rfl; decide +kernel) | ((with_reducible apply inT); exact rfl; exact rfl; decide +kernel) | ((with_reducible apply inF); exact rfl; exact rfl; decide +kernel) | ((with_reducible apply ninT); exact rfl; exact rfl; decide +kernel) | ((with_reducible apply ninF); exact rfl; exact rfl; decide +kernel) | exact @rfl (Option RV) _ | exact @rfl (Option SV) _ | exact @rfl (Option D) _ | exact @rfl (Option (List D)) _ | exact @rfl (Option Bool) _ | exact @rfl (Option Env') _ | assumption | exact Nat.le_of_ble_eq_true rfl | exact s_skip | exact l_nil)
    | heap =>
      have hs : a.single = true := by simpa [isL] using f.2.2
      rw [hs] at sg
      simp only [W2.s]
      repeat' (first | with_reducible exact w_c | with_reducible exact w_nil | with_reducible exact s_skip | with_reducible exact t_yes | with_reducible exact w_pn | with_reducible exact m_pure | with_reducible exact n_rt | with_reducible exact n_exc | with_reducible exact n_bk | with_reducible exact n_ct | with_reducible exact nT | with_reducible exact nF | with_reducible exact l_nil | ((with_reducible apply l_nx); exact rfl) | ((with_reducible apply w_var); exact rfl) | with_reducible apply w_rd | with_reducible apply w_kpl | with_reducible apply a_kpc | with_reducible apply w_kp | with_reducible apply w_cons | with_reducible apply w_bin | with_reducible apply w_binS | with_reducible apply w_call | with_reducible apply w_un | with_reducible apply w_fn | with_reducible apply w_fnD | with_reducible apply w_fnK | with_reducible apply w_tup | with_reducible apply w_lst | with_reducible apply w_ps | with_reducible apply w_slice | with_reducible apply t_bool | with_reducible apply t_tru | with_reducible apply a_not | with_reducible apply a_notV | with_reducible apply a_and | with_reducible apply a_or | with_reducible apply a_andV | with_reducible apply a_orV | with_reducible apply a_ifM | with_reducible apply a_it | with_reducible apply a_r1 | with_reducible apply a_r2 | with_reducible apply w_lc | with_reducible apply a_seq | with_reducible apply n_nx | with_reducible apply a_frz | with_reducible apply a_if | with_reducible apply a_set | with_reducible apply s_ret | with_reducible apply s_drop | with_reducible apply s_for | with_reducible apply a_par | with_reducible apply a_par3 | with_reducible apply a_asg | ((with_reducible apply c_T); exact rfl) | ((with_reducible apply c_F); exact rfl) | ((with_reducible apply c_TM); exact rfl) | ((with_reducible apply c_FM); exact rfl) | ((try dsimp only [RV.d, deref, List.map]); with_reducible assumption) | ((with_reducible apply eqsF); exact rfl; exact rfl; decide +kernel) | ((with_reducible apply eqsT); exact rfl; exact rfl; decide +kernel) | ((with_reducible apply inT); exact rfl; exact rfl; decide +kernel) | ((with_reducible apply inF); exact rfl; exact rfl; decide +kernel) | ((with_reducible apply ninT); exact rfl; exact rfl; decide +kernel) | ((with_reducible apply ninF); exact rfl; exact rfl; decide +kernel) | exact @rfl (Option RV) _ | exact @rfl (Option SV) _ | exact @rfl (Option D) _ | exact @rfl (Option (List D)) _ | exact @rfl (Option Bool) _ | exact @rfl (Option Env') _ | assumption | exact Nat.le_of_ble_eq_true rfl | exact s_skip | exact l_nil)
  | .c3 w a b, l, ps, dp, m, c, f, hl, hd, hp, hm, st, hc => by
    simp only [S.depth] at hl hd
    simp only [S.parts] at hm ⊢
    obtain ⟨q, rfl⟩ : ∃ q, l = q + 2 := ⟨l - 2, by omega⟩
    have iha := walk_ok a (q + 1) (ps ++ [.int 1]) (dp + 1) (m + 1) c f.1 (by omega) (by omega) (by simp; omega) (by omega) _ (get_set hc (y := .lst [.int ((m + 1 : Nat) : Int)]))
    rw [set_set'] at iha
    have ihb := walk_ok b (q + 1) (ps ++ [.int 2]) (dp + 1) (m + 1 + a.parts) c f.2 (by omega) (by omega) (by simp; omega) (by omega) _ (get_set hc (y := .lst [.int ((m + 1 + a.parts : Nat) : Int)]))
    rw [set_set', show m + 1 + a.parts + b.parts = m + (a.parts + b.parts + 1) by omega] at ihb
    have ta := tupAdd (ps := ps) (qs := [.int 1]) (by simp; omega)
    have tb := tupAdd (ps := ps) (qs := [.int 2]) (by simp; omega)
    have td := dpN dp
    refine walk_step (d := .tup [w.s, a.d, b.d]) (by omega) (by omega) hc (fm3 w a.d b.d q) (.val (.int 2)) (.val .non) ?_
    refine l_nx (ρ2 := [.val (.tup [w.s, a.d, b.d]), .val (.tup ps), .val (.int (dp : Int)), .val (.cell c), .val (.tup [.int 1, .int 2]), .val (.int 1), .val .non]) (st1 := st.set c (.lst [.int ((m + 1 + a.parts : Nat) : Int)])) rfl ?_ (l_nx rfl ?_ l_nil)
    · unfold bWalk
      cases w <;> (simp only [W3.s]; repeat' (first | with_reducible exact w_c | with_reducible exact w_nil | with_reducible exact s_skip | with_reducible exact t_yes | with_reducible exact w_pn | with_reducible exact m_pure | with_reducible exact n_rt | with_reducible exact n_exc | with_reducible exact n_bk | with_reducible exact n_ct | with_reducible exact nT | with_reducible exact nF | with_reducible exact l_nil | ((with_reducible apply l_nx); exact rfl) | ((with_reducible apply w_var); exact rfl) | with_reducible apply w_rd | with_reducible apply w_kpl | with_reducible apply a_kpc | with_reducible apply w_kp | with_reducible apply w_cons | with_reducible apply w_bin | with_reducible apply w_binS | with_reducible apply w_call | with_reducible apply w_un | with_reducible apply w_fn | with_reducible apply w_fnD | with_reducible apply w_fnK | with_reducible apply w_tup | with_reducible apply w_lst | with_reducible apply w_ps | with_reducible apply w_slice | with_reducible apply t_bool | with_reducible apply t_tru | with_reducible apply a_not | with_reducible apply a_notV | with_reducible apply a_and | with_reducible apply a_or | with_reducible apply a_andV | with_reducible apply a_orV | with_reducible apply a_ifM | with_reducible apply a_it | with_reducible apply a_r1 | with_reducible apply a_r2 | with_reducible apply w_lc | with_reducible apply a_seq | with_reducible apply n_nx | with_reducible apply a_frz | with_reducible apply a_if | with_reducible apply a_set | with_reducible apply s_ret | with_reducible apply s_drop | with_reducible apply s_for | with_reducible apply a_par | with_reducible apply a_par3 | with_reducible apply a_asg | ((with_reducible apply c_T); exact rfl) | ((with_reducible apply c_F); exact rfl) | ((with_reducible apply c_TM); exact rfl) | ((with_reducible apply c_FM); exact rfl) | ((try dsimp only [RV.d, deref, List.map]); with_reducible assumption) | ((with_reducible apply eqsF); exact rfl; exact rfl; decide +kernel) | ((with_reducible apply eqsT); exact rfl; exact rfl; decide +kernel) | ((with_reducible apply inT); exact rfl; exact rfl; decide +kernel) | ((with_reducible apply inF); exact rfl; exact rfl; decide +kernel) | ((with_reducible apply ninT); exact rfl; exact rfl; decide +kernel) | ((with_reducible apply ninF); exact rfl; exact rfl; decide +kernel) | exact @rfl (Option RV) _ | exact @rfl (Option SV) _ | exact @rfl (Option D) _ | exact @rfl (Option (List D)) _ | exact @rfl (Option Bool) _ | exact @rfl (Option Env') _ | assumption | exact Nat.le_of_ble_eq_true rfl | exact s_skip | exact l_nil))
    · unfold bWalk
      cases w <;> (simp only [W3.s]; repeat' (first | with_reducible exact w_c | with_reducible exact w_nil | with_reducible exact s_skip | with_reducible exact t_yes | with_reducible exact w_pn | with_reducible exact m_pure | with_reducible exact n_rt | with_reducible exact n_exc | with_reducible exact n_bk | with_reducible exact n_ct | with_reducible exact nT | with_reducible exact nF | with_reducible exact l_nil | ((with_reducible apply l_nx); exact rfl) | ((with_reducible apply w_var); exact rfl) | with_reducible apply w_rd | with_reducible apply w_kpl | with_reducible apply a_kpc | with_reducible apply w_kp | with_reducible apply w_cons | with_reducible apply w_bin | with_reducible apply w_binS | with_reducible apply w_call | with_reducible apply w_un | with_reducible apply w_fn | with_reducible apply w_fnD | with_reducible apply w_fnK | with_reducible apply w_tup | with_reducible apply w_lst | with_reducible apply w_ps | with_reducible apply w_slice | with_reducible apply t_bool | with_reducible apply t_tru | with_reducible apply a_not | with_reducible apply a_notV | with_reducible apply a_and | with_reducible apply a_or | with_reducible apply a_andV | with_reducible apply a_orV | with_reducible apply a_ifM | with_reducible apply a_it | with_reducible apply a_r1 | with_reducible apply a_r2 | with_reducible apply w_lc | with_reducible apply a_seq | with_reducible apply n_nx | with_reducible apply a_frz | with_reducible apply a_if | with_reducible apply a_set | with_reducible apply s_ret | with_reducible apply s_drop | with_reducible apply s_for | with_reducible apply a_par | with_reducible apply a_par3 | with_reducible apply a_asg | ((with_reducible apply c_T); exact rfl) | ((with_reducible apply c_F); exact rfl) | ((with_reducible apply c_TM); exact rfl) | ((with_reducible apply c_FM); exact rfl) | ((try dsimp only [RV.d, deref, List.map]); with_reducible assumption) | ((with_reducible apply eqsF); exact rfl; exact rfl; decide +kernel) | ((with_reducible apply eqsT); exact rfl; exact rfl; decide +kernel) | ((with_reducible apply inT); exact rfl; exact rfl; decide +kernel) | ((with_reducible apply inF); exact rfl; exact rfl; decide +kernel) | ((with_reducible apply ninT); exact rfl; exact rfl; decide +kernel) | ((with_reducible apply ninF); exact rfl; exact rfl; decide +kernel) | exact @rfl (Option RV) _ | exact @rfl (Option SV) _ | exact @rfl (Option D) _ | exact @rfl (Option (List D)) _ | exact @rfl (Option Bool) _ | exact @rfl (Option Env') _ | assumption | exact Nat.le_of_ble_eq_true rfl | exact s_skip | exact l_nil))
end M02
set_option Elab.async false -- ev
set_option linter.all false -- ev
set_option maxRecDepth 100000 -- ev
set_option maxHeartbeats 4000000 -- ev
set_option autoImplicit false -- ev
/-! The law's capped numbers, rooms, faults. -/
namespace M02
open PySem Ev
def M1 : Int := 1000000000000000000000000000001
def lpM (x : Int) : Nat → Int
  | 0 => 1
  | k + 1 => min M1 (lpM x k * x)
def cpv (n : Int) : S → Int
  | .c0 w => cnt n (.c0 w)
  | .c1 w k => cnt n (.c1 w k)
  | .c2 .list k a => lpM (cpv n a) k
  | .c2 .family k a => min M1 (cnt n (.c2 .family k a))
  | .c2 .heap k a => min M1 (cnt n (.c2 .heap k a))
  | .c3 .either a b => min M1 (cpv n a + cpv n b)
  | .c3 .pair a b => min M1 (cpv n a * cpv n b)
def one? (f : Int) (w : D) : List D := if f = M1 then [w] else []
def cw (n : Int) : S → List D
  | .c0 w => one? (cpv n (.c0 w)) w.s
  | .c1 w k => one? (cpv n (.c1 w k)) w.s
  | .c2 w k a => cw n a ++ one? (cpv n (.c2 w k a)) w.s
  | .c3 w a b => cw n a ++ cw n b ++ one? (cpv n (.c3 w a b)) w.s
theorem M1_eq : M1 = MM + 1 := rfl
theorem leaf0_le {n : Int} (h1 : 2 ≤ n) (h2 : n ≤ 5) (w : W0) : cnt n (.c0 w) ≤ 1000000 := by
  have hn : n = 2 ∨ n = 3 ∨ n = 4 ∨ n = 5 := by omega
  rcases hn with rfl | rfl | rfl | rfl <;> cases w <;> decide
def leafChk : Bool := [2, 3, 4, 5].all fun n => (List.range 13).all fun k => decide (cnt (n : Int) (.c1 .subset k) ≤ 10000000) && decide (cnt (n : Int) (.c1 .bag k) ≤ 10000000) && (decide (3 ≤ k) || decide (cnt (n : Int) (.c1 .rounds k) ≤ 10000000))
theorem leafChk_ok : leafChk = true := by decide +kernel
theorem leaf1_le {n : Int} (h1 : 2 ≤ n) (h2 : n ≤ 5) (w : W1) (k : Nat) (hk : okN w k = true) : cnt n (.c1 w k) ≤ 10000000 := by
  have h := leafChk_ok
  unfold leafChk at h
  rw [List.all_eq_true] at h
  have hn : n ∈ [2, 3, 4, 5] := by
    have : n = 2 ∨ n = 3 ∨ n = 4 ∨ n = 5 := by omega
    simpa using this
  have h3 := h n hn
  rw [List.all_eq_true] at h3
  have h4 := h3 k (List.mem_range.2 (by have := okN_le hk; omega))
  simp only [Bool.and_eq_true, Bool.or_eq_true, decide_eq_true_eq] at h4
  cases w with
  | subset => exact h4.1.1
  | bag => exact h4.1.2
  | rounds =>
    have hk2 : 1 ≤ k ∧ k ≤ 2 := by simpa [okN] using hk
    rcases h4.2 with h5 | h5
    · omega
    · exact h5
theorem lpM_b {x : Int} (hx : 0 ≤ x) : ∀ k, 0 ≤ lpM x k ∧ lpM x k ≤ M1
  | 0 => by
    have e : M1 = 1000000000000000000000000000001 := rfl
    simp only [lpM]
    omega
  | k + 1 => by
    have e : M1 = 1000000000000000000000000000001 := rfl
    have h := Int.mul_nonneg (lpM_b hx k).1 hx
    simp only [lpM]
    omega
theorem cpv_b {n : Int} (h1 : 2 ≤ n) (h2 : n ≤ 5) : ∀ s : S, forms s → 0 ≤ cpv n s ∧ cpv n s ≤ M1
  | .c0 w, _ => by
    have e : M1 = 1000000000000000000000000000001 := rfl
    have := cnt_nn h1 (.c0 w)
    have := leaf0_le h1 h2 w
    simp only [cpv]
    omega
  | .c1 w k, f => by
    have e : M1 = 1000000000000000000000000000001 := rfl
    have := cnt_nn h1 (.c1 w k)
    have := leaf1_le h1 h2 w k f
    simp only [cpv]
    omega
  | .c2 .list k a, f => lpM_b (cpv_b h1 h2 a f.2.1).1 k
  | .c2 .family k a, _ => by
    have e : M1 = 1000000000000000000000000000001 := rfl
    have := cnt_nn h1 (.c2 .family k a)
    simp only [cpv]
    omega
  | .c2 .heap k a, _ => by
    have e : M1 = 1000000000000000000000000000001 := rfl
    have := cnt_nn h1 (.c2 .heap k a)
    simp only [cpv]
    omega
  | .c3 .either a b, f => by
    have e : M1 = 1000000000000000000000000000001 := rfl
    have := cpv_b h1 h2 a f.1
    have := cpv_b h1 h2 b f.2
    simp only [cpv]
    omega
  | .c3 .pair a b, f => by
    have e : M1 = 1000000000000000000000000000001 := rfl
    have h := Int.mul_nonneg (cpv_b h1 h2 a f.1).1 (cpv_b h1 h2 b f.2).1
    simp only [cpv]
    omega
theorem cpv_single {n : Int} (h1 : 2 ≤ n) (h2 : n ≤ 5) : ∀ s : S, forms s → s.parts ≤ 60 → s.single = true → cpv n s = cnt n s
  | .c0 _, _, _, _ => rfl
  | .c1 _ _, _, _, _ => rfl
  | .c2 _ _ _, _, _, h => by simp [S.single] at h
  | .c3 .pair _ _, _, _, h => by simp [S.single] at h
  | .c3 .either a b, f, hp, h => by
    have e : M1 = 1000000000000000000000000000001 := rfl
    simp only [S.parts] at hp
    have h : a.single = true ∧ b.single = true := by simpa [S.single] using h
    have ea := cpv_single h1 h2 a f.1 (by omega) h.1
    have eb := cpv_single h1 h2 b f.2 (by omega) h.2
    have := single_cnt h1 h2 a f.1 h.1
    have := single_cnt h1 h2 b f.2 h.2
    simp only [cpv, cnt, ea, eb]
    omega
theorem lg101 {x : Int} (h0 : 0 ≤ x) (h : x ≤ M1) : lg x 101 := by
  have e : (2 : Nat) ^ 101 = 2535301200456458802993406410752 := by decide
  have e2 : M1 = 1000000000000000000000000000001 := rfl
  exact lg_nn h0 (by omega)
/-! ### nothing over: the numbers are right -/
theorem one_nil {f : Int} {w : D} (h : one? f w = []) : f ≠ M1 := by
  intro e
  rw [one?, if_pos e] at h
  cases h
theorem lpM_pow {x : Int} (hx : 0 ≤ x) : ∀ k, lpM x k = min M1 (x ^ k)
  | 0 => by
    have e : M1 = 1000000000000000000000000000001 := rfl
    rw [Int.pow_zero]
    simp only [lpM]
    omega
  | k + 1 => by
    have e : M1 = 1000000000000000000000000000001 := rfl
    have ih := lpM_pow hx k
    have p0 : 0 ≤ x ^ k := Int.pow_nonneg hx
    simp only [lpM]
    rw [ih, Int.pow_succ]
    by_cases h : x ^ k ≤ M1
    · rw [Int.min_eq_right h]
    · have h' : M1 ≤ x ^ k := by omega
      rw [Int.min_eq_left h']
      by_cases hz : x = 0
      · subst hz
        rw [Int.mul_zero, Int.mul_zero]
      · have hx1 : 1 ≤ x := by omega
        have a1 : M1 * 1 ≤ M1 * x := Int.mul_le_mul_of_nonneg_left hx1 (by omega)
        have a2 : M1 * x ≤ x ^ k * x := Int.mul_le_mul_of_nonneg_right h' hx
        rw [Int.mul_one] at a1
        rw [Int.min_eq_left a1, Int.min_eq_left (by omega)]
theorem cw_nil {n : Int} (h1 : 2 ≤ n) (h2 : n ≤ 5) : ∀ s : S, forms s → cw n s = [] → fitS n s ∧ cpv n s = cnt n s
  | .c0 w, _, _ => by
    have e : MM = 1000000000000000000000000000000 := rfl
    have := leaf0_le h1 h2 w
    exact ⟨by show cnt n (.c0 w) ≤ MM; omega, rfl⟩
  | .c1 w k, f, _ => by
    have e : MM = 1000000000000000000000000000000 := rfl
    have := leaf1_le h1 h2 w k f
    exact ⟨by show cnt n (.c1 w k) ≤ MM; omega, rfl⟩
  | .c2 w k a, f, h => by
    have e : MM = 1000000000000000000000000000000 := rfl
    have e' : M1 = 1000000000000000000000000000001 := rfl
    have h : cw n a = [] ∧ one? (cpv n (.c2 w k a)) w.s = [] := by simpa [cw] using h
    have ih := cw_nil h1 h2 a f.2.1 h.1
    have hne := one_nil h.2
    have key : cpv n (.c2 w k a) = min M1 (cnt n (.c2 w k a)) := by
      cases w with
      | list =>
        simp only [cpv, cnt]
        rw [lpM_pow (cpv_b h1 h2 a f.2.1).1, ih.2]
      | family => rfl
      | heap => rfl
    rw [key] at hne
    exact ⟨⟨ih.1, by omega⟩, by rw [key]; omega⟩
  | .c3 w a b, f, h => by
    have e : MM = 1000000000000000000000000000000 := rfl
    have e' : M1 = 1000000000000000000000000000001 := rfl
    have h : cw n a = [] ∧ cw n b = [] ∧ one? (cpv n (.c3 w a b)) w.s = [] := by simpa [cw] using h
    have iha := cw_nil h1 h2 a f.1 h.1
    have ihb := cw_nil h1 h2 b f.2 h.2.1
    have hne := one_nil h.2.2
    have key : cpv n (.c3 w a b) = min M1 (cnt n (.c3 w a b)) := by
      cases w with
      | either => simp only [cpv, cnt, iha.2, ihb.2]
      | pair => simp only [cpv, cnt, iha.2, ihb.2]
    rw [key] at hne
    exact ⟨⟨iha.1, ihb.1, by omega⟩, by rw [key]; omega⟩
/-! ### capped -/
theorem set_same {st : Store} {c : Nat} {x : Cell} (h : st[c]? = some x) : st.set c x = st := by
  have hlt : c < st.length := by
    rcases Nat.lt_or_ge c st.length with h1 | h1
    · exact h1
    · rw [List.getElem?_eq_none h1] at h
      cases h
  rw [List.getElem?_eq_getElem hlt] at h
  cases h
  exact List.set_getElem_self hlt
theorem pow30 : dPow (.int 10) (.int 30) = some (.per (.int 1000000000000000000000000000000)) := by kernel_rfl
theorem s_mutC {ρ : Env'} {st : Store} {i c : Nat} {xs : List D} {d : D} {g : Env' → M (List D)} (h0 : ρ[i]? = some (.val (.cell c))) (hc : st[c]? = some (.lst xs)) (hg : g ρ st = .ok [d] st) (hl : xs.length < sizeLine) : sMut i lAppend g ρ st = .nx ρ (st.set c (.lst (xs ++ [d]))) := by
  unfold sMut
  rw [h0]
  dsimp only
  rw [hc]
  dsimp only
  unfold thenS
  rw [hg]
  dsimp only
  rw [hc]
  dsimp only
  unfold lAppend
  dsimp only
  rw [if_pos hl]
def bCap (l : Nat) : SS := sIfS (sBoolT (sBin dIn (rd (sVar 3)) (rd (sTup (sCons (kp (sC (.str "either"))) (sCons (kp (sC (.str "pair"))) sNil)))))) (sSeq (sFrz [0, 2] (sPar 6 7 (sCons (kp (sFn (Q l 42) (sCons (kp (sVar 0)) (sCons (kp (sBinS ixSt (rd (sVar 1)) (rd (sC (.int 1))))) (sCons (kp (sVar 2)) sNil))))) (sCons (kp (sFn (Q l 42) (sCons (kp (sVar 0)) (sCons (kp (sBinS ixSt (rd (sVar 1)) (rd (sC (.int 2))))) (sCons (kp (sVar 2)) sNil))))) sNil)))) (sSeq (sSet 5 (sCall dMin (sCons (rd (sVar 4)) (sCons (rd (sIf (sBoolT (sBin dEq (rd (sVar 3)) (rd (sC (.str "either"))))) (sBin dAdd (rd (sVar 6)) (rd (sVar 7))) (sBin dMulA (rd (sVar 6)) (rd (sVar 7))))) sNil)))) sSkip)) (sSeq (sIfS (sBoolT (sBin dEq (rd (sVar 3)) (rd (sC (.str "list"))))) (sSeq (sFrz [0, 2] (sSet 8 (sFn (Q l 42) (sCons (kp (sVar 0)) (sCons (kp (sBinS ixSt (rd (sVar 1)) (rd (sC (.int 2))))) (sCons (kp (sVar 2)) sNil)))))) (sSeq (sFor (itR1 (sCons (kp (sBinS ixSt (rd (sVar 1)) (rd (sC (.int 1))))) sNil)) (gN 9) (sSeq (sSet 5 (sCall dMin (sCons (rd (sVar 4)) (sCons (rd (sBin dMulA (rd (sVar 5)) (rd (sVar 8)))) sNil)))) sSkip)) sSkip)) (sSeq (sIfS (sBoolT (sBin dIn (rd (sVar 3)) (rd (sTup (sCons (kp (sC (.str "family"))) (sCons (kp (sC (.str "heap"))) sNil)))))) (sSeq (sFrz [0, 2] (sSet 8 (sFn (Q l 42) (sCons (kp (sVar 0)) (sCons (kp (sBinS ixSt (rd (sVar 1)) (rd (sC (.int 2))))) (sCons (kp (sVar 2)) sNil)))))) (sSeq (sFrz [8] (sSet 5 (sCall dMin (sCons (rd (sVar 4)) (sCons (rd (sFn (Q l 30) (sCons (kp (sIf (sBoolT (sBin dEq (rd (sVar 3)) (rd (sC (.str "family"))))) (sVar 8) (sBin dSub (rd (sBin dAdd (rd (sVar 8)) (rd (sBinS ixSt (rd (sVar 1)) (rd (sC (.int 1))))))) (rd (sC (.int 1)))))) (sCons (kp (sBinS ixSt (rd (sVar 1)) (rd (sC (.int 1))))) sNil)))) sNil))))) sSkip)) (sSeq (sFrz [0, 1] (sSet 5 (sFn (Q l 32) (sCons (kp (sVar 0)) (sCons (kp (sVar 1)) sNil))))) sSkip)) sSkip)) sSkip)
theorem cap_end {l : Nat} {n d w : D} {c : Nat} {st st1 : Store} {ys : List D} {f : Int} {x6 x7 x8 x9 : SV} (hw : ixSt st d (.int 0) = some (.per w))
    (hb : bCap l [.val n, .val d, .val (.cell c), .val w, .val (.int M1), .val (.int 1), .un, .un, .un, .un] st = .nx [.val n, .val d, .val (.cell c), .val w, .val (.int M1), .val (.int f), x6, x7, x8, x9] st1)
    (hc : st1[c]? = some (.lst ys)) (hl : ys.length ≤ 900) : Q (l + 1) 42 [n, d, .cell c] st = .ok (.int f) (st1.set c (.lst (ys ++ one? f w))) := by
  rw [u42]
  refine f_rt rfl ?_
  unfold L42
  refine s_seq (a_par3 (w_cons (w_kp (w_binS (w_rd (w_var rfl)) (w_rd w_c) hw)) (w_cons (w_kp (w_bin (w_rd (w_bin (w_rd w_c) (w_rd w_c) pow30)) (w_rd w_c) rfl)) (w_cons (w_kp w_c) w_nil)))) ?_
  refine s_seq hb ?_
  by_cases hf : f = M1
  · subst hf
    have e : dEq (.int M1) (.int M1) = some (.per (.bl true)) := by
      show some (RV.per (.bl (M1 == M1))) = _
      have : (M1 == M1) = true := by simp
      rw [this]
    rw [one?, if_pos rfl]
    refine s_seq (s_ifT (t_bool (w_bin (w_rd (w_var rfl)) (w_rd (w_var rfl)) e)) (s_seq (s_frz rfl (s_mutC rfl hc (w_cons (w_kp (w_var rfl)) w_nil) (by have := size_ge; omega))) s_skip)) ?_
    exact s_seqR (s_frz rfl (s_ret (w_kp (w_var rfl))))
  · rw [one?, if_neg hf, List.append_nil, set_same hc]
    refine s_seq (s_ifF (t_bool (w_bin (w_rd (w_var rfl)) (w_rd (w_var rfl)) (eqF hf))) s_skip) ?_
    exact s_seqR (s_frz rfl (s_ret (w_kp (w_var rfl))))
theorem cw_len (n : Int) : ∀ s : S, (cw n s).length ≤ s.parts
  | .c0 w => by simp only [cw, one?, S.parts]; split <;> simp
  | .c1 w k => by simp only [cw, one?, S.parts]; split <;> simp
  | .c2 w k a => by
    have := cw_len n a
    simp only [cw, one?, S.parts]
    split <;> simp <;> omega
  | .c3 w a b => by
    have := cw_len n a
    have := cw_len n b
    simp only [cw, one?, S.parts]
    split <;> simp <;> omega
def bStep : SS := (sSeq (sSet 5 (sCall dMin (sCons (rd (sVar 4)) (sCons (rd (sBin dMulA (rd (sVar 5)) (rd (sVar 8)))) sNil)))) sSkip)
theorem step_loop {x : Int} (h0 : 0 ≤ x) (hx : x ≤ M1) (A B C D' x6 x7 : SV) (st : Store) : ∀ (ks : List D) (j : Nat) (y : SV),
    ∃ y', sForL (gN 9) bStep ks [A, B, C, D', .val (.int M1), .val (.int (lpM x j)), x6, x7, .val (.int x), y] st = .nx [A, B, C, D', .val (.int M1), .val (.int (lpM x (j + ks.length))), x6, x7, .val (.int x), y'] st
  | [], j, y => ⟨y, rfl⟩
  | k :: ks, j, y => by
    obtain ⟨y', h⟩ := step_loop h0 hx A B C D' x6 x7 st ks (j + 1) (.val k)
    have b := lpM_b h0 j
    have e := mulA_lg (lg101 b.1 b.2) (lg101 h0 hx) (by omega)
    refine ⟨y', l_nx rfl (s_seq (s_set (s := .val (.int (lpM x (j + 1)))) (w_call (w_cons (w_rd (w_var rfl)) (w_cons (w_rd (w_bin (w_rd (w_var rfl)) (w_rd (w_var rfl)) e)) w_nil)) rfl) rfl rfl) s_skip) (h.trans ?_)⟩
    rw [List.length_cons, show j + 1 + ks.length = j + (ks.length + 1) by omega]
theorem min2i (x y : Int) : dMin [.int x, .int y] = some (.per (.int (min x y))) := rfl
theorem capped_ok {n : Int} (h1 : 2 ≤ n) (h2 : n ≤ 5) : ∀ (s : S) (l c : Nat) (xs : List D), forms s → s.parts ≤ 60 → s.depth + 2 ≤ l → xs.length + s.parts ≤ 900 → ∀ st : Store, st[c]? = some (.lst xs) → Q l 42 [.int n, s.d, .cell c] st = .ok (.int (cpv n s)) (st.set c (.lst (xs ++ cw n s)))
  | .c0 w, l, c, xs, f, hp, hl, hx, st, hc => by
    simp only [S.depth] at hl
    simp only [S.parts] at hx
    obtain ⟨m, rfl⟩ : ∃ m, l = m + 3 := ⟨l - 3, by omega⟩
    have e := size_ok h1 h2 (.c0 w) (m + 2) trivial trivial (by simp [S.parts]) (by simp [S.depth]) st
    refine cap_end (d := .tup [w.s]) (w := w.s) rfl (x6 := .un) (x7 := .un) (x8 := .un) (x9 := .un) ?_ hc (by omega)
    simp only [S.d] at e
    simp only [cpv]
    unfold bCap
    cases w <;> (simp only [W0.s] at e ⊢; repeat' (first | with_reducible exact w_c | with_reducible exact w_nil | with_reducible exact s_skip | with_reducible exact t_yes | with_reducible exact w_pn | with_reducible exact m_pure | with_reducible exact n_rt | with_reducible exact n_exc | with_reducible exact n_bk | with_reducible exact n_ct | with_reducible exact nT | with_reducible exact nF | with_reducible exact l_nil | ((with_reducible apply l_nx); exact rfl) | ((with_reducible apply w_var); exact rfl) | with_reducible apply w_rd | with_reducible apply w_kpl | with_reducible apply a_kpc | with_reducible apply w_kp | with_reducible apply w_cons | with_reducible apply w_bin | with_reducible apply w_binS | with_reducible apply w_call | with_reducible apply w_un | with_reducible apply w_fn | with_reducible apply w_fnD | with_reducible apply w_fnK | with_reducible apply w_tup | with_reducible apply w_lst | with_reducible apply w_ps | with_reducible apply w_slice | with_reducible apply t_bool | with_reducible apply t_tru | with_reducible apply a_not | with_reducible apply a_notV | with_reducible apply a_and | with_reducible apply a_or | with_reducible apply a_andV | with_reducible apply a_orV | with_reducible apply a_ifM | with_reducible apply a_it | with_reducible apply a_r1 | with_reducible apply a_r2 | with_reducible apply w_lc | with_reducible apply a_seq | with_reducible apply n_nx | with_reducible apply a_frz | with_reducible apply a_if | with_reducible apply a_set | with_reducible apply s_ret | with_reducible apply s_drop | with_reducible apply s_for | with_reducible apply a_par | with_reducible apply a_par3 | with_reducible apply a_asg | ((with_reducible apply c_T); exact rfl) | ((with_reducible apply c_F); exact rfl) | ((with_reducible apply c_TM); exact rfl) | ((with_reducible apply c_FM); exact rfl) | ((try dsimp only [RV.d, deref, List.map]); with_reducible assumption) | ((with_reducible apply eqsF); exact rfl; exact rfl; decide +kernel) | ((with_reducible apply eqsT); exact rfl; exact rfl; decide +kernel) | ((with_reducible apply inT); exact rfl; exact rfl; decide +kernel) | ((with_reducible apply inF); exact rfl; exact rfl; decide +kernel) | ((with_reducible apply ninT); exact rfl; exact rfl; decide +kernel) | ((with_reducible apply ninF); exact rfl; exact rfl; decide +kernel) | exact @rfl (Option RV) _ | exact @rfl (Option SV) _ | exact @rfl (Option D) _ | exact @rfl (Option (List D)) _ | exact @rfl (Option Bool) _ | exact @rfl (Option Env') _ | assumption | exact Nat.le_of_ble_eq_true rfl | exact s_skip | exact l_nil))
  | .c1 w k, l, c, xs, f, hp, hl, hx, st, hc => by
    simp only [S.depth] at hl
    simp only [S.parts] at hx
    obtain ⟨m, rfl⟩ : ∃ m, l = m + 3 := ⟨l - 3, by omega⟩
    have e := size_ok h1 h2 (.c1 w k) (m + 2) f trivial (by simp [S.parts]) (by simp [S.depth]) st
    refine cap_end (d := .tup [w.s, .int (k : Int)]) (w := w.s) rfl (x6 := .un) (x7 := .un) (x8 := .un) (x9 := .un) ?_ hc (by omega)
    simp only [S.d] at e
    simp only [cpv]
    unfold bCap
    cases w <;> (simp only [W1.s] at e ⊢; repeat' (first | with_reducible exact w_c | with_reducible exact w_nil | with_reducible exact s_skip | with_reducible exact t_yes | with_reducible exact w_pn | with_reducible exact m_pure | with_reducible exact n_rt | with_reducible exact n_exc | with_reducible exact n_bk | with_reducible exact n_ct | with_reducible exact nT | with_reducible exact nF | with_reducible exact l_nil | ((with_reducible apply l_nx); exact rfl) | ((with_reducible apply w_var); exact rfl) | with_reducible apply w_rd | with_reducible apply w_kpl | with_reducible apply a_kpc | with_reducible apply w_kp | with_reducible apply w_cons | with_reducible apply w_bin | with_reducible apply w_binS | with_reducible apply w_call | with_reducible apply w_un | with_reducible apply w_fn | with_reducible apply w_fnD | with_reducible apply w_fnK | with_reducible apply w_tup | with_reducible apply w_lst | with_reducible apply w_ps | with_reducible apply w_slice | with_reducible apply t_bool | with_reducible apply t_tru | with_reducible apply a_not | with_reducible apply a_notV | with_reducible apply a_and | with_reducible apply a_or | with_reducible apply a_andV | with_reducible apply a_orV | with_reducible apply a_ifM | with_reducible apply a_it | with_reducible apply a_r1 | with_reducible apply a_r2 | with_reducible apply w_lc | with_reducible apply a_seq | with_reducible apply n_nx | with_reducible apply a_frz | with_reducible apply a_if | with_reducible apply a_set | with_reducible apply s_ret | with_reducible apply s_drop | with_reducible apply s_for | with_reducible apply a_par | with_reducible apply a_par3 | with_reducible apply a_asg | ((with_reducible apply c_T); exact rfl) | ((with_reducible apply c_F); exact rfl) | ((with_reducible apply c_TM); exact rfl) | ((with_reducible apply c_FM); exact rfl) | ((try dsimp only [RV.d, deref, List.map]); with_reducible assumption) | ((with_reducible apply eqsF); exact rfl; exact rfl; decide +kernel) | ((with_reducible apply eqsT); exact rfl; exact rfl; decide +kernel) | ((with_reducible apply inT); exact rfl; exact rfl; decide +kernel) | ((with_reducible apply inF); exact rfl; exact rfl; decide +kernel) | ((with_reducible apply ninT); exact rfl; exact rfl; decide +kernel) | ((with_reducible apply ninF); exact rfl; exact rfl; decide +kernel) | exact @rfl (Option RV) _ | exact @rfl (Option SV) _ | exact @rfl (Option D) _ | exact @rfl (Option (List D)) _ | exact @rfl (Option Bool) _ | exact @rfl (Option Env') _ | assumption | exact Nat.le_of_ble_eq_true rfl | exact s_skip | exact l_nil))
  | .c2 w k a, l, c, xs, f, hp, hl, hx, st, hc => by
    simp only [S.depth] at hl
    simp only [S.parts] at hx hp
    have dp := a.depth_pos
    obtain ⟨m, rfl⟩ : ∃ m, l = m + 4 := ⟨l - 4, by omega⟩
    have ih := capped_ok h1 h2 a (m + 3) c xs f.2.1 (by omega) (by omega) (by omega) st hc
    have b := cpv_b h1 h2 a f.2.1
    have hc2 := get_set hc (y := .lst (xs ++ cw n a))
    have cl := cw_len n a
    have en : (st.set c (.lst (xs ++ cw n a))).set c (.lst ((xs ++ cw n a) ++ one? (cpv n (.c2 w k a)) w.s)) = st.set c (.lst (xs ++ cw n (.c2 w k a))) := by
      rw [set_set', List.append_assoc]
      rfl
    rw [← en]
    cases w with
    | list =>
      obtain ⟨y', lp⟩ := step_loop b.1 b.2 (.val (.int n)) (.val (.tup [W2.list.s, .int (k : Int), a.d])) (.val (.cell c)) (.val W2.list.s) .un .un (st.set c (.lst (xs ++ cw n a))) (rngD 0 (k : Int).toNat) 0 .un
      rw [rng_len, Int.toNat_natCast, Nat.zero_add] at lp
      refine cap_end (d := .tup [W2.list.s, .int (k : Int), a.d]) (w := W2.list.s) rfl (x6 := .un) (x7 := .un) (x8 := .val (.int (cpv n a))) (x9 := y') ?_ hc2 (by simp; omega)
      unfold bCap
      have hk := f.1
      refine s_ifF (t_bool (w_bin (w_rd (w_var rfl)) (w_rd (w_tup (w_cons (w_kp w_c) (w_cons (w_kp w_c) w_nil)) (by have := size_ge; simp; omega))) (inF rfl rfl (by decide +kernel)))) ?_
      refine s_seq (s_ifT (t_bool (w_bin (w_rd (w_var rfl)) (w_rd w_c) (eqsT rfl rfl rfl))) ?_) s_skip
      refine s_seq (s_frz rfl (s_set (s := .val (.int (cpv n a))) (w_fn (w_cons (w_kp (w_var rfl)) (w_cons (w_kp (w_binS (w_rd (w_var rfl)) (w_rd w_c) rfl)) (w_cons (w_kp (w_var rfl)) w_nil))) ih) rfl rfl)) ?_
      refine s_seq (s_for (i_r1 (w_cons (w_kp (w_binS (w_rd (w_var rfl)) (w_rd w_c) rfl)) w_nil) (bnd_lt (by omega) (by omega))) ?_) s_skip
      rw [Int.toNat_natCast]
      exact lp
    | family =>
      have hs : a.single = true := by simpa [isL] using f.2.2
      have ec := cpv_single h1 h2 a f.2.1 (by omega) hs
      have s6 := small_in h1 h2 f (by omega) rfl
      have s0 := cnt_nn h1 a
      have e : Q (m + 3) 30 [.int (cnt n a), .int (k : Int)] (st.set c (.lst (xs ++ cw n a))) = .ok (.int (wy (cnt n a) k)) (st.set c (.lst (xs ++ cw n a))) := ways_ok (m + 2) (x := cnt n a) (by omega) f.1 (st.set c (.lst (xs ++ cw n a)))
      rw [wy_comb s0 (by omega) f.1] at e
      rw [ec] at ih
      have mn := min2i M1 (PySem.W.mcComb (cnt n a) (k : Int))
      refine cap_end (d := .tup [W2.family.s, .int (k : Int), a.d]) (w := W2.family.s) rfl (x6 := .un) (x7 := .un) (x8 := .val (.int (cnt n a))) (x9 := .un) ?_ hc2 (by simp; omega)
      unfold bCap
      refine s_ifF (t_bool (w_bin (w_rd (w_var rfl)) (w_rd (w_tup (w_cons (w_kp w_c) (w_cons (w_kp w_c) w_nil)) (by have := size_ge; simp; omega))) (inF rfl rfl (by decide +kernel)))) ?_
      refine s_seq (s_ifF (t_bool (w_bin (w_rd (w_var rfl)) (w_rd w_c) (eqsF rfl rfl (by decide +kernel)))) ?_) s_skip
      refine s_seq (s_ifT (t_bool (w_bin (w_rd (w_var rfl)) (w_rd (w_tup (w_cons (w_kp w_c) (w_cons (w_kp w_c) w_nil)) (by have := size_ge; simp; omega))) (inT rfl rfl (by decide +kernel)))) ?_) s_skip
      refine s_seq (s_frz rfl (s_set (s := .val (.int (cnt n a))) (w_fn (w_cons (w_kp (w_var rfl)) (w_cons (w_kp (w_binS (w_rd (w_var rfl)) (w_rd w_c) rfl)) (w_cons (w_kp (w_var rfl)) w_nil))) ih) rfl rfl)) ?_
      exact s_seq (s_frz rfl (s_set (s := .val (.int (min M1 (PySem.W.mcComb (cnt n a) (k : Int))))) (w_call (w_cons (w_rd (w_var rfl)) (w_cons (w_rd (w_fn (w_cons (w_kp (w_ifT (t_bool (w_bin (w_rd (w_var rfl)) (w_rd w_c) (eqsT rfl rfl rfl))) (w_var rfl))) (w_cons (w_kp (w_binS (w_rd (w_var rfl)) (w_rd w_c) rfl)) w_nil)) e)) w_nil)) mn) rfl rfl)) s_skip
    | heap =>
      have hs : a.single = true := by simpa [isL] using f.2.2
      have ec := cpv_single h1 h2 a f.2.1 (by omega) hs
      have s6 := small_in h1 h2 f (by omega) rfl
      have s0 := cnt_nn h1 a
      have e : Q (m + 3) 30 [.int (cnt n a + (k : Int) - 1), .int (k : Int)] (st.set c (.lst (xs ++ cw n a))) = .ok (.int (wy (cnt n a + (k : Int) - 1) k)) (st.set c (.lst (xs ++ cw n a))) := ways_ok (m + 2) (x := cnt n a + (k : Int) - 1) (by have := f.1; omega) f.1 (st.set c (.lst (xs ++ cw n a)))
      rw [wy_hp s0 (by omega) f.1] at e
      rw [ec] at ih
      have mn := min2i M1 (M02.hp (cnt n a) k)
      refine cap_end (d := .tup [W2.heap.s, .int (k : Int), a.d]) (w := W2.heap.s) rfl (x6 := .un) (x7 := .un) (x8 := .val (.int (cnt n a))) (x9 := .un) ?_ hc2 (by simp; omega)
      unfold bCap
      refine s_ifF (t_bool (w_bin (w_rd (w_var rfl)) (w_rd (w_tup (w_cons (w_kp w_c) (w_cons (w_kp w_c) w_nil)) (by have := size_ge; simp; omega))) (inF rfl rfl (by decide +kernel)))) ?_
      refine s_seq (s_ifF (t_bool (w_bin (w_rd (w_var rfl)) (w_rd w_c) (eqsF rfl rfl (by decide +kernel)))) ?_) s_skip
      refine s_seq (s_ifT (t_bool (w_bin (w_rd (w_var rfl)) (w_rd (w_tup (w_cons (w_kp w_c) (w_cons (w_kp w_c) w_nil)) (by have := size_ge; simp; omega))) (inT rfl rfl (by decide +kernel)))) ?_) s_skip
      refine s_seq (s_frz rfl (s_set (s := .val (.int (cnt n a))) (w_fn (w_cons (w_kp (w_var rfl)) (w_cons (w_kp (w_binS (w_rd (w_var rfl)) (w_rd w_c) rfl)) (w_cons (w_kp (w_var rfl)) w_nil))) ih) rfl rfl)) ?_
      exact s_seq (s_frz rfl (s_set (s := .val (.int (min M1 (M02.hp (cnt n a) k)))) (w_call (w_cons (w_rd (w_var rfl)) (w_cons (w_rd (w_fn (w_cons (w_kp (w_ifF (t_bool (w_bin (w_rd (w_var rfl)) (w_rd w_c) (eqsF rfl rfl (by decide +kernel)))) (w_bin (w_rd (w_bin (w_rd (w_var rfl)) (w_rd (w_binS (w_rd (w_var rfl)) (w_rd w_c) rfl)) rfl)) (w_rd w_c) rfl))) (w_cons (w_kp (w_binS (w_rd (w_var rfl)) (w_rd w_c) rfl)) w_nil)) e)) w_nil)) mn) rfl rfl)) s_skip
  | .c3 w a b, l, c, xs, f, hp, hl, hx, st, hc => by
    simp only [S.depth] at hl
    simp only [S.parts] at hx hp
    have dp := a.depth_pos
    obtain ⟨m, rfl⟩ : ∃ m, l = m + 4 := ⟨l - 4, by omega⟩
    have iha := capped_ok h1 h2 a (m + 3) c xs f.1 (by omega) (by omega) (by omega) st hc
    have cl := cw_len n a
    have cl2 := cw_len n b
    have hc2 := get_set hc (y := .lst (xs ++ cw n a))
    have ihb := capped_ok h1 h2 b (m + 3) c (xs ++ cw n a) f.2 (by omega) (by omega) (by simp; omega) _ hc2
    rw [set_set'] at ihb
    have hc3 := get_set hc (y := .lst ((xs ++ cw n a) ++ cw n b))
    have ba := cpv_b h1 h2 a f.1
    have bb := cpv_b h1 h2 b f.2
    have en : (st.set c (.lst ((xs ++ cw n a) ++ cw n b))).set c (.lst (((xs ++ cw n a) ++ cw n b) ++ one? (cpv n (.c3 w a b)) w.s)) = st.set c (.lst (xs ++ cw n (.c3 w a b))) := by
      rw [set_set']
      simp only [cw, List.append_assoc]
    rw [← en]
    refine cap_end (d := .tup [w.s, a.d, b.d]) (w := w.s) rfl (x6 := .val (.int (cpv n a))) (x7 := .val (.int (cpv n b))) (x8 := .un) (x9 := .un) ?_ hc3 (by simp; omega)
    unfold bCap
    cases w with
    | either =>
      have mn := min2i M1 (cpv n a + cpv n b)
      simp only [W3.s, cpv]
      repeat' (first | with_reducible exact w_c | with_reducible exact w_nil | with_reducible exact s_skip | with_reducible exact t_yes | with_reducible exact w_pn | with_reducible exact m_pure | with_reducible exact n_rt | with_reducible exact n_exc | with_reducible exact n_bk | with_reducible exact n_ct | with_reducible exact nT | with_reducible exact nF | with_reducible exact l_nil | ((with_reducible apply l_nx); exact rfl) | ((with_reducible apply w_var); exact rfl) | with_reducible apply w_rd | with_reducible apply w_kpl | with_reducible apply a_kpc | with_reducible apply w_kp | with_reducible apply w_cons | with_reducible apply w_bin | with_reducible apply w_binS | with_reducible apply w_call | with_reducible apply w_un | with_reducible apply w_fn | with_reducible apply w_fnD | with_reducible apply w_fnK | with_reducible apply w_tup | with_reducible apply w_lst | with_reducible apply w_ps | with_reducible apply w_slice | with_reducible apply t_bool | with_reducible apply t_tru | with_reducible apply a_not | with_reducible apply a_notV | with_reducible apply a_and | with_reducible apply a_or | with_reducible apply a_andV | with_reducible apply a_orV | with_reducible apply a_ifM | with_reducible apply a_it | with_reducible apply a_r1 | with_reducible apply a_r2 | with_reducible apply w_lc | with_reducible apply a_seq | with_reducible apply n_nx | with_reducible apply a_frz | with_reducible apply a_if | with_reducible apply a_set | with_reducible apply s_ret | with_reducible apply s_drop | with_reducible apply s_for | with_reducible apply a_par | with_reducible apply a_par3 | with_reducible apply a_asg | ((with_reducible apply c_T); exact rfl) | ((with_reducible apply c_F); exact rfl) | ((with_reducible apply c_TM); exact rfl) | ((with_reducible apply c_FM); exact rfl) | ((try dsimp only [RV.d, deref, List.map]); with_reducible assumption) | ((with_reducible apply eqsF); exact rfl; exact rfl; decide +kernel) | ((with_reducible apply eqsT); exact rfl; exact rfl; decide +kernel) | ((with_reducible apply inT); exact rfl; exact rfl; decide +kernel) | ((with_reducible apply inF); exact rfl; exact rfl; decide +kernel) | ((with_reducible apply ninT); exact rfl; exact rfl; decide +kernel) | ((with_reducible apply ninF); exact rfl; exact rfl; decide +kernel) | exact @rfl (Option RV) _ | exact @rfl (Option SV) _ | exact @rfl (Option D) _ | exact @rfl (Option (List D)) _ | exact @rfl (Option Bool) _ | exact @rfl (Option Env') _ | assumption | exact Nat.le_of_ble_eq_true rfl | exact s_skip | exact l_nil)
    | pair =>
      have mn := min2i M1 (cpv n a * cpv n b)
      have e := mulA_lg (lg101 ba.1 ba.2) (lg101 bb.1 bb.2) (by omega)
      simp only [W3.s, cpv]
      repeat' (first | with_reducible exact w_c | with_reducible exact w_nil | with_reducible exact s_skip | with_reducible exact t_yes | with_reducible exact w_pn | with_reducible exact m_pure | with_reducible exact n_rt | with_reducible exact n_exc | with_reducible exact n_bk | with_reducible exact n_ct | with_reducible exact nT | with_reducible exact nF | with_reducible exact l_nil | ((with_reducible apply l_nx); exact rfl) | ((with_reducible apply w_var); exact rfl) | with_reducible apply w_rd | with_reducible apply w_kpl | with_reducible apply a_kpc | with_reducible apply w_kp | with_reducible apply w_cons | with_reducible apply w_bin | with_reducible apply w_binS | with_reducible apply w_call | with_reducible apply w_un | with_reducible apply w_fn | with_reducible apply w_fnD | with_reducible apply w_fnK | with_reducible apply w_tup | with_reducible apply w_lst | with_reducible apply w_ps | with_reducible apply w_slice | with_reducible apply t_bool | with_reducible apply t_tru | with_reducible apply a_not | with_reducible apply a_notV | with_reducible apply a_and | with_reducible apply a_or | with_reducible apply a_andV | with_reducible apply a_orV | with_reducible apply a_ifM | with_reducible apply a_it | with_reducible apply a_r1 | with_reducible apply a_r2 | with_reducible apply w_lc | with_reducible apply a_seq | with_reducible apply n_nx | with_reducible apply a_frz | with_reducible apply a_if | with_reducible apply a_set | with_reducible apply s_ret | with_reducible apply s_drop | with_reducible apply s_for | with_reducible apply a_par | with_reducible apply a_par3 | with_reducible apply a_asg | ((with_reducible apply c_T); exact rfl) | ((with_reducible apply c_F); exact rfl) | ((with_reducible apply c_TM); exact rfl) | ((with_reducible apply c_FM); exact rfl) | ((try dsimp only [RV.d, deref, List.map]); with_reducible assumption) | ((with_reducible apply eqsF); exact rfl; exact rfl; decide +kernel) | ((with_reducible apply eqsT); exact rfl; exact rfl; decide +kernel) | ((with_reducible apply inT); exact rfl; exact rfl; decide +kernel) | ((with_reducible apply inF); exact rfl; exact rfl; decide +kernel) | ((with_reducible apply ninT); exact rfl; exact rfl; decide +kernel) | ((with_reducible apply ninF); exact rfl; exact rfl; decide +kernel) | exact @rfl (Option RV) _ | exact @rfl (Option SV) _ | exact @rfl (Option D) _ | exact @rfl (Option (List D)) _ | exact @rfl (Option Bool) _ | exact @rfl (Option Env') _ | assumption | exact Nat.le_of_ble_eq_true rfl | exact s_skip | exact l_nil)
/-! ### rooms -/
def rms : List D → S → List D
  | ps, .c0 w => [.tup [.tup ps, (S.c0 w).d]]
  | ps, .c1 w k => [.tup [.tup ps, (S.c1 w k).d]]
  | ps, .c2 w k a => .tup [.tup ps, (S.c2 w k a).d] :: rms (ps ++ [.int 2]) a
  | ps, .c3 w a b => .tup [.tup ps, (S.c3 w a b).d] :: (rms (ps ++ [.int 1]) a ++ rms (ps ++ [.int 2]) b)
theorem rms_len : ∀ (s : S) (ps : List D), (rms ps s).length = s.parts
  | .c0 _, _ => rfl
  | .c1 _ _, _ => rfl
  | .c2 _ _ a, ps => by simp [rms, S.parts, rms_len a]
  | .c3 _ a b, ps => by simp [rms, S.parts, rms_len a, rms_len b]
def bRoom (l : Nat) : SS := (sSeq (sFrz [3] (sSet 2 (sBin dAdd (rd (sVar 2)) (rd (sFn (Q l 43) (sCons (kp (sBinS ixSt (rd (sVar 0)) (rd (sVar 3)))) (sCons (kp (sBin dAdd (rd (sVar 1)) (rd (sTup (sCons (kp (sVar 3)) sNil))))) sNil))))))) sSkip)
theorem room_step {l : Nat} {d : D} {ps is rs : List D} {st : Store} {z : SV} (hf : sOrV (sFn (Q l 38) (sCons (kp (sVar 0)) sNil)) (sTup sNil) [.val d, .val (.tup ps), .own [.tup [.tup ps, d]], .un] st = .ok (.per (.tup is)) st)
    (hl : sForL (gN 3) (bRoom l) is [.val d, .val (.tup ps), .own [.tup [.tup ps, d]], .un] st = .nx [.val d, .val (.tup ps), .own rs, z] st) : Q (l + 1) 43 [d, .tup ps] st = .ok (.lst rs) st := by
  rw [u43]
  refine f_rt rfl ?_
  unfold L43
  have two := size_ge
  refine s_seq (s_frz rfl (s_set (s := .own [.tup [.tup ps, d]]) (w_lst (w_cons (w_kp (w_tup (w_cons (w_kp (w_var rfl)) (w_cons (w_kp (w_var rfl)) w_nil)) (by simp; omega))) w_nil) (by simp; omega)) rfl rfl)) ?_
  refine s_seq (s_frz rfl (s_for (i_tup (w_kp hf)) hl)) ?_
  exact s_seqR (s_frz rfl (s_ret (w_kp (w_var rfl))))
theorem lstAdd {xs ys : List D} (h : xs.length + ys.length ≤ 1000) : dAdd (.lst xs) (.lst ys) = some (.fr (xs ++ ys)) := by
  unfold dAdd
  dsimp only
  rw [if_pos (by have := size_ge; omega)]
theorem rooms_ok : ∀ (s : S) (l : Nat) (ps : List D), forms s → s.parts ≤ 60 → s.depth + 1 ≤ l → ps.length + s.depth ≤ 100 → ∀ st : Store, Q l 43 [s.d, .tup ps] st = .ok (.lst (rms ps s)) st
  | .c0 w, l, ps, f, hp, hl, hd, st => by
    simp only [S.depth] at hl hd
    obtain ⟨m, rfl⟩ : ∃ m, l = m + 2 := ⟨l - 2, by omega⟩
    exact room_step (d := .tup [w.s]) (a_orV (w_fn (w_cons (w_kp (w_var rfl)) w_nil) (fm0 w m st)) rfl (c_FM rfl (w_tup w_nil (Nat.zero_le _)))) (z := .un) l_nil
  | .c1 w k, l, ps, f, hp, hl, hd, st => by
    simp only [S.depth] at hl hd
    obtain ⟨m, rfl⟩ : ∃ m, l = m + 2 := ⟨l - 2, by omega⟩
    exact room_step (d := .tup [w.s, .int (k : Int)]) (a_orV (w_fn (w_cons (w_kp (w_var rfl)) w_nil) (fm1 w k f m st)) rfl (c_FM rfl (w_tup w_nil (Nat.zero_le _)))) (z := .un) l_nil
  | .c2 w k a, l, ps, f, hp, hl, hd, st => by
    simp only [S.depth] at hl hd
    simp only [S.parts] at hp
    obtain ⟨m, rfl⟩ : ∃ m, l = m + 2 := ⟨l - 2, by omega⟩
    have ih := rooms_ok a (m + 1) (ps ++ [.int 2]) f.2.1 (by omega) (by omega) (by simp; omega) st
    have ta := tupAdd (ps := ps) (qs := [.int 2]) (by simp; omega)
    have la := lstAdd (xs := [.tup [.tup ps, .tup [w.s, .int (k : Int), a.d]]]) (ys := rms (ps ++ [.int 2]) a) (by rw [rms_len]; simp; omega)
    refine room_step (d := .tup [w.s, .int (k : Int), a.d]) (a_orV (w_fn (w_cons (w_kp (w_var rfl)) w_nil) (fm2 w k f.1 a.d m st)) rfl (c_TM rfl m_pure)) (z := .val (.int 2)) (l_nx rfl ?_ l_nil)
    exact s_seq (s_frz rfl (s_set (s := .own ([.tup [.tup ps, .tup [w.s, .int (k : Int), a.d]]] ++ rms (ps ++ [.int 2]) a)) (w_bin (w_rd (w_var rfl)) (w_rd (w_fn (w_cons (w_kp (w_binS (w_rd (w_var rfl)) (w_rd (w_var rfl)) rfl)) (w_cons (w_kp (w_bin (w_rd (w_var rfl)) (w_rd (w_tup (w_cons (w_kp (w_var rfl)) w_nil) (by have := size_ge; simp; omega))) ta)) w_nil)) ih)) la) rfl rfl)) s_skip
  | .c3 w a b, l, ps, f, hp, hl, hd, st => by
    simp only [S.depth] at hl hd
    simp only [S.parts] at hp
    obtain ⟨m, rfl⟩ : ∃ m, l = m + 2 := ⟨l - 2, by omega⟩
    have iha := rooms_ok a (m + 1) (ps ++ [.int 1]) f.1 (by omega) (by omega) (by simp; omega) st
    have ihb := rooms_ok b (m + 1) (ps ++ [.int 2]) f.2 (by omega) (by omega) (by simp; omega) st
    have ta := tupAdd (ps := ps) (qs := [.int 1]) (by simp; omega)
    have tb := tupAdd (ps := ps) (qs := [.int 2]) (by simp; omega)
    have la := lstAdd (xs := [.tup [.tup ps, .tup [w.s, a.d, b.d]]]) (ys := rms (ps ++ [.int 1]) a) (by rw [rms_len]; simp; omega)
    have lb := lstAdd (xs := [.tup [.tup ps, .tup [w.s, a.d, b.d]]] ++ rms (ps ++ [.int 1]) a) (ys := rms (ps ++ [.int 2]) b) (by rw [List.length_append, rms_len, rms_len]; simp; omega)
    have en : ([D.tup [.tup ps, .tup [w.s, a.d, b.d]]] ++ rms (ps ++ [.int 1]) a) ++ rms (ps ++ [.int 2]) b = rms ps (.c3 w a b) := by
      rw [List.append_assoc]
      rfl
    rw [← en]
    refine room_step (d := .tup [w.s, a.d, b.d]) (a_orV (w_fn (w_cons (w_kp (w_var rfl)) w_nil) (fm3 w a.d b.d m st)) rfl (c_TM rfl m_pure)) (z := .val (.int 2)) ?_
    refine l_nx (ρ2 := [.val (.tup [w.s, a.d, b.d]), .val (.tup ps), .own ([.tup [.tup ps, .tup [w.s, a.d, b.d]]] ++ rms (ps ++ [.int 1]) a), .val (.int 1)]) (st1 := st) rfl ?_ (l_nx rfl ?_ l_nil)
    · exact s_seq (s_frz rfl (s_set (s := .own ([.tup [.tup ps, .tup [w.s, a.d, b.d]]] ++ rms (ps ++ [.int 1]) a)) (w_bin (w_rd (w_var rfl)) (w_rd (w_fn (w_cons (w_kp (w_binS (w_rd (w_var rfl)) (w_rd (w_var rfl)) rfl)) (w_cons (w_kp (w_bin (w_rd (w_var rfl)) (w_rd (w_tup (w_cons (w_kp (w_var rfl)) w_nil) (by have := size_ge; simp; omega))) ta)) w_nil)) iha)) la) rfl rfl)) s_skip
    · exact s_seq (s_frz rfl (s_set (s := .own (([.tup [.tup ps, .tup [w.s, a.d, b.d]]] ++ rms (ps ++ [.int 1]) a) ++ rms (ps ++ [.int 2]) b)) (w_bin (w_rd (w_var rfl)) (w_rd (w_fn (w_cons (w_kp (w_binS (w_rd (w_var rfl)) (w_rd (w_var rfl)) rfl)) (w_cons (w_kp (w_bin (w_rd (w_var rfl)) (w_rd (w_tup (w_cons (w_kp (w_var rfl)) w_nil) (by have := size_ge; simp; omega))) tb)) w_nil)) ihb)) lb) rfl rfl)) s_skip
end M02
set_option Elab.async false -- ev
set_option linter.all false -- ev
set_option maxRecDepth 100000 -- ev
set_option maxHeartbeats 4000000 -- ev
set_option autoImplicit false -- ev
/-! Faults, what is told, what fits. -/
namespace M02
open PySem Ev
def fltD (n : Int) (s : S) : D := if 12 < mk n s then .tup [.str "great", .int 12] else if 40 < wd s then .tup [.str "great", .int 40] else if cw n s = [] then .non else .tup [.str "great", .int 1000000000000000000000000000000]
theorem at_end (st : Store) (x : Cell) : (st ++ [x])[st.length]? = some x := by simp
theorem set_end (st : Store) (x y : Cell) : (st ++ [x]).set st.length y = st ++ [y] := by simp
theorem pls_all (l : Nat) : ∀ ds : List D, (∀ d ∈ ds, D.pl l d = true) → D.pls l ds = true
  | [], _ => by simp [D.pls]
  | d :: ds, h => by
    simp only [D.pls, h d (by simp), pls_all l ds (fun e he => h e (List.mem_cons_of_mem _ he)), Bool.and_self]
theorem w0_pl (w : W0) : D.pl 59 w.s = true := by cases w <;> decide +kernel
theorem w1_pl (w : W1) : D.pl 59 w.s = true := by cases w <;> decide +kernel
theorem w2_pl (w : W2) : D.pl 59 w.s = true := by cases w <;> decide +kernel
theorem w3_pl (w : W3) : D.pl 59 w.s = true := by cases w <;> decide +kernel
theorem one_pl {f : Int} {w : D} (h : D.pl 59 w = true) : ∀ d ∈ one? f w, D.pl 59 d = true := by
  unfold one?
  split
  · intro d hd
    have : d = w := by simpa using hd
    rw [this]
    exact h
  · intro d hd
    cases hd
theorem cw_pl (n : Int) : ∀ (s : S), ∀ d ∈ cw n s, D.pl 59 d = true
  | .c0 w, d, h => one_pl (w0_pl w) d h
  | .c1 w k, d, h => one_pl (w1_pl w) d h
  | .c2 w k a, d, h => by
    rcases List.mem_append.1 h with h | h
    · exact cw_pl n a d h
    · exact one_pl (w2_pl w) d h
  | .c3 w a b, d, h => by
    rcases List.mem_append.1 h with h | h
    · rcases List.mem_append.1 h with h | h
      · exact cw_pl n a d h
      · exact cw_pl n b d h
    · exact one_pl (w3_pl w) d h
theorem neNil {ds : List D} (h : ∀ d ∈ ds, D.pl 59 d = true) : dNe (.lst ds) (.lst []) = some (.per (.bl (!ds.isEmpty))) := by
  have e : D.pl 60 (.lst ds) = true := pls_all 59 ds h
  unfold dNe
  dsimp only
  rw [if_pos ⟨e, rfl⟩]
  cases ds with
  | nil => simp [D.eqv, D.eqvs, yes]
  | cons a r => simp [D.eqv, D.eqvs, yes]
theorem fault_ok {n : Int} (h1 : 2 ≤ n) (h2 : n ≤ 5) (s : S) (f : forms s) (hd : s.depth ≤ 10) (hp : s.parts ≤ 60) (l : Nat) (hl : 14 ≤ l) (st : Store) : ∃ X, Q (l + 1) 44 [.int n, s.d] st = .ok (fltD n s) (st ++ X) := by
  have two := size_ge
  have e1 := walk_ok s l [] 1 0 st.length f (by omega) (by omega) (by simp) (by omega) (st ++ [Cell.lst [.int ((0 : Nat) : Int)]]) (at_end st _)
  rw [set_end, Nat.zero_add] at e1
  have e2 := weight_ok h1 h2 s l f hd (by omega) (st ++ [Cell.lst [.int (s.parts : Int)]])
  have e3 := wide_ok s l f hd (by omega) (st ++ [Cell.lst [.int (s.parts : Int)]])
  have e4 := capped_ok h1 h2 s l (st ++ [Cell.lst [.int (s.parts : Int)]]).length [] f hp (by omega) (by simp; omega) ((st ++ [Cell.lst [.int (s.parts : Int)]]) ++ [Cell.lst []]) (at_end _ _)
  rw [set_end, List.nil_append] at e4
  have b1 : sFrz [1] (sSet 2 (sFn (Q l 40) (sCons (kp (sVar 1)) (sCons (kp (sTup sNil)) (sCons (kp (sC (.int 1))) (sCons (kp (toCell (sLst (sCons (kp (sC (.int 0))) sNil)))) sNil)))))) [.val (.int n), .val s.d, .un, .un] st = .nx [.val (.int n), .val s.d, .val .non, .un] (st ++ [Cell.lst [.int (s.parts : Int)]]) :=
    s_frz rfl (s_set (s := .val .non) (w_fn (w_cons (w_kp (w_var rfl)) (w_cons (w_kp (w_tup w_nil (Nat.zero_le _))) (w_cons (w_kp w_c) (w_cons (w_kp (w_toCell (w_lst (w_cons (w_kp w_c) w_nil) (by simp; omega)))) w_nil)))) e1) rfl rfl)
  rw [u44]
  unfold L44 fltD
  by_cases g1 : 12 < mk n s
  · rw [if_pos g1]
    refine ⟨[.lst [.int (s.parts : Int)]], f_rt rfl (s_seq b1 (s_seq (s_ifF (t_bool (w_bin (w_rd (w_var rfl)) (w_rd w_c) rfl)) s_skip) (s_seqR (s_frz rfl (s_ifT (t_bool (w_bin (w_rd (w_fn (w_cons (w_kp (w_var rfl)) (w_cons (w_kp (w_var rfl)) w_nil)) e2)) (w_rd w_c) (gtT g1))) (s_seqR (s_ret (w_kp (w_tup (w_cons (w_kp w_c) (w_cons (w_kp w_c) w_nil)) (by simp; omega)))))))))) ⟩
  · rw [if_neg g1]
    by_cases g2 : 40 < wd s
    · rw [if_pos g2]
      refine ⟨[.lst [.int (s.parts : Int)]], f_rt rfl (s_seq b1 (s_seq (s_ifF (t_bool (w_bin (w_rd (w_var rfl)) (w_rd w_c) rfl)) s_skip) (s_seq (s_frz rfl (s_ifF (t_bool (w_bin (w_rd (w_fn (w_cons (w_kp (w_var rfl)) (w_cons (w_kp (w_var rfl)) w_nil)) e2)) (w_rd w_c) (gtF g1))) s_skip)) (s_seqR (s_frz rfl (s_ifT (t_bool (w_bin (w_rd (w_fn (w_cons (w_kp (w_var rfl)) w_nil) e3)) (w_rd w_c) (gtT g2))) (s_seqR (s_ret (w_kp (w_tup (w_cons (w_kp w_c) (w_cons (w_kp w_c) w_nil)) (by simp; omega)))))))))))⟩
    · rw [if_neg g2]
      refine ⟨[.lst [.int (s.parts : Int)], .lst (cw n s)], ?_⟩
      have en : st ++ [Cell.lst [.int (s.parts : Int)], .lst (cw n s)] = (st ++ [Cell.lst [.int (s.parts : Int)]]) ++ [Cell.lst (cw n s)] := by simp
      rw [en]
      have nn := neNil (cw_pl n s)
      have dc : deref ((st ++ [Cell.lst [.int (s.parts : Int)]]) ++ [Cell.lst (cw n s)]) (.cell (st ++ [Cell.lst [.int (s.parts : Int)]]).length) = .lst (cw n s) := by
        unfold deref
        dsimp only
        rw [at_end]
      refine f_rt rfl (s_seq b1 (s_seq (s_ifF (t_bool (w_bin (w_rd (w_var rfl)) (w_rd w_c) rfl)) s_skip) (s_seq (s_frz rfl (s_ifF (t_bool (w_bin (w_rd (w_fn (w_cons (w_kp (w_var rfl)) (w_cons (w_kp (w_var rfl)) w_nil)) e2)) (w_rd w_c) (gtF g1))) s_skip)) (s_seq (s_frz rfl (s_ifF (t_bool (w_bin (w_rd (w_fn (w_cons (w_kp (w_var rfl)) w_nil) e3)) (w_rd w_c) (gtF g2))) s_skip)) (s_seq (s_set (s := .val (.cell (st ++ [Cell.lst [.int (s.parts : Int)]]).length)) (w_toCell (w_lst w_nil (Nat.zero_le _))) rfl rfl) (s_seq (s_frz rfl (s_drop (w_fn (w_cons (w_kp (w_var rfl)) (w_cons (w_kp (w_var rfl)) (w_cons (w_kp (w_var rfl)) w_nil))) e4))) (s_seqR (s_ret ?_))))))))
      by_cases g3 : cw n s = []
      · rw [if_pos g3]
        refine w_kp (w_ifF (t_bool (w_bin (w_rd (w_var rfl)) (w_rd (w_lst w_nil (Nat.zero_le _))) ?_)) w_c)
        show dNe (deref _ (.cell (st ++ [Cell.lst [.int (s.parts : Int)]]).length)) (.lst []) = _
        rw [dc, nn, g3]
        rfl
      · rw [if_neg g3]
        refine w_kp (w_ifT (t_bool (w_bin (w_rd (w_var rfl)) (w_rd (w_lst w_nil (Nat.zero_le _))) ?_)) (w_tup (w_cons (w_kp w_c) (w_cons (w_kp (w_bin (w_rd w_c) (w_rd w_c) pow30)) w_nil)) (by simp; omega)))
        show dNe (deref _ (.cell (st ++ [Cell.lst [.int (s.parts : Int)]]).length)) (.lst []) = _
        rw [dc, nn]
        cases hc : cw n s with
        | nil => exact absurd hc g3
        | cons _ _ => rfl
theorem flt_none {n : Int} (h1 : 2 ≤ n) (h2 : n ≤ 5) {s : S} (f : forms s) (hd : s.depth ≤ 10) (hp : s.parts ≤ 60) (h : fltD n s = .non) : Sort' n s := by
  unfold fltD at h
  by_cases g1 : 12 < mk n s
  · rw [if_pos g1] at h
    cases h
  · rw [if_neg g1] at h
    by_cases g2 : 40 < wd s
    · rw [if_pos g2] at h
      cases h
    · rw [if_neg g2] at h
      by_cases g3 : cw n s = []
      · exact ⟨h1, h2, f, hd, hp, by omega, by omega, (cw_nil h1 h2 s f g3).1⟩
      · rw [if_neg g3] at h
        cases h
/-! ### what is told -/
variable {n : Int} {s : S}
theorem isS_ok (h : Sort' n s) (l : Nat) (hl : 14 ≤ l) (st : Store) : Q (l + 2) 10 [.int n, s.d] st = .ok (.bl s.single) st := by
  have e1 := need_ok h l hl st
  have e2 := single_ok s (l + 1) (by have := h.deep; omega) st
  rw [u10]
  exact f_rt rfl (s_seq (s_frz rfl (s_drop (w_fn (w_cons (w_kp (w_var rfl)) (w_cons (w_kp (w_var rfl)) w_nil)) e1))) (s_seqR (s_frz rfl (s_ret (w_kp (w_fn (w_cons (w_kp (w_var rfl)) w_nil) e2))))))
theorem mks_ok (h : Sort' n s) (l : Nat) (hl : 14 ≤ l) (st : Store) : Q (l + 2) 12 [.int n, s.d] st = .ok (.int (mk n s)) st := by
  have e1 := need_ok h l hl st
  have e2 := marks_ok h.two h.five s (l + 1) h.forms h.deep (by have := h.deep; omega) st
  rw [u12]
  exact f_rt rfl (s_seq (s_frz rfl (s_drop (w_fn (w_cons (w_kp (w_var rfl)) (w_cons (w_kp (w_var rfl)) w_nil)) e1))) (s_seqR (s_frz rfl (s_ret (w_kp (w_fn (w_cons (w_kp (w_var rfl)) (w_cons (w_kp (w_var rfl)) w_nil)) e2))))))
theorem wds_ok (h : Sort' n s) (l : Nat) (hl : 14 ≤ l) (st : Store) : Q (l + 2) 14 [.int n, s.d] st = .ok (.int (wd s)) st := by
  have e1 := need_ok h l hl st
  have e2 := width_ok (.int n) s (l + 1) h.forms h.deep (by have := h.deep; omega) st
  rw [u14]
  exact f_rt rfl (s_seq (s_frz rfl (s_drop (w_fn (w_cons (w_kp (w_var rfl)) (w_cons (w_kp (w_var rfl)) w_nil)) e1))) (s_seqR (s_frz rfl (s_ret (w_kp (w_fn (w_cons (w_kp (w_var rfl)) (w_cons (w_kp (w_var rfl)) w_nil)) e2))))))
theorem hm_ok (h : Sort' n s) (l : Nat) (hl : 14 ≤ l) (st : Store) : Q (l + 2) 19 [.int n, s.d] st = .ok (.int (cnt n s)) st := by
  have e1 := need_ok h l hl st
  have e2 := count_ok h.two h.five s (l + 1) h.forms h.fit h.parts (by have := h.deep; omega) st
  rw [u19]
  exact f_rt rfl (s_seq (s_frz rfl (s_drop (w_fn (w_cons (w_kp (w_var rfl)) (w_cons (w_kp (w_var rfl)) w_nil)) e1))) (s_seqR (s_frz rfl (s_ret (w_kp (w_fn (w_cons (w_kp (w_var rfl)) (w_cons (w_kp (w_var rfl)) w_nil)) e2))))))
end M02
set_option Elab.async false -- ev
set_option linter.all false -- ev
set_option maxRecDepth 100000 -- ev
set_option maxHeartbeats 4000000 -- ev
set_option autoImplicit false -- ev
/-! Tuples and rows. -/
namespace M02
open PySem Ev
/-! ### tuples -/
def lea (again : Bool) (r : List Nat) : Nat := match r.getLast? with
  | none => 0
  | some x => x + (if again then 0 else 1)
def ext (limit : Nat) (again : Bool) (r : List Nat) : List (List Nat) := (List.range (limit - lea again r)).map fun i => r ++ [lea again r + i]
def tp (limit : Nat) (again : Bool) : Nat → List (List Nat)
  | 0 => [[]]
  | k + 1 => (tp limit again k).flatMap (ext limit again)
def tN (r : List Nat) : D := .tup (r.map fun (x : Nat) => .int (x : Int))
theorem tN_app (r : List Nat) (x : Nat) : dAdd (tN r) (.tup [.int (x : Int)]) = if r.length + 1 ≤ sizeLine then some (.per (tN (r ++ [x]))) else none := by
  unfold tN dAdd
  simp [per]
theorem s_mutO {ρ : Env'} {st : Store} {i : Nat} {ds : List D} {d : D} {g : Env' → M (List D)} (h0 : ρ[i]? = some (.own ds)) (hg : g ρ st = .ok [d] st) (hl : ds.length < sizeLine) : sMut i lAppend g ρ st = .nx (ρ.set i (.own (ds ++ [d]))) st := by
  unfold sMut
  rw [h0]
  dsimp only
  unfold thenS
  rw [hg]
  dsimp only
  unfold lAppend
  dsimp only
  rw [if_pos hl]
def bItem : SS := (sSeq (sFrz [8] (sMut 5 lAppend (sCons (kp (sBin dAdd (rd (sVar 6)) (rd (sTup (sCons (kp (sVar 8)) sNil))))) sNil))) sSkip)
theorem item_loop (st : Store) (a0 a1 a2 a3 a4 x7 : SV) (r : List Nat) (hr : r.length ≤ 100) (lo : Nat) : ∀ (ks : List Nat) (acc : List D) (y : SV), acc.length + ks.length ≤ 10000000 →
    ∃ y', sForL (gN 8) bItem (ks.map fun (i : Nat) => .int ((lo : Int) + (i : Int))) [a0, a1, a2, a3, a4, .own acc, .val (tN r), x7, y] st = .nx [a0, a1, a2, a3, a4, .own (acc ++ ks.map fun i => tN (r ++ [lo + i])), .val (tN r), x7, y'] st
  | [], acc, y, _ => ⟨y, by simp [sForL]⟩
  | k :: ks, acc, y, hl => by
    have hl : acc.length + (ks.length + 1) ≤ 10000000 := hl
    obtain ⟨y', h⟩ := item_loop st a0 a1 a2 a3 a4 x7 r hr lo ks (acc ++ [tN (r ++ [lo + k])]) (.val (.int ((lo : Int) + (k : Int)))) (by simp; omega)
    have e1 := tN_app r (lo + k)
    have sz : 10000001 ≤ sizeLine := by unfold sizeLine; decide
    rw [if_pos (by omega)] at e1
    have e2 : ((lo + k : Nat) : Int) = (lo : Int) + (k : Int) := by omega
    rw [e2] at e1
    have e3 : sMut 5 lAppend (sCons (kp (sBin dAdd (rd (sVar 6)) (rd (sTup (sCons (kp (sVar 8)) sNil))))) sNil) [a0, a1, a2, a3, a4, .own acc, .val (tN r), x7, .val (.int ((lo : Int) + (k : Int)))] st = .nx [a0, a1, a2, a3, a4, .own (acc ++ [tN (r ++ [lo + k])]), .val (tN r), x7, .val (.int ((lo : Int) + (k : Int)))] st := by
      have g : (sCons (kp (sBin dAdd (rd (sVar 6)) (rd (sTup (sCons (kp (sVar 8)) sNil))))) sNil) [a0, a1, a2, a3, a4, .own acc, .val (tN r), x7, .val (.int ((lo : Int) + (k : Int)))] st = .ok [tN (r ++ [lo + k])] st :=
        w_cons (w_kp (w_bin (w_rd (w_var rfl)) (w_rd (w_tup (w_cons (w_kp (w_var rfl)) w_nil) (by have := size_ge; simp; omega))) e1)) w_nil
      exact s_mutO rfl g (by omega)
    refine ⟨y', l_nx rfl (s_seq (s_frz rfl e3) s_skip) (h.trans ?_)⟩
    simp
def bOne : SS := (sSeq (sSet 7 (sIf (sBoolT (sBin dEq (rd (sVar 6)) (rd (sTup sNil)))) (sC (.int 0)) (sBin dAdd (rd (sBinS ixSt (rd (sVar 6)) (rd (sUn dNeg (rd (sC (.int 1))))))) (rd (sIf (sTru (sVar 2)) (sC (.int 0)) (sC (.int 1))))))) (sSeq (sFor (itR2 (sCons (kp (sVar 7)) (sCons (kp (sVar 0)) sNil))) (gN 8) bItem) sSkip))
theorem eqv_tup (a b : List D) : D.eqv (.tup a) (.tup b) = D.eqvs a b := by unfold D.eqv; rfl
theorem tN_nil (r : List Nat) : dEq (tN r) (.tup []) = some (.per (.bl r.isEmpty)) := by
  unfold tN dEq
  dsimp only
  have e : D.pl 60 (.tup (r.map fun (x : Nat) => .int (x : Int))) = true := by
    have := pls_ints 59 (r.map fun (x : Nat) => (x : Int))
    rw [List.map_map] at this
    exact this
  rw [if_pos ⟨e, rfl⟩]
  cases r with
  | nil => simp [D.eqv, D.eqvs, yes]
  | cons a r => simp [D.eqv, D.eqvs, yes]
theorem tN_last (r : List Nat) (x : Nat) (st : Store) : ixSt st (tN (r ++ [x])) (.int (-1)) = some (.per (.int (x : Int))) := by
  show dIx (tN (r ++ [x])) (.int (-1)) = _
  unfold tN dIx
  dsimp only
  unfold L2.atI
  have e1 : L2.ixN ((r ++ [x]).map fun (x : Nat) => D.int (x : Int)).length (-1) = some r.length := by
    unfold L2.ixN
    rw [if_neg (by decide), if_pos (by simp; omega)]
    simp
    omega
  rw [e1]
  simp
theorem tp_mem {limit : Nat} {again : Bool} : ∀ {k : Nat} {r : List Nat}, r ∈ tp limit again k → r.length = k ∧ ∀ x ∈ r, x < limit
  | 0, r, h => by
    have : r = [] := by simpa [tp] using h
    subst this
    exact ⟨rfl, by simp⟩
  | k + 1, r, h => by
    simp only [tp, List.mem_flatMap] at h
    obtain ⟨q, hq, hr⟩ := h
    simp only [ext, List.mem_map, List.mem_range] at hr
    obtain ⟨i, hi, rfl⟩ := hr
    have ih := tp_mem hq
    refine ⟨by simp [ih.1], fun x hx => ?_⟩
    rcases List.mem_append.1 hx with hx | hx
    · exact ih.2 x hx
    · have : x = lea again q + i := by simpa using hx
      omega
theorem ext_len (limit : Nat) (again : Bool) (r : List Nat) : (ext limit again r).length ≤ limit := by simp [ext] <;> omega
theorem tp_len (limit : Nat) (again : Bool) : ∀ k, (tp limit again k).length ≤ limit ^ k
  | 0 => by simp [tp]
  | k + 1 => by
    have ih := tp_len limit again k
    have h : ∀ L : List (List Nat), (L.flatMap (ext limit again)).length ≤ L.length * limit := by
      intro L
      induction L with
      | nil => simp
      | cons a L ih =>
        have := ext_len limit again a
        rw [List.flatMap_cons, List.length_append, List.length_cons, Nat.succ_mul]
        omega
    rw [Nat.pow_succ]
    exact Nat.le_trans (h _) (Nat.mul_le_mul_right _ ih)
theorem least_ok (st : Store) {again : Bool} {r : List Nat} {ρ : Env'} (h6 : ρ[6]? = some (.val (tN r))) (h2 : ρ[2]? = some (.val (.bl again))) :
    sIf (sBoolT (sBin dEq (rd (sVar 6)) (rd (sTup sNil)))) (sC (.int 0)) (sBin dAdd (rd (sBinS ixSt (rd (sVar 6)) (rd (sUn dNeg (rd (sC (.int 1))))))) (rd (sIf (sTru (sVar 2)) (sC (.int 0)) (sC (.int 1))))) ρ st = .ok (.per (.int ((lea again r : Nat) : Int))) st := by
  have v6 : sVar 6 ρ st = .ok (.per (tN r)) st := w_var (by rw [h6])
  have v2 : sVar 2 ρ st = .ok (.per (.bl again)) st := w_var (by rw [h2])
  have dn : ∀ s, deref s (tN r) = tN r := fun _ => rfl
  have e := tN_nil r
  rcases List.eq_nil_or_concat r with rfl | ⟨q, x, rfl⟩
  · exact w_ifT (t_bool (w_bin (w_rd v6) (w_rd (w_tup w_nil (Nat.zero_le _))) e)) w_c
  · rw [List.concat_eq_append] at *
    have e0 : (q ++ [x]).isEmpty = false := by cases q <;> rfl
    rw [e0] at e
    have el := tN_last q x st
    have ev : lea again (q ++ [x]) = x + (if again then 0 else 1) := by simp [lea]
    rw [ev]
    refine w_ifF (t_bool (w_bin (w_rd v6) (w_rd (w_tup w_nil (Nat.zero_le _))) e)) ?_
    cases again with
    | true => exact w_bin (w_rd (w_binS (w_rd v6) (w_rd (w_un (w_rd w_c) rfl)) el)) (w_rd (w_ifT (t_tru v2 rfl) w_c)) rfl
    | false => exact w_bin (w_rd (w_binS (w_rd v6) (w_rd (w_un (w_rd w_c) rfl)) el)) (w_rd (w_ifF (t_tru v2 rfl) w_c)) rfl
theorem one_loop (st : Store) (limit : Nat) (again : Bool) (hl : limit ≤ 1000) (a1 a3 a4 : SV) (B : Nat) (hB : B ≤ 10000000) : ∀ (rs : List (List Nat)) (acc : List D) (x6 x7 x8 : SV), (∀ r ∈ rs, r.length ≤ 100 ∧ ∀ x ∈ r, x < limit) → acc.length + limit * rs.length ≤ B →
    ∃ y6 y7 y8, sForL (gN 6) bOne (rs.map tN) [.val (.int (limit : Int)), a1, .val (.bl again), a3, a4, .own acc, x6, x7, x8] st = .nx [.val (.int (limit : Int)), a1, .val (.bl again), a3, a4, .own (acc ++ (rs.flatMap (ext limit again)).map tN), y6, y7, y8] st
  | [], acc, x6, x7, x8, _, _ => ⟨x6, x7, x8, by simp [sForL]⟩
  | r :: rs, acc, x6, x7, x8, h, hb => by
    have hr := h r (by simp)
    rw [List.length_cons, Nat.mul_succ] at hb
    have hel := ext_len limit again r
    have le : lea again r ≤ 1001 := by
      unfold lea
      split
      · omega
      · rename_i x hx
        have := hr.2 x (List.mem_of_getLast? hx)
        split <;> omega
    have rl : (List.range (limit - lea again r)).length ≤ limit := by simp
    obtain ⟨y8, li⟩ := item_loop st (.val (.int (limit : Int))) a1 (.val (.bl again)) a3 a4 (.val (.int ((lea again r : Nat) : Int))) r hr.1 (lea again r) (List.range (limit - lea again r)) acc x8 (by omega)
    have li2 : sForL (gN 8) bItem (rngD ((lea again r : Nat) : Int) ((limit : Int) - ((lea again r : Nat) : Int)).toNat) [.val (.int (limit : Int)), a1, .val (.bl again), a3, a4, .own acc, .val (tN r), .val (.int ((lea again r : Nat) : Int)), x8] st = .nx [.val (.int (limit : Int)), a1, .val (.bl again), a3, a4, .own (acc ++ (ext limit again r).map tN), .val (tN r), .val (.int ((lea again r : Nat) : Int)), y8] st := by
      have e : ((limit : Int) - ((lea again r : Nat) : Int)).toNat = limit - lea again r := by omega
      rw [e]
      refine li.trans ?_
      unfold ext
      rw [List.map_map]
      rfl
    obtain ⟨y6, y7, y8', h3⟩ := one_loop st limit again hl a1 a3 a4 B hB rs (acc ++ (ext limit again r).map tN) (.val (tN r)) (.val (.int ((lea again r : Nat) : Int))) y8 (fun q hq => h q (List.mem_cons_of_mem _ hq)) (by simp; omega)
    refine ⟨y6, y7, y8', l_nx rfl (s_seq (s_set (s := .val (.int ((lea again r : Nat) : Int))) (least_ok st rfl rfl) rfl rfl) (s_seq (s_for (i_r2 (w_cons (w_kp (w_var rfl)) (w_cons (w_kp (w_var rfl)) w_nil)) (bnd_lt (by omega) (by omega)) (bnd_lt (by omega) (by omega))) li2) s_skip)) (h3.trans ?_)⟩
    rw [List.flatMap_cons, List.map_append, List.append_assoc]
def bTup : SS := (sSeq (sSet 5 (sLst sNil)) (sSeq (sFrz [3] (sFor (itS (kp (sVar 3))) (gN 6) bOne)) (sSeq (sSet 3 (sCall dList (sCons (rd (sVar 5)) sNil))) sSkip)))
theorem tup_loop (st : Store) (limit : Nat) (again : Bool) (hl : limit ≤ 1000) (a1 : SV) (N : Nat) (hN : N ≤ 100) (hB : ∀ k, k < N → limit * (tp limit again k).length ≤ 10000000) : ∀ (ks : List D) (k : Nat) (x4 x5 x6 x7 x8 : SV), k + ks.length ≤ N →
    ∃ y4 y5 y6 y7 y8, sForL (gN 4) bTup ks [.val (.int (limit : Int)), a1, .val (.bl again), .own ((tp limit again k).map tN), x4, x5, x6, x7, x8] st = .nx [.val (.int (limit : Int)), a1, .val (.bl again), .own ((tp limit again (k + ks.length)).map tN), y4, y5, y6, y7, y8] st
  | [], k, x4, x5, x6, x7, x8, _ => ⟨x4, x5, x6, x7, x8, rfl⟩
  | d :: ks, k, x4, x5, x6, x7, x8, h => by
    have h : k + (ks.length + 1) ≤ N := h
    obtain ⟨y6, y7, y8, lo⟩ := one_loop st limit again hl a1 (.val (.lst ((tp limit again k).map tN))) (.val d) 10000000 (by omega) (tp limit again k) [] x6 x7 x8 (fun r hr => ⟨by rw [(tp_mem hr).1]; omega, (tp_mem hr).2⟩) (by have := hB k (by omega); simpa using this)
    obtain ⟨z4, z5, z6, z7, z8, h3⟩ := tup_loop st limit again hl a1 N hN hB ks (k + 1) (.val d) (.own ((tp limit again (k + 1)).map tN)) y6 y7 y8 (by omega)
    refine ⟨z4, z5, z6, z7, z8, l_nx rfl (s_seq (s_set (s := .own []) (w_lst w_nil (Nat.zero_le _)) rfl rfl) (s_seq (s_frz (ρ' := [.val (.int (limit : Int)), a1, .val (.bl again), .val (.lst ((tp limit again k).map tN)), .val d, .own [], x6, x7, x8]) rfl (s_for (i_lst (w_kp (w_var rfl))) lo)) (s_seq (s_set (s := .own ((tp limit again (k + 1)).map tN)) (w_call (w_cons (w_rd (w_var rfl)) w_nil) rfl) rfl rfl) s_skip))) (h3.trans ?_)⟩
    rw [List.length_cons, show k + 1 + ks.length = k + (ks.length + 1) by omega]
theorem tuples_ok (l : Nat) (limit k : Nat) (again : Bool) (hl : limit ≤ 1000) (hk : k ≤ 100) (hB : ∀ j, j < k → limit * (tp limit again j).length ≤ 10000000) (st : Store) : Q (l + 1) 24 [.int (limit : Int), .int (k : Int), .bl again] st = .ok (.lst ((tp limit again k).map tN)) st := by
  rw [u24]
  obtain ⟨y4, y5, y6, y7, y8, h⟩ := tup_loop st limit again hl (.val (.int (k : Int))) k hk hB (rngD 0 (k : Int).toNat) 0 .un .un .un .un .un (by rw [rng_len]; simp)
  rw [rng_len, Int.toNat_natCast, Nat.zero_add] at h
  have h2 : sForL (gN 4) bTup (rngD 0 (k : Int).toNat) [.val (.int (limit : Int)), .val (.int (k : Int)), .val (.bl again), .own ((tp limit again 0).map tN), .un, .un, .un, .un, .un] st = .nx [.val (.int (limit : Int)), .val (.int (k : Int)), .val (.bl again), .own ((tp limit again k).map tN), y4, y5, y6, y7, y8] st := by
    rw [Int.toNat_natCast]
    exact h
  exact f_rt rfl (s_seq (s_set (s := .own ((tp limit again 0).map tN)) (w_lst (w_cons (w_kp (w_tup w_nil (Nat.zero_le _))) w_nil) (by have := size_ge; simp; omega)) rfl rfl) (s_seq (s_for (i_r1 (w_cons (w_kp (w_var rfl)) w_nil) (bnd_lt (by omega) (by omega))) h2) (s_seqR (s_frz rfl (s_ret (w_kp (w_var rfl)))))))
end M02
set_option Elab.async false -- ev
set_option linter.all false -- ev
set_option maxRecDepth 100000 -- ev
set_option maxHeartbeats 4000000 -- ev
set_option autoImplicit false -- ev
/-! Rows, and the members listed. -/
namespace M02
open PySem Ev
/-! ### rows -/
def rwD (some : List D) : Nat → List (List D)
  | 0 => [[]]
  | k + 1 => (rwD some k).flatMap fun r => some.map fun d => r ++ [d]
theorem rwD_mem {some : List D} : ∀ {k : Nat} {r : List D}, r ∈ rwD some k → r.length = k
  | 0, r, h => by
    have : r = [] := by simpa [rwD] using h
    subst this
    rfl
  | k + 1, r, h => by
    simp only [rwD, List.mem_flatMap, List.mem_map] at h
    obtain ⟨q, hq, d, _, rfl⟩ := h
    simp [rwD_mem hq]
theorem flat_len {α β γ : Type} (some : List β) (f : α → β → γ) : ∀ L : List α, (L.flatMap fun r => some.map (f r)).length = L.length * some.length
  | [] => by simp
  | a :: L => by rw [List.flatMap_cons, List.length_append, flat_len some f L, List.length_map, List.length_cons, Nat.succ_mul, Nat.add_comm]
theorem rwD_len (some : List D) : ∀ k, (rwD some k).length = some.length ^ k
  | 0 => rfl
  | k + 1 => by
    simp only [rwD]
    rw [flat_len, rwD_len some k, Nat.pow_succ]
def bIt : SS := (sSeq (sFrz [6] (sMut 4 lAppend (sCons (kp (sBin dAdd (rd (sVar 5)) (rd (sTup (sCons (kp (sVar 6)) sNil))))) sNil))) sSkip)
theorem it_loop (st : Store) (a0 a1 a2 a3 : SV) (r : List D) (hr : r.length ≤ 100) : ∀ (ks : List D) (acc : List D) (y : SV), acc.length + ks.length ≤ 10000000 →
    ∃ y', sForL (gN 6) bIt ks [a0, a1, a2, a3, .own acc, .val (.tup r), y] st = .nx [a0, a1, a2, a3, .own (acc ++ ks.map fun d => .tup (r ++ [d])), .val (.tup r), y'] st
  | [], acc, y, _ => ⟨y, by simp [sForL]⟩
  | k :: ks, acc, y, hl => by
    have hl : acc.length + (ks.length + 1) ≤ 10000000 := hl
    obtain ⟨y', h⟩ := it_loop st a0 a1 a2 a3 r hr ks (acc ++ [.tup (r ++ [k])]) (.val k) (by simp; omega)
    have sz : 10000001 ≤ sizeLine := by unfold sizeLine; decide
    have e1 := tupAdd (ps := r) (qs := [k]) (by simp; omega)
    have e3 : sMut 4 lAppend (sCons (kp (sBin dAdd (rd (sVar 5)) (rd (sTup (sCons (kp (sVar 6)) sNil))))) sNil) [a0, a1, a2, a3, .own acc, .val (.tup r), .val k] st = .nx [a0, a1, a2, a3, .own (acc ++ [.tup (r ++ [k])]), .val (.tup r), .val k] st :=
      s_mutO rfl (w_cons (w_kp (w_bin (w_rd (w_var rfl)) (w_rd (w_tup (w_cons (w_kp (w_var rfl)) w_nil) (by have := size_ge; simp; omega))) e1)) w_nil) (by omega)
    refine ⟨y', l_nx rfl (s_seq (s_frz rfl e3) s_skip) (h.trans ?_)⟩
    simp
def bRw : SS := (sSeq (sFrz [0] (sFor (itS (kp (sVar 0))) (gN 6) bIt)) sSkip)
theorem rw_loop (st : Store) (some : List D) (a1 a2 a3 : SV) : ∀ (rs : List (List D)) (acc : List D) (x5 x6 : SV), (∀ r ∈ rs, r.length ≤ 100) → acc.length + rs.length * some.length ≤ 10000000 →
    ∃ y5 y6, sForL (gN 5) bRw (rs.map .tup) [.val (.lst some), a1, a2, a3, .own acc, x5, x6] st = .nx [.val (.lst some), a1, a2, a3, .own (acc ++ (rs.flatMap fun r => some.map fun d => r ++ [d]).map .tup), y5, y6] st
  | [], acc, x5, x6, _, _ => ⟨x5, x6, by simp [sForL]⟩
  | r :: rs, acc, x5, x6, h, hb => by
    rw [List.length_cons, Nat.succ_mul] at hb
    obtain ⟨y6, li⟩ := it_loop st (.val (.lst some)) a1 a2 a3 r (h r (by simp)) some acc x6 (by omega)
    obtain ⟨y5, y6', h3⟩ := rw_loop st some a1 a2 a3 rs (acc ++ some.map fun d => .tup (r ++ [d])) (.val (.tup r)) y6 (fun q hq => h q (List.mem_cons_of_mem _ hq)) (by simp; omega)
    refine ⟨y5, y6', l_nx rfl (s_seq (s_frz rfl (s_for (i_lst (w_kp (w_var rfl))) li)) s_skip) (h3.trans ?_)⟩
    rw [List.flatMap_cons, List.map_append, List.append_assoc, List.map_map]
    rfl
def bRows : SS := (sSeq (sSet 4 (sLst sNil)) (sSeq (sFrz [2] (sFor (itS (kp (sVar 2))) (gN 5) bRw)) (sSeq (sSet 2 (sCall dList (sCons (rd (sVar 4)) sNil))) sSkip)))
theorem rows_loop (st : Store) (some : List D) (a1 : SV) (N : Nat) (hN : N ≤ 100) (hB : ∀ k, k < N → (rwD some k).length * some.length ≤ 10000000) : ∀ (ks : List D) (k : Nat) (x3 x4 x5 x6 : SV), k + ks.length ≤ N →
    ∃ y3 y4 y5 y6, sForL (gN 3) bRows ks [.val (.lst some), a1, .own ((rwD some k).map .tup), x3, x4, x5, x6] st = .nx [.val (.lst some), a1, .own ((rwD some (k + ks.length)).map .tup), y3, y4, y5, y6] st
  | [], k, x3, x4, x5, x6, _ => ⟨x3, x4, x5, x6, rfl⟩
  | d :: ks, k, x3, x4, x5, x6, h => by
    have h : k + (ks.length + 1) ≤ N := h
    obtain ⟨y5, y6, lo⟩ := rw_loop st some a1 (.val (.lst ((rwD some k).map .tup))) (.val d) (rwD some k) [] x5 x6 (fun r hr => by rw [rwD_mem hr]; omega) (by have := hB k (by omega); simpa using this)
    obtain ⟨z3, z4, z5, z6, h3⟩ := rows_loop st some a1 N hN hB ks (k + 1) (.val d) (.own ((rwD some (k + 1)).map .tup)) y5 y6 (by omega)
    refine ⟨z3, z4, z5, z6, l_nx rfl (s_seq (s_set (s := .own []) (w_lst w_nil (Nat.zero_le _)) rfl rfl) (s_seq (s_frz (ρ' := [.val (.lst some), a1, .val (.lst ((rwD some k).map .tup)), .val d, .own [], x5, x6]) rfl (s_for (i_lst (w_kp (w_var rfl))) lo)) (s_seq (s_set (s := .own ((rwD some (k + 1)).map .tup)) (w_call (w_cons (w_rd (w_var rfl)) w_nil) rfl) rfl rfl) s_skip))) (h3.trans ?_)⟩
    rw [List.length_cons, show k + 1 + ks.length = k + (ks.length + 1) by omega]
theorem rows_ok (l : Nat) (some : List D) (k : Nat) (hk : k ≤ 100) (hB : ∀ j, j < k → (rwD some j).length * some.length ≤ 10000000) (st : Store) : Q (l + 1) 25 [.lst some, .int (k : Int)] st = .ok (.lst ((rwD some k).map .tup)) st := by
  rw [u25]
  obtain ⟨y3, y4, y5, y6, h⟩ := rows_loop st some (.val (.int (k : Int))) k hk hB (rngD 0 (k : Int).toNat) 0 .un .un .un .un (by rw [rng_len]; simp)
  rw [rng_len, Int.toNat_natCast, Nat.zero_add] at h
  have h2 : sForL (gN 3) bRows (rngD 0 (k : Int).toNat) [.val (.lst some), .val (.int (k : Int)), .own ((rwD some 0).map .tup), .un, .un, .un, .un] st = .nx [.val (.lst some), .val (.int (k : Int)), .own ((rwD some k).map .tup), y3, y4, y5, y6] st := by
    rw [Int.toNat_natCast]
    exact h
  exact f_rt rfl (s_seq (s_set (s := .own ((rwD some 0).map .tup)) (w_lst (w_cons (w_kp (w_tup w_nil (Nat.zero_le _))) w_nil) (by have := size_ge; simp; omega)) rfl rfl) (s_seq (s_for (i_r1 (w_cons (w_kp (w_var rfl)) w_nil) (bnd_lt (by omega) (by omega))) h2) (s_seqR (s_frz rfl (s_ret (w_kp (w_var rfl)))))))
/-! ### what is small -/
def sm : S → Prop
  | .c0 _ => True
  | .c1 _ k => k ≤ 5
  | .c2 _ k a => k ≤ 3 ∧ sm a
  | .c3 _ a b => sm a ∧ sm b
def fitb (n : Int) : S → Bool
  | .c0 w => decide (cnt n (.c0 w) ≤ 60)
  | .c1 w k => decide (cnt n (.c1 w k) ≤ 60)
  | .c2 w k a => decide (cnt n (.c2 w k a) ≤ 60) && fitb n a
  | .c3 w a b => decide (cnt n (.c3 w a b) ≤ 60) && (fitb n a && fitb n b)
theorem fitb_le {n : Int} : ∀ {s : S}, fitb n s = true → cnt n s ≤ 60
  | .c0 _, h => by simpa [fitb] using h
  | .c1 _ _, h => by simpa [fitb] using h
  | .c2 _ _ _, h => by
    simp only [fitb, Bool.and_eq_true, decide_eq_true_eq] at h
    exact h.1
  | .c3 _ _ _, h => by
    simp only [fitb, Bool.and_eq_true, decide_eq_true_eq] at h
    exact h.1
def tpChk : Bool := (List.range 61).all fun x => (List.range 6).all fun k =>
  (decide (60 < PySem.W.mcComb (x : Int) (k : Int)) || (((tp x false k).length : Int) == PySem.W.mcComb (x : Int) (k : Int))) && (decide (60 < hp (x : Int) k) || (((tp x true k).length : Int) == hp (x : Int) k))
theorem tpChk_ok : tpChk = true := by decide +kernel
theorem tpChk_at {x k : Nat} (hx : x ≤ 60) (hk : k ≤ 5) : (PySem.W.mcComb (x : Int) (k : Int) ≤ 60 → ((tp x false k).length : Int) = PySem.W.mcComb (x : Int) (k : Int)) ∧ (hp (x : Int) k ≤ 60 → ((tp x true k).length : Int) = hp (x : Int) k) := by
  have h := tpChk_ok
  unfold tpChk at h
  rw [List.all_eq_true] at h
  have h2 := h x (List.mem_range.2 (by omega))
  rw [List.all_eq_true] at h2
  have h3 := h2 k (List.mem_range.2 (by omega))
  simp only [Bool.and_eq_true, Bool.or_eq_true, decide_eq_true_eq, beq_iff_eq] at h3
  refine ⟨fun h4 => ?_, fun h4 => ?_⟩
  · rcases h3.1 with h5 | h5
    · omega
    · exact h5
  · rcases h3.2 with h5 | h5
    · omega
    · exact h5
theorem tp_B {x k j : Nat} {again : Bool} (hx : x ≤ 60) (hk : k ≤ 3) (hj : j < k) : x * (tp x again j).length ≤ 10000000 := by
  refine Nat.le_trans (Nat.mul_le_mul hx (Nat.le_trans (tp_len x again j) (Nat.pow_le_pow_left hx j))) ?_
  have : j = 0 ∨ j = 1 ∨ j = 2 := by omega
  rcases this with rfl | rfl | rfl <;> decide
theorem tp_B4 {x k j : Nat} {again : Bool} (hx : x ≤ 4) (hk : k ≤ 5) (hj : j < k) : x * (tp x again j).length ≤ 10000000 := by
  refine Nat.le_trans (Nat.mul_le_mul hx (Nat.le_trans (tp_len x again j) (Nat.pow_le_pow_left hx j))) ?_
  have : j = 0 ∨ j = 1 ∨ j = 2 ∨ j = 3 ∨ j = 4 := by omega
  rcases this with rfl | rfl | rfl | rfl | rfl <;> decide
theorem rw_B {some : List D} {k j : Nat} (hx : some.length ≤ 60) (hk : k ≤ 3) (hj : j < k) : (rwD some j).length * some.length ≤ 10000000 := by
  rw [rwD_len]
  refine Nat.le_trans (Nat.mul_le_mul (Nat.pow_le_pow_left hx j) hx) ?_
  have : j = 0 ∨ j = 1 ∨ j = 2 := by omega
  rcases this with rfl | rfl | rfl <;> decide
/-! ### the members listed -/
def lf0 (n : Nat) (w : W0) : List D := match Q 6 29 [.int (n : Int), .tup [w.s]] [] with
  | .ok (.lst ds) _ => ds
  | _ => []
def lfr (n k : Nat) : List D := match Q 6 29 [.int (n : Int), .tup [W1.rounds.s, .int (k : Int)]] [] with
  | .ok (.lst ds) _ => ds
  | _ => []
theorem li02 (w : W0) (l : Nat) (st : Store) : Q (l + 5) 29 [.int ((2 : Nat) : Int), .tup [w.s]] st = .ok (.lst (lf0 2 w)) st := by cases w <;> kernel_rfl
theorem li03 (w : W0) (l : Nat) (st : Store) : Q (l + 5) 29 [.int ((3 : Nat) : Int), .tup [w.s]] st = .ok (.lst (lf0 3 w)) st := by cases w <;> kernel_rfl
theorem li04 (w : W0) (l : Nat) (st : Store) : Q (l + 5) 29 [.int ((4 : Nat) : Int), .tup [w.s]] st = .ok (.lst (lf0 4 w)) st := by cases w <;> kernel_rfl
theorem lir21 (l : Nat) (st : Store) : Q (l + 5) 29 [.int ((2 : Nat) : Int), .tup [W1.rounds.s, .int ((1 : Nat) : Int)]] st = .ok (.lst (lfr 2 1)) st := by kernel_rfl
theorem lir22 (l : Nat) (st : Store) : Q (l + 5) 29 [.int ((2 : Nat) : Int), .tup [W1.rounds.s, .int ((2 : Nat) : Int)]] st = .ok (.lst (lfr 2 2)) st := by kernel_rfl
theorem lir31 (l : Nat) (st : Store) : Q (l + 5) 29 [.int ((3 : Nat) : Int), .tup [W1.rounds.s, .int ((1 : Nat) : Int)]] st = .ok (.lst (lfr 3 1)) st := by kernel_rfl
def lfChk : Bool := ([2, 3, 4].all fun n => [W0.none, W0.one, W0.trees, W0.rooted].all fun w => ((lf0 n w).length : Int) == cnt (n : Int) (.c0 w)) && ((lfr 2 1).length == 2) && ((lfr 2 2).length == 4) && ((lfr 3 1).length == 8)
theorem lfChk_ok : lfChk = true := by decide +kernel
end M02
set_option Elab.async false -- ev
set_option linter.all false -- ev
set_option maxRecDepth 100000 -- ev
set_option maxHeartbeats 4000000 -- ev
set_option autoImplicit false -- ev
/-! The members listed; what fits. -/
namespace M02
open PySem Ev
theorem lf0_len {n : Nat} (hn : n ∈ [2, 3, 4]) (w : W0) : ((lf0 n w).length : Int) = cnt (n : Int) (.c0 w) := by
  have h := lfChk_ok
  unfold lfChk at h
  simp only [Bool.and_eq_true, List.all_eq_true] at h
  have h2 := h.1.1.1 n hn w (by cases w <;> simp)
  simpa using h2
theorem list1s {n k : Nat} (hk : k ≤ 5) (hn : n ≤ 4) (l : Nat) (st : Store) : Q (l + 2) 29 [.int (n : Int), .tup [W1.subset.s, .int (k : Int)]] st = .ok (.lst ((tp n false k).map tN)) st := by
  have e := tuples_ok l n k false (by omega) (by omega) (fun j hj => tp_B4 hn hk hj) st
  rw [u29]
  refine f_rt rfl ?_
  unfold L29
  simp only [W1.s]
  repeat' (first | with_reducible exact w_c | with_reducible exact w_nil | with_reducible exact s_skip | with_reducible exact t_yes | with_reducible exact w_pn | with_reducible exact m_pure | with_reducible exact n_rt | with_reducible exact n_exc | with_reducible exact n_bk | with_reducible exact n_ct | with_reducible exact nT | with_reducible exact nF | with_reducible exact l_nil | ((with_reducible apply l_nx); exact rfl) | ((with_reducible apply w_var); exact rfl) | with_reducible apply w_rd | with_reducible apply w_kpl | with_reducible apply a_kpc | with_reducible apply w_kp | with_reducible apply w_cons | with_reducible apply w_bin | with_reducible apply w_binS | with_reducible apply w_call | with_reducible apply w_un | with_reducible apply w_fn | with_reducible apply w_fnD | with_reducible apply w_fnK | with_reducible apply w_tup | with_reducible apply w_lst | with_reducible apply w_ps | with_reducible apply w_slice | with_reducible apply t_bool | with_reducible apply t_tru | with_reducible apply a_not | with_reducible apply a_notV | with_reducible apply a_and | with_reducible apply a_or | with_reducible apply a_andV | with_reducible apply a_orV | with_reducible apply a_ifM | with_reducible apply a_it | with_reducible apply a_r1 | with_reducible apply a_r2 | with_reducible apply w_lc | with_reducible apply a_seq | with_reducible apply n_nx | with_reducible apply a_frz | with_reducible apply a_if | with_reducible apply a_set | with_reducible apply s_ret | with_reducible apply s_drop | with_reducible apply s_for | with_reducible apply a_par | with_reducible apply a_par3 | with_reducible apply a_asg | ((with_reducible apply c_T); exact rfl) | ((with_reducible apply c_F); exact rfl) | ((with_reducible apply c_TM); exact rfl) | ((with_reducible apply c_FM); exact rfl) | ((try dsimp only [RV.d, deref, List.map]); with_reducible assumption) | ((with_reducible apply eqsF); exact rfl; exact rfl; decide +kernel) | ((with_reducible apply eqsT); exact rfl; exact rfl; decide +kernel) | ((with_reducible apply inT); exact rfl; exact rfl; decide +kernel) | ((with_reducible apply inF); exact rfl; exact rfl; decide +kernel) | ((with_reducible apply ninT); exact rfl; exact rfl; decide +kernel) | ((with_reducible apply ninF); exact rfl; exact rfl; decide +kernel) | exact @rfl (Option RV) _ | exact @rfl (Option SV) _ | exact @rfl (Option D) _ | exact @rfl (Option (List D)) _ | exact @rfl (Option Bool) _ | exact @rfl (Option Env') _ | assumption | exact Nat.le_of_ble_eq_true rfl | exact s_skip | exact l_nil)
theorem list1b {n k : Nat} (hk : k ≤ 5) (hn : n ≤ 4) (l : Nat) (st : Store) : Q (l + 2) 29 [.int (n : Int), .tup [W1.bag.s, .int (k : Int)]] st = .ok (.lst ((tp n true k).map tN)) st := by
  have e := tuples_ok l n k true (by omega) (by omega) (fun j hj => tp_B4 hn hk hj) st
  rw [u29]
  refine f_rt rfl ?_
  unfold L29
  simp only [W1.s]
  repeat' (first | with_reducible exact w_c | with_reducible exact w_nil | with_reducible exact s_skip | with_reducible exact t_yes | with_reducible exact w_pn | with_reducible exact m_pure | with_reducible exact n_rt | with_reducible exact n_exc | with_reducible exact n_bk | with_reducible exact n_ct | with_reducible exact nT | with_reducible exact nF | with_reducible exact l_nil | ((with_reducible apply l_nx); exact rfl) | ((with_reducible apply w_var); exact rfl) | with_reducible apply w_rd | with_reducible apply w_kpl | with_reducible apply a_kpc | with_reducible apply w_kp | with_reducible apply w_cons | with_reducible apply w_bin | with_reducible apply w_binS | with_reducible apply w_call | with_reducible apply w_un | with_reducible apply w_fn | with_reducible apply w_fnD | with_reducible apply w_fnK | with_reducible apply w_tup | with_reducible apply w_lst | with_reducible apply w_ps | with_reducible apply w_slice | with_reducible apply t_bool | with_reducible apply t_tru | with_reducible apply a_not | with_reducible apply a_notV | with_reducible apply a_and | with_reducible apply a_or | with_reducible apply a_andV | with_reducible apply a_orV | with_reducible apply a_ifM | with_reducible apply a_it | with_reducible apply a_r1 | with_reducible apply a_r2 | with_reducible apply w_lc | with_reducible apply a_seq | with_reducible apply n_nx | with_reducible apply a_frz | with_reducible apply a_if | with_reducible apply a_set | with_reducible apply s_ret | with_reducible apply s_drop | with_reducible apply s_for | with_reducible apply a_par | with_reducible apply a_par3 | with_reducible apply a_asg | ((with_reducible apply c_T); exact rfl) | ((with_reducible apply c_F); exact rfl) | ((with_reducible apply c_TM); exact rfl) | ((with_reducible apply c_FM); exact rfl) | ((try dsimp only [RV.d, deref, List.map]); with_reducible assumption) | ((with_reducible apply eqsF); exact rfl; exact rfl; decide +kernel) | ((with_reducible apply eqsT); exact rfl; exact rfl; decide +kernel) | ((with_reducible apply inT); exact rfl; exact rfl; decide +kernel) | ((with_reducible apply inF); exact rfl; exact rfl; decide +kernel) | ((with_reducible apply ninT); exact rfl; exact rfl; decide +kernel) | ((with_reducible apply ninF); exact rfl; exact rfl; decide +kernel) | exact @rfl (Option RV) _ | exact @rfl (Option SV) _ | exact @rfl (Option D) _ | exact @rfl (Option (List D)) _ | exact @rfl (Option Bool) _ | exact @rfl (Option Env') _ | assumption | exact Nat.le_of_ble_eq_true rfl | exact s_skip | exact l_nil)
theorem list2l {n : D} {k : Nat} {a : D} {L : List D} (hk : k ≤ 3) (hL : L.length ≤ 60) {l : Nat} {st : Store} (ih : Q (l + 1) 29 [n, a] st = .ok (.lst L) st) : Q (l + 2) 29 [n, .tup [W2.list.s, .int (k : Int), a]] st = .ok (.lst ((rwD L k).map .tup)) st := by
  have e := rows_ok l L k (by omega) (fun j hj => rw_B hL hk hj) st
  rw [u29]
  refine f_rt rfl ?_
  unfold L29
  simp only [W2.s]
  repeat' (first | with_reducible exact w_c | with_reducible exact w_nil | with_reducible exact s_skip | with_reducible exact t_yes | with_reducible exact w_pn | with_reducible exact m_pure | with_reducible exact n_rt | with_reducible exact n_exc | with_reducible exact n_bk | with_reducible exact n_ct | with_reducible exact nT | with_reducible exact nF | with_reducible exact l_nil | ((with_reducible apply l_nx); exact rfl) | ((with_reducible apply w_var); exact rfl) | with_reducible apply w_rd | with_reducible apply w_kpl | with_reducible apply a_kpc | with_reducible apply w_kp | with_reducible apply w_cons | with_reducible apply w_bin | with_reducible apply w_binS | with_reducible apply w_call | with_reducible apply w_un | with_reducible apply w_fn | with_reducible apply w_fnD | with_reducible apply w_fnK | with_reducible apply w_tup | with_reducible apply w_lst | with_reducible apply w_ps | with_reducible apply w_slice | with_reducible apply t_bool | with_reducible apply t_tru | with_reducible apply a_not | with_reducible apply a_notV | with_reducible apply a_and | with_reducible apply a_or | with_reducible apply a_andV | with_reducible apply a_orV | with_reducible apply a_ifM | with_reducible apply a_it | with_reducible apply a_r1 | with_reducible apply a_r2 | with_reducible apply w_lc | with_reducible apply a_seq | with_reducible apply n_nx | with_reducible apply a_frz | with_reducible apply a_if | with_reducible apply a_set | with_reducible apply s_ret | with_reducible apply s_drop | with_reducible apply s_for | with_reducible apply a_par | with_reducible apply a_par3 | with_reducible apply a_asg | ((with_reducible apply c_T); exact rfl) | ((with_reducible apply c_F); exact rfl) | ((with_reducible apply c_TM); exact rfl) | ((with_reducible apply c_FM); exact rfl) | ((try dsimp only [RV.d, deref, List.map]); with_reducible assumption) | ((with_reducible apply eqsF); exact rfl; exact rfl; decide +kernel) | ((with_reducible apply eqsT); exact rfl; exact rfl; decide +kernel) | ((with_reducible apply inT); exact rfl; exact rfl; decide +kernel) | ((with_reducible apply inF); exact rfl; exact rfl; decide +kernel) | ((with_reducible apply ninT); exact rfl; exact rfl; decide +kernel) | ((with_reducible apply ninF); exact rfl; exact rfl; decide +kernel) | exact @rfl (Option RV) _ | exact @rfl (Option SV) _ | exact @rfl (Option D) _ | exact @rfl (Option (List D)) _ | exact @rfl (Option Bool) _ | exact @rfl (Option Env') _ | assumption | exact Nat.le_of_ble_eq_true rfl | exact s_skip | exact l_nil)
/-- a tuple of members by a tuple of their numbers -/
def byN (L : List D) : D → D
  | .tup ds => .tup (ds.map fun d => L.getD (val d).toNat .non)
  | d => d
theorem ixL (st : Store) (L : List D) (i : Nat) (h : i < L.length) : ixSt st (.lst L) (.int (i : Int)) = some (.per (L.getD i .non)) := by
  show dIx (.lst L) (.int (i : Int)) = _
  have e1 : L2.ixN L.length (i : Int) = some i := by
    unfold L2.ixN
    rw [if_pos (by omega), if_pos (by omega)] -- ev
    rfl
  unfold dIx
  dsimp only
  unfold L2.atI
  rw [e1]
  simp [h]
theorem fam_lc (st : Store) (L : List D) (T : List (List Nat)) (hT : ∀ r ∈ T, r.length ≤ 100 ∧ ∀ x ∈ r, x < L.length) (hl : T.length ≤ 1000000) (x0 x1 x2 x3 x4 x5 x6 : SV) (X : Env') :
    sLcL (gN 8) sYes (kp (sCall dTuple (sCons (rd (sLc (itS (kp (sVar 8))) (gN 9) sYes (kp (sBinS ixSt (rd (sVar 7)) (rd (sVar 9)))) [9])) sNil))) (x0 :: x1 :: x2 :: x3 :: x4 :: x5 :: x6 :: .val (.lst L) :: .un :: .un :: X) (T.map tN) [] st = .ok ([] ++ (T.map tN).map (byN L)) st := by
  have sz : 1000001 ≤ sizeLine := by unfold sizeLine; decide
  refine lc_map _ _ (fun d hd => ?_) (by simp; omega)
  obtain ⟨r, hr, rfl⟩ := List.mem_map.1 hd
  refine ⟨x0 :: x1 :: x2 :: x3 :: x4 :: x5 :: x6 :: .val (.lst L) :: .val (tN r) :: .un :: X, rfl, rfl, ?_⟩
  have li : sLcL (gN 9) sYes (kp (sBinS ixSt (rd (sVar 7)) (rd (sVar 9)))) (x0 :: x1 :: x2 :: x3 :: x4 :: x5 :: x6 :: .val (.lst L) :: .val (tN r) :: .un :: X) (r.map fun (x : Nat) => .int (x : Int)) [] st = .ok ([] ++ (r.map fun (x : Nat) => D.int (x : Int)).map fun d => L.getD (val d).toNat .non) st := by
    refine lc_map _ _ (fun d hd => ?_) (by have := (hT r hr).1; simp; omega)
    obtain ⟨i, hi, rfl⟩ := List.mem_map.1 hd
    have e := ixL st L i ((hT r hr).2 i hi)
    exact ⟨x0 :: x1 :: x2 :: x3 :: x4 :: x5 :: x6 :: .val (.lst L) :: .val (tN r) :: .val (.int (i : Int)) :: X, rfl, rfl, w_kp (w_binS (w_rd (w_var rfl)) (w_rd (w_var rfl)) e)⟩
  exact w_kp (w_call (w_cons (w_rd (w_lc (i_tup (w_kp (w_var rfl))) li)) w_nil) rfl)
theorem list2f {n : D} {k : Nat} {a : D} {L : List D} (hk : k ≤ 3) (hL : L.length ≤ 60) {l : Nat} {st : Store} (ih : Q (l + 1) 29 [n, a] st = .ok (.lst L) st) : Q (l + 2) 29 [n, .tup [W2.family.s, .int (k : Int), a]] st = .ok (.lst (((tp L.length false k).map tN).map (byN L))) st := by
  have e := tuples_ok l L.length k false (by omega) (by omega) (fun j hj => tp_B hL hk hj) st
  have tl : (tp L.length false k).length ≤ 1000000 := Nat.le_trans (tp_len L.length false k) (Nat.le_trans (Nat.pow_le_pow_left hL k) (by
    have : k = 0 ∨ k = 1 ∨ k = 2 ∨ k = 3 := by omega
    rcases this with rfl | rfl | rfl | rfl <;> decide))
  have lc := fam_lc st L (tp L.length false k) (fun r hr => ⟨by rw [(tp_mem hr).1]; omega, (tp_mem hr).2⟩) tl (.val n) (.val (.tup [.str "family", .int (k : Int), a])) (.val (.str "family")) .un (.own []) .un .un [.un, .un, .un, .un, .un]
  rw [List.nil_append] at lc
  have dl : dLen [.lst L] = some (.per (.int (L.length : Int))) := rfl
  rw [u29]
  refine f_rt rfl ?_
  unfold L29
  simp only [W2.s]
  repeat' (first | with_reducible exact w_c | with_reducible exact w_nil | with_reducible exact s_skip | with_reducible exact t_yes | with_reducible exact w_pn | with_reducible exact m_pure | with_reducible exact n_rt | with_reducible exact n_exc | with_reducible exact n_bk | with_reducible exact n_ct | with_reducible exact nT | with_reducible exact nF | with_reducible exact l_nil | ((with_reducible apply l_nx); exact rfl) | ((with_reducible apply w_var); exact rfl) | with_reducible apply w_rd | with_reducible apply w_kpl | with_reducible apply a_kpc | with_reducible apply w_kp | with_reducible apply w_cons | with_reducible apply w_bin | with_reducible apply w_binS | with_reducible apply w_call | with_reducible apply w_un | with_reducible apply w_fn | with_reducible apply w_fnD | with_reducible apply w_fnK | with_reducible apply w_tup | with_reducible apply w_lst | with_reducible apply w_ps | with_reducible apply w_slice | with_reducible apply t_bool | with_reducible apply t_tru | with_reducible apply a_not | with_reducible apply a_notV | with_reducible apply a_and | with_reducible apply a_or | with_reducible apply a_andV | with_reducible apply a_orV | with_reducible apply a_ifM | with_reducible apply a_it | with_reducible apply a_r1 | with_reducible apply a_r2 | with_reducible apply w_lc | with_reducible apply a_seq | with_reducible apply n_nx | with_reducible apply a_frz | with_reducible apply a_if | with_reducible apply a_set | with_reducible apply s_ret | with_reducible apply s_drop | with_reducible apply s_for | with_reducible apply a_par | with_reducible apply a_par3 | with_reducible apply a_asg | ((with_reducible apply c_T); exact rfl) | ((with_reducible apply c_F); exact rfl) | ((with_reducible apply c_TM); exact rfl) | ((with_reducible apply c_FM); exact rfl) | ((try dsimp only [RV.d, deref, List.map]); with_reducible assumption) | ((with_reducible apply eqsF); exact rfl; exact rfl; decide +kernel) | ((with_reducible apply eqsT); exact rfl; exact rfl; decide +kernel) | ((with_reducible apply inT); exact rfl; exact rfl; decide +kernel) | ((with_reducible apply inF); exact rfl; exact rfl; decide +kernel) | ((with_reducible apply ninT); exact rfl; exact rfl; decide +kernel) | ((with_reducible apply ninF); exact rfl; exact rfl; decide +kernel) | exact @rfl (Option RV) _ | exact @rfl (Option SV) _ | exact @rfl (Option D) _ | exact @rfl (Option (List D)) _ | exact @rfl (Option Bool) _ | exact @rfl (Option Env') _ | assumption | exact Nat.le_of_ble_eq_true rfl | exact s_skip | exact l_nil)
theorem list2h {n : D} {k : Nat} {a : D} {L : List D} (hk : k ≤ 3) (hL : L.length ≤ 60) {l : Nat} {st : Store} (ih : Q (l + 1) 29 [n, a] st = .ok (.lst L) st) : Q (l + 2) 29 [n, .tup [W2.heap.s, .int (k : Int), a]] st = .ok (.lst (((tp L.length true k).map tN).map (byN L))) st := by
  have e := tuples_ok l L.length k true (by omega) (by omega) (fun j hj => tp_B hL hk hj) st
  have tl : (tp L.length true k).length ≤ 1000000 := Nat.le_trans (tp_len L.length true k) (Nat.le_trans (Nat.pow_le_pow_left hL k) (by
    have : k = 0 ∨ k = 1 ∨ k = 2 ∨ k = 3 := by omega
    rcases this with rfl | rfl | rfl | rfl <;> decide))
  have lc := fam_lc st L (tp L.length true k) (fun r hr => ⟨by rw [(tp_mem hr).1]; omega, (tp_mem hr).2⟩) tl (.val n) (.val (.tup [.str "heap", .int (k : Int), a])) (.val (.str "heap")) .un (.own []) .un .un [.un, .un, .un, .un, .un]
  rw [List.nil_append] at lc
  have dl : dLen [.lst L] = some (.per (.int (L.length : Int))) := rfl
  rw [u29]
  refine f_rt rfl ?_
  unfold L29
  simp only [W2.s]
  repeat' (first | with_reducible exact w_c | with_reducible exact w_nil | with_reducible exact s_skip | with_reducible exact t_yes | with_reducible exact w_pn | with_reducible exact m_pure | with_reducible exact n_rt | with_reducible exact n_exc | with_reducible exact n_bk | with_reducible exact n_ct | with_reducible exact nT | with_reducible exact nF | with_reducible exact l_nil | ((with_reducible apply l_nx); exact rfl) | ((with_reducible apply w_var); exact rfl) | with_reducible apply w_rd | with_reducible apply w_kpl | with_reducible apply a_kpc | with_reducible apply w_kp | with_reducible apply w_cons | with_reducible apply w_bin | with_reducible apply w_binS | with_reducible apply w_call | with_reducible apply w_un | with_reducible apply w_fn | with_reducible apply w_fnD | with_reducible apply w_fnK | with_reducible apply w_tup | with_reducible apply w_lst | with_reducible apply w_ps | with_reducible apply w_slice | with_reducible apply t_bool | with_reducible apply t_tru | with_reducible apply a_not | with_reducible apply a_notV | with_reducible apply a_and | with_reducible apply a_or | with_reducible apply a_andV | with_reducible apply a_orV | with_reducible apply a_ifM | with_reducible apply a_it | with_reducible apply a_r1 | with_reducible apply a_r2 | with_reducible apply w_lc | with_reducible apply a_seq | with_reducible apply n_nx | with_reducible apply a_frz | with_reducible apply a_if | with_reducible apply a_set | with_reducible apply s_ret | with_reducible apply s_drop | with_reducible apply s_for | with_reducible apply a_par | with_reducible apply a_par3 | with_reducible apply a_asg | ((with_reducible apply c_T); exact rfl) | ((with_reducible apply c_F); exact rfl) | ((with_reducible apply c_TM); exact rfl) | ((with_reducible apply c_FM); exact rfl) | ((try dsimp only [RV.d, deref, List.map]); with_reducible assumption) | ((with_reducible apply eqsF); exact rfl; exact rfl; decide +kernel) | ((with_reducible apply eqsT); exact rfl; exact rfl; decide +kernel) | ((with_reducible apply inT); exact rfl; exact rfl; decide +kernel) | ((with_reducible apply inF); exact rfl; exact rfl; decide +kernel) | ((with_reducible apply ninT); exact rfl; exact rfl; decide +kernel) | ((with_reducible apply ninF); exact rfl; exact rfl; decide +kernel) | exact @rfl (Option RV) _ | exact @rfl (Option SV) _ | exact @rfl (Option D) _ | exact @rfl (Option (List D)) _ | exact @rfl (Option Bool) _ | exact @rfl (Option Env') _ | assumption | exact Nat.le_of_ble_eq_true rfl | exact s_skip | exact l_nil)
theorem tag_lc (st : Store) (L : List D) (j : Int) (hl : L.length ≤ 1000) (x0 x1 x2 : SV) (X : Env') : sLcL (gN 3) sYes (kp (sTup (sCons (kp (sC (.int j))) (sCons (kp (sVar 3)) sNil)))) (x0 :: x1 :: x2 :: .un :: X) L [] st = .ok (L.map fun d => .tup [.int j, d]) st := by
  have sz := size_ge
  refine (lc_map (F := fun d => .tup [.int j, d]) L [] (fun d hd => ⟨x0 :: x1 :: x2 :: .val d :: X, rfl, rfl, ?_⟩) (by simp; omega)).trans rfl
  exact w_kp (w_tup (w_cons (w_kp w_c) (w_cons (w_kp (w_var rfl)) w_nil)) (by simp; omega))
theorem list3e {n : D} {a b : D} {A B : List D} (hA : A.length ≤ 60) (hB : B.length ≤ 60) {l : Nat} {st : Store} (iha : Q (l + 1) 29 [n, a] st = .ok (.lst A) st) (ihb : Q (l + 1) 29 [n, b] st = .ok (.lst B) st) : Q (l + 2) 29 [n, .tup [W3.either.s, a, b]] st = .ok (.lst ((A.map fun d => D.tup [.int 0, d]) ++ B.map fun d => D.tup [.int 1, d])) st := by
  have la := tag_lc st A 0 (by omega) (.val n) (.val (.tup [.str "either", a, b])) (.val (.str "either")) [.un, .un, .un, .un, .un, .un, .un, .un, .un, .un, .un]
  have lb := tag_lc st B 1 (by omega) (.val n) (.val (.tup [.str "either", a, b])) (.val (.str "either")) [.un, .un, .un, .un, .un, .un, .un, .un, .un, .un, .un]
  have ad := lstAdd (xs := A.map fun d => D.tup [.int 0, d]) (ys := B.map fun d => D.tup [.int 1, d]) (by simp; omega)
  rw [u29]
  refine f_rt rfl ?_
  unfold L29
  simp only [W3.s]
  refine s_seq (s_set (s := .val (.str "either")) (w_binS (w_rd (w_var rfl)) (w_rd w_c) rfl) rfl rfl) ?_
  refine s_seq (s_ifF (t_bool (w_bin (w_rd (w_var rfl)) (w_rd w_c) (eqsF rfl rfl (by decide +kernel)))) s_skip) ?_
  refine s_seq (s_ifF (t_bool (w_bin (w_rd (w_var rfl)) (w_rd w_c) (eqsF rfl rfl (by decide +kernel)))) s_skip) ?_
  refine s_seq (s_ifF (t_bool (w_bin (w_rd (w_var rfl)) (w_rd (w_tup (w_cons (w_kp w_c) (w_cons (w_kp w_c) w_nil)) (by have := size_ge; simp; omega))) (inF rfl rfl (by decide +kernel)))) s_skip) ?_
  exact s_seqR (s_ifT (t_bool (w_bin (w_rd (w_var rfl)) (w_rd w_c) (eqsT rfl rfl rfl))) (s_seqR (s_frz rfl (s_ret (w_kpf (w_bin (w_rd (w_lc (i_lst (w_kp (w_fn (w_cons (w_kp (w_var rfl)) (w_cons (w_kp (w_binS (w_rd (w_var rfl)) (w_rd w_c) rfl)) w_nil)) iha))) la)) (w_rd (w_lc (i_lst (w_kp (w_fn (w_cons (w_kp (w_var rfl)) (w_cons (w_kp (w_binS (w_rd (w_var rfl)) (w_rd w_c) rfl)) w_nil)) ihb))) lb)) ad))))))
def bFar : SS := (sSeq (sFrz [3, 5] (sSet 4 (sBin dAdd (rd (sVar 4)) (rd (sLc (itS (kp (sVar 5))) (gN 6) sYes (kp (sTup (sCons (kp (sVar 3)) (sCons (kp (sVar 6)) sNil)))) [6]))))) sSkip)
theorem far_loop (st : Store) (B : List D) (hB : B.length ≤ 60) (x0 x1 x2 : SV) (X : Env') : ∀ (A acc : List D) (x3 : SV), acc.length + A.length * B.length ≤ 900 →
    ∃ y3, sForL (gN 3) bFar A (x0 :: x1 :: x2 :: x3 :: .own acc :: .val (.lst B) :: .un :: X) st = .nx (x0 :: x1 :: x2 :: y3 :: .own (acc ++ A.flatMap fun x => B.map fun y => D.tup [x, y]) :: .val (.lst B) :: .un :: X) st
  | [], acc, x3, _ => ⟨x3, by simp [sForL]⟩
  | a :: A, acc, x3, hl => by
    rw [List.length_cons, Nat.succ_mul] at hl
    have sz := size_ge
    have lc : sLcL (gN 6) sYes (kp (sTup (sCons (kp (sVar 3)) (sCons (kp (sVar 6)) sNil)))) (x0 :: x1 :: x2 :: .val a :: .own acc :: .val (.lst B) :: .un :: X) B [] st = .ok (B.map fun y => D.tup [a, y]) st :=
      (lc_map (F := fun y => .tup [a, y]) B [] (fun d hd => ⟨x0 :: x1 :: x2 :: .val a :: .own acc :: .val (.lst B) :: .val d :: X, rfl, rfl, w_kp (w_tup (w_cons (w_kp (w_var rfl)) (w_cons (w_kp (w_var rfl)) w_nil)) (by simp; omega))⟩) (by simp; omega)).trans rfl
    have ad := lstAdd (xs := acc) (ys := B.map fun y => D.tup [a, y]) (by simp; omega)
    obtain ⟨y3, h⟩ := far_loop st B hB x0 x1 x2 X A (acc ++ B.map fun y => D.tup [a, y]) (.val a) (by simp; omega)
    refine ⟨y3, l_nx rfl (s_seq (s_frz rfl (s_set (s := .own (acc ++ B.map fun y => D.tup [a, y])) (w_bin (w_rd (w_var rfl)) (w_rd (w_lc (i_lst (w_kp (w_var rfl))) lc)) ad) rfl rfl)) s_skip) (h.trans ?_)⟩
    rw [List.flatMap_cons, List.append_assoc]
theorem list3p {n : D} {a b : D} {A B : List D} (hB : B.length ≤ 60) (hAB : A.length * B.length ≤ 60) {l : Nat} {st : Store} (iha : Q (l + 1) 29 [n, a] st = .ok (.lst A) st) (ihb : Q (l + 1) 29 [n, b] st = .ok (.lst B) st) : Q (l + 2) 29 [n, .tup [W3.pair.s, a, b]] st = .ok (.lst (A.flatMap fun x => B.map fun y => D.tup [x, y])) st := by
  obtain ⟨y3, lo⟩ := far_loop st B hB (.val n) (.val (.tup [.str "pair", a, b])) (.val (.str "pair")) [.un, .un, .un, .un, .un, .un, .un, .un] A [] .un (by simp; omega)
  rw [List.nil_append] at lo
  rw [u29]
  refine f_rt rfl ?_
  unfold L29
  simp only [W3.s]
  repeat' (first | with_reducible exact w_c | with_reducible exact w_nil | with_reducible exact s_skip | with_reducible exact t_yes | with_reducible exact w_pn | with_reducible exact m_pure | with_reducible exact n_rt | with_reducible exact n_exc | with_reducible exact n_bk | with_reducible exact n_ct | with_reducible exact nT | with_reducible exact nF | with_reducible exact l_nil | ((with_reducible apply l_nx); exact rfl) | ((with_reducible apply w_var); exact rfl) | with_reducible apply w_rd | with_reducible apply w_kpl | with_reducible apply a_kpc | with_reducible apply w_kp | with_reducible apply w_cons | with_reducible apply w_bin | with_reducible apply w_binS | with_reducible apply w_call | with_reducible apply w_un | with_reducible apply w_fn | with_reducible apply w_fnD | with_reducible apply w_fnK | with_reducible apply w_tup | with_reducible apply w_lst | with_reducible apply w_ps | with_reducible apply w_slice | with_reducible apply t_bool | with_reducible apply t_tru | with_reducible apply a_not | with_reducible apply a_notV | with_reducible apply a_and | with_reducible apply a_or | with_reducible apply a_andV | with_reducible apply a_orV | with_reducible apply a_ifM | with_reducible apply a_it | with_reducible apply a_r1 | with_reducible apply a_r2 | with_reducible apply w_lc | with_reducible apply a_seq | with_reducible apply n_nx | with_reducible apply a_frz | with_reducible apply a_if | with_reducible apply a_set | with_reducible apply s_ret | with_reducible apply s_drop | with_reducible apply s_for | with_reducible apply a_par | with_reducible apply a_par3 | with_reducible apply a_asg | ((with_reducible apply c_T); exact rfl) | ((with_reducible apply c_F); exact rfl) | ((with_reducible apply c_TM); exact rfl) | ((with_reducible apply c_FM); exact rfl) | ((try dsimp only [RV.d, deref, List.map]); with_reducible assumption) | ((with_reducible apply eqsF); exact rfl; exact rfl; decide +kernel) | ((with_reducible apply eqsT); exact rfl; exact rfl; decide +kernel) | ((with_reducible apply inT); exact rfl; exact rfl; decide +kernel) | ((with_reducible apply inF); exact rfl; exact rfl; decide +kernel) | ((with_reducible apply ninT); exact rfl; exact rfl; decide +kernel) | ((with_reducible apply ninF); exact rfl; exact rfl; decide +kernel) | exact @rfl (Option RV) _ | exact @rfl (Option SV) _ | exact @rfl (Option D) _ | exact @rfl (Option (List D)) _ | exact @rfl (Option Bool) _ | exact @rfl (Option Env') _ | assumption | exact Nat.le_of_ble_eq_true rfl | exact s_skip | exact l_nil)
theorem listed_ok {n : Nat} (hn : n ∈ [2, 3, 4]) : ∀ s : S, forms s → sm s → fitb (n : Int) s = true → ∃ L : List D, (L.length : Int) = cnt (n : Int) s ∧ ∀ (l : Nat), s.depth + 4 ≤ l → ∀ st, Q l 29 [.int (n : Int), s.d] st = .ok (.lst L) st
  | .c0 w, _, _, _ => by
    refine ⟨lf0 n w, lf0_len hn w, fun l hl st => ?_⟩
    simp only [S.depth] at hl
    obtain ⟨m, rfl⟩ : ∃ m, l = m + 5 := ⟨l - 5, by omega⟩
    have h : n = 2 ∨ n = 3 ∨ n = 4 := by simpa using hn
    rcases h with rfl | rfl | rfl
    · exact li02 w m st
    · exact li03 w m st
    · exact li04 w m st
  | .c1 .subset k, f, hs, hf => by
    have h : n = 2 ∨ n = 3 ∨ n = 4 := by simpa using hn
    have c6 := fitb_le hf
    refine ⟨(tp n false k).map tN, ?_, fun l hl st => ?_⟩
    · rw [List.length_map]
      exact (tpChk_at (show n ≤ 60 by omega) hs).1 c6
    · simp only [S.depth] at hl
      obtain ⟨m, rfl⟩ : ∃ m, l = m + 2 := ⟨l - 2, by omega⟩
      exact list1s hs (by omega) m st
  | .c1 .bag k, f, hs, hf => by
    have h : n = 2 ∨ n = 3 ∨ n = 4 := by simpa using hn
    have c6 := fitb_le hf
    refine ⟨(tp n true k).map tN, ?_, fun l hl st => ?_⟩
    · rw [List.length_map]
      exact (tpChk_at (show n ≤ 60 by omega) hs).2 c6
    · simp only [S.depth] at hl
      obtain ⟨m, rfl⟩ : ∃ m, l = m + 2 := ⟨l - 2, by omega⟩
      exact list1b hs (by omega) m st
  | .c1 .rounds k, f, hs, hf => by
    have h : n = 2 ∨ n = 3 ∨ n = 4 := by simpa using hn
    have hk : 1 ≤ k ∧ k ≤ 2 := by simpa [forms, okN] using f
    have hk2 : k = 1 ∨ k = 2 := by omega
    have c6 := fitb_le hf
    have ch := lfChk_ok
    unfold lfChk at ch
    simp only [Bool.and_eq_true, beq_iff_eq] at ch
    rcases h with rfl | rfl | rfl <;> rcases hk2 with rfl | rfl
    · refine ⟨lfr 2 1, by rw [ch.1.1.2]; decide, fun l hl st => ?_⟩
      simp only [S.depth] at hl
      obtain ⟨m, rfl⟩ : ∃ m, l = m + 5 := ⟨l - 5, by omega⟩
      exact lir21 m st
    · refine ⟨lfr 2 2, by rw [ch.1.2]; decide, fun l hl st => ?_⟩
      simp only [S.depth] at hl
      obtain ⟨m, rfl⟩ : ∃ m, l = m + 5 := ⟨l - 5, by omega⟩
      exact lir22 m st
    · refine ⟨lfr 3 1, by rw [ch.2]; decide, fun l hl st => ?_⟩
      simp only [S.depth] at hl
      obtain ⟨m, rfl⟩ : ∃ m, l = m + 5 := ⟨l - 5, by omega⟩
      exact lir31 m st
    · exact absurd c6 (by decide)
    · exact absurd c6 (by decide)
    · exact absurd c6 (by decide)
  | .c2 .list k a, f, hs, hf => by
    have c6 := fitb_le hf
    simp only [fitb, Bool.and_eq_true] at hf
    obtain ⟨L, hL, h⟩ := listed_ok hn a f.2.1 hs.2 hf.2
    have a6 := fitb_le hf.2
    refine ⟨(rwD L k).map .tup, ?_, fun l hl st => ?_⟩
    · rw [List.length_map, rwD_len]
      simp only [cnt]
      rw [← hL]
      simp
    · simp only [S.depth] at hl
      obtain ⟨m, rfl⟩ : ∃ m, l = m + 2 := ⟨l - 2, by omega⟩
      exact list2l hs.1 (by omega) (h (m + 1) (by omega) st)
  | .c2 .family k a, f, hs, hf => by
    have c6 := fitb_le hf
    simp only [fitb, Bool.and_eq_true] at hf
    obtain ⟨L, hL, h⟩ := listed_ok hn a f.2.1 hs.2 hf.2
    have a6 := fitb_le hf.2
    refine ⟨((tp L.length false k).map tN).map (byN L), ?_, fun l hl st => ?_⟩
    · rw [List.length_map, List.length_map]
      have q := (tpChk_at (show L.length ≤ 60 by omega) (show k ≤ 5 by have := hs.1; omega)).1
      rw [hL] at q
      exact q c6
    · simp only [S.depth] at hl
      obtain ⟨m, rfl⟩ : ∃ m, l = m + 2 := ⟨l - 2, by omega⟩
      exact list2f hs.1 (by omega) (h (m + 1) (by omega) st)
  | .c2 .heap k a, f, hs, hf => by
    have c6 := fitb_le hf
    simp only [fitb, Bool.and_eq_true] at hf
    obtain ⟨L, hL, h⟩ := listed_ok hn a f.2.1 hs.2 hf.2
    have a6 := fitb_le hf.2
    refine ⟨((tp L.length true k).map tN).map (byN L), ?_, fun l hl st => ?_⟩
    · rw [List.length_map, List.length_map]
      have q := (tpChk_at (show L.length ≤ 60 by omega) (show k ≤ 5 by have := hs.1; omega)).2
      rw [hL] at q
      exact q c6
    · simp only [S.depth] at hl
      obtain ⟨m, rfl⟩ : ∃ m, l = m + 2 := ⟨l - 2, by omega⟩
      exact list2h hs.1 (by omega) (h (m + 1) (by omega) st)
  | .c3 .either a b, f, hs, hf => by
    simp only [fitb, Bool.and_eq_true] at hf
    obtain ⟨A, hA, ha⟩ := listed_ok hn a f.1 hs.1 hf.2.1
    obtain ⟨B, hB, hb⟩ := listed_ok hn b f.2 hs.2 hf.2.2
    have a6 := fitb_le hf.2.1
    have b6 := fitb_le hf.2.2
    refine ⟨(A.map fun d => D.tup [.int 0, d]) ++ B.map fun d => D.tup [.int 1, d], ?_, fun l hl st => ?_⟩
    · simp only [cnt, List.length_append, List.length_map]
      omega
    · simp only [S.depth] at hl
      obtain ⟨m, rfl⟩ : ∃ m, l = m + 2 := ⟨l - 2, by omega⟩
      exact list3e (by omega) (by omega) (ha (m + 1) (by omega) st) (hb (m + 1) (by omega) st)
  | .c3 .pair a b, f, hs, hf => by
    have c6 := fitb_le hf
    simp only [fitb, Bool.and_eq_true] at hf
    obtain ⟨A, hA, ha⟩ := listed_ok hn a f.1 hs.1 hf.2.1
    obtain ⟨B, hB, hb⟩ := listed_ok hn b f.2 hs.2 hf.2.2
    have b6 := fitb_le hf.2.2
    have e : ((A.length * B.length : Nat) : Int) = cnt (n : Int) (.c3 .pair a b) := by
      simp only [cnt]
      rw [← hA, ← hB]
      simp
    refine ⟨A.flatMap fun x => B.map fun y => D.tup [x, y], ?_, fun l hl st => ?_⟩
    · rw [flat_len B (fun x y => D.tup [x, y]) A]
      exact e
    · simp only [S.depth] at hl
      obtain ⟨m, rfl⟩ : ∃ m, l = m + 2 := ⟨l - 2, by omega⟩
      exact list3p (by omega) (by omega) (ha (m + 1) (by omega) st) (hb (m + 1) (by omega) st)
end M02
set_option Elab.async false -- ev
set_option linter.all false -- ev
set_option maxRecDepth 100000 -- ev
set_option maxHeartbeats 4000000 -- ev
set_option autoImplicit false -- ev
/-! What fits, what is drawn. -/
namespace M02
open PySem Ev
/-! ### what fits -/
theorem lf_one {i : Nat} {c : Env' → M Bool} {el : Env' → M D} {ρ : Env'} {a x : D} {t : Bool} {st : Store} (hc : c (ρ.set i (.val a)) st = .ok t st) (h : el (ρ.set i (.val a)) st = .ok x st) : sLcL (gN i) c el ρ [a] [] st = .ok (if t then [x] else []) st := by
  refine (lc_filter (F := fun _ => x) (p := fun _ => t) [a] [] (fun d hd => ?_) (by have := size_ge; simp; omega)).trans (by cases t <;> rfl)
  have : d = a := by simpa using hd
  subst this
  exact ⟨_, rfl, hc, fun _ => h⟩
theorem lf_two {i : Nat} {c : Env' → M Bool} {el : Env' → M D} {ρ : Env'} {a b x y : D} {t u : Bool} {st : Store} (hc : c (ρ.set i (.val a)) st = .ok t st) (h : el (ρ.set i (.val a)) st = .ok x st) (hc2 : c (ρ.set i (.val b)) st = .ok u st) (h2 : el (ρ.set i (.val b)) st = .ok y st) : sLcL (gN i) c el ρ [a, b] [] st = .ok ((if t then [x] else []) ++ (if u then [y] else [])) st := by
  have sz := size_ge
  unfold sLcL
  dsimp only [gN]
  rw [bok (nok hc)]
  cases t with
  | true =>
    refine iteT ?_
    rw [bok (nok h)]
    refine iteP (by simp; omega) ?_
    unfold sLcL
    dsimp only [gN]
    rw [bok (nok hc2)]
    cases u with
    | true =>
      refine iteT ?_
      rw [bok (nok h2)]
      refine iteP (by simp; omega) ?_
      rfl
    | false =>
      refine iteF ?_
      rfl
  | false =>
    refine iteF ?_
    unfold sLcL
    dsimp only [gN]
    rw [bok (nok hc2)]
    cases u with
    | true =>
      refine iteT ?_
      rw [bok (nok h2)]
      refine iteP (by simp; omega) ?_
      rfl
    | false =>
      refine iteF ?_
      rfl
def isTup : D → Bool
  | .tup _ => true
  | _ => false
theorem isi_tup {d : D} (h : pln d = true) : dIsi [d, .ty "tuple"] = some (.per (.bl (isTup d))) := by cases d <;> first | exact Bool.noConfusion h | simp [dIsi, isiB, isTup, yes]
theorem S.tup (s : S) : pln s.d = true ∧ isTup s.d = true := by cases s <;> exact ⟨rfl, rfl⟩
theorem tup_lc (items : List D) (hp : ∀ d ∈ items, pln d = true) (hl : items.length ≤ 100) (x0 x1 x2 x3 : SV) (st : Store) : sLcL (gN 4) (sTru (sCall dIsi (sCons (rd (sVar 4)) (sCons (rd (sC (.ty "tuple"))) sNil)))) (kp (sVar 4)) [x0, x1, x2, x3, .un] items [] st = .ok (items.filter isTup) st := by
  have h := lc_filter (g := gN 4) (c := sTru (sCall dIsi (sCons (rd (sVar 4)) (sCons (rd (sC (.ty "tuple"))) sNil)))) (el := kp (sVar 4)) (ρ := [x0, x1, x2, x3, .un]) (st := st) (F := id) (p := isTup) items [] (fun d hd => ⟨[x0, x1, x2, x3, .val d], rfl, t_tru (w_call (w_cons (w_rd (w_var rfl)) (w_cons (w_rd w_c) w_nil)) (show dIsi [deref st d, .ty "tuple"] = _ by rw [der st (hp d hd)]; exact isi_tup (hp d hd))) rfl, fun _ => w_kp (w_var rfl)⟩) (by have := size_ge; simp; omega)
  simpa using h
theorem onesE (xs : List D) (h : ∀ d ∈ xs, D.pl 59 d = true) : dEq (.lst xs) (.lst []) = some (.per (.bl xs.isEmpty)) := by
  have e : D.pl 60 (.lst xs) = true := pls_all 59 xs h
  unfold dEq
  dsimp only
  rw [if_pos ⟨e, rfl⟩]
  cases xs with
  | nil => simp [D.eqv, D.eqvs, yes]
  | cons a r => simp [D.eqv, D.eqvs, yes]
theorem fit_end {l : Nat} {n x : Int} {d : D} {items kids : List D} {bad : List D} {st : Store} (hd : d = .tup items) (hk : items.filter isTup = kids) (hp : ∀ d ∈ items, pln d = true) (hl : items.length ≤ 100)
    (hs : Q l 32 [.int n, d] st = .ok (.int x) st) (hb : ∀ d ∈ bad, D.pl 59 d = true)
    (h2 : sLcL (gN 4) (sNotT (sTru (sFn (Q l 36) (sCons (kp (sVar 0)) (sCons (kp (sVar 4)) (sCons (kp (sVar 2)) sNil)))))) (kp (sC (.int 1))) [.val (.int n), .val d, .val (.int 60), .val (.lst kids), .un] kids [] st = .ok bad st) :
    Q (l + 1) 36 [.int n, d, .int 60] st = .ok (.bl (decide (x ≤ 60) && bad.isEmpty)) st := by
  subst hd
  have t := tup_lc items hp hl (.val (.int n)) (.val (.tup items)) (.val (.int 60)) .un st
  rw [hk] at t
  rw [u36]
  refine f_rt rfl ?_
  unfold L36
  refine s_seq (s_frz rfl (s_set (s := .own kids) (w_lc (i_tup (w_kp (w_var rfl))) t) rfl rfl)) (s_seqR (s_frz (ρ' := [.val (.int n), .val (.tup items), .val (.int 60), .val (.lst kids), .un]) rfl (s_ret ?_)))
  have le : dLe (.int x) (.int 60) = some (.per (.bl (decide (x ≤ 60)))) := rfl
  by_cases hx : x ≤ 60
  · rw [decide_eq_true hx] at le ⊢
    rw [Bool.true_and]
    exact w_kp (w_andT (w_bin (w_rd (w_fn (w_cons (w_kp (w_var rfl)) (w_cons (w_kp (w_var rfl)) w_nil)) hs)) (w_rd (w_var rfl)) le) rfl (w_bin (w_rd (w_lc (i_lst (w_kp (w_var rfl))) h2)) (w_rd (w_lst w_nil (Nat.zero_le _))) (onesE bad hb)))
  · rw [decide_eq_false hx] at le ⊢
    rw [Bool.false_and]
    exact w_kp (w_andF (w_bin (w_rd (w_fn (w_cons (w_kp (w_var rfl)) (w_cons (w_kp (w_var rfl)) w_nil)) hs)) (w_rd (w_var rfl)) le) rfl)
theorem ite_pl {t : Bool} : ∀ d ∈ (if t then [D.int 1] else []), D.pl 59 d = true := by
  intro d hd
  cases t with
  | true =>
    have : d = .int 1 := by simpa using hd
    subst this
    rfl
  | false => cases hd
theorem isT_int (i : Int) : isTup (.int i) = false := rfl
theorem W2.pln (w : W2) : pln w.s = true := by cases w <;> rfl
theorem W3.pln (w : W3) : pln w.s = true := by cases w <;> rfl
theorem W2.isT (w : W2) : isTup w.s = false := by cases w <;> rfl
theorem W3.isT (w : W3) : isTup w.s = false := by cases w <;> rfl
theorem fits_ok {n : Int} (h1 : 2 ≤ n) (h2 : n ≤ 5) : ∀ (s : S) (l : Nat), forms s → szB n s → s.parts ≤ 60 → s.depth + 2 ≤ l → ∀ st, Q l 36 [.int n, s.d, .int 60] st = .ok (.bl (fitb n s)) st
  | .c0 w, l, f, z, hp, hl, st => by
    simp only [S.depth] at hl
    obtain ⟨m, rfl⟩ : ∃ m, l = m + 1 := ⟨l - 1, by omega⟩
    have e := size_ok h1 h2 (.c0 w) m f z hp (by simp only [S.depth]; omega) st
    have r := fit_end (d := (S.c0 w).d) (items := [w.s]) (kids := []) (bad := []) rfl (by cases w <;> rfl) (fun d hd => by
      have : d = w.s := by simpa using hd
      subst this
      cases w <;> rfl) (by simp) e (fun _ h => nomatch h) rfl
    simpa [fitb] using r
  | .c1 w k, l, f, z, hp, hl, st => by
    simp only [S.depth] at hl
    obtain ⟨m, rfl⟩ : ∃ m, l = m + 1 := ⟨l - 1, by omega⟩
    have e := size_ok h1 h2 (.c1 w k) m f z hp (by simp only [S.depth]; omega) st
    have r := fit_end (d := (S.c1 w k).d) (items := [w.s, .int (k : Int)]) (kids := []) (bad := []) rfl (by cases w <;> rfl) (fun d hd => by
      have : d = w.s ∨ d = .int (k : Int) := by simpa using hd
      rcases this with rfl | rfl -- ev
      · cases w <;> rfl
      · rfl) (by simp) e (fun _ h => nomatch h) rfl
    simpa [fitb] using r
  | .c2 w k a, l, f, z, hp, hl, st => by
    simp only [S.depth] at hl
    have pp : a.parts ≤ 60 := by simp only [S.parts] at hp; omega
    obtain ⟨m, rfl⟩ : ∃ m, l = m + 1 := ⟨l - 1, by omega⟩
    have e := size_ok h1 h2 (.c2 w k a) m f z hp (by simp only [S.depth]; omega) st
    have ih := fits_ok h1 h2 a m f.2.1 z.1 pp (by omega) st
    have lf := lf_one (i := 4) (ρ := [.val (.int n), .val (S.c2 w k a).d, .val (.int 60), .val (.lst [a.d]), .un]) (c := sNotT (sTru (sFn (Q m 36) (sCons (kp (sVar 0)) (sCons (kp (sVar 4)) (sCons (kp (sVar 2)) sNil)))))) (el := kp (sC (.int 1))) (a := a.d) (x := .int 1) (t := !fitb n a) (st := st) (t_not (t_tru (w_fn (w_cons (w_kp (w_var rfl)) (w_cons (w_kp (w_var rfl)) (w_cons (w_kp (w_var rfl)) w_nil))) ih) rfl)) (w_kp w_c)
    have r := fit_end (d := (S.c2 w k a).d) (items := [w.s, .int (k : Int), a.d]) (kids := [a.d]) rfl (by simp [List.filter, W2.isT, (S.tup a).2, isT_int]) (fun d hd => by
      have : d = w.s ∨ d = .int (k : Int) ∨ d = a.d := by simpa using hd
      rcases this with rfl | rfl | rfl
      · exact W2.pln w
      · rfl
      · exact (S.tup a).1) (by simp) e ite_pl lf
    rw [r]
    simp only [fitb]
    cases fitb n a <;> rfl
  | .c3 w a b, l, f, z, hp, hl, st => by
    simp only [S.depth] at hl
    have pp : a.parts ≤ 60 ∧ b.parts ≤ 60 := by simp only [S.parts] at hp; omega
    obtain ⟨m, rfl⟩ : ∃ m, l = m + 1 := ⟨l - 1, by omega⟩
    have e := size_ok h1 h2 (.c3 w a b) m f z hp (by simp only [S.depth]; omega) st
    have iha := fits_ok h1 h2 a m f.1 z.1 pp.1 (by omega) st
    have ihb := fits_ok h1 h2 b m f.2 z.2.1 pp.2 (by omega) st
    have lf := lf_two (i := 4) (ρ := [.val (.int n), .val (S.c3 w a b).d, .val (.int 60), .val (.lst [a.d, b.d]), .un]) (c := sNotT (sTru (sFn (Q m 36) (sCons (kp (sVar 0)) (sCons (kp (sVar 4)) (sCons (kp (sVar 2)) sNil)))))) (el := kp (sC (.int 1))) (a := a.d) (b := b.d) (x := .int 1) (y := .int 1) (t := !fitb n a) (u := !fitb n b) (st := st) (t_not (t_tru (w_fn (w_cons (w_kp (w_var rfl)) (w_cons (w_kp (w_var rfl)) (w_cons (w_kp (w_var rfl)) w_nil))) iha) rfl)) (w_kp w_c) (t_not (t_tru (w_fn (w_cons (w_kp (w_var rfl)) (w_cons (w_kp (w_var rfl)) (w_cons (w_kp (w_var rfl)) w_nil))) ihb) rfl)) (w_kp w_c)
    have r := fit_end (d := (S.c3 w a b).d) (items := [w.s, a.d, b.d]) (kids := [a.d, b.d]) rfl (by simp [List.filter, W3.isT, (S.tup a).2, (S.tup b).2]) (fun d hd => by
      have : d = w.s ∨ d = a.d ∨ d = b.d := by simpa using hd
      rcases this with rfl | rfl | rfl
      · exact W3.pln w
      · exact (S.tup a).1
      · exact (S.tup b).1) (by simp) e (fun d hd => by
        rcases List.mem_append.1 hd with hd | hd
        · exact ite_pl d hd
        · exact ite_pl d hd) lf
    rw [r]
    simp only [fitb]
    cases fitb n a <;> cases fitb n b <;> rfl
/-! ### small ones are not too great -/
theorem sm_lg {n : Int} (h1 : 2 ≤ n) (h2 : n ≤ 5) : ∀ s : S, forms s → sm s → s.parts ≤ 60 → ∃ b, lg (cnt n s) b ∧ b + 1 ≤ 252 * 3 ^ s.depth
  | .c0 w, f, _, _ => by
    have e : (2 : Nat) ^ 24 = 16777216 := by decide -- ev
    have a := leaf0_le h1 h2 w
    have b := cnt_nn h1 (.c0 w)
    exact ⟨24, lg_nn b (by omega), by simp [S.depth]⟩
  | .c1 w k, f, _, _ => by
    have e : (2 : Nat) ^ 24 = 16777216 := by decide -- ev
    have a := leaf1_le h1 h2 w k f
    have b := cnt_nn h1 (.c1 w k)
    exact ⟨24, lg_nn b (by omega), by simp [S.depth]⟩
  | .c2 .list k a, f, s, hp => by
    simp only [S.parts] at hp
    obtain ⟨b, hb, hl⟩ := sm_lg h1 h2 a f.2.1 s.2 (by omega)
    refine ⟨b * 3 + 1, lg_mono (lg_pow hb k) ?_, ?_⟩
    · have := Nat.mul_le_mul_left b s.1
      omega
    · simp only [S.depth]
      rw [Nat.pow_succ]
      omega
  | .c2 .family k a, f, s, hp => by
    simp only [S.parts] at hp
    have s6 := small_in h1 h2 f (by omega) rfl
    have s0 := cnt_nn h1 a
    refine ⟨250, ?_, ?_⟩
    · show lg (PySem.W.mcComb (cnt n a) (k : Int)) 250
      rw [← wy_comb s0 (by omega) f.1]
      exact wy_lg (by omega) f.1
    · have : 1 ≤ 3 ^ (S.c2 .family k a).depth := Nat.pow_pos (by omega)
      omega
  | .c2 .heap k a, f, s, hp => by
    simp only [S.parts] at hp
    have s6 := small_in h1 h2 f (by omega) rfl
    have s0 := cnt_nn h1 a
    refine ⟨250, ?_, ?_⟩
    · show lg (M02.hp (cnt n a) k) 250
      rw [← wy_hp s0 (by omega) f.1]
      exact wy_lg (by have := f.1; omega) f.1
    · have : 1 ≤ 3 ^ (S.c2 .heap k a).depth := Nat.pow_pos (by omega)
      omega
  | .c3 w a b, f, s, hp => by
    simp only [S.parts] at hp
    obtain ⟨x, hx, lx⟩ := sm_lg h1 h2 a f.1 s.1 (by omega)
    obtain ⟨y, hy, ly⟩ := sm_lg h1 h2 b f.2 s.2 (by omega)
    have ma : 3 ^ a.depth ≤ 3 ^ max a.depth b.depth := Nat.pow_le_pow_right (by omega) (Nat.le_max_left _ _)
    have mb : 3 ^ b.depth ≤ 3 ^ max a.depth b.depth := Nat.pow_le_pow_right (by omega) (Nat.le_max_right _ _)
    refine ⟨x + y + 1, ?_, ?_⟩
    · cases w with
      | either => exact lg_add (lg_mono hx (by omega)) (lg_mono hy (by omega))
      | pair => exact lg_mono (lg_mul hx hy) (by omega)
    · simp only [S.depth]
      rw [Nat.pow_succ]
      omega
theorem sm_szB {n : Int} (h1 : 2 ≤ n) (h2 : n ≤ 5) : ∀ s : S, forms s → sm s → s.parts ≤ 60 → s.depth ≤ 5 → szB n s
  | .c0 w, _, _, _, _ => trivial
  | .c1 w k, _, _, _, _ => trivial
  | .c2 w k a, f, s, hp, hd => by
    simp only [S.parts] at hp
    simp only [S.depth] at hd
    obtain ⟨b, hb, hl⟩ := sm_lg h1 h2 a f.2.1 s.2 (by omega)
    have : 3 ^ a.depth ≤ 3 ^ 4 := Nat.pow_le_pow_right (by omega) (by omega)
    exact ⟨sm_szB h1 h2 a f.2.1 s.2 (by omega) (by omega), lg_mono hb (by omega)⟩
  | .c3 w a b, f, s, hp, hd => by
    simp only [S.parts] at hp
    simp only [S.depth] at hd
    obtain ⟨x, hx, lx⟩ := sm_lg h1 h2 a f.1 s.1 (by omega)
    obtain ⟨y, hy, ly⟩ := sm_lg h1 h2 b f.2 s.2 (by omega)
    have : 3 ^ a.depth ≤ 3 ^ 4 := Nat.pow_le_pow_right (by omega) (by omega)
    have : 3 ^ b.depth ≤ 3 ^ 4 := Nat.pow_le_pow_right (by omega) (by omega)
    exact ⟨sm_szB h1 h2 a f.1 s.1 (by omega) (by omega), sm_szB h1 h2 b f.2 s.2 (by omega) (by omega), lg_mono hx (by omega), lg_mono hy (by omega)⟩
end M02
set_option Elab.async false -- ev
set_option linter.all false -- ev
set_option maxRecDepth 100000 -- ev
set_option maxHeartbeats 4000000 -- ev
set_option autoImplicit false -- ev
/-! Sorts that are drawn. -/
namespace M02
open PySem Ev
theorem ltT {i j : Int} (h : i < j) : dLt (.int i) (.int j) = some (.per (.bl true)) := by
  show some (RV.per (.bl (decide (i < j)))) = _
  rw [decide_eq_true h]
theorem ltF {i j : Int} (h : ¬ i < j) : dLt (.int i) (.int j) = some (.per (.bl false)) := by
  show some (RV.per (.bl (decide (i < j)))) = _
  rw [decide_eq_false h]
theorem eqT (i : Int) : dEq (.int i) (.int i) = some (.per (.bl true)) := by
  show some (RV.per (.bl (i == i))) = _
  have : (i == i) = true := by simp
  rw [this]
/-- what a drawn sort is -/
structure Dr (n : Nat) (d p : Nat) (s : S) : Prop where
  forms : forms s
  sm : sm s
  depth : s.depth ≤ d
  parts : s.parts ≤ p
theorem gsingle_ok {n : Nat} (h1 : 2 ≤ n) (h2 : n ≤ 5) (l : Nat) {st : Store} {a : Nat} (ha : a ≤ 2500) (ws : WS st a) : ∃ (s : S) (st' : Store) (a' : Nat), Q (l + 3) 34 [.cell 1, .int (n : Int)] st = .ok s.d st' ∧ s.single = true ∧ Dr n 2 3 s ∧ WS st' a' ∧ a' ≤ a + 2 := by
  obtain ⟨p, st1, d1, p0, p1, ws1⟩ := draw_ok l (by omega) (show (0 : Int) < 6 by decide) (by decide) ws
  obtain ⟨v, st2, d2, v0, v1, ws2⟩ := draw_ok l (by omega) (show (0 : Int) < (n : Int) + 1 by omega) (by omega) ws1
  obtain ⟨k, rfl⟩ : ∃ k : Nat, v = (k : Int) := ⟨v.toNat, by omega⟩
  rw [u34]
  by_cases c1 : p < 2
  · have e1 := ltT c1
    refine ⟨.c0 .one, st1, a + 1, ?_, rfl, ⟨trivial, trivial, by simp [S.depth], by simp [S.parts]⟩, ws1, by omega⟩
    show _ = R.ok (D.tup [.str "one"]) st1
    refine f_rt rfl ?_
    unfold L34
    repeat' (first | with_reducible exact w_c | with_reducible exact w_nil | with_reducible exact s_skip | with_reducible exact t_yes | with_reducible exact w_pn | with_reducible exact m_pure | with_reducible exact n_rt | with_reducible exact n_exc | with_reducible exact n_bk | with_reducible exact n_ct | with_reducible exact nT | with_reducible exact nF | with_reducible exact l_nil | ((with_reducible apply l_nx); exact rfl) | ((with_reducible apply w_var); exact rfl) | with_reducible apply w_rd | with_reducible apply w_kpl | with_reducible apply a_kpc | with_reducible apply w_kp | with_reducible apply w_cons | with_reducible apply w_bin | with_reducible apply w_binS | with_reducible apply w_call | with_reducible apply w_un | with_reducible apply w_fn | with_reducible apply w_fnD | with_reducible apply w_fnK | with_reducible apply w_tup | with_reducible apply w_lst | with_reducible apply w_ps | with_reducible apply w_slice | with_reducible apply t_bool | with_reducible apply t_tru | with_reducible apply a_not | with_reducible apply a_notV | with_reducible apply a_and | with_reducible apply a_or | with_reducible apply a_andV | with_reducible apply a_orV | with_reducible apply a_ifM | with_reducible apply a_it | with_reducible apply a_r1 | with_reducible apply a_r2 | with_reducible apply w_lc | with_reducible apply a_seq | with_reducible apply n_nx | with_reducible apply a_frz | with_reducible apply a_if | with_reducible apply a_set | with_reducible apply s_ret | with_reducible apply s_drop | with_reducible apply s_for | with_reducible apply a_par | with_reducible apply a_par3 | with_reducible apply a_asg | ((with_reducible apply c_T); exact rfl) | ((with_reducible apply c_F); exact rfl) | ((with_reducible apply c_TM); exact rfl) | ((with_reducible apply c_FM); exact rfl) | ((try dsimp only [RV.d, deref, List.map]); with_reducible assumption) | ((with_reducible apply eqsF); exact rfl; exact rfl; decide +kernel) | ((with_reducible apply eqsT); exact rfl; exact rfl; decide +kernel) | ((with_reducible apply inT); exact rfl; exact rfl; decide +kernel) | ((with_reducible apply inF); exact rfl; exact rfl; decide +kernel) | ((with_reducible apply ninT); exact rfl; exact rfl; decide +kernel) | ((with_reducible apply ninF); exact rfl; exact rfl; decide +kernel) | exact @rfl (Option RV) _ | exact @rfl (Option SV) _ | exact @rfl (Option D) _ | exact @rfl (Option (List D)) _ | exact @rfl (Option Bool) _ | exact @rfl (Option Env') _ | assumption | exact Nat.le_of_ble_eq_true rfl | exact s_skip | exact l_nil)
  · have e1 := ltF c1
    by_cases c2 : p < 4
    · have e2 := ltT c2
      refine ⟨.c1 .subset k, st2, a + 1 + 1, ?_, rfl, ⟨by simp [M02.forms, okN]; omega, by show k ≤ 5; omega, by simp [S.depth], by simp [S.parts]⟩, ws2, by omega⟩
      show _ = R.ok (D.tup [.str "subset", .int (k : Int)]) st2
      refine f_rt rfl ?_
      unfold L34
      repeat' (first | with_reducible exact w_c | with_reducible exact w_nil | with_reducible exact s_skip | with_reducible exact t_yes | with_reducible exact w_pn | with_reducible exact m_pure | with_reducible exact n_rt | with_reducible exact n_exc | with_reducible exact n_bk | with_reducible exact n_ct | with_reducible exact nT | with_reducible exact nF | with_reducible exact l_nil | ((with_reducible apply l_nx); exact rfl) | ((with_reducible apply w_var); exact rfl) | with_reducible apply w_rd | with_reducible apply w_kpl | with_reducible apply a_kpc | with_reducible apply w_kp | with_reducible apply w_cons | with_reducible apply w_bin | with_reducible apply w_binS | with_reducible apply w_call | with_reducible apply w_un | with_reducible apply w_fn | with_reducible apply w_fnD | with_reducible apply w_fnK | with_reducible apply w_tup | with_reducible apply w_lst | with_reducible apply w_ps | with_reducible apply w_slice | with_reducible apply t_bool | with_reducible apply t_tru | with_reducible apply a_not | with_reducible apply a_notV | with_reducible apply a_and | with_reducible apply a_or | with_reducible apply a_andV | with_reducible apply a_orV | with_reducible apply a_ifM | with_reducible apply a_it | with_reducible apply a_r1 | with_reducible apply a_r2 | with_reducible apply w_lc | with_reducible apply a_seq | with_reducible apply n_nx | with_reducible apply a_frz | with_reducible apply a_if | with_reducible apply a_set | with_reducible apply s_ret | with_reducible apply s_drop | with_reducible apply s_for | with_reducible apply a_par | with_reducible apply a_par3 | with_reducible apply a_asg | ((with_reducible apply c_T); exact rfl) | ((with_reducible apply c_F); exact rfl) | ((with_reducible apply c_TM); exact rfl) | ((with_reducible apply c_FM); exact rfl) | ((try dsimp only [RV.d, deref, List.map]); with_reducible assumption) | ((with_reducible apply eqsF); exact rfl; exact rfl; decide +kernel) | ((with_reducible apply eqsT); exact rfl; exact rfl; decide +kernel) | ((with_reducible apply inT); exact rfl; exact rfl; decide +kernel) | ((with_reducible apply inF); exact rfl; exact rfl; decide +kernel) | ((with_reducible apply ninT); exact rfl; exact rfl; decide +kernel) | ((with_reducible apply ninF); exact rfl; exact rfl; decide +kernel) | exact @rfl (Option RV) _ | exact @rfl (Option SV) _ | exact @rfl (Option D) _ | exact @rfl (Option (List D)) _ | exact @rfl (Option Bool) _ | exact @rfl (Option Env') _ | assumption | exact Nat.le_of_ble_eq_true rfl | exact s_skip | exact l_nil)
    · have e2 := ltF c2
      by_cases c3 : p = 4
      · subst c3
        have e3 := eqT 4
        refine ⟨.c3 .either (.c1 .subset k) (.c0 .one), st2, a + 1 + 1, ?_, rfl, ⟨⟨by simp [M02.forms, okN]; omega, trivial⟩, ⟨by show k ≤ 5; omega, trivial⟩, by simp [S.depth], by simp [S.parts]⟩, ws2, by omega⟩
        show _ = R.ok (D.tup [.str "either", .tup [.str "subset", .int (k : Int)], .tup [.str "one"]]) st2
        refine f_rt rfl ?_
        unfold L34
        repeat' (first | with_reducible exact w_c | with_reducible exact w_nil | with_reducible exact s_skip | with_reducible exact t_yes | with_reducible exact w_pn | with_reducible exact m_pure | with_reducible exact n_rt | with_reducible exact n_exc | with_reducible exact n_bk | with_reducible exact n_ct | with_reducible exact nT | with_reducible exact nF | with_reducible exact l_nil | ((with_reducible apply l_nx); exact rfl) | ((with_reducible apply w_var); exact rfl) | with_reducible apply w_rd | with_reducible apply w_kpl | with_reducible apply a_kpc | with_reducible apply w_kp | with_reducible apply w_cons | with_reducible apply w_bin | with_reducible apply w_binS | with_reducible apply w_call | with_reducible apply w_un | with_reducible apply w_fn | with_reducible apply w_fnD | with_reducible apply w_fnK | with_reducible apply w_tup | with_reducible apply w_lst | with_reducible apply w_ps | with_reducible apply w_slice | with_reducible apply t_bool | with_reducible apply t_tru | with_reducible apply a_not | with_reducible apply a_notV | with_reducible apply a_and | with_reducible apply a_or | with_reducible apply a_andV | with_reducible apply a_orV | with_reducible apply a_ifM | with_reducible apply a_it | with_reducible apply a_r1 | with_reducible apply a_r2 | with_reducible apply w_lc | with_reducible apply a_seq | with_reducible apply n_nx | with_reducible apply a_frz | with_reducible apply a_if | with_reducible apply a_set | with_reducible apply s_ret | with_reducible apply s_drop | with_reducible apply s_for | with_reducible apply a_par | with_reducible apply a_par3 | with_reducible apply a_asg | ((with_reducible apply c_T); exact rfl) | ((with_reducible apply c_F); exact rfl) | ((with_reducible apply c_TM); exact rfl) | ((with_reducible apply c_FM); exact rfl) | ((try dsimp only [RV.d, deref, List.map]); with_reducible assumption) | ((with_reducible apply eqsF); exact rfl; exact rfl; decide +kernel) | ((with_reducible apply eqsT); exact rfl; exact rfl; decide +kernel) | ((with_reducible apply inT); exact rfl; exact rfl; decide +kernel) | ((with_reducible apply inF); exact rfl; exact rfl; decide +kernel) | ((with_reducible apply ninT); exact rfl; exact rfl; decide +kernel) | ((with_reducible apply ninF); exact rfl; exact rfl; decide +kernel) | exact @rfl (Option RV) _ | exact @rfl (Option SV) _ | exact @rfl (Option D) _ | exact @rfl (Option (List D)) _ | exact @rfl (Option Bool) _ | exact @rfl (Option Env') _ | assumption | exact Nat.le_of_ble_eq_true rfl | exact s_skip | exact l_nil)
      · have e3 := eqF c3
        refine ⟨.c3 .either (.c0 .one) (.c1 .subset 2), st1, a + 1, ?_, rfl, ⟨⟨trivial, by simp [M02.forms, okN]⟩, ⟨trivial, by show 2 ≤ 5; omega⟩, by simp [S.depth], by simp [S.parts]⟩, ws1, by omega⟩
        show _ = R.ok (D.tup [.str "either", .tup [.str "one"], .tup [.str "subset", .int 2]]) st1
        refine f_rt rfl ?_
        unfold L34
        repeat' (first | with_reducible exact w_c | with_reducible exact w_nil | with_reducible exact s_skip | with_reducible exact t_yes | with_reducible exact w_pn | with_reducible exact m_pure | with_reducible exact n_rt | with_reducible exact n_exc | with_reducible exact n_bk | with_reducible exact n_ct | with_reducible exact nT | with_reducible exact nF | with_reducible exact l_nil | ((with_reducible apply l_nx); exact rfl) | ((with_reducible apply w_var); exact rfl) | with_reducible apply w_rd | with_reducible apply w_kpl | with_reducible apply a_kpc | with_reducible apply w_kp | with_reducible apply w_cons | with_reducible apply w_bin | with_reducible apply w_binS | with_reducible apply w_call | with_reducible apply w_un | with_reducible apply w_fn | with_reducible apply w_fnD | with_reducible apply w_fnK | with_reducible apply w_tup | with_reducible apply w_lst | with_reducible apply w_ps | with_reducible apply w_slice | with_reducible apply t_bool | with_reducible apply t_tru | with_reducible apply a_not | with_reducible apply a_notV | with_reducible apply a_and | with_reducible apply a_or | with_reducible apply a_andV | with_reducible apply a_orV | with_reducible apply a_ifM | with_reducible apply a_it | with_reducible apply a_r1 | with_reducible apply a_r2 | with_reducible apply w_lc | with_reducible apply a_seq | with_reducible apply n_nx | with_reducible apply a_frz | with_reducible apply a_if | with_reducible apply a_set | with_reducible apply s_ret | with_reducible apply s_drop | with_reducible apply s_for | with_reducible apply a_par | with_reducible apply a_par3 | with_reducible apply a_asg | ((with_reducible apply c_T); exact rfl) | ((with_reducible apply c_F); exact rfl) | ((with_reducible apply c_TM); exact rfl) | ((with_reducible apply c_FM); exact rfl) | ((try dsimp only [RV.d, deref, List.map]); with_reducible assumption) | ((with_reducible apply eqsF); exact rfl; exact rfl; decide +kernel) | ((with_reducible apply eqsT); exact rfl; exact rfl; decide +kernel) | ((with_reducible apply inT); exact rfl; exact rfl; decide +kernel) | ((with_reducible apply inF); exact rfl; exact rfl; decide +kernel) | ((with_reducible apply ninT); exact rfl; exact rfl; decide +kernel) | ((with_reducible apply ninF); exact rfl; exact rfl; decide +kernel) | exact @rfl (Option RV) _ | exact @rfl (Option SV) _ | exact @rfl (Option D) _ | exact @rfl (Option (List D)) _ | exact @rfl (Option Bool) _ | exact @rfl (Option Env') _ | assumption | exact Nat.le_of_ble_eq_true rfl | exact s_skip | exact l_nil)
/-! ### sorts of any kind -/
theorem gsort_leaf {n : Nat} (h1 : 2 ≤ n) (h2 : n ≤ 5) (l : Nat) {dp p lim : Int} {st0 st : Store} {a : Nat} (ha : a ≤ 2500) (ws : WS st a) (hg : dGt (.int dp) (.int 0) = some (.per (.bl (lim == 16)))) (hl : lim = 16 ∨ lim = 6)
    (d1 : Q (l + 2) 22 [.cell 1, .int lim] st0 = .ok (.int p) st) (p0 : 0 ≤ p) (p1 : p < 6) : ∃ (s : S) (st' : Store) (a' : Nat), Q (l + 3) 35 [.cell 1, .int (n : Int), .int dp] st0 = .ok s.d st' ∧ Dr n 1 1 s ∧ WS st' a' ∧ a' ≤ a + 1 := by
  have b1 : sFrz [0] (sSet 3 (sFn (Q (l + 2) 22) (sCons (kp (sVar 0)) (sCons (kp (sIf (sBoolT (sBin dGt (rd (sVar 2)) (rd (sC (.int 0))))) (sC (.int 16)) (sC (.int 6)))) sNil)))) [.val (.cell 1), .val (.int (n : Int)), .val (.int dp), .un, .un] st0 = .nx [.val (.cell 1), .val (.int (n : Int)), .val (.int dp), .val (.int p), .un] st := by
    rcases hl with rfl | rfl
    · exact s_frz rfl (s_set (s := .val (.int p)) (w_fn (w_cons (w_kp (w_var rfl)) (w_cons (w_kp (w_ifT (t_bool (w_bin (w_rd (w_var rfl)) (w_rd w_c) hg)) w_c)) w_nil)) d1) rfl rfl)
    · exact s_frz rfl (s_set (s := .val (.int p)) (w_fn (w_cons (w_kp (w_var rfl)) (w_cons (w_kp (w_ifF (t_bool (w_bin (w_rd (w_var rfl)) (w_rd w_c) hg)) w_c)) w_nil)) d1) rfl rfl)
  obtain ⟨v, st2, d2, v0, v1, ws2⟩ := draw_ok l (by omega) (show (0 : Int) < (n : Int) + 1 by omega) (by omega) ws
  obtain ⟨k, rfl⟩ : ∃ k : Nat, v = (k : Int) := ⟨v.toNat, by omega⟩
  obtain ⟨v, st3, d3, w0, w1, ws3⟩ := draw_ok l (by omega) (show (0 : Int) < 4 by omega) (by omega) ws
  obtain ⟨k4, rfl⟩ : ∃ k : Nat, v = (k : Int) := ⟨v.toNat, by omega⟩
  obtain ⟨v, st4, d4, x0, x1, ws4⟩ := draw_ok l (by omega) (show (0 : Int) < 2 by omega) (by omega) ws
  obtain ⟨k2, rfl⟩ : ∃ k : Nat, v = (k : Int) := ⟨v.toNat, by omega⟩
  obtain ⟨v, st5, d5, y0, y1, ws5⟩ := draw_ok l (by omega) (show (0 : Int) < 3 by omega) (by omega) ws
  obtain ⟨k3, rfl⟩ : ∃ k : Nat, v = (k : Int) := ⟨v.toNat, by omega⟩
  rw [u35]
  have hp : p = 0 ∨ p = 1 ∨ p = 2 ∨ p = 3 ∨ p = 4 ∨ p = 5 := by omega
  rcases hp with rfl | rfl | rfl | rfl | rfl | rfl
  · refine ⟨.c0 .one, st, a, ?_, ⟨trivial, trivial, by simp [S.depth], by simp [S.parts]⟩, ws, by omega⟩
    show _ = R.ok (D.tup [.str "one"]) st
    refine f_rt rfl ?_
    unfold L35
    refine a_seq b1 (n_nx ?_)
    repeat' (first | with_reducible exact w_c | with_reducible exact w_nil | with_reducible exact s_skip | with_reducible exact t_yes | with_reducible exact w_pn | with_reducible exact m_pure | with_reducible exact n_rt | with_reducible exact n_exc | with_reducible exact n_bk | with_reducible exact n_ct | with_reducible exact nT | with_reducible exact nF | with_reducible exact l_nil | ((with_reducible apply l_nx); exact rfl) | ((with_reducible apply w_var); exact rfl) | with_reducible apply w_rd | with_reducible apply w_kpl | with_reducible apply a_kpc | with_reducible apply w_kp | with_reducible apply w_cons | with_reducible apply w_bin | with_reducible apply w_binS | with_reducible apply w_call | with_reducible apply w_un | with_reducible apply w_fn | with_reducible apply w_fnD | with_reducible apply w_fnK | with_reducible apply w_tup | with_reducible apply w_lst | with_reducible apply w_ps | with_reducible apply w_slice | with_reducible apply t_bool | with_reducible apply t_tru | with_reducible apply a_not | with_reducible apply a_notV | with_reducible apply a_and | with_reducible apply a_or | with_reducible apply a_andV | with_reducible apply a_orV | with_reducible apply a_ifM | with_reducible apply a_it | with_reducible apply a_r1 | with_reducible apply a_r2 | with_reducible apply w_lc | with_reducible apply a_seq | with_reducible apply n_nx | with_reducible apply a_frz | with_reducible apply a_if | with_reducible apply a_set | with_reducible apply s_ret | with_reducible apply s_drop | with_reducible apply s_for | with_reducible apply a_par | with_reducible apply a_par3 | with_reducible apply a_asg | ((with_reducible apply c_T); exact rfl) | ((with_reducible apply c_F); exact rfl) | ((with_reducible apply c_TM); exact rfl) | ((with_reducible apply c_FM); exact rfl) | ((try dsimp only [RV.d, deref, List.map]); with_reducible assumption) | ((with_reducible apply eqsF); exact rfl; exact rfl; decide +kernel) | ((with_reducible apply eqsT); exact rfl; exact rfl; decide +kernel) | ((with_reducible apply inT); exact rfl; exact rfl; decide +kernel) | ((with_reducible apply inF); exact rfl; exact rfl; decide +kernel) | ((with_reducible apply ninT); exact rfl; exact rfl; decide +kernel) | ((with_reducible apply ninF); exact rfl; exact rfl; decide +kernel) | exact @rfl (Option RV) _ | exact @rfl (Option SV) _ | exact @rfl (Option D) _ | exact @rfl (Option (List D)) _ | exact @rfl (Option Bool) _ | exact @rfl (Option Env') _ | assumption | exact Nat.le_of_ble_eq_true rfl | exact s_skip | exact l_nil)
  · refine ⟨.c1 .subset k, st2, a + 1, ?_, ⟨by simp [M02.forms, okN]; omega, by show k ≤ 5; omega, by simp [S.depth], by simp [S.parts]⟩, ws2, by omega⟩
    show _ = R.ok (D.tup [.str "subset", .int (k : Int)]) st2
    refine f_rt rfl ?_
    unfold L35
    refine a_seq b1 (n_nx ?_)
    repeat' (first | with_reducible exact w_c | with_reducible exact w_nil | with_reducible exact s_skip | with_reducible exact t_yes | with_reducible exact w_pn | with_reducible exact m_pure | with_reducible exact n_rt | with_reducible exact n_exc | with_reducible exact n_bk | with_reducible exact n_ct | with_reducible exact nT | with_reducible exact nF | with_reducible exact l_nil | ((with_reducible apply l_nx); exact rfl) | ((with_reducible apply w_var); exact rfl) | with_reducible apply w_rd | with_reducible apply w_kpl | with_reducible apply a_kpc | with_reducible apply w_kp | with_reducible apply w_cons | with_reducible apply w_bin | with_reducible apply w_binS | with_reducible apply w_call | with_reducible apply w_un | with_reducible apply w_fn | with_reducible apply w_fnD | with_reducible apply w_fnK | with_reducible apply w_tup | with_reducible apply w_lst | with_reducible apply w_ps | with_reducible apply w_slice | with_reducible apply t_bool | with_reducible apply t_tru | with_reducible apply a_not | with_reducible apply a_notV | with_reducible apply a_and | with_reducible apply a_or | with_reducible apply a_andV | with_reducible apply a_orV | with_reducible apply a_ifM | with_reducible apply a_it | with_reducible apply a_r1 | with_reducible apply a_r2 | with_reducible apply w_lc | with_reducible apply a_seq | with_reducible apply n_nx | with_reducible apply a_frz | with_reducible apply a_if | with_reducible apply a_set | with_reducible apply s_ret | with_reducible apply s_drop | with_reducible apply s_for | with_reducible apply a_par | with_reducible apply a_par3 | with_reducible apply a_asg | ((with_reducible apply c_T); exact rfl) | ((with_reducible apply c_F); exact rfl) | ((with_reducible apply c_TM); exact rfl) | ((with_reducible apply c_FM); exact rfl) | ((try dsimp only [RV.d, deref, List.map]); with_reducible assumption) | ((with_reducible apply eqsF); exact rfl; exact rfl; decide +kernel) | ((with_reducible apply eqsT); exact rfl; exact rfl; decide +kernel) | ((with_reducible apply inT); exact rfl; exact rfl; decide +kernel) | ((with_reducible apply inF); exact rfl; exact rfl; decide +kernel) | ((with_reducible apply ninT); exact rfl; exact rfl; decide +kernel) | ((with_reducible apply ninF); exact rfl; exact rfl; decide +kernel) | exact @rfl (Option RV) _ | exact @rfl (Option SV) _ | exact @rfl (Option D) _ | exact @rfl (Option (List D)) _ | exact @rfl (Option Bool) _ | exact @rfl (Option Env') _ | assumption | exact Nat.le_of_ble_eq_true rfl | exact s_skip | exact l_nil)
  · refine ⟨.c1 .bag k4, st3, a + 1, ?_, ⟨by simp [M02.forms, okN]; omega, by show k4 ≤ 5; omega, by simp [S.depth], by simp [S.parts]⟩, ws3, by omega⟩
    show _ = R.ok (D.tup [.str "bag", .int (k4 : Int)]) st3
    refine f_rt rfl ?_
    unfold L35
    refine a_seq b1 (n_nx ?_)
    repeat' (first | with_reducible exact w_c | with_reducible exact w_nil | with_reducible exact s_skip | with_reducible exact t_yes | with_reducible exact w_pn | with_reducible exact m_pure | with_reducible exact n_rt | with_reducible exact n_exc | with_reducible exact n_bk | with_reducible exact n_ct | with_reducible exact nT | with_reducible exact nF | with_reducible exact l_nil | ((with_reducible apply l_nx); exact rfl) | ((with_reducible apply w_var); exact rfl) | with_reducible apply w_rd | with_reducible apply w_kpl | with_reducible apply a_kpc | with_reducible apply w_kp | with_reducible apply w_cons | with_reducible apply w_bin | with_reducible apply w_binS | with_reducible apply w_call | with_reducible apply w_un | with_reducible apply w_fn | with_reducible apply w_fnD | with_reducible apply w_fnK | with_reducible apply w_tup | with_reducible apply w_lst | with_reducible apply w_ps | with_reducible apply w_slice | with_reducible apply t_bool | with_reducible apply t_tru | with_reducible apply a_not | with_reducible apply a_notV | with_reducible apply a_and | with_reducible apply a_or | with_reducible apply a_andV | with_reducible apply a_orV | with_reducible apply a_ifM | with_reducible apply a_it | with_reducible apply a_r1 | with_reducible apply a_r2 | with_reducible apply w_lc | with_reducible apply a_seq | with_reducible apply n_nx | with_reducible apply a_frz | with_reducible apply a_if | with_reducible apply a_set | with_reducible apply s_ret | with_reducible apply s_drop | with_reducible apply s_for | with_reducible apply a_par | with_reducible apply a_par3 | with_reducible apply a_asg | ((with_reducible apply c_T); exact rfl) | ((with_reducible apply c_F); exact rfl) | ((with_reducible apply c_TM); exact rfl) | ((with_reducible apply c_FM); exact rfl) | ((try dsimp only [RV.d, deref, List.map]); with_reducible assumption) | ((with_reducible apply eqsF); exact rfl; exact rfl; decide +kernel) | ((with_reducible apply eqsT); exact rfl; exact rfl; decide +kernel) | ((with_reducible apply inT); exact rfl; exact rfl; decide +kernel) | ((with_reducible apply inF); exact rfl; exact rfl; decide +kernel) | ((with_reducible apply ninT); exact rfl; exact rfl; decide +kernel) | ((with_reducible apply ninF); exact rfl; exact rfl; decide +kernel) | exact @rfl (Option RV) _ | exact @rfl (Option SV) _ | exact @rfl (Option D) _ | exact @rfl (Option (List D)) _ | exact @rfl (Option Bool) _ | exact @rfl (Option Env') _ | assumption | exact Nat.le_of_ble_eq_true rfl | exact s_skip | exact l_nil)
  · by_cases hn : (n : Int) < 4
    · have e := ltT hn
      refine ⟨.c1 .rounds (1 + k2), st4, a + 1, ?_, ⟨by simp [M02.forms, okN]; omega, by show 1 + k2 ≤ 5; omega, by simp [S.depth], by simp [S.parts]⟩, ws4, by omega⟩
      show _ = R.ok (D.tup [.str "rounds", .int ((1 + k2 : Nat) : Int)]) st4
      have ek : ((1 + k2 : Nat) : Int) = 1 + (k2 : Int) := by omega
      rw [ek]
      refine f_rt rfl ?_
      unfold L35
      refine a_seq b1 (n_nx ?_)
      repeat' (first | with_reducible exact w_c | with_reducible exact w_nil | with_reducible exact s_skip | with_reducible exact t_yes | with_reducible exact w_pn | with_reducible exact m_pure | with_reducible exact n_rt | with_reducible exact n_exc | with_reducible exact n_bk | with_reducible exact n_ct | with_reducible exact nT | with_reducible exact nF | with_reducible exact l_nil | ((with_reducible apply l_nx); exact rfl) | ((with_reducible apply w_var); exact rfl) | with_reducible apply w_rd | with_reducible apply w_kpl | with_reducible apply a_kpc | with_reducible apply w_kp | with_reducible apply w_cons | with_reducible apply w_bin | with_reducible apply w_binS | with_reducible apply w_call | with_reducible apply w_un | with_reducible apply w_fn | with_reducible apply w_fnD | with_reducible apply w_fnK | with_reducible apply w_tup | with_reducible apply w_lst | with_reducible apply w_ps | with_reducible apply w_slice | with_reducible apply t_bool | with_reducible apply t_tru | with_reducible apply a_not | with_reducible apply a_notV | with_reducible apply a_and | with_reducible apply a_or | with_reducible apply a_andV | with_reducible apply a_orV | with_reducible apply a_ifM | with_reducible apply a_it | with_reducible apply a_r1 | with_reducible apply a_r2 | with_reducible apply w_lc | with_reducible apply a_seq | with_reducible apply n_nx | with_reducible apply a_frz | with_reducible apply a_if | with_reducible apply a_set | with_reducible apply s_ret | with_reducible apply s_drop | with_reducible apply s_for | with_reducible apply a_par | with_reducible apply a_par3 | with_reducible apply a_asg | ((with_reducible apply c_T); exact rfl) | ((with_reducible apply c_F); exact rfl) | ((with_reducible apply c_TM); exact rfl) | ((with_reducible apply c_FM); exact rfl) | ((try dsimp only [RV.d, deref, List.map]); with_reducible assumption) | ((with_reducible apply eqsF); exact rfl; exact rfl; decide +kernel) | ((with_reducible apply eqsT); exact rfl; exact rfl; decide +kernel) | ((with_reducible apply inT); exact rfl; exact rfl; decide +kernel) | ((with_reducible apply inF); exact rfl; exact rfl; decide +kernel) | ((with_reducible apply ninT); exact rfl; exact rfl; decide +kernel) | ((with_reducible apply ninF); exact rfl; exact rfl; decide +kernel) | exact @rfl (Option RV) _ | exact @rfl (Option SV) _ | exact @rfl (Option D) _ | exact @rfl (Option (List D)) _ | exact @rfl (Option Bool) _ | exact @rfl (Option Env') _ | assumption | exact Nat.le_of_ble_eq_true rfl | exact s_skip | exact l_nil)
    · have e := ltF hn
      refine ⟨.c1 .rounds 1, st, a, ?_, ⟨by simp [M02.forms, okN], by show 1 ≤ 5; omega, by simp [S.depth], by simp [S.parts]⟩, ws, by omega⟩
      show _ = R.ok (D.tup [.str "rounds", .int 1]) st
      refine f_rt rfl ?_
      unfold L35
      refine a_seq b1 (n_nx ?_)
      repeat' (first | with_reducible exact w_c | with_reducible exact w_nil | with_reducible exact s_skip | with_reducible exact t_yes | with_reducible exact w_pn | with_reducible exact m_pure | with_reducible exact n_rt | with_reducible exact n_exc | with_reducible exact n_bk | with_reducible exact n_ct | with_reducible exact nT | with_reducible exact nF | with_reducible exact l_nil | ((with_reducible apply l_nx); exact rfl) | ((with_reducible apply w_var); exact rfl) | with_reducible apply w_rd | with_reducible apply w_kpl | with_reducible apply a_kpc | with_reducible apply w_kp | with_reducible apply w_cons | with_reducible apply w_bin | with_reducible apply w_binS | with_reducible apply w_call | with_reducible apply w_un | with_reducible apply w_fn | with_reducible apply w_fnD | with_reducible apply w_fnK | with_reducible apply w_tup | with_reducible apply w_lst | with_reducible apply w_ps | with_reducible apply w_slice | with_reducible apply t_bool | with_reducible apply t_tru | with_reducible apply a_not | with_reducible apply a_notV | with_reducible apply a_and | with_reducible apply a_or | with_reducible apply a_andV | with_reducible apply a_orV | with_reducible apply a_ifM | with_reducible apply a_it | with_reducible apply a_r1 | with_reducible apply a_r2 | with_reducible apply w_lc | with_reducible apply a_seq | with_reducible apply n_nx | with_reducible apply a_frz | with_reducible apply a_if | with_reducible apply a_set | with_reducible apply s_ret | with_reducible apply s_drop | with_reducible apply s_for | with_reducible apply a_par | with_reducible apply a_par3 | with_reducible apply a_asg | ((with_reducible apply c_T); exact rfl) | ((with_reducible apply c_F); exact rfl) | ((with_reducible apply c_TM); exact rfl) | ((with_reducible apply c_FM); exact rfl) | ((try dsimp only [RV.d, deref, List.map]); with_reducible assumption) | ((with_reducible apply eqsF); exact rfl; exact rfl; decide +kernel) | ((with_reducible apply eqsT); exact rfl; exact rfl; decide +kernel) | ((with_reducible apply inT); exact rfl; exact rfl; decide +kernel) | ((with_reducible apply inF); exact rfl; exact rfl; decide +kernel) | ((with_reducible apply ninT); exact rfl; exact rfl; decide +kernel) | ((with_reducible apply ninF); exact rfl; exact rfl; decide +kernel) | exact @rfl (Option RV) _ | exact @rfl (Option SV) _ | exact @rfl (Option D) _ | exact @rfl (Option (List D)) _ | exact @rfl (Option Bool) _ | exact @rfl (Option Env') _ | assumption | exact Nat.le_of_ble_eq_true rfl | exact s_skip | exact l_nil)
  · have hk3 : k3 = 0 ∨ k3 = 1 ∨ k3 = 2 := by omega
    rcases hk3 with rfl | rfl | rfl
    · refine ⟨.c0 .trees, st5, a + 1, ?_, ⟨trivial, trivial, by simp [S.depth], by simp [S.parts]⟩, ws5, by omega⟩
      show _ = R.ok (D.tup [.str "trees"]) st5
      refine f_rt rfl ?_
      unfold L35
      refine a_seq b1 (n_nx ?_)
      repeat' (first | with_reducible exact w_c | with_reducible exact w_nil | with_reducible exact s_skip | with_reducible exact t_yes | with_reducible exact w_pn | with_reducible exact m_pure | with_reducible exact n_rt | with_reducible exact n_exc | with_reducible exact n_bk | with_reducible exact n_ct | with_reducible exact nT | with_reducible exact nF | with_reducible exact l_nil | ((with_reducible apply l_nx); exact rfl) | ((with_reducible apply w_var); exact rfl) | with_reducible apply w_rd | with_reducible apply w_kpl | with_reducible apply a_kpc | with_reducible apply w_kp | with_reducible apply w_cons | with_reducible apply w_bin | with_reducible apply w_binS | with_reducible apply w_call | with_reducible apply w_un | with_reducible apply w_fn | with_reducible apply w_fnD | with_reducible apply w_fnK | with_reducible apply w_tup | with_reducible apply w_lst | with_reducible apply w_ps | with_reducible apply w_slice | with_reducible apply t_bool | with_reducible apply t_tru | with_reducible apply a_not | with_reducible apply a_notV | with_reducible apply a_and | with_reducible apply a_or | with_reducible apply a_andV | with_reducible apply a_orV | with_reducible apply a_ifM | with_reducible apply a_it | with_reducible apply a_r1 | with_reducible apply a_r2 | with_reducible apply w_lc | with_reducible apply a_seq | with_reducible apply n_nx | with_reducible apply a_frz | with_reducible apply a_if | with_reducible apply a_set | with_reducible apply s_ret | with_reducible apply s_drop | with_reducible apply s_for | with_reducible apply a_par | with_reducible apply a_par3 | with_reducible apply a_asg | ((with_reducible apply c_T); exact rfl) | ((with_reducible apply c_F); exact rfl) | ((with_reducible apply c_TM); exact rfl) | ((with_reducible apply c_FM); exact rfl) | ((try dsimp only [RV.d, deref, List.map]); with_reducible assumption) | ((with_reducible apply eqsF); exact rfl; exact rfl; decide +kernel) | ((with_reducible apply eqsT); exact rfl; exact rfl; decide +kernel) | ((with_reducible apply inT); exact rfl; exact rfl; decide +kernel) | ((with_reducible apply inF); exact rfl; exact rfl; decide +kernel) | ((with_reducible apply ninT); exact rfl; exact rfl; decide +kernel) | ((with_reducible apply ninF); exact rfl; exact rfl; decide +kernel) | exact @rfl (Option RV) _ | exact @rfl (Option SV) _ | exact @rfl (Option D) _ | exact @rfl (Option (List D)) _ | exact @rfl (Option Bool) _ | exact @rfl (Option Env') _ | assumption | exact Nat.le_of_ble_eq_true rfl | exact s_skip | exact l_nil)
    · refine ⟨.c0 .rooted, st5, a + 1, ?_, ⟨trivial, trivial, by simp [S.depth], by simp [S.parts]⟩, ws5, by omega⟩
      show _ = R.ok (D.tup [.str "rooted"]) st5
      refine f_rt rfl ?_
      unfold L35
      refine a_seq b1 (n_nx ?_)
      repeat' (first | with_reducible exact w_c | with_reducible exact w_nil | with_reducible exact s_skip | with_reducible exact t_yes | with_reducible exact w_pn | with_reducible exact m_pure | with_reducible exact n_rt | with_reducible exact n_exc | with_reducible exact n_bk | with_reducible exact n_ct | with_reducible exact nT | with_reducible exact nF | with_reducible exact l_nil | ((with_reducible apply l_nx); exact rfl) | ((with_reducible apply w_var); exact rfl) | with_reducible apply w_rd | with_reducible apply w_kpl | with_reducible apply a_kpc | with_reducible apply w_kp | with_reducible apply w_cons | with_reducible apply w_bin | with_reducible apply w_binS | with_reducible apply w_call | with_reducible apply w_un | with_reducible apply w_fn | with_reducible apply w_fnD | with_reducible apply w_fnK | with_reducible apply w_tup | with_reducible apply w_lst | with_reducible apply w_ps | with_reducible apply w_slice | with_reducible apply t_bool | with_reducible apply t_tru | with_reducible apply a_not | with_reducible apply a_notV | with_reducible apply a_and | with_reducible apply a_or | with_reducible apply a_andV | with_reducible apply a_orV | with_reducible apply a_ifM | with_reducible apply a_it | with_reducible apply a_r1 | with_reducible apply a_r2 | with_reducible apply w_lc | with_reducible apply a_seq | with_reducible apply n_nx | with_reducible apply a_frz | with_reducible apply a_if | with_reducible apply a_set | with_reducible apply s_ret | with_reducible apply s_drop | with_reducible apply s_for | with_reducible apply a_par | with_reducible apply a_par3 | with_reducible apply a_asg | ((with_reducible apply c_T); exact rfl) | ((with_reducible apply c_F); exact rfl) | ((with_reducible apply c_TM); exact rfl) | ((with_reducible apply c_FM); exact rfl) | ((try dsimp only [RV.d, deref, List.map]); with_reducible assumption) | ((with_reducible apply eqsF); exact rfl; exact rfl; decide +kernel) | ((with_reducible apply eqsT); exact rfl; exact rfl; decide +kernel) | ((with_reducible apply inT); exact rfl; exact rfl; decide +kernel) | ((with_reducible apply inF); exact rfl; exact rfl; decide +kernel) | ((with_reducible apply ninT); exact rfl; exact rfl; decide +kernel) | ((with_reducible apply ninF); exact rfl; exact rfl; decide +kernel) | exact @rfl (Option RV) _ | exact @rfl (Option SV) _ | exact @rfl (Option D) _ | exact @rfl (Option (List D)) _ | exact @rfl (Option Bool) _ | exact @rfl (Option Env') _ | assumption | exact Nat.le_of_ble_eq_true rfl | exact s_skip | exact l_nil)
    · refine ⟨.c0 .none, st5, a + 1, ?_, ⟨trivial, trivial, by simp [S.depth], by simp [S.parts]⟩, ws5, by omega⟩
      show _ = R.ok (D.tup [.str "none"]) st5
      refine f_rt rfl ?_
      unfold L35
      refine a_seq b1 (n_nx ?_)
      repeat' (first | with_reducible exact w_c | with_reducible exact w_nil | with_reducible exact s_skip | with_reducible exact t_yes | with_reducible exact w_pn | with_reducible exact m_pure | with_reducible exact n_rt | with_reducible exact n_exc | with_reducible exact n_bk | with_reducible exact n_ct | with_reducible exact nT | with_reducible exact nF | with_reducible exact l_nil | ((with_reducible apply l_nx); exact rfl) | ((with_reducible apply w_var); exact rfl) | with_reducible apply w_rd | with_reducible apply w_kpl | with_reducible apply a_kpc | with_reducible apply w_kp | with_reducible apply w_cons | with_reducible apply w_bin | with_reducible apply w_binS | with_reducible apply w_call | with_reducible apply w_un | with_reducible apply w_fn | with_reducible apply w_fnD | with_reducible apply w_fnK | with_reducible apply w_tup | with_reducible apply w_lst | with_reducible apply w_ps | with_reducible apply w_slice | with_reducible apply t_bool | with_reducible apply t_tru | with_reducible apply a_not | with_reducible apply a_notV | with_reducible apply a_and | with_reducible apply a_or | with_reducible apply a_andV | with_reducible apply a_orV | with_reducible apply a_ifM | with_reducible apply a_it | with_reducible apply a_r1 | with_reducible apply a_r2 | with_reducible apply w_lc | with_reducible apply a_seq | with_reducible apply n_nx | with_reducible apply a_frz | with_reducible apply a_if | with_reducible apply a_set | with_reducible apply s_ret | with_reducible apply s_drop | with_reducible apply s_for | with_reducible apply a_par | with_reducible apply a_par3 | with_reducible apply a_asg | ((with_reducible apply c_T); exact rfl) | ((with_reducible apply c_F); exact rfl) | ((with_reducible apply c_TM); exact rfl) | ((with_reducible apply c_FM); exact rfl) | ((try dsimp only [RV.d, deref, List.map]); with_reducible assumption) | ((with_reducible apply eqsF); exact rfl; exact rfl; decide +kernel) | ((with_reducible apply eqsT); exact rfl; exact rfl; decide +kernel) | ((with_reducible apply inT); exact rfl; exact rfl; decide +kernel) | ((with_reducible apply inF); exact rfl; exact rfl; decide +kernel) | ((with_reducible apply ninT); exact rfl; exact rfl; decide +kernel) | ((with_reducible apply ninF); exact rfl; exact rfl; decide +kernel) | exact @rfl (Option RV) _ | exact @rfl (Option SV) _ | exact @rfl (Option D) _ | exact @rfl (Option (List D)) _ | exact @rfl (Option Bool) _ | exact @rfl (Option Env') _ | assumption | exact Nat.le_of_ble_eq_true rfl | exact s_skip | exact l_nil)
  · refine ⟨.c1 .bag (1 + k3), st5, a + 1, ?_, ⟨by simp [M02.forms, okN]; omega, by show 1 + k3 ≤ 5; omega, by simp [S.depth], by simp [S.parts]⟩, ws5, by omega⟩
    show _ = R.ok (D.tup [.str "bag", .int ((1 + k3 : Nat) : Int)]) st5
    have ek : ((1 + k3 : Nat) : Int) = 1 + (k3 : Int) := by omega
    rw [ek]
    refine f_rt rfl ?_
    unfold L35
    refine a_seq b1 (n_nx ?_)
    repeat' (first | with_reducible exact w_c | with_reducible exact w_nil | with_reducible exact s_skip | with_reducible exact t_yes | with_reducible exact w_pn | with_reducible exact m_pure | with_reducible exact n_rt | with_reducible exact n_exc | with_reducible exact n_bk | with_reducible exact n_ct | with_reducible exact nT | with_reducible exact nF | with_reducible exact l_nil | ((with_reducible apply l_nx); exact rfl) | ((with_reducible apply w_var); exact rfl) | with_reducible apply w_rd | with_reducible apply w_kpl | with_reducible apply a_kpc | with_reducible apply w_kp | with_reducible apply w_cons | with_reducible apply w_bin | with_reducible apply w_binS | with_reducible apply w_call | with_reducible apply w_un | with_reducible apply w_fn | with_reducible apply w_fnD | with_reducible apply w_fnK | with_reducible apply w_tup | with_reducible apply w_lst | with_reducible apply w_ps | with_reducible apply w_slice | with_reducible apply t_bool | with_reducible apply t_tru | with_reducible apply a_not | with_reducible apply a_notV | with_reducible apply a_and | with_reducible apply a_or | with_reducible apply a_andV | with_reducible apply a_orV | with_reducible apply a_ifM | with_reducible apply a_it | with_reducible apply a_r1 | with_reducible apply a_r2 | with_reducible apply w_lc | with_reducible apply a_seq | with_reducible apply n_nx | with_reducible apply a_frz | with_reducible apply a_if | with_reducible apply a_set | with_reducible apply s_ret | with_reducible apply s_drop | with_reducible apply s_for | with_reducible apply a_par | with_reducible apply a_par3 | with_reducible apply a_asg | ((with_reducible apply c_T); exact rfl) | ((with_reducible apply c_F); exact rfl) | ((with_reducible apply c_TM); exact rfl) | ((with_reducible apply c_FM); exact rfl) | ((try dsimp only [RV.d, deref, List.map]); with_reducible assumption) | ((with_reducible apply eqsF); exact rfl; exact rfl; decide +kernel) | ((with_reducible apply eqsT); exact rfl; exact rfl; decide +kernel) | ((with_reducible apply inT); exact rfl; exact rfl; decide +kernel) | ((with_reducible apply inF); exact rfl; exact rfl; decide +kernel) | ((with_reducible apply ninT); exact rfl; exact rfl; decide +kernel) | ((with_reducible apply ninF); exact rfl; exact rfl; decide +kernel) | exact @rfl (Option RV) _ | exact @rfl (Option SV) _ | exact @rfl (Option D) _ | exact @rfl (Option (List D)) _ | exact @rfl (Option Bool) _ | exact @rfl (Option Env') _ | assumption | exact Nat.le_of_ble_eq_true rfl | exact s_skip | exact l_nil)
end M02
set_option Elab.async false -- ev
set_option linter.all false -- ev
set_option maxRecDepth 100000 -- ev
set_option maxHeartbeats 4000000 -- ev
set_option autoImplicit false -- ev
/-! Drawn sorts of any depth. -/
namespace M02
open PySem Ev
def PP : Nat → Nat
  | 0 => 1
  | d + 1 => 2 * PP d + 3
def WW : Nat → Nat
  | 0 => 3
  | d + 1 => 2 * WW d + 5
theorem Dr.mono {n d p d' p' : Nat} {s : S} (h : Dr n d p s) (hd : d ≤ d') (hp : p ≤ p') : Dr n d' p' s := ⟨h.forms, h.sm, Nat.le_trans h.depth hd, Nat.le_trans h.parts hp⟩
theorem WW_pos (d : Nat) : 3 ≤ WW d := by
  induction d with
  | zero => exact Nat.le_refl _
  | succ d ih => simp only [WW]; omega
theorem PP_pos (d : Nat) : 1 ≤ PP d := by
  induction d with
  | zero => exact Nat.le_refl _
  | succ d ih => simp only [PP]; omega
theorem gsort_ok {n : Nat} (h1 : 2 ≤ n) (h2 : n ≤ 5) : ∀ (deep l : Nat) {st : Store} {a : Nat}, a + WW deep ≤ 2500 → WS st a → ∃ (s : S) (st' : Store) (a' : Nat), Q (l + 4 + deep) 35 [.cell 1, .int (n : Int), .int (deep : Int)] st = .ok s.d st' ∧ Dr n (deep + 2) (PP deep) s ∧ WS st' a' ∧ a' ≤ a + WW deep
  | 0, l, st, a, ha, ws => by
    simp only [WW] at ha ⊢
    obtain ⟨p, st1, d1, p0, p1, ws1⟩ := draw_ok (l + 1) (by omega) (show (0 : Int) < 6 by decide) (by decide) ws
    obtain ⟨s, st', a', e, h, w, la⟩ := gsort_leaf h1 h2 (l + 1) (dp := 0) (lim := 6) (by omega) ws1 rfl (.inr rfl) d1 p0 p1
    exact ⟨s, st', a', e, h.mono (by omega) (by simp [PP]), w, by omega⟩
  | deep + 1, l, st, a, ha, ws => by
    have wp := WW_pos deep
    have pp := PP_pos deep
    have hW : WW (deep + 1) = 2 * WW deep + 5 := rfl
    have hP : PP (deep + 1) = 2 * PP deep + 3 := rfl
    rw [hW] at ha ⊢
    rw [hP]
    have hg : dGt (.int ((deep + 1 : Nat) : Int)) (.int 0) = some (.per (.bl true)) := gtT (by omega)
    have es : dSub (.int ((deep + 1 : Nat) : Int)) (.int 1) = some (.per (.int (deep : Int))) := by
      show some (RV.per (.int (((deep + 1 : Nat) : Int) - 1))) = _
      have : ((deep + 1 : Nat) : Int) - 1 = (deep : Int) := by omega
      rw [this]
    obtain ⟨p, st1, d1, p0, p1, ws1⟩ := draw_ok (l + deep + 2) (by omega) (show (0 : Int) < 16 by decide) (by decide) ws
    by_cases c6 : p < 6
    · obtain ⟨s, st', a', e, h, w, la⟩ := gsort_leaf h1 h2 (l + deep + 2) (dp := ((deep + 1 : Nat) : Int)) (lim := 16) (by omega) ws1 hg (.inl rfl) d1 p0 c6
      refine ⟨s, st', a', ?_, h.mono (by omega) (by omega), w, by omega⟩
      rw [show l + 4 + (deep + 1) = l + deep + 2 + 3 by omega]
      exact e
    · have f2 := ltF (i := p) (j := 2) (by omega)
      have f4 := ltF (i := p) (j := 4) (by omega)
      have f6 := ltF c6
      have d1' : Q (l + 4 + deep) 22 [.cell 1, .int 16] st = .ok (.int p) st1 := by
        rw [show l + 4 + deep = l + deep + 2 + 2 by omega]
        exact d1
      show ∃ (s : S) (st' : Store) (a' : Nat), Q (l + 4 + deep + 1) 35 [.cell 1, .int (n : Int), .int ((deep + 1 : Nat) : Int)] st = .ok s.d st' ∧ _
      rw [u35]
      by_cases c9 : p < 9
      · have t9 := ltT c9
        obtain ⟨v2, st2, d2, q0, q1, ws2⟩ := draw_ok (l + deep + 2) (by omega) (show (0 : Int) < 2 by decide) (by decide) ws1
        obtain ⟨v3, st3, d3, r0, r1, ws3⟩ := draw_ok (l + deep + 2) (by omega) (show (0 : Int) < 4 by decide) (by decide) ws2
        obtain ⟨k, rfl⟩ : ∃ k : Nat, v3 = (k : Int) := ⟨v3.toNat, by omega⟩
        obtain ⟨x, st4, a4, e4, hs, hx, ws4, la⟩ := gsingle_ok h1 h2 (l + deep + 1) (by omega) ws3
        have d2' : Q (l + 4 + deep) 22 [.cell 1, .int 2] st1 = .ok (.int v2) st2 := by
          rw [show l + 4 + deep = l + deep + 2 + 2 by omega]
          exact d2
        have d3' : Q (l + 4 + deep) 22 [.cell 1, .int 4] st2 = .ok (.int (k : Int)) st3 := by
          rw [show l + 4 + deep = l + deep + 2 + 2 by omega]
          exact d3
        have e4' : Q (l + 4 + deep) 34 [.cell 1, .int (n : Int)] st3 = .ok x.d st4 := by
          rw [show l + 4 + deep = l + deep + 1 + 3 by omega]
          exact e4
        have hv : v2 = 0 ∨ v2 = 1 := by omega
        have dx := hx.depth
        have px := hx.parts
        rcases hv with rfl | rfl
        · refine ⟨.c2 .family k x, st4, a4, ?_, ⟨⟨by omega, hx.forms, .inr hs⟩, ⟨by omega, hx.sm⟩, by simp only [S.depth]; omega, by simp only [S.parts]; omega⟩, ws4, by omega⟩
          show _ = R.ok (D.tup [.str "family", .int (k : Int), x.d]) st4
          refine f_rt rfl ?_
          unfold L35
          repeat' (first | with_reducible exact w_c | with_reducible exact w_nil | with_reducible exact s_skip | with_reducible exact t_yes | with_reducible exact w_pn | with_reducible exact m_pure | with_reducible exact n_rt | with_reducible exact n_exc | with_reducible exact n_bk | with_reducible exact n_ct | with_reducible exact nT | with_reducible exact nF | with_reducible exact l_nil | ((with_reducible apply l_nx); exact rfl) | ((with_reducible apply w_var); exact rfl) | with_reducible apply w_rd | with_reducible apply w_kpl | with_reducible apply a_kpc | with_reducible apply w_kp | with_reducible apply w_cons | with_reducible apply w_bin | with_reducible apply w_binS | with_reducible apply w_call | with_reducible apply w_un | with_reducible apply w_fn | with_reducible apply w_fnD | with_reducible apply w_fnK | with_reducible apply w_tup | with_reducible apply w_lst | with_reducible apply w_ps | with_reducible apply w_slice | with_reducible apply t_bool | with_reducible apply t_tru | with_reducible apply a_not | with_reducible apply a_notV | with_reducible apply a_and | with_reducible apply a_or | with_reducible apply a_andV | with_reducible apply a_orV | with_reducible apply a_ifM | with_reducible apply a_it | with_reducible apply a_r1 | with_reducible apply a_r2 | with_reducible apply w_lc | with_reducible apply a_seq | with_reducible apply n_nx | with_reducible apply a_frz | with_reducible apply a_if | with_reducible apply a_set | with_reducible apply s_ret | with_reducible apply s_drop | with_reducible apply s_for | with_reducible apply a_par | with_reducible apply a_par3 | with_reducible apply a_asg | ((with_reducible apply c_T); exact rfl) | ((with_reducible apply c_F); exact rfl) | ((with_reducible apply c_TM); exact rfl) | ((with_reducible apply c_FM); exact rfl) | ((try dsimp only [RV.d, deref, List.map]); with_reducible assumption) | ((with_reducible apply eqsF); exact rfl; exact rfl; decide +kernel) | ((with_reducible apply eqsT); exact rfl; exact rfl; decide +kernel) | ((with_reducible apply inT); exact rfl; exact rfl; decide +kernel) | ((with_reducible apply inF); exact rfl; exact rfl; decide +kernel) | ((with_reducible apply ninT); exact rfl; exact rfl; decide +kernel) | ((with_reducible apply ninF); exact rfl; exact rfl; decide +kernel) | exact @rfl (Option RV) _ | exact @rfl (Option SV) _ | exact @rfl (Option D) _ | exact @rfl (Option (List D)) _ | exact @rfl (Option Bool) _ | exact @rfl (Option Env') _ | assumption | exact Nat.le_of_ble_eq_true rfl | exact s_skip | exact l_nil)
        · refine ⟨.c2 .heap k x, st4, a4, ?_, ⟨⟨by omega, hx.forms, .inr hs⟩, ⟨by omega, hx.sm⟩, by simp only [S.depth]; omega, by simp only [S.parts]; omega⟩, ws4, by omega⟩
          show _ = R.ok (D.tup [.str "heap", .int (k : Int), x.d]) st4
          refine f_rt rfl ?_
          unfold L35
          repeat' (first | with_reducible exact w_c | with_reducible exact w_nil | with_reducible exact s_skip | with_reducible exact t_yes | with_reducible exact w_pn | with_reducible exact m_pure | with_reducible exact n_rt | with_reducible exact n_exc | with_reducible exact n_bk | with_reducible exact n_ct | with_reducible exact nT | with_reducible exact nF | with_reducible exact l_nil | ((with_reducible apply l_nx); exact rfl) | ((with_reducible apply w_var); exact rfl) | with_reducible apply w_rd | with_reducible apply w_kpl | with_reducible apply a_kpc | with_reducible apply w_kp | with_reducible apply w_cons | with_reducible apply w_bin | with_reducible apply w_binS | with_reducible apply w_call | with_reducible apply w_un | with_reducible apply w_fn | with_reducible apply w_fnD | with_reducible apply w_fnK | with_reducible apply w_tup | with_reducible apply w_lst | with_reducible apply w_ps | with_reducible apply w_slice | with_reducible apply t_bool | with_reducible apply t_tru | with_reducible apply a_not | with_reducible apply a_notV | with_reducible apply a_and | with_reducible apply a_or | with_reducible apply a_andV | with_reducible apply a_orV | with_reducible apply a_ifM | with_reducible apply a_it | with_reducible apply a_r1 | with_reducible apply a_r2 | with_reducible apply w_lc | with_reducible apply a_seq | with_reducible apply n_nx | with_reducible apply a_frz | with_reducible apply a_if | with_reducible apply a_set | with_reducible apply s_ret | with_reducible apply s_drop | with_reducible apply s_for | with_reducible apply a_par | with_reducible apply a_par3 | with_reducible apply a_asg | ((with_reducible apply c_T); exact rfl) | ((with_reducible apply c_F); exact rfl) | ((with_reducible apply c_TM); exact rfl) | ((with_reducible apply c_FM); exact rfl) | ((try dsimp only [RV.d, deref, List.map]); with_reducible assumption) | ((with_reducible apply eqsF); exact rfl; exact rfl; decide +kernel) | ((with_reducible apply eqsT); exact rfl; exact rfl; decide +kernel) | ((with_reducible apply inT); exact rfl; exact rfl; decide +kernel) | ((with_reducible apply inF); exact rfl; exact rfl; decide +kernel) | ((with_reducible apply ninT); exact rfl; exact rfl; decide +kernel) | ((with_reducible apply ninF); exact rfl; exact rfl; decide +kernel) | exact @rfl (Option RV) _ | exact @rfl (Option SV) _ | exact @rfl (Option D) _ | exact @rfl (Option (List D)) _ | exact @rfl (Option Bool) _ | exact @rfl (Option Env') _ | assumption | exact Nat.le_of_ble_eq_true rfl | exact s_skip | exact l_nil)
      · have f9 := ltF c9
        by_cases c11 : p < 11
        · have t11 := ltT c11
          obtain ⟨v3, st3, d3, r0, r1, ws3⟩ := draw_ok (l + deep + 2) (by omega) (show (0 : Int) < 4 by decide) (by decide) ws1
          obtain ⟨k, rfl⟩ : ∃ k : Nat, v3 = (k : Int) := ⟨v3.toNat, by omega⟩
          obtain ⟨x, st4, a4, e4, hx, ws4, la⟩ := gsort_ok h1 h2 deep l (by omega) ws3
          have d3' : Q (l + 4 + deep) 22 [.cell 1, .int 4] st1 = .ok (.int (k : Int)) st3 := by
            rw [show l + 4 + deep = l + deep + 2 + 2 by omega]
            exact d3
          have dx := hx.depth
          have px := hx.parts
          refine ⟨.c2 .list k x, st4, a4, ?_, ⟨⟨by omega, hx.forms, .inl rfl⟩, ⟨by omega, hx.sm⟩, by simp only [S.depth]; omega, by simp only [S.parts]; omega⟩, ws4, by omega⟩
          show _ = R.ok (D.tup [.str "list", .int (k : Int), x.d]) st4
          refine f_rt rfl ?_
          unfold L35
          repeat' (first | with_reducible exact w_c | with_reducible exact w_nil | with_reducible exact s_skip | with_reducible exact t_yes | with_reducible exact w_pn | with_reducible exact m_pure | with_reducible exact n_rt | with_reducible exact n_exc | with_reducible exact n_bk | with_reducible exact n_ct | with_reducible exact nT | with_reducible exact nF | with_reducible exact l_nil | ((with_reducible apply l_nx); exact rfl) | ((with_reducible apply w_var); exact rfl) | with_reducible apply w_rd | with_reducible apply w_kpl | with_reducible apply a_kpc | with_reducible apply w_kp | with_reducible apply w_cons | with_reducible apply w_bin | with_reducible apply w_binS | with_reducible apply w_call | with_reducible apply w_un | with_reducible apply w_fn | with_reducible apply w_fnD | with_reducible apply w_fnK | with_reducible apply w_tup | with_reducible apply w_lst | with_reducible apply w_ps | with_reducible apply w_slice | with_reducible apply t_bool | with_reducible apply t_tru | with_reducible apply a_not | with_reducible apply a_notV | with_reducible apply a_and | with_reducible apply a_or | with_reducible apply a_andV | with_reducible apply a_orV | with_reducible apply a_ifM | with_reducible apply a_it | with_reducible apply a_r1 | with_reducible apply a_r2 | with_reducible apply w_lc | with_reducible apply a_seq | with_reducible apply n_nx | with_reducible apply a_frz | with_reducible apply a_if | with_reducible apply a_set | with_reducible apply s_ret | with_reducible apply s_drop | with_reducible apply s_for | with_reducible apply a_par | with_reducible apply a_par3 | with_reducible apply a_asg | ((with_reducible apply c_T); exact rfl) | ((with_reducible apply c_F); exact rfl) | ((with_reducible apply c_TM); exact rfl) | ((with_reducible apply c_FM); exact rfl) | ((try dsimp only [RV.d, deref, List.map]); with_reducible assumption) | ((with_reducible apply eqsF); exact rfl; exact rfl; decide +kernel) | ((with_reducible apply eqsT); exact rfl; exact rfl; decide +kernel) | ((with_reducible apply inT); exact rfl; exact rfl; decide +kernel) | ((with_reducible apply inF); exact rfl; exact rfl; decide +kernel) | ((with_reducible apply ninT); exact rfl; exact rfl; decide +kernel) | ((with_reducible apply ninF); exact rfl; exact rfl; decide +kernel) | exact @rfl (Option RV) _ | exact @rfl (Option SV) _ | exact @rfl (Option D) _ | exact @rfl (Option (List D)) _ | exact @rfl (Option Bool) _ | exact @rfl (Option Env') _ | assumption | exact Nat.le_of_ble_eq_true rfl | exact s_skip | exact l_nil)
        · have f11 := ltF c11
          obtain ⟨x, st2, a2, e2, hx, ws2, la⟩ := gsort_ok h1 h2 deep l (by omega) ws1
          obtain ⟨y, st3, a3, e3, hy, ws3, lb⟩ := gsort_ok h1 h2 deep l (by omega) ws2
          have dx := hx.depth
          have px := hx.parts
          have dy := hy.depth
          have py := hy.parts
          by_cases c14 : p < 14
          · have t14 := ltT c14
            refine ⟨.c3 .pair x y, st3, a3, ?_, ⟨⟨hx.forms, hy.forms⟩, ⟨hx.sm, hy.sm⟩, by simp only [S.depth]; omega, by simp only [S.parts]; omega⟩, ws3, by omega⟩
            show _ = R.ok (D.tup [.str "pair", x.d, y.d]) st3
            refine f_rt rfl ?_
            unfold L35
            repeat' (first | with_reducible exact w_c | with_reducible exact w_nil | with_reducible exact s_skip | with_reducible exact t_yes | with_reducible exact w_pn | with_reducible exact m_pure | with_reducible exact n_rt | with_reducible exact n_exc | with_reducible exact n_bk | with_reducible exact n_ct | with_reducible exact nT | with_reducible exact nF | with_reducible exact l_nil | ((with_reducible apply l_nx); exact rfl) | ((with_reducible apply w_var); exact rfl) | with_reducible apply w_rd | with_reducible apply w_kpl | with_reducible apply a_kpc | with_reducible apply w_kp | with_reducible apply w_cons | with_reducible apply w_bin | with_reducible apply w_binS | with_reducible apply w_call | with_reducible apply w_un | with_reducible apply w_fn | with_reducible apply w_fnD | with_reducible apply w_fnK | with_reducible apply w_tup | with_reducible apply w_lst | with_reducible apply w_ps | with_reducible apply w_slice | with_reducible apply t_bool | with_reducible apply t_tru | with_reducible apply a_not | with_reducible apply a_notV | with_reducible apply a_and | with_reducible apply a_or | with_reducible apply a_andV | with_reducible apply a_orV | with_reducible apply a_ifM | with_reducible apply a_it | with_reducible apply a_r1 | with_reducible apply a_r2 | with_reducible apply w_lc | with_reducible apply a_seq | with_reducible apply n_nx | with_reducible apply a_frz | with_reducible apply a_if | with_reducible apply a_set | with_reducible apply s_ret | with_reducible apply s_drop | with_reducible apply s_for | with_reducible apply a_par | with_reducible apply a_par3 | with_reducible apply a_asg | ((with_reducible apply c_T); exact rfl) | ((with_reducible apply c_F); exact rfl) | ((with_reducible apply c_TM); exact rfl) | ((with_reducible apply c_FM); exact rfl) | ((try dsimp only [RV.d, deref, List.map]); with_reducible assumption) | ((with_reducible apply eqsF); exact rfl; exact rfl; decide +kernel) | ((with_reducible apply eqsT); exact rfl; exact rfl; decide +kernel) | ((with_reducible apply inT); exact rfl; exact rfl; decide +kernel) | ((with_reducible apply inF); exact rfl; exact rfl; decide +kernel) | ((with_reducible apply ninT); exact rfl; exact rfl; decide +kernel) | ((with_reducible apply ninF); exact rfl; exact rfl; decide +kernel) | exact @rfl (Option RV) _ | exact @rfl (Option SV) _ | exact @rfl (Option D) _ | exact @rfl (Option (List D)) _ | exact @rfl (Option Bool) _ | exact @rfl (Option Env') _ | assumption | exact Nat.le_of_ble_eq_true rfl | exact s_skip | exact l_nil)
          · have f14 := ltF c14
            refine ⟨.c3 .either x y, st3, a3, ?_, ⟨⟨hx.forms, hy.forms⟩, ⟨hx.sm, hy.sm⟩, by simp only [S.depth]; omega, by simp only [S.parts]; omega⟩, ws3, by omega⟩
            show _ = R.ok (D.tup [.str "either", x.d, y.d]) st3
            refine f_rt rfl ?_
            unfold L35
            repeat' (first | with_reducible exact w_c | with_reducible exact w_nil | with_reducible exact s_skip | with_reducible exact t_yes | with_reducible exact w_pn | with_reducible exact m_pure | with_reducible exact n_rt | with_reducible exact n_exc | with_reducible exact n_bk | with_reducible exact n_ct | with_reducible exact nT | with_reducible exact nF | with_reducible exact l_nil | ((with_reducible apply l_nx); exact rfl) | ((with_reducible apply w_var); exact rfl) | with_reducible apply w_rd | with_reducible apply w_kpl | with_reducible apply a_kpc | with_reducible apply w_kp | with_reducible apply w_cons | with_reducible apply w_bin | with_reducible apply w_binS | with_reducible apply w_call | with_reducible apply w_un | with_reducible apply w_fn | with_reducible apply w_fnD | with_reducible apply w_fnK | with_reducible apply w_tup | with_reducible apply w_lst | with_reducible apply w_ps | with_reducible apply w_slice | with_reducible apply t_bool | with_reducible apply t_tru | with_reducible apply a_not | with_reducible apply a_notV | with_reducible apply a_and | with_reducible apply a_or | with_reducible apply a_andV | with_reducible apply a_orV | with_reducible apply a_ifM | with_reducible apply a_it | with_reducible apply a_r1 | with_reducible apply a_r2 | with_reducible apply w_lc | with_reducible apply a_seq | with_reducible apply n_nx | with_reducible apply a_frz | with_reducible apply a_if | with_reducible apply a_set | with_reducible apply s_ret | with_reducible apply s_drop | with_reducible apply s_for | with_reducible apply a_par | with_reducible apply a_par3 | with_reducible apply a_asg | ((with_reducible apply c_T); exact rfl) | ((with_reducible apply c_F); exact rfl) | ((with_reducible apply c_TM); exact rfl) | ((with_reducible apply c_FM); exact rfl) | ((try dsimp only [RV.d, deref, List.map]); with_reducible assumption) | ((with_reducible apply eqsF); exact rfl; exact rfl; decide +kernel) | ((with_reducible apply eqsT); exact rfl; exact rfl; decide +kernel) | ((with_reducible apply inT); exact rfl; exact rfl; decide +kernel) | ((with_reducible apply inF); exact rfl; exact rfl; decide +kernel) | ((with_reducible apply ninT); exact rfl; exact rfl; decide +kernel) | ((with_reducible apply ninF); exact rfl; exact rfl; decide +kernel) | exact @rfl (Option RV) _ | exact @rfl (Option SV) _ | exact @rfl (Option D) _ | exact @rfl (Option (List D)) _ | exact @rfl (Option Bool) _ | exact @rfl (Option Env') _ | assumption | exact Nat.le_of_ble_eq_true rfl | exact s_skip | exact l_nil)
theorem leT {i j : Int} (h : i ≤ j) : dLe (.int i) (.int j) = some (.per (.bl true)) := by
  show some (RV.per (.bl (decide (i ≤ j)))) = _
  rw [decide_eq_true h]
theorem leF {i j : Int} (h : ¬ i ≤ j) : dLe (.int i) (.int j) = some (.per (.bl false)) := by
  show some (RV.per (.bl (decide (i ≤ j)))) = _
  rw [decide_eq_false h]
/-- a sort that the law lists -/
structure Ls (n : Nat) (s : S) : Prop where
  dr : Dr n 5 29 s
  fit : fitb (n : Int) s = true
theorem fbs : ∀ n ∈ [2, 3, 4], fitb ((n : Nat) : Int) (.c0 .one) = true ∧ fitb ((n : Nat) : Int) (.c1 .subset 2) = true ∧ fitb ((n : Nat) : Int) (.c1 .bag 2) = true ∧ fitb ((n : Nat) : Int) (.c2 .family 2 (.c1 .subset (n - 1))) = true := by decide +kernel
theorem lsort_ok {n : Nat} (hn : n ∈ [2, 3, 4]) (l : Nat) {st : Store} {a : Nat} (ha : a ≤ 2400) (ws : WS st a) : ∃ (s : S) (st' : Store) (a' : Nat), Q (l + 11) 37 [.cell 1, .int (n : Int), .int 3, .int 60] st = .ok s.d st' ∧ Ls n s ∧ WS st' a' ∧ a' ≤ a + 60 := by
  have h : n = 2 ∨ n = 3 ∨ n = 4 := by simpa using hn
  have h1 : 2 ≤ n := by omega
  have h2 : n ≤ 5 := by omega
  have fb := fbs n hn
  obtain ⟨x, st1, a1, e1, hx, ws1, la⟩ := gsort_ok h1 h2 3 (l + 3) (by simp [WW]; omega) ws
  have hW : WW 3 = 59 := rfl
  have hP : PP 3 = 29 := rfl
  rw [hW] at la
  rw [hP] at hx
  have dx := hx.depth
  have px := hx.parts
  have z := sm_szB (n := (n : Int)) (by omega) (by omega) x hx.forms hx.sm (by omega) (by omega)
  have e2 := fits_ok (n := (n : Int)) (by omega) (by omega) x (l + 10) hx.forms z (by omega) (by omega) st1
  have e3 := weight_ok (n := (n : Int)) (by omega) (by omega) x (l + 10) hx.forms (by omega) (by omega) st1
  have e1' : Q (l + 10) 35 [.cell 1, .int (n : Int), .int 3] st = .ok x.d st1 := e1
  obtain ⟨v, st2, d2, v0, v1, ws2⟩ := draw_ok (l + 8) (by omega) (show (0 : Int) < 4 by decide) (by decide) ws1
  have d2' : Q (l + 10) 22 [.cell 1, .int 4] st1 = .ok (.int v) st2 := d2
  rw [u37]
  by_cases c : fitb (n : Int) x = true ∧ mk (n : Int) x ≤ 12
  · have t12 := leT c.2
    rw [c.1] at e2
    refine ⟨x, st1, a1, ?_, ⟨hx, c.1⟩, ws1, by omega⟩
    refine f_rt rfl ?_
    unfold L37
    repeat' (first | with_reducible exact w_c | with_reducible exact w_nil | with_reducible exact s_skip | with_reducible exact t_yes | with_reducible exact w_pn | with_reducible exact m_pure | with_reducible exact n_rt | with_reducible exact n_exc | with_reducible exact n_bk | with_reducible exact n_ct | with_reducible exact nT | with_reducible exact nF | with_reducible exact l_nil | ((with_reducible apply l_nx); exact rfl) | ((with_reducible apply w_var); exact rfl) | with_reducible apply w_rd | with_reducible apply w_kpl | with_reducible apply a_kpc | with_reducible apply w_kp | with_reducible apply w_cons | with_reducible apply w_bin | with_reducible apply w_binS | with_reducible apply w_call | with_reducible apply w_un | with_reducible apply w_fn | with_reducible apply w_fnD | with_reducible apply w_fnK | with_reducible apply w_tup | with_reducible apply w_lst | with_reducible apply w_ps | with_reducible apply w_slice | with_reducible apply t_bool | with_reducible apply t_tru | with_reducible apply a_not | with_reducible apply a_notV | with_reducible apply a_and | with_reducible apply a_or | with_reducible apply a_andV | with_reducible apply a_orV | with_reducible apply a_ifM | with_reducible apply a_it | with_reducible apply a_r1 | with_reducible apply a_r2 | with_reducible apply w_lc | with_reducible apply a_seq | with_reducible apply n_nx | with_reducible apply a_frz | with_reducible apply a_if | with_reducible apply a_set | with_reducible apply s_ret | with_reducible apply s_drop | with_reducible apply s_for | with_reducible apply a_par | with_reducible apply a_par3 | with_reducible apply a_asg | ((with_reducible apply c_T); exact rfl) | ((with_reducible apply c_F); exact rfl) | ((with_reducible apply c_TM); exact rfl) | ((with_reducible apply c_FM); exact rfl) | ((try dsimp only [RV.d, deref, List.map]); with_reducible assumption) | ((with_reducible apply eqsF); exact rfl; exact rfl; decide +kernel) | ((with_reducible apply eqsT); exact rfl; exact rfl; decide +kernel) | ((with_reducible apply inT); exact rfl; exact rfl; decide +kernel) | ((with_reducible apply inF); exact rfl; exact rfl; decide +kernel) | ((with_reducible apply ninT); exact rfl; exact rfl; decide +kernel) | ((with_reducible apply ninF); exact rfl; exact rfl; decide +kernel) | exact @rfl (Option RV) _ | exact @rfl (Option SV) _ | exact @rfl (Option D) _ | exact @rfl (Option (List D)) _ | exact @rfl (Option Bool) _ | exact @rfl (Option Env') _ | assumption | exact Nat.le_of_ble_eq_true rfl | exact s_skip | exact l_nil)
  · have b1 : sFrz [0, 1, 2] (sSet 4 (sFn (Q (l + 10) 35) (sCons (kp (sVar 0)) (sCons (kp (sVar 1)) (sCons (kp (sVar 2)) sNil))))) [.val (.cell 1), .val (.int (n : Int)), .val (.int 3), .val (.int 60), .un] st = .nx [.val (.cell 1), .val (.int (n : Int)), .val (.int 3), .val (.int 60), .val x.d] st1 :=
      s_frz rfl (s_set (s := .val x.d) (w_fn (w_cons (w_kp (w_var rfl)) (w_cons (w_kp (w_var rfl)) (w_cons (w_kp (w_var rfl)) w_nil))) e1') rfl rfl)
    have b2 : sFrz [1, 4, 3] (sIfS (sAndT (sTru (sFn (Q (l + 10) 36) (sCons (kp (sVar 1)) (sCons (kp (sVar 4)) (sCons (kp (sVar 3)) sNil))))) (sBoolT (sBin dLe (rd (sFn (Q (l + 10) 33) (sCons (kp (sVar 1)) (sCons (kp (sVar 4)) sNil)))) (rd (sC (.int 12)))))) (sSeq (sFrz [4] (sRet (sVar 4))) sSkip) sSkip) [.val (.cell 1), .val (.int (n : Int)), .val (.int 3), .val (.int 60), .val x.d] st1 = .nx [.val (.cell 1), .val (.int (n : Int)), .val (.int 3), .val (.int 60), .val x.d] st1 := by
      refine s_frz rfl (s_ifF ?_ s_skip)
      cases hf : fitb (n : Int) x with
      | false =>
        rw [hf] at e2
        exact t_andF (t_tru (w_fn (w_cons (w_kp (w_var rfl)) (w_cons (w_kp (w_var rfl)) (w_cons (w_kp (w_var rfl)) w_nil))) e2) rfl)
      | true =>
        rw [hf] at e2
        have hm : ¬ mk (n : Int) x ≤ 12 := fun h => c ⟨hf, h⟩
        exact t_andT (t_tru (w_fn (w_cons (w_kp (w_var rfl)) (w_cons (w_kp (w_var rfl)) (w_cons (w_kp (w_var rfl)) w_nil))) e2) rfl) (t_bool (w_bin (w_rd (w_fn (w_cons (w_kp (w_var rfl)) (w_cons (w_kp (w_var rfl)) w_nil)) e3)) (w_rd w_c) (leF hm)))
    have sn : dSub (.int (n : Int)) (.int 1) = some (.per (.int ((n - 1 : Nat) : Int))) := by
      show some (RV.per (.int ((n : Int) - 1))) = _
      have : (n : Int) - 1 = ((n - 1 : Nat) : Int) := by omega
      rw [this]
    have hv : v = 0 ∨ v = 1 ∨ v = 2 ∨ v = 3 := by omega
    rcases hv with rfl | rfl | rfl | rfl
    · refine ⟨.c0 .one, st2, a1 + 1, ?_, ⟨⟨trivial, trivial, by simp [S.depth], by simp [S.parts]⟩, fb.1⟩, ws2, by omega⟩
      show _ = R.ok (D.tup [.str "one"]) st2
      refine f_rt rfl ?_
      unfold L37
      refine a_seq b1 (n_nx (a_seq b2 (n_nx ?_)))
      repeat' (first | with_reducible exact w_c | with_reducible exact w_nil | with_reducible exact s_skip | with_reducible exact t_yes | with_reducible exact w_pn | with_reducible exact m_pure | with_reducible exact n_rt | with_reducible exact n_exc | with_reducible exact n_bk | with_reducible exact n_ct | with_reducible exact nT | with_reducible exact nF | with_reducible exact l_nil | ((with_reducible apply l_nx); exact rfl) | ((with_reducible apply w_var); exact rfl) | with_reducible apply w_rd | with_reducible apply w_kpl | with_reducible apply a_kpc | with_reducible apply w_kp | with_reducible apply w_cons | with_reducible apply w_bin | with_reducible apply w_binS | with_reducible apply w_call | with_reducible apply w_un | with_reducible apply w_fn | with_reducible apply w_fnD | with_reducible apply w_fnK | with_reducible apply w_tup | with_reducible apply w_lst | with_reducible apply w_ps | with_reducible apply w_slice | with_reducible apply t_bool | with_reducible apply t_tru | with_reducible apply a_not | with_reducible apply a_notV | with_reducible apply a_and | with_reducible apply a_or | with_reducible apply a_andV | with_reducible apply a_orV | with_reducible apply a_ifM | with_reducible apply a_it | with_reducible apply a_r1 | with_reducible apply a_r2 | with_reducible apply w_lc | with_reducible apply a_seq | with_reducible apply n_nx | with_reducible apply a_frz | with_reducible apply a_if | with_reducible apply a_set | with_reducible apply s_ret | with_reducible apply s_drop | with_reducible apply s_for | with_reducible apply a_par | with_reducible apply a_par3 | with_reducible apply a_asg | ((with_reducible apply c_T); exact rfl) | ((with_reducible apply c_F); exact rfl) | ((with_reducible apply c_TM); exact rfl) | ((with_reducible apply c_FM); exact rfl) | ((try dsimp only [RV.d, deref, List.map]); with_reducible assumption) | ((with_reducible apply eqsF); exact rfl; exact rfl; decide +kernel) | ((with_reducible apply eqsT); exact rfl; exact rfl; decide +kernel) | ((with_reducible apply inT); exact rfl; exact rfl; decide +kernel) | ((with_reducible apply inF); exact rfl; exact rfl; decide +kernel) | ((with_reducible apply ninT); exact rfl; exact rfl; decide +kernel) | ((with_reducible apply ninF); exact rfl; exact rfl; decide +kernel) | exact @rfl (Option RV) _ | exact @rfl (Option SV) _ | exact @rfl (Option D) _ | exact @rfl (Option (List D)) _ | exact @rfl (Option Bool) _ | exact @rfl (Option Env') _ | assumption | exact Nat.le_of_ble_eq_true rfl | exact s_skip | exact l_nil)
    · refine ⟨.c1 .subset 2, st2, a1 + 1, ?_, ⟨⟨by simp [M02.forms, okN], by show 2 ≤ 5; omega, by simp [S.depth], by simp [S.parts]⟩, fb.2.1⟩, ws2, by omega⟩
      show _ = R.ok (D.tup [.str "subset", .int 2]) st2
      refine f_rt rfl ?_
      unfold L37
      refine a_seq b1 (n_nx (a_seq b2 (n_nx ?_)))
      repeat' (first | with_reducible exact w_c | with_reducible exact w_nil | with_reducible exact s_skip | with_reducible exact t_yes | with_reducible exact w_pn | with_reducible exact m_pure | with_reducible exact n_rt | with_reducible exact n_exc | with_reducible exact n_bk | with_reducible exact n_ct | with_reducible exact nT | with_reducible exact nF | with_reducible exact l_nil | ((with_reducible apply l_nx); exact rfl) | ((with_reducible apply w_var); exact rfl) | with_reducible apply w_rd | with_reducible apply w_kpl | with_reducible apply a_kpc | with_reducible apply w_kp | with_reducible apply w_cons | with_reducible apply w_bin | with_reducible apply w_binS | with_reducible apply w_call | with_reducible apply w_un | with_reducible apply w_fn | with_reducible apply w_fnD | with_reducible apply w_fnK | with_reducible apply w_tup | with_reducible apply w_lst | with_reducible apply w_ps | with_reducible apply w_slice | with_reducible apply t_bool | with_reducible apply t_tru | with_reducible apply a_not | with_reducible apply a_notV | with_reducible apply a_and | with_reducible apply a_or | with_reducible apply a_andV | with_reducible apply a_orV | with_reducible apply a_ifM | with_reducible apply a_it | with_reducible apply a_r1 | with_reducible apply a_r2 | with_reducible apply w_lc | with_reducible apply a_seq | with_reducible apply n_nx | with_reducible apply a_frz | with_reducible apply a_if | with_reducible apply a_set | with_reducible apply s_ret | with_reducible apply s_drop | with_reducible apply s_for | with_reducible apply a_par | with_reducible apply a_par3 | with_reducible apply a_asg | ((with_reducible apply c_T); exact rfl) | ((with_reducible apply c_F); exact rfl) | ((with_reducible apply c_TM); exact rfl) | ((with_reducible apply c_FM); exact rfl) | ((try dsimp only [RV.d, deref, List.map]); with_reducible assumption) | ((with_reducible apply eqsF); exact rfl; exact rfl; decide +kernel) | ((with_reducible apply eqsT); exact rfl; exact rfl; decide +kernel) | ((with_reducible apply inT); exact rfl; exact rfl; decide +kernel) | ((with_reducible apply inF); exact rfl; exact rfl; decide +kernel) | ((with_reducible apply ninT); exact rfl; exact rfl; decide +kernel) | ((with_reducible apply ninF); exact rfl; exact rfl; decide +kernel) | exact @rfl (Option RV) _ | exact @rfl (Option SV) _ | exact @rfl (Option D) _ | exact @rfl (Option (List D)) _ | exact @rfl (Option Bool) _ | exact @rfl (Option Env') _ | assumption | exact Nat.le_of_ble_eq_true rfl | exact s_skip | exact l_nil)
    · refine ⟨.c1 .bag 2, st2, a1 + 1, ?_, ⟨⟨by simp [M02.forms, okN], by show 2 ≤ 5; omega, by simp [S.depth], by simp [S.parts]⟩, fb.2.2.1⟩, ws2, by omega⟩
      show _ = R.ok (D.tup [.str "bag", .int 2]) st2
      refine f_rt rfl ?_
      unfold L37
      refine a_seq b1 (n_nx (a_seq b2 (n_nx ?_)))
      repeat' (first | with_reducible exact w_c | with_reducible exact w_nil | with_reducible exact s_skip | with_reducible exact t_yes | with_reducible exact w_pn | with_reducible exact m_pure | with_reducible exact n_rt | with_reducible exact n_exc | with_reducible exact n_bk | with_reducible exact n_ct | with_reducible exact nT | with_reducible exact nF | with_reducible exact l_nil | ((with_reducible apply l_nx); exact rfl) | ((with_reducible apply w_var); exact rfl) | with_reducible apply w_rd | with_reducible apply w_kpl | with_reducible apply a_kpc | with_reducible apply w_kp | with_reducible apply w_cons | with_reducible apply w_bin | with_reducible apply w_binS | with_reducible apply w_call | with_reducible apply w_un | with_reducible apply w_fn | with_reducible apply w_fnD | with_reducible apply w_fnK | with_reducible apply w_tup | with_reducible apply w_lst | with_reducible apply w_ps | with_reducible apply w_slice | with_reducible apply t_bool | with_reducible apply t_tru | with_reducible apply a_not | with_reducible apply a_notV | with_reducible apply a_and | with_reducible apply a_or | with_reducible apply a_andV | with_reducible apply a_orV | with_reducible apply a_ifM | with_reducible apply a_it | with_reducible apply a_r1 | with_reducible apply a_r2 | with_reducible apply w_lc | with_reducible apply a_seq | with_reducible apply n_nx | with_reducible apply a_frz | with_reducible apply a_if | with_reducible apply a_set | with_reducible apply s_ret | with_reducible apply s_drop | with_reducible apply s_for | with_reducible apply a_par | with_reducible apply a_par3 | with_reducible apply a_asg | ((with_reducible apply c_T); exact rfl) | ((with_reducible apply c_F); exact rfl) | ((with_reducible apply c_TM); exact rfl) | ((with_reducible apply c_FM); exact rfl) | ((try dsimp only [RV.d, deref, List.map]); with_reducible assumption) | ((with_reducible apply eqsF); exact rfl; exact rfl; decide +kernel) | ((with_reducible apply eqsT); exact rfl; exact rfl; decide +kernel) | ((with_reducible apply inT); exact rfl; exact rfl; decide +kernel) | ((with_reducible apply inF); exact rfl; exact rfl; decide +kernel) | ((with_reducible apply ninT); exact rfl; exact rfl; decide +kernel) | ((with_reducible apply ninF); exact rfl; exact rfl; decide +kernel) | exact @rfl (Option RV) _ | exact @rfl (Option SV) _ | exact @rfl (Option D) _ | exact @rfl (Option (List D)) _ | exact @rfl (Option Bool) _ | exact @rfl (Option Env') _ | assumption | exact Nat.le_of_ble_eq_true rfl | exact s_skip | exact l_nil)
    · refine ⟨.c2 .family 2 (.c1 .subset (n - 1)), st2, a1 + 1, ?_, ⟨⟨⟨by omega, by simp [M02.forms, okN]; omega, .inr rfl⟩, ⟨by omega, by show n - 1 ≤ 5; omega⟩, by simp [S.depth], by simp [S.parts]⟩, fb.2.2.2⟩, ws2, by omega⟩
      show _ = R.ok (D.tup [.str "family", .int 2, .tup [.str "subset", .int ((n - 1 : Nat) : Int)]]) st2
      refine f_rt rfl ?_
      unfold L37
      refine a_seq b1 (n_nx (a_seq b2 (n_nx ?_)))
      repeat' (first | with_reducible exact w_c | with_reducible exact w_nil | with_reducible exact s_skip | with_reducible exact t_yes | with_reducible exact w_pn | with_reducible exact m_pure | with_reducible exact n_rt | with_reducible exact n_exc | with_reducible exact n_bk | with_reducible exact n_ct | with_reducible exact nT | with_reducible exact nF | with_reducible exact l_nil | ((with_reducible apply l_nx); exact rfl) | ((with_reducible apply w_var); exact rfl) | with_reducible apply w_rd | with_reducible apply w_kpl | with_reducible apply a_kpc | with_reducible apply w_kp | with_reducible apply w_cons | with_reducible apply w_bin | with_reducible apply w_binS | with_reducible apply w_call | with_reducible apply w_un | with_reducible apply w_fn | with_reducible apply w_fnD | with_reducible apply w_fnK | with_reducible apply w_tup | with_reducible apply w_lst | with_reducible apply w_ps | with_reducible apply w_slice | with_reducible apply t_bool | with_reducible apply t_tru | with_reducible apply a_not | with_reducible apply a_notV | with_reducible apply a_and | with_reducible apply a_or | with_reducible apply a_andV | with_reducible apply a_orV | with_reducible apply a_ifM | with_reducible apply a_it | with_reducible apply a_r1 | with_reducible apply a_r2 | with_reducible apply w_lc | with_reducible apply a_seq | with_reducible apply n_nx | with_reducible apply a_frz | with_reducible apply a_if | with_reducible apply a_set | with_reducible apply s_ret | with_reducible apply s_drop | with_reducible apply s_for | with_reducible apply a_par | with_reducible apply a_par3 | with_reducible apply a_asg | ((with_reducible apply c_T); exact rfl) | ((with_reducible apply c_F); exact rfl) | ((with_reducible apply c_TM); exact rfl) | ((with_reducible apply c_FM); exact rfl) | ((try dsimp only [RV.d, deref, List.map]); with_reducible assumption) | ((with_reducible apply eqsF); exact rfl; exact rfl; decide +kernel) | ((with_reducible apply eqsT); exact rfl; exact rfl; decide +kernel) | ((with_reducible apply inT); exact rfl; exact rfl; decide +kernel) | ((with_reducible apply inF); exact rfl; exact rfl; decide +kernel) | ((with_reducible apply ninT); exact rfl; exact rfl; decide +kernel) | ((with_reducible apply ninF); exact rfl; exact rfl; decide +kernel) | exact @rfl (Option RV) _ | exact @rfl (Option SV) _ | exact @rfl (Option D) _ | exact @rfl (Option (List D)) _ | exact @rfl (Option Bool) _ | exact @rfl (Option Env') _ | assumption | exact Nat.le_of_ble_eq_true rfl | exact s_skip | exact l_nil)
end M02
set_option Elab.async false -- ev
set_option linter.all false -- ev
set_option maxRecDepth 100000 -- ev
set_option maxHeartbeats 4000000 -- ev
set_option autoImplicit false -- ev
/-! The law. -/
namespace M02
open PySem Ev
/-! ### what is told -/
theorem told_ok {n : Int} {s : S} (h : Sort' n s) (l : Nat) (st : Store) : Q (l + 18) 45 [.int n, s.d] st = .ok (.lst [.int (cnt n s), .int (mk n s), .int (wd s), .bl s.single]) st := by
  have e1 := hm_ok h (l + 15) (by omega) st
  have e2 := mks_ok h (l + 15) (by omega) st
  have e3 := wds_ok h (l + 15) (by omega) st
  have e4 := isS_ok h (l + 15) (by omega) st
  rw [u45]
  exact f_rt rfl (s_seqR (s_frz rfl (s_ret (w_kpl (w_cons (w_kp (w_fn (w_cons (w_kp (w_var rfl)) (w_cons (w_kp (w_var rfl)) w_nil)) e1)) (w_cons (w_kp (w_fn (w_cons (w_kp (w_var rfl)) (w_cons (w_kp (w_var rfl)) w_nil)) e2)) (w_cons (w_kp (w_fn (w_cons (w_kp (w_var rfl)) (w_cons (w_kp (w_var rfl)) w_nil)) e3)) (w_cons (w_kp (w_fn (w_cons (w_kp (w_var rfl)) (w_cons (w_kp (w_var rfl)) w_nil)) e4)) w_nil)))) (by have := size_ge; simp; omega)))))
theorem lgM1920 {x : Int} (h0 : 0 ≤ x) (h : x ≤ MM) : x.natAbs.log2 < 1920 := by
  have := lg_log (lgM h0 h)
  omega
theorem told_repr {n : Int} {s : S} (h : Sort' n s) : ∃ z, dRepr [.lst [.int (cnt n s), .int (mk n s), .int (wd s), .bl s.single]] = some (.per (.str z)) := by
  have a := mk_b h.two h.five s h.forms
  have b := wd_b s h.forms
  have m := h.marks
  have w := h.wide
  have big : 10000 ≤ sizeLine := by unfold sizeLine; decide
  have bdi : ∀ x : Int, x.natAbs.log2 < 1920 → bd (.int x) ≤ 1921 := by
    intro x hx
    by_cases hq : -101 ≤ x ∧ x ≤ 101
    · simp [bd, hq]
    · simp [bd, hq, hx]
  have b1 := bdi _ (lgM1920 (cnt_nn h.two s) h.fit.le)
  have b2 := bdi (mk n s) (log_small (by omega) (by omega))
  have b3 := bdi (wd s) (log_small (by omega) (by omega))
  refine repr_lst (ds := [.int (cnt n s), .int (mk n s), .int (wd s), .bl s.single]) ?_ rfl
  have e : bd (.lst [.int (cnt n s), .int (mk n s), .int (wd s), .bl s.single]) = bd (.int (cnt n s)) + 2 + (bd (.int (mk n s)) + 2 + (bd (.int (wd s)) + 2 + (bd (.bl s.single) + 2 + 0))) + 4 := by simp only [bd, bds]
  have e2 : bd (.bl s.single) = 5 := by simp only [bd]
  omega
/-! ### the rooms -/
def subs : S → List S
  | .c0 w => [.c0 w]
  | .c1 w k => [.c1 w k]
  | .c2 w k a => .c2 w k a :: subs a
  | .c3 w a b => .c3 w a b :: (subs a ++ subs b)
def sec : D → D
  | .tup [_, y] => y
  | d => d
theorem rms_sec : ∀ (s : S) (ps : List D), (rms ps s).map sec = (subs s).map S.d
  | .c0 _, _ => rfl
  | .c1 _ _, _ => rfl
  | .c2 w k a, ps => by simp [rms, subs, sec, rms_sec a]
  | .c3 w a b, ps => by simp [rms, subs, sec, rms_sec a, rms_sec b]
theorem rms_pair : ∀ (s : S) (ps : List D), ∀ d ∈ rms ps s, ∃ p y, d = .tup [p, y]
  | .c0 _, _, d, h => ⟨_, _, by simpa [rms] using h⟩
  | .c1 _ _, _, d, h => ⟨_, _, by simpa [rms] using h⟩
  | .c2 w k a, ps, d, h => by
    rcases List.mem_cons.1 h with h | h
    · exact ⟨_, _, h⟩
    · exact rms_pair a _ d h
  | .c3 w a b, ps, d, h => by
    rcases List.mem_cons.1 h with h | h
    · exact ⟨_, _, h⟩
    · rcases List.mem_append.1 h with h | h
      · exact rms_pair a _ d h
      · exact rms_pair b _ d h
theorem subs_len : ∀ s : S, (subs s).length = s.parts
  | .c0 _ => rfl
  | .c1 _ _ => rfl
  | .c2 _ _ a => by simp [subs, S.parts, subs_len a]
  | .c3 _ a b => by simp [subs, S.parts, subs_len a, subs_len b]
theorem subs_ls {n : Nat} : ∀ s : S, Ls n s → ∀ x ∈ subs s, Ls n x
  | .c0 w, h, x, hx => by
    have : x = .c0 w := by simpa [subs] using hx
    rw [this]
    exact h
  | .c1 w k, h, x, hx => by
    have : x = .c1 w k := by simpa [subs] using hx
    rw [this]
    exact h
  | .c2 w k a, h, x, hx => by
    rcases List.mem_cons.1 hx with rfl | hx
    · exact h
    · have d := h.dr.depth
      have p := h.dr.parts
      have f := h.fit
      simp only [S.depth] at d
      simp only [S.parts] at p
      simp only [fitb, Bool.and_eq_true] at f
      exact subs_ls a ⟨⟨h.dr.forms.2.1, h.dr.sm.2, by omega, by omega⟩, f.2⟩ x hx
  | .c3 w a b, h, x, hx => by
    have d := h.dr.depth
    have p := h.dr.parts
    have f := h.fit
    simp only [S.depth] at d
    simp only [S.parts] at p
    simp only [fitb, Bool.and_eq_true] at f
    rcases List.mem_cons.1 hx with rfl | hx
    · exact h
    · rcases List.mem_append.1 hx with hx | hx
      · exact subs_ls a ⟨⟨h.dr.forms.1, h.dr.sm.1, by omega, by omega⟩, f.2.1⟩ x hx
      · exact subs_ls b ⟨⟨h.dr.forms.2, h.dr.sm.2, by omega, by omega⟩, f.2.2⟩ x hx
/-! ### the rooms without a fault -/
theorem fl_lc {n : Nat} (h1 : 2 ≤ n) (h2 : n ≤ 5) (l : Nat) (x0 x2 x3 x5 x6 x7 x8 : SV) : ∀ (L : List S) (acc : List D) (st : Store), (∀ x ∈ L, Ls n x) → acc.length + L.length ≤ 900 →
    ∃ X, sLcL (gN 4) (sBoolT (sBin dIs (rd (sFn (Q (l + 15) 44) (sCons (kp (sVar 1)) (sCons (kp (sVar 4)) sNil)))) (rd (sC .non)))) (kp (sVar 4)) [x0, .val (.int (n : Int)), x2, x3, .un, x5, x6, x7, x8] (L.map S.d) acc st = .ok (acc ++ (L.filter fun x => (fltD (n : Int) x).isN).map S.d) (st ++ X)
  | [], acc, st, _, _ => ⟨[], by simp [sLcL, M.pure]⟩
  | s :: L, acc, st, h, hl => by
    have hl : acc.length + (L.length + 1) ≤ 900 := hl
    have hs := h s (by simp)
    have sz := size_ge
    obtain ⟨X, e⟩ := fault_ok (n := (n : Int)) (by omega) (by omega) s hs.dr.forms (by have := hs.dr.depth; omega) (by have := hs.dr.parts; omega) (l + 14) (by omega) st
    have hc : sBoolT (sBin dIs (rd (sFn (Q (l + 15) 44) (sCons (kp (sVar 1)) (sCons (kp (sVar 4)) sNil)))) (rd (sC .non))) [x0, .val (.int (n : Int)), x2, x3, .val s.d, x5, x6, x7, x8] st = .ok ((fltD (n : Int) s).isN) (st ++ X) := by
      refine t_bool (w_bin (w_rd (w_fn (w_cons (w_kp (w_var rfl)) (w_cons (w_kp (w_var rfl)) w_nil)) e)) (w_rd w_c) ?_)
      have : deref (st ++ X) (fltD (n : Int) s) = fltD (n : Int) s := by
        unfold fltD
        split
        · rfl
        · split
          · rfl
          · split <;> rfl
      show dIs (deref (st ++ X) (fltD (n : Int) s)) .non = _
      rw [this]
      rfl
    rw [List.map_cons]
    unfold sLcL
    dsimp only [gN]
    show ∃ X, M.bind (M.ne (sBoolT (sBin dIs (rd (sFn (Q (l + 15) 44) (sCons (kp (sVar 1)) (sCons (kp (sVar 4)) sNil)))) (rd (sC .non))) [x0, .val (.int (n : Int)), x2, x3, .val s.d, x5, x6, x7, x8])) _ st = _
    rw [bok (nok hc)]
    cases hf : (fltD (n : Int) s).isN with
    | true =>
      obtain ⟨Y, e2⟩ := fl_lc h1 h2 l x0 x2 x3 x5 x6 x7 x8 L (acc ++ [s.d]) (st ++ X) (fun x hx => h x (List.mem_cons_of_mem _ hx)) (by simp; omega)
      refine ⟨X ++ Y, iteT ?_⟩
      show M.bind (M.ne (kp (sVar 4) [x0, .val (.int (n : Int)), x2, x3, .val s.d, x5, x6, x7, x8])) _ _ = _
      rw [bok (nok (w_kp (w_var (r := .per s.d) rfl)))]
      refine iteP (by omega) ?_
      rw [e2, List.filter_cons, if_pos (by simpa using hf)]
      simp
    | false =>
      obtain ⟨Y, e2⟩ := fl_lc h1 h2 l x0 x2 x3 x5 x6 x7 x8 L acc (st ++ X) (fun x hx => h x (List.mem_cons_of_mem _ hx)) (by omega)
      refine ⟨X ++ Y, iteF ?_⟩
      rw [e2, List.filter_cons, if_neg (by simp [hf])]
      simp
theorem isN_non {d : D} (h : d.isN = true) : d = .non := by cases d <;> first | rfl | exact Bool.noConfusion h
def bPart (l : Nat) : SS := (sSeq (sFrz [1, 4] (sSet 5 (sLst (sCons (kp (sCall dLen (sCons (rd (sFn (Q l 29) (sCons (kp (sVar 1)) (sCons (kp (sVar 4)) sNil)))) sNil))) (sCons (kp (sFn (Q l 33) (sCons (kp (sVar 1)) (sCons (kp (sVar 4)) sNil)))) (sCons (kp (sFn (Q l 41) (sCons (kp (sVar 4)) sNil))) (sCons (kp (sFn (Q l 39) (sCons (kp (sVar 4)) sNil))) sNil))))))) (sSeq (sFrz [1, 4] (sIfS (sBoolT (sBin dNe (rd (sCall dRepr (sCons (rd (sFn (Q l 45) (sCons (kp (sVar 1)) (sCons (kp (sVar 4)) sNil)))) sNil))) (rd (sCall dRepr (sCons (rd (sVar 5)) sNil))))) (sSeq (sRet (sC (.bl false))) sSkip) sSkip)) sSkip))
theorem part_loop {n : Nat} (hn : n ∈ [2, 3, 4]) (l : Nat) (x0 x2 x3 x6 x7 x8 : SV) (st : Store) : ∀ (L : List S) (x4 x5 : SV), (∀ x ∈ L, Ls n x ∧ (fltD (n : Int) x).isN = true) →
    ∃ y4 y5, sForL (gN 4) (bPart (l + 18)) (L.map S.d) [x0, .val (.int (n : Int)), x2, x3, x4, x5, x6, x7, x8] st = .nx [x0, .val (.int (n : Int)), x2, x3, y4, y5, x6, x7, x8] st
  | [], x4, x5, _ => ⟨x4, x5, rfl⟩
  | s :: L, x4, x5, h => by
    have hs := h s (by simp)
    have hh : n = 2 ∨ n = 3 ∨ n = 4 := by simpa using hn
    have two := size_ge
    have so := flt_none (n := (n : Int)) (by omega) (by omega) hs.1.dr.forms (by have := hs.1.dr.depth; omega) (by have := hs.1.dr.parts; omega) (isN_non hs.2)
    obtain ⟨M, hM, hl⟩ := listed_ok hn s hs.1.dr.forms hs.1.dr.sm hs.1.fit
    have dd := hs.1.dr.depth
    have e1 := hl (l + 18) (by omega) st
    have e2 := weight_ok so.two so.five s (l + 18) so.forms so.deep (by omega) st
    have e3 := wide_ok s (l + 18) so.forms so.deep (by omega) st
    have e4 := alone_ok s (l + 18) (by omega) st
    have e5 := told_ok so l st
    obtain ⟨z, e6⟩ := told_repr so
    have dl : dLen [.lst M] = some (.per (.int (cnt (n : Int) s))) := by
      rw [← hM]
      rfl
    have ez : dNe (.str z) (.str z) = some (.per (.bl false)) := by simp [dNe, yes]
    obtain ⟨y4, y5, hlp⟩ := part_loop hn l x0 x2 x3 x6 x7 x8 st L (.val s.d) (.own [.int (cnt (n : Int) s), .int (mk (n : Int) s), .int (wd s), .bl s.single]) (fun x hx => h x (List.mem_cons_of_mem _ hx))
    refine ⟨y4, y5, l_nx rfl (s_seq (s_frz rfl (s_set (s := .own [.int (cnt (n : Int) s), .int (mk (n : Int) s), .int (wd s), .bl s.single]) (w_lst (w_cons (w_kp (w_call (w_cons (w_rd (w_fn (w_cons (w_kp (w_var rfl)) (w_cons (w_kp (w_var rfl)) w_nil)) e1)) w_nil) dl)) (w_cons (w_kp (w_fn (w_cons (w_kp (w_var rfl)) (w_cons (w_kp (w_var rfl)) w_nil)) e2)) (w_cons (w_kp (w_fn (w_cons (w_kp (w_var rfl)) w_nil) e3)) (w_cons (w_kp (w_fn (w_cons (w_kp (w_var rfl)) w_nil) e4)) w_nil)))) (by simp; omega)) rfl rfl)) (s_seq (s_frz rfl (s_ifF (t_bool (w_bin (w_rd (w_call (w_cons (w_rd (w_fn (w_cons (w_kp (w_var rfl)) (w_cons (w_kp (w_var rfl)) w_nil)) e5)) w_nil) e6)) (w_rd (w_call (w_cons (w_rd (w_var rfl)) w_nil) e6)) ez)) s_skip)) s_skip)) hlp⟩
/-! ### a sort of many names -/
def some4 : List S := [.c2 .list 6 (.c1 .bag 2), .c1 .bag 12, .c2 .heap 4 (.c3 .either (.c1 .subset 2) (.c1 .subset 3)), .c1 .rounds 1]
theorem some4_ok : ∀ s ∈ some4, forms s ∧ s.depth ≤ 3 ∧ s.parts ≤ 4 := by
  intro s hs
  simp only [some4, List.mem_cons, List.not_mem_nil, or_false] at hs
  rcases hs with rfl | rfl | rfl | rfl <;> simp [forms, okN, isL, S.single, S.depth, S.parts]
theorem far_list {m : Nat} (h1 : 2 ≤ m) (h2 : m ≤ 5) {k : Nat} (k1 : 1 ≤ k) (k2 : k ≤ 12) : Sort' (m : Int) (.c2 .list k (.c0 .one)) := by
  have e : MM = 1000000000000000000000000000000 := rfl
  have p : (m : Int) ^ k ≤ MM := by
    have h3 : m ^ k ≤ 5 ^ 12 := Nat.le_trans (Nat.pow_le_pow_left h2 k) (Nat.pow_le_pow_right (by omega) k2)
    have e5 : 5 ^ 12 = 244140625 := by decide
    have e6 : ((m ^ k : Nat) : Int) = (m : Int) ^ k := by simp
    omega
  refine ⟨by omega, by omega, ⟨k2, trivial, .inl rfl⟩, by simp [S.depth], by simp [S.parts], ?_, ?_, ⟨?_, ?_⟩⟩
  · simp only [mk]
    omega
  · simp only [wd]
    omega
  · show (m : Int) ≤ MM
    omega
  · exact p
end M02
set_option Elab.async false -- ev
set_option linter.all false -- ev
set_option maxRecDepth 100000 -- ev
set_option maxHeartbeats 4000000 -- ev
set_option autoImplicit false -- ev
/-! The law, held. -/
namespace M02
open PySem Ev
def G0 (l : Nat) : SS := sFrz [0] (sSet 1 (sBin dAdd (rd (sC (.int 2))) (rd (sFn (Q (l + 19) 22) (sCons (kp (sVar 0)) (sCons (kp (sC (.int 3))) sNil))))))
def G1 (l : Nat) : SS := sFrz [0, 1] (sSet 2 (sLc (itS (kp (sFn (Q (l + 19) 43) (sCons (kp (sFn (Q (l + 19) 37) (sCons (kp (sVar 0)) (sCons (kp (sVar 1)) (sCons (kp (sC (.int 3))) (sCons (kp (sC (.int 60))) sNil)))))) (sCons (kp (sTup sNil)) sNil))))) (gN 3) sYes (kp (sBinS ixSt (rd (sVar 3)) (rd (sC (.int 1))))) [3]))
def G2 (l : Nat) : SS := sFrz [4, 2, 1] (sFor (itS (kp (sLc (itS (kp (sVar 2))) (gN 4) (sBoolT (sBin dIs (rd (sFn (Q (l + 19) 44) (sCons (kp (sVar 1)) (sCons (kp (sVar 4)) sNil)))) (rd (sC .non)))) (kp (sVar 4)) [4]))) (gN 4) (sSeq (sFrz [1, 4] (sSet 5 (sLst (sCons (kp (sCall dLen (sCons (rd (sFn (Q (l + 19) 29) (sCons (kp (sVar 1)) (sCons (kp (sVar 4)) sNil)))) sNil))) (sCons (kp (sFn (Q (l + 19) 33) (sCons (kp (sVar 1)) (sCons (kp (sVar 4)) sNil)))) (sCons (kp (sFn (Q (l + 19) 41) (sCons (kp (sVar 4)) sNil))) (sCons (kp (sFn (Q (l + 19) 39) (sCons (kp (sVar 4)) sNil))) sNil))))))) (sSeq (sFrz [1, 4] (sIfS (sBoolT (sBin dNe (rd (sCall dRepr (sCons (rd (sFn (Q (l + 19) 45) (sCons (kp (sVar 1)) (sCons (kp (sVar 4)) sNil)))) sNil))) (rd (sCall dRepr (sCons (rd (sVar 5)) sNil))))) (sSeq (sRet (sC (.bl false))) sSkip) sSkip)) sSkip)))
def G3 (l : Nat) : SS := sFrz [0] (sSet 6 (sBin dAdd (rd (sC (.int 2))) (rd (sFn (Q (l + 19) 22) (sCons (kp (sVar 0)) (sCons (kp (sC (.int 4))) sNil))))))
def G4 (l : Nat) : SS := sSet 7 (sLst (sCons (kp (sTup (sCons (kp (sC (.str "list"))) (sCons (kp (sC (.int 6))) (sCons (kp (sTup (sCons (kp (sC (.str "bag"))) (sCons (kp (sC (.int 2))) sNil)))) sNil))))) (sCons (kp (sTup (sCons (kp (sC (.str "bag"))) (sCons (kp (sC (.int 12))) sNil)))) (sCons (kp (sTup (sCons (kp (sC (.str "heap"))) (sCons (kp (sC (.int 4))) (sCons (kp (sTup (sCons (kp (sC (.str "either"))) (sCons (kp (sTup (sCons (kp (sC (.str "subset"))) (sCons (kp (sC (.int 2))) sNil)))) (sCons (kp (sTup (sCons (kp (sC (.str "subset"))) (sCons (kp (sC (.int 3))) sNil)))) sNil))))) sNil))))) (sCons (kp (sTup (sCons (kp (sC (.str "rounds"))) (sCons (kp (sC (.int 1))) sNil)))) sNil)))))
def G5 (l : Nat) : SS := sFrz [0, 6, 7] (sSet 8 (sFn (Q (l + 19) 23) (sCons (kp (sVar 0)) (sCons (kp (sLst (sCons (kp (sFn (Q (l + 19) 35) (sCons (kp (sVar 0)) (sCons (kp (sVar 6)) (sCons (kp (sC (.int 3))) sNil))))) (sCons (kp (sTup (sCons (kp (sC (.str "pair"))) (sCons (kp (sFn (Q (l + 19) 23) (sCons (kp (sVar 0)) (sCons (kp (sVar 7)) sNil)))) (sCons (kp (sTup (sCons (kp (sC (.str "either"))) (sCons (kp (sTup (sCons (kp (sC (.str "none"))) sNil))) (sCons (kp (sTup (sCons (kp (sC (.str "subset"))) (sCons (kp (sC (.int 0))) sNil)))) sNil))))) sNil))))) sNil)))) sNil))))
def G6 (l : Nat) : SS := sFrz [6, 8] (sIfS (sBoolT (sBin dIsNot (rd (sFn (Q (l + 19) 44) (sCons (kp (sVar 6)) (sCons (kp (sVar 8)) sNil)))) (rd (sC .non)))) (sSeq (sFrz [0] (sSet 8 (sTup (sCons (kp (sC (.str "list"))) (sCons (kp (sBin dAdd (rd (sC (.int 1))) (rd (sFn (Q (l + 19) 22) (sCons (kp (sVar 0)) (sCons (kp (sC (.int 12))) sNil)))))) (sCons (kp (sTup (sCons (kp (sC (.str "one"))) sNil))) sNil)))))) sSkip) sSkip)
def G7 (l : Nat) : SS := sFrz [6, 8] (sRet (sBin dEq (rd (sCall dRepr (sCons (rd (sFn (Q (l + 19) 45) (sCons (kp (sVar 6)) (sCons (kp (sVar 8)) sNil)))) sNil))) (rd (sCall dRepr (sCons (rd (sLst (sCons (kp (sFn (Q (l + 19) 32) (sCons (kp (sVar 6)) (sCons (kp (sVar 8)) sNil)))) (sCons (kp (sFn (Q (l + 19) 33) (sCons (kp (sVar 6)) (sCons (kp (sVar 8)) sNil)))) (sCons (kp (sFn (Q (l + 19) 41) (sCons (kp (sVar 8)) sNil))) (sCons (kp (sFn (Q (l + 19) 39) (sCons (kp (sVar 8)) sNil))) sNil)))))) sNil)))))
theorem L46_eq (l : Nat) : L46 (Q (l + 19)) = sSeq (G0 l) (sSeq (G1 l) (sSeq (G2 l) (sSeq (G3 l) (sSeq (G4 l) (sSeq (G5 l) (sSeq (G6 l) (sSeq (G7 l) (sSkip)))))))) := rfl
def T0 (l : Nat) : SS := sIfS (sBoolT (sBin dNe (rd (sLst (sCons (kp (sFn (Q (l + 20) 19) (sCons (kp (sC (.int 5))) (sCons (kp (sTup (sCons (kp (sC (.str "trees"))) sNil))) sNil)))) (sCons (kp (sFn (Q (l + 20) 19) (sCons (kp (sC (.int 5))) (sCons (kp (sTup (sCons (kp (sC (.str "rooted"))) sNil))) sNil)))) (sCons (kp (sFn (Q (l + 20) 19) (sCons (kp (sC (.int 5))) (sCons (kp (sTup (sCons (kp (sC (.str "rounds"))) (sCons (kp (sC (.int 1))) sNil)))) sNil)))) (sCons (kp (sFn (Q (l + 20) 19) (sCons (kp (sC (.int 2))) (sCons (kp (sTup (sCons (kp (sC (.str "rounds"))) (sCons (kp (sC (.int 2))) sNil)))) sNil)))) sNil)))))) (rd (sLst (sCons (kp (sC (.int 125))) (sCons (kp (sC (.int 625))) (sCons (kp (sC (.int 1024))) (sCons (kp (sC (.int 4))) sNil)))))))) (sSeq (sRet (sC (.bl false))) sSkip) sSkip
def T1 (l : Nat) : SS := sIfS (sBoolT (sBin dNe (rd (sLc (itS (kp (sTup (sCons (kp (sC (.str "list"))) (sCons (kp (sC (.str "family"))) (sCons (kp (sC (.str "heap"))) sNil)))))) (gN 1) sYes (kp (sFn (Q (l + 20) 19) (sCons (kp (sC (.int 3))) (sCons (kp (sTup (sCons (kp (sVar 1)) (sCons (kp (sC (.int 0))) (sCons (kp (sTup (sCons (kp (sC (.str "none"))) sNil))) sNil))))) sNil)))) [1])) (rd (sLst (sCons (kp (sC (.int 1))) (sCons (kp (sC (.int 1))) (sCons (kp (sC (.int 1))) sNil))))))) (sSeq (sRet (sC (.bl false))) sSkip) sSkip
def T2 (l : Nat) : SS := sIfS (sOrT (sBoolT (sBin dNe (rd (sFn (Q (l + 20) 12) (sCons (kp (sC (.int 3))) (sCons (kp (sTup (sCons (kp (sC (.str "pair"))) (sCons (kp (sTup (sCons (kp (sC (.str "rounds"))) (sCons (kp (sC (.int 1))) sNil)))) (sCons (kp (sTup (sCons (kp (sC (.str "subset"))) (sCons (kp (sC (.int 2))) sNil)))) sNil))))) sNil)))) (rd (sC (.int 5))))) (sBoolT (sBin dNe (rd (sFn (Q (l + 20) 14) (sCons (kp (sC (.int 4))) (sCons (kp (sTup (sCons (kp (sC (.str "heap"))) (sCons (kp (sC (.int 3))) (sCons (kp (sTup (sCons (kp (sC (.str "either"))) (sCons (kp (sTup (sCons (kp (sC (.str "one"))) sNil))) (sCons (kp (sTup (sCons (kp (sC (.str "one"))) sNil))) sNil))))) sNil))))) sNil)))) (rd (sC (.int 3)))))) (sSeq (sRet (sC (.bl false))) sSkip) sSkip
def T3 (l : Nat) : SS := sFrz [0] (sSet 2 (sFn (Q (l + 20) 21) (sCons (kp (sVar 0)) sNil)))
def T4 (l : Nat) : SS := sFor (itR1 (sCons (kp (sBin dAdd (rd (sC (.int 2))) (rd (sCall dMin (sCons (rd (sCall dLen (sCons (rd (sVar 0)) sNil))) (sCons (rd (sC (.int 2))) sNil)))))) sNil)) (gN 3) (sSeq (sFrz [2] (sIfS (sNotT (sTru (sFn (Q (l + 20) 46) (sCons (kp (sVar 2)) sNil)))) (sSeq (sRet (sC (.bl false))) sSkip) sSkip)) sSkip)
def T5 (l : Nat) : SS := sRet (sC (.bl true))
theorem L47_eq (l : Nat) : L47 (Q (l + 20)) = sSeq (T0 l) (sSeq (T1 l) (sSeq (T2 l) (sSeq (T3 l) (sSeq (T4 l) (sSeq (T5 l) (sSkip)))))) := rfl
theorem add2 {v : Int} {n : Nat} (h : 2 + v = (n : Int)) : dAdd (.int 2) (.int v) = some (.per (.int (n : Int))) := by
  rw [← h]
  rfl
theorem some4_lc (st : Store) (ρ : Env') : sSet 7 (sLst (sCons (kp (sTup (sCons (kp (sC (.str "list"))) (sCons (kp (sC (.int 6))) (sCons (kp (sTup (sCons (kp (sC (.str "bag"))) (sCons (kp (sC (.int 2))) sNil)))) sNil))))) (sCons (kp (sTup (sCons (kp (sC (.str "bag"))) (sCons (kp (sC (.int 12))) sNil)))) (sCons (kp (sTup (sCons (kp (sC (.str "heap"))) (sCons (kp (sC (.int 4))) (sCons (kp (sTup (sCons (kp (sC (.str "either"))) (sCons (kp (sTup (sCons (kp (sC (.str "subset"))) (sCons (kp (sC (.int 2))) sNil)))) (sCons (kp (sTup (sCons (kp (sC (.str "subset"))) (sCons (kp (sC (.int 3))) sNil)))) sNil))))) sNil))))) (sCons (kp (sTup (sCons (kp (sC (.str "rounds"))) (sCons (kp (sC (.int 1))) sNil)))) sNil))))) ρ st = .nx (ρ.set 7 (.own (some4.map S.d))) st := by kernel_rfl
theorem final_ok {m : Nat} {s : S} (h : Sort' (m : Int) s) (l : Nat) (x0 x1 x2 x3 x4 x5 x7 : SV) (st : Store) : G7 l [x0, x1, x2, x3, x4, x5, .val (.int (m : Int)), x7, .val s.d] st = .rt (.bl true) st := by
  have two := size_ge
  have e1 := told_ok h (l + 1) st
  obtain ⟨z, e2⟩ := told_repr h
  have dp := h.deep
  have f1 := size_ok h.two h.five s (l + 19) h.forms (szB_of_fit h.two s h.fit) h.parts (by omega) st
  have f2 := weight_ok h.two h.five s (l + 19) h.forms h.deep (by omega) st
  have f3 := wide_ok s (l + 19) h.forms h.deep (by omega) st
  have f4 := alone_ok s (l + 19) (by omega) st
  have ez : dEq (.str z) (.str z) = some (.per (.bl true)) := by simp [dEq, yes]
  exact s_frz rfl (s_ret (w_kp (w_bin (w_rd (w_call (w_cons (w_rd (w_fn (w_cons (w_kp (w_var rfl)) (w_cons (w_kp (w_var rfl)) w_nil)) e1)) w_nil) e2)) (w_rd (w_call (w_cons (w_rd (w_lst (w_cons (w_kp (w_fn (w_cons (w_kp (w_var rfl)) (w_cons (w_kp (w_var rfl)) w_nil)) f1)) (w_cons (w_kp (w_fn (w_cons (w_kp (w_var rfl)) (w_cons (w_kp (w_var rfl)) w_nil)) f2)) (w_cons (w_kp (w_fn (w_cons (w_kp (w_var rfl)) w_nil) f3)) (w_cons (w_kp (w_fn (w_cons (w_kp (w_var rfl)) w_nil) f4)) w_nil)))) (by simp; omega))) w_nil) e2)) ez)))
theorem good_ok (l : Nat) {st : Store} {a : Nat} (ha : a ≤ 2000) (ws : WS st a) : ∃ (st' : Store) (a' : Nat), Q (l + 20) 46 [.cell 1] st = .ok (.bl true) st' ∧ WS st' a' ∧ a' ≤ a + 130 := by
  have two := size_ge
  obtain ⟨v, st1, d1, v0, v1, ws1⟩ := draw_ok (l + 17) (by omega) (show (0 : Int) < 3 by decide) (by decide) ws
  obtain ⟨n, hn⟩ : ∃ n : Nat, 2 + v = (n : Int) := ⟨(2 + v).toNat, by omega⟩
  have nm : n ∈ [2, 3, 4] := by
    have : n = 2 ∨ n = 3 ∨ n = 4 := by omega
    simpa using this
  obtain ⟨s, st2, a2, e2, hs, ws2, la2⟩ := lsort_ok nm (l + 8) (by omega) ws1
  have dd := hs.dr.depth
  have pp := hs.dr.parts
  have e3 := rooms_ok s (l + 19) [] hs.dr.forms (by omega) (by omega) (by simp; omega) st2
  have lc1 : sLcL (gN 3) sYes (kp (sBinS ixSt (rd (sVar 3)) (rd (sC (.int 1))))) [.val (.cell 1), .val (.int (n : Int)), .un, .un, .un, .un, .un, .un, .un] (rms [] s) [] st2 = .ok ([] ++ (rms [] s).map sec) st2 := by
    refine lc_map _ _ (fun d hd => ?_) (by rw [rms_len]; simp; omega)
    obtain ⟨p, y, rfl⟩ := rms_pair s [] d hd
    exact ⟨[.val (.cell 1), .val (.int (n : Int)), .un, .val (.tup [p, y]), .un, .un, .un, .un, .un], rfl, rfl, w_kp (w_binS (w_rd (w_var rfl)) (w_rd w_c) rfl)⟩
  rw [List.nil_append, rms_sec] at lc1
  have hsub := subs_ls s hs
  obtain ⟨X, lc2⟩ := fl_lc (n := n) (by omega) (by omega) (l + 4) (.val (.cell 1)) (.val (.lst ((subs s).map S.d))) .un .un .un .un .un (subs s) [] st2 hsub (by rw [subs_len]; simp; omega)
  rw [List.nil_append] at lc2
  have ws3 := ws_app ws2 X
  obtain ⟨y4, y5, lp⟩ := part_loop nm (l + 1) (.val (.cell 1)) (.val (.lst ((subs s).map S.d))) .un .un .un .un (st2 ++ X) ((subs s).filter fun x => (fltD (n : Int) x).isN) .un .un (fun x hx => by
    have := List.mem_filter.1 hx
    exact ⟨hsub x this.1, by simpa using this.2⟩)
  obtain ⟨v, st4, d4, w0, w1, ws4⟩ := draw_ok (l + 17) (by omega) (show (0 : Int) < 4 by decide) (by decide) ws3
  obtain ⟨m, hm⟩ : ∃ m : Nat, 2 + v = (m : Int) := ⟨(2 + v).toNat, by omega⟩
  have m2 : 2 ≤ m := by omega
  have m5 : m ≤ 5 := by omega
  obtain ⟨x, st5, a5, e5, hx, ws5, la5⟩ := gsort_ok m2 m5 3 (l + 12) (st := st4) (a := a2 + 1) (by simp [WW]; omega) ws4
  have hW : WW 3 = 59 := rfl
  have hP : PP 3 = 29 := rfl
  rw [hW] at la5
  rw [hP] at hx
  have e5' : Q (l + 19) 35 [.cell 1, .int (m : Int), .int 3] st4 = .ok x.d st5 := e5
  obtain ⟨dy, st6, e6, hy, ws6⟩ := of_ok (l + 16) (some4.map S.d) (by simp [some4]) (by simp [some4]) (by omega) ws5
  obtain ⟨y, ym, rfl⟩ := List.mem_map.1 hy
  have yo := some4_ok y ym
  obtain ⟨ds, st7, e7, hz, ws7⟩ := of_ok (l + 16) [x.d, .tup [.str "pair", y.d, .tup [.str "either", .tup [.str "none"], .tup [.str "subset", .int 0]]]] (by simp) (by simp) (by omega) ws6
  obtain ⟨t, rfl, tf, td, tp⟩ : ∃ t : S, ds = t.d ∧ forms t ∧ t.depth ≤ 10 ∧ t.parts ≤ 60 := by
    have : ds = x.d ∨ ds = .tup [.str "pair", y.d, .tup [.str "either", .tup [.str "none"], .tup [.str "subset", .int 0]]] := by simpa using hz
    have xd := hx.depth
    have xp := hx.parts
    rcases this with rfl | rfl -- ev
    · exact ⟨x, rfl, hx.forms, by omega, by omega⟩
    · exact ⟨.c3 .pair y (.c3 .either (.c0 .none) (.c1 .subset 0)), rfl, ⟨yo.1, trivial, by simp [M02.forms, okN]⟩, by simp [S.depth]; omega, by simp [S.parts]; omega⟩
  obtain ⟨Y, e8⟩ := fault_ok (n := (m : Int)) (by omega) (by omega) t tf td tp (l + 18) (by omega) st7
  have ws8 := ws_app ws7 Y
  have fd : deref (st7 ++ Y) (fltD (m : Int) t) = fltD (m : Int) t := by
    unfold fltD
    split
    · rfl
    · split
      · rfl
      · split <;> rfl
  have main : ∃ (st' : Store) (a' : Nat) (u : S), G6 l [.val (.cell 1), .val (.int (n : Int)), .val (.lst ((subs s).map S.d)), .un, y4, y5, .val (.int (m : Int)), .val (.lst (some4.map S.d)), .val t.d] st7 = .nx [.val (.cell 1), .val (.int (n : Int)), .val (.lst ((subs s).map S.d)), .un, y4, y5, .val (.int (m : Int)), .val (.lst (some4.map S.d)), .val u.d] st' ∧ Sort' (m : Int) u ∧ WS st' a' ∧ a' ≤ a + 130 := by
    by_cases hf : fltD (m : Int) t = .non
    · rw [hf] at e8
      refine ⟨st7 ++ Y, _, t, s_frz rfl (s_ifF (t_bool (w_bin (w_rd (w_fn (w_cons (w_kp (w_var rfl)) (w_cons (w_kp (w_var rfl)) w_nil)) e8)) (w_rd w_c) rfl)) s_skip), flt_none (by omega) (by omega) tf td tp hf, ws8, by omega⟩
    · obtain ⟨v, st9, d9, q0, q1, ws9⟩ := draw_ok (l + 17) (by omega) (show (0 : Int) < 12 by decide) (by decide) ws8
      obtain ⟨k, hk⟩ : ∃ k : Nat, 1 + v = (k : Int) := ⟨(1 + v).toNat, by omega⟩
      have ek : dAdd (.int 1) (.int v) = some (.per (.int (k : Int))) := by
        rw [← hk]
        rfl
      have hn : dIsNot (fltD (m : Int) t) .non = some (.per (.bl true)) := by
        cases hq : fltD (m : Int) t <;> first | rfl | exact absurd hq hf
      refine ⟨st9, _, .c2 .list k (.c0 .one), ?_, far_list m2 m5 (by omega) (by omega), ws9, by omega⟩
      show _ = RS.nx [.val (.cell 1), .val (.int (n : Int)), .val (.lst ((subs s).map S.d)), .un, y4, y5, .val (.int (m : Int)), .val (.lst (some4.map S.d)), .val (.tup [.str "list", .int (k : Int), .tup [.str "one"]])] st9
      refine s_frz rfl (s_ifT (t_bool (w_bin (w_rd (w_fn (w_cons (w_kp (w_var rfl)) (w_cons (w_kp (w_var rfl)) w_nil)) e8)) (w_rd w_c) (show dIsNot (deref (st7 ++ Y) (fltD (m : Int) t)) .non = _ by rw [fd]; exact hn))) (s_seq (s_frz rfl (s_set (s := .val (.tup [.str "list", .int (k : Int), .tup [.str "one"]])) (w_tup (w_cons (w_kp w_c) (w_cons (w_kp (w_bin (w_rd w_c) (w_rd (w_fn (w_cons (w_kp (w_var rfl)) (w_cons (w_kp w_c) w_nil)) d9)) ek)) (w_cons (w_kp (w_tup (w_cons (w_kp w_c) w_nil) (by simp; omega))) w_nil))) (by simp; omega)) rfl rfl)) s_skip))
  obtain ⟨st', a', u, e9, hu, wsu, lau⟩ := main
  refine ⟨st', a', ?_, wsu, lau⟩
  rw [u46, L46_eq]
  refine f_rt rfl ?_
  refine s_seq (s_frz rfl (s_set (s := .val (.int (n : Int))) (w_bin (w_rd w_c) (w_rd (w_fn (w_cons (w_kp (w_var rfl)) (w_cons (w_kp w_c) w_nil)) d1)) (add2 hn)) rfl rfl)) ?_
  refine s_seq (s_frz rfl (s_set (s := .own ((subs s).map S.d)) (w_lc (i_lst (w_kp (w_fn (w_cons (w_kp (w_fn (w_cons (w_kp (w_var rfl)) (w_cons (w_kp (w_var rfl)) (w_cons (w_kp w_c) (w_cons (w_kp w_c) w_nil)))) e2)) (w_cons (w_kp (w_tup w_nil (Nat.zero_le _))) w_nil)) e3))) lc1) rfl rfl)) ?_
  refine s_seq (s_frz (ρ' := [.val (.cell 1), .val (.int (n : Int)), .val (.lst ((subs s).map S.d)), .un, .un, .un, .un, .un, .un]) rfl (s_for (i_lst (w_kpf (w_lc (i_lst (w_kp (w_var rfl))) lc2))) lp)) ?_
  refine s_seq (s_frz rfl (s_set (s := .val (.int (m : Int))) (w_bin (w_rd w_c) (w_rd (w_fn (w_cons (w_kp (w_var rfl)) (w_cons (w_kp w_c) w_nil)) d4)) (add2 hm)) rfl rfl)) ?_
  refine s_seq (some4_lc _ _) ?_
  refine s_seq (s_frz (ρ' := [.val (.cell 1), .val (.int (n : Int)), .val (.lst ((subs s).map S.d)), .un, y4, y5, .val (.int (m : Int)), .val (.lst (some4.map S.d)), .un]) rfl (s_set (s := .val t.d) (w_fn (w_cons (w_kp (w_var rfl)) (w_cons (w_kpl (w_cons (w_kp (w_fn (w_cons (w_kp (w_var rfl)) (w_cons (w_kp (w_var rfl)) (w_cons (w_kp w_c) w_nil))) e5')) (w_cons (w_kp (w_tup (w_cons (w_kp w_c) (w_cons (w_kp (w_fn (w_cons (w_kp (w_var rfl)) (w_cons (w_kp (w_var rfl)) w_nil)) e6)) (w_cons (w_kp (w_tup (w_cons (w_kp w_c) (w_cons (w_kp (w_tup (w_cons (w_kp w_c) w_nil) (by simp; omega))) (w_cons (w_kp (w_tup (w_cons (w_kp w_c) (w_cons (w_kp w_c) w_nil)) (by simp; omega))) w_nil))) (by simp; omega))) w_nil))) (by simp; omega))) w_nil)) (by simp; omega)) w_nil)) e7) rfl rfl)) ?_
  refine s_seq e9 ?_
  exact s_seqR (final_ok hu l _ _ _ _ _ _ _ st')
end M02
set_option Elab.async false -- ev
set_option linter.all false -- ev
set_option maxRecDepth 100000 -- ev
set_option maxHeartbeats 4000000 -- ev
set_option autoImplicit false -- ev
/-! The whole law. -/
namespace M02
open PySem Ev
theorem so1 : Sort' 5 (.c0 .trees) := ⟨by decide, by decide, trivial, by decide, by decide, by decide, by decide, by show cnt 5 (.c0 .trees) ≤ MM; decide⟩
theorem so2 : Sort' 5 (.c0 .rooted) := ⟨by decide, by decide, trivial, by decide, by decide, by decide, by decide, by show cnt 5 (.c0 .rooted) ≤ MM; decide⟩
theorem so3 : Sort' 5 (.c1 .rounds 1) := ⟨by decide, by decide, rfl, by decide, by decide, by decide, by decide, by show cnt 5 (.c1 .rounds 1) ≤ MM; decide⟩
theorem so4 : Sort' 2 (.c1 .rounds 2) := ⟨by decide, by decide, rfl, by decide, by decide, by decide, by decide, by show cnt 2 (.c1 .rounds 2) ≤ MM; decide⟩
theorem so5 (w : W2) : Sort' 3 (.c2 w 0 (.c0 .none)) := by
  refine ⟨by decide, by decide, ⟨by decide, trivial, .inr rfl⟩, by simp [S.depth], by simp [S.parts], ?_, ?_, ⟨by show cnt 3 (.c0 .none) ≤ MM; decide, ?_⟩⟩
  · cases w <;> decide
  · cases w <;> decide
  · cases w <;> decide
theorem cn5 (w : W2) : cnt 3 (.c2 w 0 (.c0 .none)) = 1 := by cases w <;> decide
theorem so6 : Sort' 3 (.c3 .pair (.c1 .rounds 1) (.c1 .subset 2)) := ⟨by decide, by decide, ⟨rfl, rfl⟩, by decide, by decide, by decide, by decide, ⟨by show cnt 3 (.c1 .rounds 1) ≤ MM; decide, by show cnt 3 (.c1 .subset 2) ≤ MM; decide +kernel, by decide +kernel⟩⟩
theorem so7 : Sort' 4 (.c2 .heap 3 (.c3 .either (.c0 .one) (.c0 .one))) := ⟨by decide, by decide, ⟨by decide, ⟨trivial, trivial⟩, .inr rfl⟩, by decide, by decide, by decide, by decide, ⟨⟨by show cnt 4 (.c0 .one) ≤ MM; decide, by show cnt 4 (.c0 .one) ≤ MM; decide, by decide⟩, by decide +kernel⟩⟩
theorem t0 (l : Nat) (x0 : SV) (st : Store) : T0 l [x0, .un, .un, .un] st = .nx [x0, .un, .un, .un] st := by
  have e1 : Q (l + 20) 19 [.int 5, .tup [.str "trees"]] st = .ok (.int 125) st := hm_ok so1 (l + 18) (by omega) st
  have e2 : Q (l + 20) 19 [.int 5, .tup [.str "rooted"]] st = .ok (.int 625) st := hm_ok so2 (l + 18) (by omega) st
  have e3 : Q (l + 20) 19 [.int 5, .tup [.str "rounds", .int 1]] st = .ok (.int 1024) st := hm_ok so3 (l + 18) (by omega) st
  have e4 : Q (l + 20) 19 [.int 2, .tup [.str "rounds", .int 2]] st = .ok (.int 4) st := hm_ok so4 (l + 18) (by omega) st
  have e5 : dNe (.lst [.int 125, .int 625, .int 1024, .int 4]) (.lst [.int 125, .int 625, .int 1024, .int 4]) = some (.per (.bl false)) := by kernel_rfl
  unfold T0
  repeat' (first | with_reducible exact w_c | with_reducible exact w_nil | with_reducible exact s_skip | with_reducible exact t_yes | with_reducible exact w_pn | with_reducible exact m_pure | with_reducible exact n_rt | with_reducible exact n_exc | with_reducible exact n_bk | with_reducible exact n_ct | with_reducible exact nT | with_reducible exact nF | with_reducible exact l_nil | ((with_reducible apply l_nx); exact rfl) | ((with_reducible apply w_var); exact rfl) | with_reducible apply w_rd | with_reducible apply w_kpl | with_reducible apply a_kpc | with_reducible apply w_kp | with_reducible apply w_cons | with_reducible apply w_bin | with_reducible apply w_binS | with_reducible apply w_call | with_reducible apply w_un | with_reducible apply w_fn | with_reducible apply w_fnD | with_reducible apply w_fnK | with_reducible apply w_tup | with_reducible apply w_lst | with_reducible apply w_ps | with_reducible apply w_slice | with_reducible apply t_bool | with_reducible apply t_tru | with_reducible apply a_not | with_reducible apply a_notV | with_reducible apply a_and | with_reducible apply a_or | with_reducible apply a_andV | with_reducible apply a_orV | with_reducible apply a_ifM | with_reducible apply a_it | with_reducible apply a_r1 | with_reducible apply a_r2 | with_reducible apply w_lc | with_reducible apply a_seq | with_reducible apply n_nx | with_reducible apply a_frz | with_reducible apply a_if | with_reducible apply a_set | with_reducible apply s_ret | with_reducible apply s_drop | with_reducible apply s_for | with_reducible apply a_par | with_reducible apply a_par3 | with_reducible apply a_asg | ((with_reducible apply c_T); exact rfl) | ((with_reducible apply c_F); exact rfl) | ((with_reducible apply c_TM); exact rfl) | ((with_reducible apply c_FM); exact rfl) | ((try dsimp only [RV.d, deref, List.map]); with_reducible assumption) | ((with_reducible apply eqsF); exact rfl; exact rfl; decide +kernel) | ((with_reducible apply eqsT); exact rfl; exact rfl; decide +kernel) | ((with_reducible apply inT); exact rfl; exact rfl; decide +kernel) | ((with_reducible apply inF); exact rfl; exact rfl; decide +kernel) | ((with_reducible apply ninT); exact rfl; exact rfl; decide +kernel) | ((with_reducible apply ninF); exact rfl; exact rfl; decide +kernel) | exact @rfl (Option RV) _ | exact @rfl (Option SV) _ | exact @rfl (Option D) _ | exact @rfl (Option (List D)) _ | exact @rfl (Option Bool) _ | exact @rfl (Option Env') _ | assumption | exact Nat.le_of_ble_eq_true rfl | exact s_skip | exact l_nil)
theorem t1 (l : Nat) (x0 : SV) (st : Store) : T1 l [x0, .un, .un, .un] st = .nx [x0, .un, .un, .un] st := by
  have two := size_ge
  have e (w : W2) : Q (l + 20) 19 [.int 3, .tup [w.s, .int 0, .tup [.str "none"]]] st = .ok (.int 1) st := by
    have h := hm_ok (so5 w) (l + 18) (by omega) st
    rw [cn5] at h
    exact h
  have lc : sLcL (gN 1) sYes (kp (sFn (Q (l + 20) 19) (sCons (kp (sC (.int 3))) (sCons (kp (sTup (sCons (kp (sVar 1)) (sCons (kp (sC (.int 0))) (sCons (kp (sTup (sCons (kp (sC (.str "none"))) sNil))) sNil))))) sNil)))) [x0, .un, .un, .un] [W2.list.s, W2.family.s, W2.heap.s] [] st = .ok ([] ++ [W2.list.s, W2.family.s, W2.heap.s].map fun _ => .int 1) st := by
    refine lc_map _ _ (fun d hd => ?_) (by simp; omega)
    obtain ⟨w, rfl⟩ : ∃ w : W2, d = w.s := by
      have : d = W2.list.s ∨ d = W2.family.s ∨ d = W2.heap.s := by simpa using hd
      rcases this with h | h | h -- ev
      · exact ⟨.list, h⟩
      · exact ⟨.family, h⟩
      · exact ⟨.heap, h⟩
    exact ⟨[x0, .val w.s, .un, .un], rfl, rfl, w_kp (w_fn (w_cons (w_kp w_c) (w_cons (w_kp (w_tup (w_cons (w_kp (w_var rfl)) (w_cons (w_kp w_c) (w_cons (w_kp (w_tup (w_cons (w_kp w_c) w_nil) (by simp; omega))) w_nil))) (by simp; omega))) w_nil)) (e w))⟩
  have e5 : dNe (.lst [.int 1, .int 1, .int 1]) (.lst [.int 1, .int 1, .int 1]) = some (.per (.bl false)) := by kernel_rfl
  unfold T1
  exact s_ifF (t_bool (w_bin (w_rd (w_lc (i_tup (w_kp (w_tup (w_cons (w_kp w_c) (w_cons (w_kp w_c) (w_cons (w_kp w_c) w_nil))) (by simp; omega)))) lc)) (w_rd (w_lst (w_cons (w_kp w_c) (w_cons (w_kp w_c) (w_cons (w_kp w_c) w_nil))) (by simp; omega))) e5)) s_skip
theorem t2 (l : Nat) (x0 : SV) (st : Store) : T2 l [x0, .un, .un, .un] st = .nx [x0, .un, .un, .un] st := by
  have e1 : Q (l + 20) 12 [.int 3, .tup [.str "pair", .tup [.str "rounds", .int 1], .tup [.str "subset", .int 2]]] st = .ok (.int 5) st := mks_ok so6 (l + 18) (by omega) st
  have e2 : Q (l + 20) 14 [.int 4, .tup [.str "heap", .int 3, .tup [.str "either", .tup [.str "one"], .tup [.str "one"]]]] st = .ok (.int 3) st := wds_ok so7 (l + 18) (by omega) st
  unfold T2
  repeat' (first | with_reducible exact w_c | with_reducible exact w_nil | with_reducible exact s_skip | with_reducible exact t_yes | with_reducible exact w_pn | with_reducible exact m_pure | with_reducible exact n_rt | with_reducible exact n_exc | with_reducible exact n_bk | with_reducible exact n_ct | with_reducible exact nT | with_reducible exact nF | with_reducible exact l_nil | ((with_reducible apply l_nx); exact rfl) | ((with_reducible apply w_var); exact rfl) | with_reducible apply w_rd | with_reducible apply w_kpl | with_reducible apply a_kpc | with_reducible apply w_kp | with_reducible apply w_cons | with_reducible apply w_bin | with_reducible apply w_binS | with_reducible apply w_call | with_reducible apply w_un | with_reducible apply w_fn | with_reducible apply w_fnD | with_reducible apply w_fnK | with_reducible apply w_tup | with_reducible apply w_lst | with_reducible apply w_ps | with_reducible apply w_slice | with_reducible apply t_bool | with_reducible apply t_tru | with_reducible apply a_not | with_reducible apply a_notV | with_reducible apply a_and | with_reducible apply a_or | with_reducible apply a_andV | with_reducible apply a_orV | with_reducible apply a_ifM | with_reducible apply a_it | with_reducible apply a_r1 | with_reducible apply a_r2 | with_reducible apply w_lc | with_reducible apply a_seq | with_reducible apply n_nx | with_reducible apply a_frz | with_reducible apply a_if | with_reducible apply a_set | with_reducible apply s_ret | with_reducible apply s_drop | with_reducible apply s_for | with_reducible apply a_par | with_reducible apply a_par3 | with_reducible apply a_asg | ((with_reducible apply c_T); exact rfl) | ((with_reducible apply c_F); exact rfl) | ((with_reducible apply c_TM); exact rfl) | ((with_reducible apply c_FM); exact rfl) | ((try dsimp only [RV.d, deref, List.map]); with_reducible assumption) | ((with_reducible apply eqsF); exact rfl; exact rfl; decide +kernel) | ((with_reducible apply eqsT); exact rfl; exact rfl; decide +kernel) | ((with_reducible apply inT); exact rfl; exact rfl; decide +kernel) | ((with_reducible apply inF); exact rfl; exact rfl; decide +kernel) | ((with_reducible apply ninT); exact rfl; exact rfl; decide +kernel) | ((with_reducible apply ninF); exact rfl; exact rfl; decide +kernel) | exact @rfl (Option RV) _ | exact @rfl (Option SV) _ | exact @rfl (Option D) _ | exact @rfl (Option (List D)) _ | exact @rfl (Option Bool) _ | exact @rfl (Option Env') _ | assumption | exact Nat.le_of_ble_eq_true rfl | exact s_skip | exact l_nil)
theorem laps (l : Nat) (x0 : SV) : ∀ (ks : List D) (st : Store) (a : Nat) (x3 : SV), a + 130 * ks.length ≤ 2000 → WS st a → ∃ (st' : Store) (y3 : SV), sForL (gN 3) (sSeq (sFrz [2] (sIfS (sNotT (sTru (sFn (Q (l + 20) 46) (sCons (kp (sVar 2)) sNil)))) (sSeq (sRet (sC (.bl false))) sSkip) sSkip)) sSkip) ks [x0, .un, .val (.cell 1), x3] st = .nx [x0, .un, .val (.cell 1), y3] st'
  | [], st, a, x3, _, _ => ⟨st, x3, rfl⟩
  | k :: ks, st, a, x3, ha, ws => by
    rw [List.length_cons, Nat.mul_succ] at ha
    obtain ⟨st1, a1, e1, ws1, la⟩ := good_ok l (by omega) ws
    obtain ⟨st2, y3, h⟩ := laps l x0 ks st1 a1 (.val k) (by omega) ws1
    exact ⟨st2, y3, l_nx rfl (s_seq (s_frz rfl (s_ifF (t_not (k := true) (t_tru (w_fn (w_cons (w_kp (w_var rfl)) w_nil) e1) rfl)) s_skip)) s_skip) h⟩
theorem head_ok (l : Nat) (ns : List Int) (h : ns.length ≤ 63) : ∃ st, Q (l + 21) 47 [.lst (ns.map .int)] [] = .ok (.bl true) st := by
  obtain ⟨st0, b0, ws0⟩ := begin_ok (l + 19) ns h
  have dl : dLen [.lst (ns.map .int)] = some (.per (.int (ns.length : Int))) := by simp [dLen, per]
  obtain ⟨st1, y3, lp⟩ := laps l (.val (.lst (ns.map .int))) (rngD 0 (2 + min (ns.length : Int) 2).toNat) st0 0 .un (by rw [rng_len]; omega) ws0
  refine ⟨st1, ?_⟩
  rw [u47, L47_eq]
  refine f_rt rfl ?_
  refine s_seq (t0 l _ []) ?_
  refine s_seq (t1 l _ []) ?_
  refine s_seq (t2 l _ []) ?_
  refine s_seq (s_frz rfl (s_set (s := .val (.cell 1)) (w_fn (w_cons (w_kp (w_var rfl)) w_nil) b0) rfl rfl)) ?_
  refine s_seq (s_for (i_r1 (w_cons (w_kp (w_bin (w_rd w_c) (w_rd (w_call (w_cons (w_rd (w_call (w_cons (w_rd (w_var rfl)) w_nil) dl)) (w_cons (w_rd w_c) w_nil)) rfl)) rfl)) w_nil) (bnd_lt (by omega) (by omega))) lp) ?_
  exact s_seqR (s_ret (w_kp w_c))
theorem law_ok (ns : List Int) (h : ns.length ≤ 63) : ∃ st, Q 60 47 [.lst (ns.map .int)] [] = .ok (.bl true) st := head_ok 39 ns h
end M02
set_option Elab.async false -- ev
set_option linter.all false -- ev
set_option maxRecDepth 100000 -- ev
set_option maxHeartbeats 0 -- ev
set_option autoImplicit false -- ev
namespace K02
open PySem PySem.Spec PyProof.Rows L2 Ev M02
theorem fn_eq : fn = fs.map Df.toD ++ ini := rfl
theorem hL : ∀ d ∈ fs, ∀ (run : Nat → List D → M D) (k : Nat), (cBody (conO gls tb run k) ⟨d.scope, d.N, fun _ => true, true, cls⟩ d.body).map (·.1) = some (d.L run) := by
  simp only [fs, List.forall_mem_cons]
  exact ⟨q0, q1, q2, q3, q4, q5, q6, q7, q8, q9, q10, q11, q12, q13, q14, q15, q16, q17, q18, q19, q20, q21, q22, q23, q24, q25, q26, q27, q28, q29, q30, q31, q32, q33, q34, q35, q36, q37, q38, q39, q40, q41, q42, q43, q44, q45, q46, q47, fun _ h => nomatch h⟩
theorem hB : ∀ d ∈ fs, BindsL d := by
  simp only [fs, List.forall_mem_cons]
  exact ⟨b0, b1, b2, b3, b4, b5, b6, b7, b8, b9, b10, b11, b12, b13, b14, b15, b16, b17, b18, b19, b20, b21, b22, b23, b24, b25, b26, b27, b28, b29, b30, b31, b32, b33, b34, b35, b36, b37, b38, b39, b40, b41, b42, b43, b44, b45, b46, b47, fun _ h => nomatch h⟩
theorem boot : bootB gls = true := by kernel_rfl
theorem fnb : fnB gls fs = true := by kernel_rfl
theorem defb : defB gls fs = true := by kernel_rfl
theorem excb : excsB gls = true := by kernel_rfl
theorem io0 : IniOk (fs.map Df.toD ++ ini) "BadMany" [nm "value"] := ⟨48, di "BadMany" "BadMany.__init__" 3 0, rfl, rfl, rfl, rfl, rfl, ⟨rfl, rfl, rfl, by decide +kernel, rfl, by decide +kernel, by decide +kernel⟩, by kernel_rfl, fun kV doc pm an cdv ct us hl => match us, hl with
  | [_, _], _ => rfl⟩
theorem io1 : IniOk (fs.map Df.toD ++ ini) "BadSort" [nm "path"] := ⟨49, di "BadSort" "BadSort.__init__" 4 0, rfl, rfl, rfl, rfl, rfl, ⟨rfl, rfl, rfl, by decide +kernel, rfl, by decide +kernel, by decide +kernel⟩, by kernel_rfl, fun kV doc pm an cdv ct us hl => match us, hl with
  | [_, _], _ => rfl⟩
theorem io2 : IniOk (fs.map Df.toD ++ ini) "TooGreat" [nm "most"] := ⟨50, di "TooGreat" "TooGreat.__init__" 5 0, rfl, rfl, rfl, rfl, rfl, ⟨rfl, rfl, rfl, by decide +kernel, rfl, by decide +kernel, by decide +kernel⟩, by kernel_rfl, fun kV doc pm an cdv ct us hl => match us, hl with
  | [_, _], _ => rfl⟩
theorem inis : ∀ x es, (x, GV.exc es) ∈ gls → IniOk (fs.map Df.toD ++ ini) x es := by
  intro x es h
  have hx : (x, es) ∈ gls.filterMap (fun p => match p.2 with
    | .exc fs => some (p.1, fs)
    | _ => none) := List.mem_filterMap.mpr ⟨(x, .exc es), h, rfl⟩
  have e : gls.filterMap (fun p => match p.2 with
    | .exc fs => some (p.1, fs)
    | _ => none) = [(nm "BadMany", [nm "value"]), (nm "BadSort", [nm "path"]), (nm "TooGreat", [nm "most"])] := by kernel_rfl
  rw [e] at hx
  simp only [List.mem_cons, List.not_mem_nil, or_false, Prod.mk.injEq] at hx
  rcases hx with ⟨rfl, rfl⟩ | ⟨rfl, rfl⟩ | ⟨rfl, rfl⟩
  · exact io0
  · exact io1
  · exact io2
theorem semQ : ∀ l i, semO fs l i = Q l i
  | 0, _ => rfl
  | l + 1, i => by
    have ih : semO fs l = Q l := funext (semQ l)
    have key : ∀ (ds : List Df) (bs : List (Nat × ((Nat → List D → M D) → SS))), ds.map (fun d => (d.N.length, d.L)) = bs → (match ds[i]? with
      | some d => semF d.N.length (d.L (Q l))
      | none => fun _ => M.bad) = match bs[i]? with
      | some d => semF d.1 (d.2 (Q l))
      | none => fun _ => M.bad := by
      rintro ds _ rfl
      rw [List.getElem?_map]
      cases ds[i]? <;> rfl
    show (match fs[i]? with
      | some d => semF d.N.length (d.L (semO fs l))
      | none => fun _ => M.bad) = _
    rw [ih]
    exact key fs bods rfl
def LV : Nat := 60
theorem law_true (ns : List Int) (h : ns.length ≤ 63) : ∃ st, semO fs LV 47 [.lst (ns.map .int)] [] = .ok (.bl true) st := by
  rw [semQ]
  exact M02.law_ok ns h
end K02
open PySem PySem.W PySem.Calls PyProof.Rows -- ev
set_option maxRecDepth 100000 in -- ev
set_option maxHeartbeats 0 in -- ev
theorem PySem.Challenge.cw_unithouse_k02_whole_numbers_of_members_holds : PySem.Challenge.rw_unithouse_k02_whole_numbers_of_members.Holds := by
  w_on; o_law
  refine HandSHeadRun.head_imp (r := OpenLaw.row PySem.Challenge.rw_unithouse_k02_whole_numbers_of_members) (q := K02.vw) (H := K02.hk) (ob := K02.ob) (M := 20000) (loose := K02.loose) (d := HandSHeadRun.topDef (OpenLaw.row PySem.Challenge.rw_unithouse_k02_whole_numbers_of_members).prog 65) (kwd := []) K02.ob_eq K02.run
    (by kernel_rfl) (by kernel_rfl) (by kernel_rfl) (by rfl) (by first | assumption | decide +kernel) (by decide +kernel) ⟨rfl, rfl, rfl, rfl, rfl, by decide +kernel⟩ ?hw ?hc
  case hw => w_witness2
  case hc =>
    refine Ev.walk_ev (l := PySem.Challenge.rw_unithouse_k02_whole_numbers_of_members) (n := 63) (k := K02.LV + 2) (x := "script") (fld := Ev.fldO M02.gls) rfl (by decide) (by kernel_rfl) ⟨rfl, by decide, by decide⟩ ?F
    intro w mg fa h Y G hmg0
    obtain ⟨K, KX, c⟩ := Y
    have hmg : mg ("law" : PySem.Str) = some (.ref fa) := by -- ev
      have e : (HandSHeadRun.topDef (OpenLaw.row PySem.Challenge.rw_unithouse_k02_whole_numbers_of_members).prog 65).name = ("law" : PySem.Str) := by kernel_rfl
      rw [← e]
      exact hmg0
    have c : Ev.SaysU (K02.fs.map Ev.Df.toD ++ K02.ini) M02.gls M02.tb w K := by rw [← K02.fn_eq]; exact c
    obtain ⟨fd, FD, kn⟩ := Ev.known_of (P := PySem.Challenge.rw_unithouse_k02_whole_numbers_of_members.prog) (i0 := 47) (d0 := K02.d47) rfl c KX G K02.boot K02.fnb K02.defb K02.excb K02.hB K02.inis
    have ea : fa = Ev.adr K K02.fs 47 := by
      have := (kn h).at_ 47 K02.d47 rfl
      have e : K02.d47.name = ("law" : PySem.Str) := rfl
      rw [e, hmg] at this
      cases this
      rfl
    obtain ⟨dvs, kws, F, rfl, ek⟩ := FD 47 K02.d47 rfl
    subst ek
    refine ⟨K, fd 47, Ev.semO K02.fs K02.LV 47, KX, fun s v => ?_, K02.law_true, fun base hin hns => ?_⟩
    · exact L2.FunD.bindsA (ps := K02.d47.ps) F (K02.hB K02.d47 (by simp [K02.fs])) s [v] rfl
    · rw [ea]
      exact Ev.semO_ok (cls := M02.cls) (kn base) (fun i d e => K02.sc_all d (List.mem_of_getElem? e)) (fun i d e => K02.hL d (List.mem_of_getElem? e)) K02.LV 47 K02.d47 rfl
